/-
  What the text behind the last one leans on, part 1.
-/
import Derived.Deep.QuietTactic
import Derived.BigQuiet
import Derived.Deep.RegionWith
import Derived.Deep.RegionHeld3
import Derived.Deep.LoopGhost
import Derived.Deep.AppendLies
import Derived.Test.YtaofpigilgapgaaGreatDoorNKLawZ0
namespace Go.Proofs.YtaofpigilgapgaaGreatDoor
namespace Lm
open Go Go.RowKit
def tp (p q:Int):Int:=if q=0 then 0 else p
def tq (q:Int):Int:=if q=0 then 1 else q
theorem outw0 (w:World):OutW 0 0 (.agg #[.bool false,.slice none 0 0]) w:=⟨false,none,0,[],rfl,⟨⟨sl_nil w,canon_nil,rfl⟩,rfl⟩,Nat.le_refl _⟩
set_option maxRecDepth 20000 in
set_option maxHeartbeats 1000000 in
theorem terms_z (w:World) (L:Nat) (hL:L≤100000) (nr:Bool) (ar:Option Addr) (mr cr:Nat) (rs:List Int) (pr:Int) (Ar:Ag w nr ar mr cr rs pr) (Lr:rs.length≤L) (br:Option Addr) (kr dr:Nat) (rt:List Int) (qr:Int) (Sr:Sl w (.slice br kr dr) rt) (Vr:val rt=qr) (Mr:rt.length≤L) :
  Calls Tryz.prog 145 #[.agg #[.bool nr,.slice ar mr cr,.slice br kr dr]] w fun e w'=>∃ v1 v2,e=.returned (.tuple #[v1,v2])∧IsW (tp pr qr) (L+2) v1 w'∧IsW (tq qr) (L+2) v2 w'∧Below w.heap.size w w' := by
 go_enter Tryz.func145,Tryz.ntmps145
 generalize hA:(Act.mk _ _)=aa
 have hn:aa.tmps.size=15:=by rw [←hA];rfl
 have hd:aa.defers = []:=by rw [←hA]
 have f0:aa.eval (.tmp 0)=.agg #[.bool nr,.slice ar mr cr,.slice br kr dr]:=by rw [←hA];rfl
 clear hA
 have HB:Below w.heap.size w w:=Below.refl _ _
 have Dr:Ag w false br kr dr rt qr:=⟨Sr,Vr⟩
 refine wp_seq ?_
 refine region4 [some 1,some 2,some 3] [Tt,Tt,Tt] [⟨R3,some 0,0,1,.agg #[.bool nr,.slice ar mr cr,.slice br kr dr],none,[]⟩,⟨W2,some 1,0,2,.agg #[.bool false,.slice none 0 0],none,[]⟩,⟨W2,some 2,0,3,.agg #[.bool false,.slice none 0 0],none,[]⟩] [] (by kernel_rfl) hn rfl (by kernel_rfl) (by kernel_rfl) (by kernel_rfl) (by kernel_rfl) (by kernel_rfl) (by kernel_rfl) ⟨True.mono4,True.mono4,True.mono4,trivial⟩ (ok_cons R3ok (ok_cons W2ok (ok_cons W2ok ok_nil))) (IsOld.all (bx:=[⟨R3,some 0,0,1,.agg #[.bool nr,.slice ar mr cr,.slice br kr dr],none,[]⟩,⟨W2,some 1,0,2,.agg #[.bool false,.slice none 0 0],none,[]⟩,⟨W2,some 2,0,3,.agg #[.bool false,.slice none 0 0],none,[]⟩]) ⟨someNe,someNe,someNe,trivial⟩) (DisOld.all (bx:=[⟨R3,some 0,0,1,.agg #[.bool nr,.slice ar mr cr,.slice br kr dr],none,[]⟩,⟨W2,some 1,0,2,.agg #[.bool false,.slice none 0 0],none,[]⟩,⟨W2,some 2,0,3,.agg #[.bool false,.slice none 0 0],none,[]⟩]) ⟨someNe,someNe,someNe,trivial⟩) ?_ ?_
 ·exact ⟨.alloc 0 _ rfl rfl (.inr ⟨_,rfl,r3_cs,fun a_ hR=>(hR 0 rfl).trans f0⟩) rfl rfl rfl rfl rfl,.alloc 1 _ rfl rfl (.inl ⟨rfl,rfl⟩) rfl rfl rfl rfl rfl,.alloc 2 _ rfl rfl (.inl ⟨rfl,rfl⟩) rfl rfl rfl rfl rfl,trivial⟩
 ·intro a1 w1 gs1 hn1 hd1 hBt hr hR hP hX hU
  replace hn:=hn1;replace hd:=hd1.trans hd
  have ne1_2:gs1 0≠gs1 1:=hU 0 1 (by simp) (by simp) (by decide)
  have ne1_3:gs1 0≠gs1 2:=hU 0 2 (by simp) (by simp) (by decide)
  have ne2_3:gs1 1≠gs1 2:=hU 1 2 (by simp) (by simp) (by decide)
  have b1:BoxV R3 w1 (gs1 0) (.agg #[.bool nr,.slice ar mr cr,.slice br kr dr]):=(hX 0 _ rfl).2.2.2
  have f1:=(hX 0 _ rfl).1
  have u1:w.heap.size≤gs1 0:=Nat.le_trans HB.size ((hX 0 _ rfl).2.2.1 (by simp))
  have b2:BoxV W2 w1 (gs1 1) (.agg #[.bool false,.slice none 0 0]):=(hX 1 _ rfl).2.2.2
  have f2:=(hX 1 _ rfl).1
  have u2:w.heap.size≤gs1 1:=Nat.le_trans HB.size ((hX 1 _ rfl).2.2.1 (by simp))
  have b3:BoxV W2 w1 (gs1 2) (.agg #[.bool false,.slice none 0 0]):=(hX 2 _ rfl).2.2.2
  have f3:=(hX 2 _ rfl).1
  have u3:w.heap.size≤gs1 2:=Nat.le_trans HB.size ((hX 2 _ rfl).2.2.1 (by simp))
  replace Ar:=Ar.rl hr
  replace Sr:=Sr.rl hr
  replace Dr:=Dr.rl hr
  replace HB:=HB.trans (hBt.below HB.size (UpOld.all (bx:=[⟨R3,some 0,0,1,.agg #[.bool nr,.slice ar mr cr,.slice br kr dr],none,[]⟩,⟨W2,some 1,0,2,.agg #[.bool false,.slice none 0 0],none,[]⟩,⟨W2,some 2,0,3,.agg #[.bool false,.slice none 0 0],none,[]⟩]) ⟨someNe,someNe,someNe,trivial⟩))
  clear hBt hr hR hP hX hU
  refine wp_seq ?_
  refine region4 [some 4,some 5,some 6,none] [Eqs (.pointer (some ⟨gs1 0,2,none⟩)),Eqs (.slice br kr dr),Eqs (.agg #[.bool false,.slice br kr dr]),Tt] [⟨W2,none,(gs1 2),3,.agg #[.bool false,.slice none 0 0],some (3,6,2),[]⟩] [] (by kernel_rfl) hn rfl (by kernel_rfl) (by kernel_rfl) (by kernel_rfl) (by kernel_rfl) (by kernel_rfl) (by kernel_rfl) ⟨Eqs.mono4 _,Eqs.mono4 _,Eqs.mono4 _,True.mono4,trivial⟩ (ok_cons W2ok ok_nil) (IsOld.all (bx:=[⟨W2,none,(gs1 2),3,.agg #[.bool false,.slice none 0 0],some (3,6,2),[]⟩]) ⟨fun _=>⟨f3,b3⟩,trivial⟩) (DisOld.all (bx:=[⟨W2,none,(gs1 2),3,.agg #[.bool false,.slice none 0 0],some (3,6,2),[]⟩]) ⟨fun _=>trivial,trivial⟩) ?_ ?_
  ·exact ⟨.norm 4 rfl rfl rfl (fun a_ w_ _ t r R D _ _=>op_faR fa_den ((R 1 rfl).trans f1)),.norm 5 rfl rfl rfl (fun a_ w_ _ t r R D _ _=>op_ldden (show a_.eval (.tmp 4)=.pointer (some ⟨gs1 0,2,none⟩) from D 0 rfl) (b1.keep t ⟨fun _=>ne1_3.symm,trivial⟩)),.norm 6 rfl rfl rfl (fun a_ w_ _ t r R D _ _=>op_bW1 (show a_.eval (.tmp 5)=.slice br kr dr from D 1 rfl)),.store 0 _ _ _ rfl rfl rfl rfl rfl rfl rfl (fun ia h=>by cases h) rfl rfl rfl (eqs_cs w2_cs),trivial⟩
  ·intro a2 w2 gs2 hn2 hd2 hBt hr hR hP hX hU
   replace hn:=hn2;replace hd:=hd2.trans hd
   replace b1:=b1.keep hBt ⟨fun _=>ne1_3.symm,trivial⟩
   replace b2:=b2.keep hBt ⟨fun _=>ne2_3.symm,trivial⟩
   have e6:a2.eval (.tmp 6)=.agg #[.bool false,.slice br kr dr]:=hP 2 (by decide)
   have b3:BoxV W2 w2 ((gs1 2)) (.agg #[.bool false,.slice br kr dr]):=boxv_old ((hX 0 _ rfl).2.1 rfl) (hX 0 _ rfl).2.2.2 e6
   replace f3:a2.eval (.tmp 3) = _:=(hR 3 rfl).trans f3
   replace f1:=(hR 1 rfl).trans f1
   replace f2:=(hR 2 rfl).trans f2
   replace Ar:=Ar.rl hr
   replace Sr:=Sr.rl hr
   replace Dr:=Dr.rl hr
   replace HB:=HB.trans (hBt.below HB.size (UpOld.all (bx:=[⟨W2,none,(gs1 2),3,.agg #[.bool false,.slice none 0 0],some (3,6,2),[]⟩]) ⟨fun _=>u3,trivial⟩))
   clear hBt hr hR hP hX hU
   refine wp_seq ?_
   refine wp_seq ?_
   refine region4 [some 7,some 8,some 9] [Eqs (.agg #[.bool false,.slice br kr dr]),Eqs (.int .i64 (Int.sign qr)),Eqs (.bool (decide ((Int.sign qr)=0)))] [] [] (by kernel_rfl) hn rfl (by kernel_rfl) (by kernel_rfl) (by kernel_rfl) (by kernel_rfl) (by kernel_rfl) (by kernel_rfl) ⟨Eqs.mono4 _,Eqs.mono4 _,Eqs.mono4 _,trivial⟩ ok_nil (IsOld.all (bx:=[]) trivial) (DisOld.all (bx:=[]) trivial) ?_ ?_
   ·exact ⟨.norm 7 rfl rfl rfl (fun a_ w_ _ t r R D _ _=>op_loadv W2ok ((R 3 rfl).trans f3) (b3.keep t trivial)),.norm 8 rfl rfl rfl (fun a_ w_ _ t r R D _ _=>op_sign (isw_eq (show a_.eval (.tmp 7)=.agg #[.bool false,.slice br kr dr] from D 0 rfl) (Dr.rl r) Mr) (by omega)),.norm 9 rfl rfl rfl (fun a_ w_ _ t r R D _ _=>op_eqlk (show a_.eval (.tmp 8)=.int .i64 (Int.sign qr) from D 1 rfl)),trivial⟩
   ·intro a3 w3 gs3 hn3 hd3 hBt hr hR hP hX hU
    replace hn:=hn3;replace hd:=hd3.trans hd
    replace b1:=b1.keep hBt trivial
    replace b2:=b2.keep hBt trivial
    replace b3:=b3.keep hBt trivial
    replace f1:=(hR 1 rfl).trans f1
    replace f2:=(hR 2 rfl).trans f2
    replace f3:=(hR 3 rfl).trans f3
    have e9:a3.eval (.tmp 9)=.bool (decide ((Int.sign qr)=0)):=hP 2 (by decide)
    have f9:=e9
    replace Ar:=Ar.rl hr
    replace Sr:=Sr.rl hr
    replace Dr:=Dr.rl hr
    replace HB:=HB.trans (hBt.below HB.size (UpOld.all (bx:=[]) trivial))
    clear hBt hr hR hP hX hU
    refine wp_cond_split f9 (fun hc9=>?_) (fun hc9=>?_)
    ·skip
     refine wp_seq ?_
     refine region4 [some 10,some 11,none,none] [Eqs (.agg #[.bool false,.slice none 0 0]),OutW (1) (2),Tt,Tt] [⟨W2,none,(gs1 1),2,.agg #[.bool false,.slice none 0 0],some (2,10,0),[]⟩,⟨W2,none,(gs1 2),3,.agg #[.bool false,.slice br kr dr],some (3,11,1),[]⟩] [] (by kernel_rfl) hn rfl (by kernel_rfl) (by kernel_rfl) (by kernel_rfl) (by kernel_rfl) (by kernel_rfl) (by kernel_rfl) ⟨Eqs.mono4 _,OutW.mono4 _ _,True.mono4,True.mono4,trivial⟩ (ok_cons W2ok (ok_cons W2ok ok_nil)) (IsOld.all (bx:=[⟨W2,none,(gs1 1),2,.agg #[.bool false,.slice none 0 0],some (2,10,0),[]⟩,⟨W2,none,(gs1 2),3,.agg #[.bool false,.slice br kr dr],some (3,11,1),[]⟩]) ⟨fun _=>⟨f2,b2⟩,fun _=>⟨f3,b3⟩,trivial⟩) (DisOld.all (bx:=[⟨W2,none,(gs1 1),2,.agg #[.bool false,.slice none 0 0],some (2,10,0),[]⟩,⟨W2,none,(gs1 2),3,.agg #[.bool false,.slice br kr dr],some (3,11,1),[]⟩]) ⟨fun _=>⟨fun _=>ne2_3.symm,trivial⟩,fun _=>trivial,trivial⟩) ?_ ?_
     ·exact ⟨.norm 10 rfl rfl rfl (fun a_ w_ _ t r R D _ _=>op_bW0),.norm 11 rfl rfl rfl (fun a_ w_ _ t r R D _ _=>op_of (by omega) (by omega)),.store 0 _ _ _ rfl rfl rfl rfl rfl rfl rfl (fun ia h=>by cases h) rfl rfl rfl (eqs_cs w2_cs),.store 1 _ _ _ rfl rfl rfl rfl rfl rfl rfl (fun ia h=>by cases h) rfl rfl rfl OutW.cs,trivial⟩
     ·intro a4 w4 gs4 hn4 hd4 hBt hr hR hP hX hU
      replace hn:=hn4;replace hd:=hd4.trans hd
      replace b1:=b1.keep hBt ⟨fun _=>ne1_2.symm,fun _=>ne1_3.symm,trivial⟩
      have e10:a4.eval (.tmp 10)=.agg #[.bool false,.slice none 0 0]:=hP 0 (by decide)
      have b2:BoxV W2 w4 ((gs1 1)) (.agg #[.bool false,.slice none 0 0]):=boxv_old ((hX 0 _ rfl).2.1 rfl) (hX 0 _ rfl).2.2.2 e10
      replace f2:a4.eval (.tmp 2) = _:=(hR 2 rfl).trans f2
      obtain ⟨n_5,a_5,c_5,r_5,e11,G5,l5⟩:OutW (1) (2) (a4.eval (.tmp 11)) w4:=hP 1 (by decide)
      have A5:=G5.ag
      have b3:BoxV W2 w4 ((gs1 2)) (.agg #[.bool n_5,.slice a_5 r_5.length c_5]):=boxv_old ((hX 1 _ rfl).2.1 rfl) (hX 1 _ rfl).2.2.2 e11
      replace f3:a4.eval (.tmp 3) = _:=(hR 3 rfl).trans f3
      replace f1:=(hR 1 rfl).trans f1
      replace Ar:=Ar.rl hr
      replace Sr:=Sr.rl hr
      replace Dr:=Dr.rl hr
      replace HB:=HB.trans (hBt.below HB.size (UpOld.all (bx:=[⟨W2,none,(gs1 1),2,.agg #[.bool false,.slice none 0 0],some (2,10,0),[]⟩,⟨W2,none,(gs1 2),3,.agg #[.bool false,.slice br kr dr],some (3,11,1),[]⟩]) ⟨fun _=>u2,fun _=>u3,trivial⟩))
      clear hBt hr hR hP hX hU
      refine wp_ret ?_
      repeat (first | refine then_ret ?_ | refine scope_ret ?_ | refine block_ret ?_)
      refine bodyPost_ret (v:=.tuple #[.agg #[.bool false,.slice none 0 0],.agg #[.bool n_5,.slice a_5 r_5.length c_5]]) (res_cc rfl f2 (lv_W2 b2) f3 (lv_W2 b3)) hd ⟨_,_,rfl,?_,?_,HB⟩
      ·exact IsW.to (outw0 _).is (by simp at hc9;rw [tp,if_pos hc9]) (by omega)
      ·exact IsW.to (isw_eq rfl A5 l5) (by simp at hc9;rw [tq,if_pos hc9]) (by omega)
    ·skip
     refine wp_skip ?_
     refine wp_seq ?_
     refine region4 [some 12,some 13,some 14,none,none] [Eqs (.pointer (some ⟨gs1 0,0,none⟩)),Eqs (.agg #[.bool nr,.slice ar mr cr]),Eqs (.agg #[.bool false,.slice br kr dr]),Tt,Tt] [⟨W2,none,(gs1 1),2,.agg #[.bool false,.slice none 0 0],some (3,13,1),[]⟩,⟨W2,none,(gs1 2),3,.agg #[.bool false,.slice br kr dr],some (4,14,2),[2]⟩] [] (by kernel_rfl) hn rfl (by kernel_rfl) (by kernel_rfl) (by kernel_rfl) (by kernel_rfl) (by kernel_rfl) (by kernel_rfl) ⟨Eqs.mono4 _,Eqs.mono4 _,Eqs.mono4 _,True.mono4,True.mono4,trivial⟩ (ok_cons W2ok (ok_cons W2ok ok_nil)) (IsOld.all (bx:=[⟨W2,none,(gs1 1),2,.agg #[.bool false,.slice none 0 0],some (3,13,1),[]⟩,⟨W2,none,(gs1 2),3,.agg #[.bool false,.slice br kr dr],some (4,14,2),[2]⟩]) ⟨fun _=>⟨f2,b2⟩,fun _=>⟨f3,b3⟩,trivial⟩) (DisOld.all (bx:=[⟨W2,none,(gs1 1),2,.agg #[.bool false,.slice none 0 0],some (3,13,1),[]⟩,⟨W2,none,(gs1 2),3,.agg #[.bool false,.slice br kr dr],some (4,14,2),[2]⟩]) ⟨fun _=>⟨fun _=>ne2_3.symm,trivial⟩,fun _=>trivial,trivial⟩) ?_ ?_
     ·exact ⟨.norm 12 rfl rfl rfl (fun a_ w_ _ t r R D _ _=>op_faR fa_num ((R 1 rfl).trans f1)),.norm 13 rfl rfl rfl (fun a_ w_ _ t r R D _ _=>op_ldnum (show a_.eval (.tmp 12)=.pointer (some ⟨gs1 0,0,none⟩) from D 0 rfl) (b1.keep t ⟨fun _=>ne1_2.symm,fun _=>ne1_3.symm,trivial⟩)),.norm 14 rfl rfl rfl (fun a_ w_ _ t r R D hO _=>op_loadv W2ok ((R 3 rfl).trans f3) (hO 1 _ rfl rfl rfl)),.store 0 _ _ _ rfl rfl rfl rfl rfl rfl rfl (fun ia h=>by cases h) rfl rfl rfl (eqs_cs w2_cs),.store 1 _ _ _ rfl rfl rfl rfl rfl rfl rfl (fun ia h=>by cases h) rfl rfl rfl (eqs_cs w2_cs),trivial⟩
     ·intro a6 w6 gs6 hn6 hd6 hBt hr hR hP hX hU
      replace hn:=hn6;replace hd:=hd6.trans hd
      have e13:a6.eval (.tmp 13)=.agg #[.bool nr,.slice ar mr cr]:=hP 1 (by decide)
      have b2:BoxV W2 w6 ((gs1 1)) (.agg #[.bool nr,.slice ar mr cr]):=boxv_old ((hX 0 _ rfl).2.1 rfl) (hX 0 _ rfl).2.2.2 e13
      replace f2:a6.eval (.tmp 2) = _:=(hR 2 rfl).trans f2
      have e14:a6.eval (.tmp 14)=.agg #[.bool false,.slice br kr dr]:=hP 2 (by decide)
      have b3:BoxV W2 w6 ((gs1 2)) (.agg #[.bool false,.slice br kr dr]):=boxv_old ((hX 1 _ rfl).2.1 rfl) (hX 1 _ rfl).2.2.2 e14
      replace f3:a6.eval (.tmp 3) = _:=(hR 3 rfl).trans f3
      replace Ar:=Ar.rl hr
      replace Sr:=Sr.rl hr
      replace Dr:=Dr.rl hr
      replace HB:=HB.trans (hBt.below HB.size (UpOld.all (bx:=[⟨W2,none,(gs1 1),2,.agg #[.bool false,.slice none 0 0],some (3,13,1),[]⟩,⟨W2,none,(gs1 2),3,.agg #[.bool false,.slice br kr dr],some (4,14,2),[2]⟩]) ⟨fun _=>u2,fun _=>u3,trivial⟩))
      clear hBt hr hR hP hX hU
      refine wp_ret ?_
      repeat (first | refine then_ret ?_ | refine scope_ret ?_ | refine block_ret ?_)
      refine bodyPost_ret (v:=.tuple #[.agg #[.bool nr,.slice ar mr cr],.agg #[.bool false,.slice br kr dr]]) (res_cc rfl f2 (lv_W2 b2) f3 (lv_W2 b3)) hd ⟨_,_,rfl,?_,?_,HB⟩
      ·exact IsW.to (isw_eq rfl Ar Lr) (by simp at hc9;rw [tp,if_neg hc9]) (by omega)
      ·exact IsW.to (isw_eq rfl Dr Mr) (by simp at hc9;rw [tq,if_neg hc9]) (by omega)
theorem has_terms:Has Tryz.prog 145:=by unfold Has;kernel_rfl
theorem op_terms {dst:Option Tmp} {ty:TypeId} {pos:String} {after:Array Edge} {guard:Option (Nat × Bool)} {a:Act} {w:World} {ats:Array TypeId} {i:Nat} {p q:Int} {L:Nat} (h:IsR p q L (a.eval (.tmp i)) w) (hL:L≤100000) :
  Does Tryz.prog { dst,op:=.call { callee:=.value (.func 145),args:=#[.tmp i],argTypes:=ats },type:=ty,pos,after,guard } a.eval w fun v w'=>Below w.heap.size w w'∧Tup2 (IsW (tp p q) (L+2)) (IsW (tq q) (L+2)) v w' := by
 obtain ⟨ng,ao,n,cap,xs,bo,m,dap,ys,e,A,S,V,l1,l2⟩:=h
 refine does_call has_terms _ (by simp only [List.map_toArray,List.map_cons,List.map_nil,e]) ((terms_z w L hL _ _ _ _ _ _ A l1 _ _ _ _ _ S V l2).mono ?_)
 rintro e w' ⟨v1,v2,rfl,h1,h2,hb⟩
 exact ⟨_,rfl,hb,_,_,rfl,h1,h2⟩
end Lm
end Go.Proofs.YtaofpigilgapgaaGreatDoor

namespace Go.Proofs.YtaofpigilgapgaaGreatDoor
namespace Lm
open Go.RowKit
theorem take_val {ps Y qs:List Int} {k:Nat} {x y a c b t r:Int} (hk:qs.length=k) (hy:Y.getD k 0=y) (ha:ps.getD k 0=a) (ht:t=x*y+c) (hr:r=a - t % 4294967296 - b) (h1 : -4294967296≤r) (h2:r<4294967296) (h:val qs - pw k*(c+b)=vf ps k - x*vf Y k) :
  val (qs ++ [r % 4294967296]) - pw (k+1)*(t / 4294967296+bor r)=vf ps (k+1) - x*vf Y (k+1):=by
 rw [val_snoc,vf,vf,ha,hy,hk,pw,sub_step h1 h2]
 have e:t=t % 4294967296+4294967296*(t / 4294967296):=by omega
 have e1:pw k*(r+4294967296*bor r)=pw k*r+4294967296*pw k*bor r:=by rw [Int.mul_add,Int.mul_comm 4294967296 (pw k),Int.mul_assoc]
 have e2:4294967296*pw k*(t / 4294967296+bor r)=pw k*(4294967296*(t / 4294967296))+4294967296*pw k*bor r:=by rw [Int.mul_add,Int.mul_comm 4294967296 (pw k),Int.mul_assoc]
 have e3:pw k*(4294967296*(t / 4294967296))=pw k*t - pw k*(t % 4294967296):=by rw [←Int.mul_sub];congr 1;omega
 have e4:x*(vf Y k+pw k*y)=x*vf Y k+pw k*(x*y):=by rw [Int.mul_add,←Int.mul_assoc x,Int.mul_comm x (pw k),Int.mul_assoc]
 have e5:pw k*t=pw k*(x*y)+pw k*c:=by rw [ht,Int.mul_add]
 have e6:pw k*r=pw k*a - pw k*(t % 4294967296) - pw k*b:=by rw [hr,Int.mul_sub,Int.mul_sub]
 have e7:pw k*(c+b)=pw k*c+pw k*b:=Int.mul_add _ _ _
 rw [e1,e2,e3,e4,e5,e6]
 omega
theorem take_carry {Y:List Int} {k:Nat} {x y c t:Int} (hy:Y.getD k 0=y) (ht:t=x*y+c) (h:pw k*c≤x*vf Y k):pw (k+1)*(t / 4294967296)≤x*vf Y (k+1):=by
 rw [vf,hy,pw]
 have e1:4294967296*pw k*(t / 4294967296)=pw k*(4294967296*(t / 4294967296)):=by rw [Int.mul_comm 4294967296 (pw k),Int.mul_assoc]
 have e2:pw k*(4294967296*(t / 4294967296))≤pw k*t:=Int.mul_le_mul_of_nonneg_left (by omega) (by have:=pw_pos k;omega)
 have e3:pw k*t=pw k*(x*y)+pw k*c:=by rw [ht,Int.mul_add]
 have e4:x*(vf Y k+pw k*y)=x*vf Y k+pw k*(x*y):=by rw [Int.mul_add,←Int.mul_assoc x,Int.mul_comm x (pw k),Int.mul_assoc]
 omega
theorem carry_zero {Y:List Int} {n:Nat} {x c:Int} (hY:Limb Y) (hl:Y.length=n) (hx:0≤x∧x<4294967296) (hc:0≤c) (h:pw (n+1)*c≤x*vf Y (n+1)):c=0:=by
 rw [vf_all Y _ (by omega),pw] at h
 have hb:=val_bounds hY
 rw [hl] at hb
 have h1:x*val Y≤4294967295*val Y:=Int.mul_le_mul_of_nonneg_right (by omega) hb.1
 apply Classical.byContradiction
 intro hn
 have h2:4294967296*pw n*1≤4294967296*pw n*c:=Int.mul_le_mul_of_nonneg_left (by omega) (by have:=pw_pos n;omega)
 omega
set_option maxRecDepth 20000 in
set_option maxHeartbeats 1000000 in
theorem takeTimes_any (w:World) (g o n cap c2:Nat) (cur:Array Value) (ps Y:List Int) (a2:Option Addr) (x:Int) (hx:0≤x∧x<4294967296)
  (hh:w.heap[g]? = some (.cells cur 103 (0,0))) (ha:At cur .u32 o ps) (hp:Limb ps) (hpl:ps.length=n+1) (hm:n≤1000000)
  (hY:∀ wr cur',Wr w wr g cur' 103→Sl wr (.slice a2 n c2) Y) :
  Calls Tryz.prog 211 #[.slice (some ⟨g,o,none⟩) (n+1) cap,.slice a2 n c2,.int .u32 x] w fun e w'=>∃ qs b cur',e=.returned (.bool (b != 0))∧(0≤b∧b≤1)∧val qs - pw (n+1)*b=val ps - x*val Y∧Limb qs∧qs.length=n+1∧Wr w w' g cur' 103∧cur'.size=cur.size∧At cur' .u32 o qs∧(∀ i,i<o∨o+(n+1)≤i→cur'[i]? = cur[i]?):=by
 obtain ⟨hYl,g1,g2,g3⟩:=(hY _ _ (Wr.refl hh)).parts
 have HP:=hide hp
 have HY:=hide g3
 have HYL:=hide hYl
 have HPL:=hide hpl
 have HH:=hide hh
 have HA:=hide ha
 clear hp g3 hYl hpl hh ha
 go_enter Tryz.func211,Tryz.ntmps211
 go_wp2
 go_loopw [7,8,14] (fun cv bv i wr=>∃ (k:Nat) (c b:Int) (qs:List Int) (cur' : Array Value),k≤n+1∧cv=.int .u64 c∧bv=.int .i64 b∧i=.int .i64 k∧(0≤c∧c<4294967296)∧(0≤b∧b≤1)∧qs.length=k∧Limb qs∧val qs - pw k*(c+b)=vf ps k - x*vf Y k∧pw k*c≤x*vf Y k∧Wr w wr g cur' 103∧cur'.size=cur.size∧At cur' .u32 o (qs ++ ps.drop k)∧(∀ i,i<o∨o+(n+1)≤i→cur'[i]? = cur[i]?)) (fun _ _ i _=>n+1 - (intOf i).toNat)
 case atStart=>exact ⟨0,0,0,[],cur,Nat.zero_le _,rfl,rfl,rfl,by omega,by omega,rfl,limb_nil,by simp [val,vf,pw],by simp [vf],Wr.refl HH.out,rfl,by simpa using HA.out,fun _ _=>rfl⟩
 case round =>
  obtain ⟨k,c,b,qs,cur',hk,rfl,rfl,rfl,hc,hbb,hql,hq,hval,hcar,hwr,hcs,hat,hout⟩:=hrel
  have HQL:=hide hql
  have HQ:=hide hq
  have HV:=hide hval
  have HCar:=hide hcar
  have HW:=hide hwr
  have HC:=hide hcs
  have HT:=hide hat
  have HO:=hide hout
  clear hql hq hval hcar hwr hcs hat hout
  by_cases hlt:k<n+1
  ·have sy:=hY _ _ HW.out
   have hlen:(qs ++ ps.drop k).length=n+1:=by have:=HQL.out;have:=HPL.out;simp;omega
   have co:=HT.out.cell HW.out.here k (by rw [hlen];omega)
   have e1:(qs ++ ps.drop k).getD k 0=ps.getD k 0:=by
    rw [List.getD_eq_getElem?_getD,List.getElem?_append_right (by have:=HQL.out;omega),List.getElem?_drop,List.getD_eq_getElem?_getD,HQL.out]
    congr 2
    omega
   rw [e1] at co
   have hfree:=HW.out.free (o+k)
   have by' := limb_getD HY.out k
   have ba:=limb_getD HP.out k
   obtain ⟨y,hy⟩:∃ y,Y.getD k 0=y:=⟨_,rfl⟩
   obtain ⟨a,hpa⟩:∃ a,ps.getD k 0=a:=⟨_,rfl⟩
   have ky:Hid (Calls Tryz.prog 197 #[.slice a2 n c2,.int .i64 k] wr fun e w'=>e=.returned (.int .u32 y)∧w' = wr):=by rw [←hy];exact limb_nat _ _ Y sy k
   rw [hy] at by'
   rw [hpa] at co ba
   have hxy:=mul_bound hx by'
   have s0:0≤(x*y+c) % 4294967296∧(x*y+c) % 4294967296<4294967296:=by omega
   have s1 : -4294967296≤a - (x*y+c) % 4294967296 - b:=by omega
   have s2:a - (x*y+c) % 4294967296 - b<4294967296:=by omega
   have hand:=and_bor s1 s2
   have hbo:=bor_01 (a - (x*y+c) % 4294967296 - b)
   have HV' := hide (take_val (x:=x) HQL.out hy hpa rfl rfl s1 s2 HV.out)
   have HCar' := hide (take_carry (x:=x) hy rfl HCar.out)
   have HT' := hide (HT.out.set k ((a - (x*y+c) % 4294967296 - b) % 4294967296))
   have HW' := hide (HW.out.set (o+k) (.int .u32 ((a - (x*y+c) % 4294967296 - b) % 4294967296)))
   have d1:(k:Int)<(n:Int)+1:=by omega
   clear hlen e1 hy hpa sy
   go_wp2_with fail
   refine (ky.out).mono ?_
   rintro e w2 ⟨rfl,rfl⟩
   go_wp2
   go_roundw
   case rel =>
    refine ⟨k+1,(x*y+c) / 4294967296,_,qs ++ [(a - (x*y+c) % 4294967296 - b) % 4294967296],_,by omega,rfl,rfl,by go_num,by omega,hbo,by have:=HQL.out;simp;omega,limb_append.2 ⟨HQ.out,limb_cons.2 ⟨by omega,limb_nil⟩⟩,HV'.out,HCar'.out,HW'.out,by simpa using HC.out,by rw [←set_snoc qs ps k _ HQL.out (by have:=HPL.out;omega)];exact HT'.out,fun i hi=>?_⟩
    rw [Array.getElem?_setIfInBounds,if_neg (by omega)]
    exact HO.out i hi
   case measure=>simp [intOf];omega
  ·have hkn:k=n+1:=by omega
   subst hkn
   have hc0:=carry_zero HY.out HYL.out.symm hx hc.1 HCar.out
   have HVf:Hid (val qs - pw (n+1)*b=val ps - x*val Y):=by
    have h9:=HV.out
    rw [hc0,Int.zero_add,vf_all ps _ (by have:=HPL.out;omega),vf_all Y _ (by have:=HYL.out;omega)] at h9
    exact h9
   have HTf:Hid (At cur' .u32 o qs):=by
    have h9:=HT.out
    rwa [List.drop_of_length_le (by have:=HPL.out;omega),List.append_nil] at h9
   clear hc0
   go_wp2
   go_ret
   exact ⟨qs,b,cur',rfl,hbb,HVf.out,HQ.out,HQL.out,HW.out,HC.out,HTf.out,HO.out⟩
end Lm
end Go.Proofs.YtaofpigilgapgaaGreatDoor

namespace Go.Proofs.YtaofpigilgapgaaGreatDoor
namespace Lm
open Go.RowKit
set_option maxRecDepth 20000 in
set_option maxHeartbeats 1000000 in
theorem addBack_any (w:World) (g o n cap c2:Nat) (cur:Array Value) (ps Y:List Int) (a2:Option Addr)
  (hh:w.heap[g]? = some (.cells cur 103 (0,0))) (ha:At cur .u32 o ps) (hp:Limb ps) (hpl:ps.length=n+1) (hm:n≤1000000)
  (hY:∀ wr cur',Wr w wr g cur' 103→Sl wr (.slice a2 n c2) Y) :
  Calls Tryz.prog 212 #[.slice (some ⟨g,o,none⟩) (n+1) cap,.slice a2 n c2] w fun e w'=>∃ qs c cur',e=.returned (.tuple #[])∧(0≤c∧c≤1)∧val qs+pw (n+1)*c=val ps+val Y∧Limb qs∧qs.length=n+1∧Wr w w' g cur' 103∧cur'.size=cur.size∧At cur' .u32 o qs∧(∀ i,i<o∨o+(n+1)≤i→cur'[i]? = cur[i]?):=by
 obtain ⟨hYl,g1,g2,g3⟩:=(hY _ _ (Wr.refl hh)).parts
 have HP:=hide hp
 have HY:=hide g3
 have HYL:=hide hYl
 have HPL:=hide hpl
 have HH:=hide hh
 have HA:=hide ha
 clear hp g3 hYl hpl hh ha
 go_enter Tryz.func212,Tryz.ntmps212
 go_wp2
 go_loopw [4,9] (fun cv i wr=>∃ (k:Nat) (c:Int) (qs:List Int) (cur' : Array Value),k≤n+1∧cv=.int .u64 c∧i=.int .i64 k∧(0≤c∧c≤1)∧qs.length=k∧Limb qs∧val qs+pw k*c=vf ps k+vf Y k∧Wr w wr g cur' 103∧cur'.size=cur.size∧At cur' .u32 o (qs ++ ps.drop k)∧(∀ i,i<o∨o+(n+1)≤i→cur'[i]? = cur[i]?)) (fun _ i _=>n+1 - (intOf i).toNat)
 case atStart=>exact ⟨0,0,[],cur,Nat.zero_le _,rfl,rfl,by omega,rfl,limb_nil,by simp [val,vf,pw],Wr.refl HH.out,rfl,by simpa using HA.out,fun _ _=>rfl⟩
 case round =>
  obtain ⟨k,c,qs,cur',hk,rfl,rfl,hc,hql,hq,hval,hwr,hcs,hat,hout⟩:=hrel
  have HQL:=hide hql
  have HQ:=hide hq
  have HV:=hide hval
  have HW:=hide hwr
  have HC:=hide hcs
  have HT:=hide hat
  have HO:=hide hout
  clear hql hq hval hwr hcs hat hout
  by_cases hlt:k<n+1
  ·have sy:=hY _ _ HW.out
   have hlen:(qs ++ ps.drop k).length=n+1:=by have:=HQL.out;have:=HPL.out;simp;omega
   have co:=HT.out.cell HW.out.here k (by rw [hlen];omega)
   have e1:(qs ++ ps.drop k).getD k 0=ps.getD k 0:=by
    rw [List.getD_eq_getElem?_getD,List.getElem?_append_right (by have:=HQL.out;omega),List.getElem?_drop,List.getD_eq_getElem?_getD,HQL.out]
    congr 2
    omega
   rw [e1] at co
   have hfree:=HW.out.free (o+k)
   have by' := limb_getD HY.out k
   have ba:=limb_getD HP.out k
   obtain ⟨y,hy⟩:∃ y,Y.getD k 0=y:=⟨_,rfl⟩
   obtain ⟨a,hpa⟩:∃ a,ps.getD k 0=a:=⟨_,rfl⟩
   have ky:Hid (∀ q,Calls Tryz.prog 197 #[.slice a2 n c2,.int .i64 k] (wr.drewN q) fun e w'=>e=.returned (.int .u32 y)∧w' = wr.drewN q):=by
    intro q;rw [←hy];exact limb_nat _ _ Y (sy.below (below_drewN (Below.refl _ _) q)) k
   rw [hy] at by'
   rw [hpa] at co ba
   have hst:=add_step ba by' hc rfl
   have HV' := hide (add_val HQL.out hpa hy rfl HV.out)
   have HT' := hide (HT.out.set k ((a+y+c) % 4294967296))
   have HW' := hide (HW.out.set (o+k) (.int .u32 ((a+y+c) % 4294967296)))
   have d1:(k:Int)<(n:Int)+1:=by omega
   clear hlen e1 hy hpa sy
   go_wp2
   go_quiet ((go_at_call 197;exact Calls.quiet_of_same (ky.out _)))
   go_wp2
   go_roundw
   case rel =>
    refine ⟨k+1,(a+y+c) / 4294967296,qs ++ [(a+y+c) % 4294967296],_,by omega,rfl,by go_num,by omega,by have:=HQL.out;simp;omega,limb_append.2 ⟨HQ.out,limb_cons.2 ⟨by omega,limb_nil⟩⟩,HV'.out,HW'.out.drewN _,by simpa using HC.out,by rw [←set_snoc qs ps k _ HQL.out (by have:=HPL.out;omega)];exact HT'.out,fun i hi=>?_⟩
    rw [Array.getElem?_setIfInBounds,if_neg (by omega)]
    exact HO.out i hi
   case measure=>simp [intOf];omega
  ·have hkn:k=n+1:=by omega
   subst hkn
   have HVf:Hid (val qs+pw (n+1)*c=val ps+val Y):=by
    have h9:=HV.out
    rw [vf_all ps _ (by have:=HPL.out;omega),vf_all Y _ (by have:=HYL.out;omega)] at h9
    exact h9
   have HTf:Hid (At cur' .u32 o qs):=by
    have h9:=HT.out
    rwa [List.drop_of_length_le (by have:=HPL.out;omega),List.append_nil] at h9
   go_wp2
   go_end0
   exact ⟨qs,c,cur',rfl,hc,HVf.out,HQ.out,HQL.out,HW.out,HC.out,HTf.out,HO.out⟩
end Lm
end Go.Proofs.YtaofpigilgapgaaGreatDoor

namespace Go.Proofs.YtaofpigilgapgaaGreatDoor
namespace Lm
open Go.RowKit
set_option maxRecDepth 20000 in
set_option maxHeartbeats 400000 in
theorem lead_any (x:Int) (w:World) (h0:0≤x) (h1:x<4294967296) :
  Calls Tryz.prog 208 #[.int .u32 x] w fun e w'=>e=.returned (.int .i64 (32 - (Lib.bitLen x.toNat:Nat)))∧w' = w:=by
 have hl:Lib.bitLen x.toNat≤32:=Lib.bitLen_le _ 32 (by omega) (by omega)
 have kl:=hide (len32_any x w h0 h1)
 generalize Lib.bitLen x.toNat=l at hl kl
 go_enter Tryz.func208,Tryz.ntmps208
 go_wp2_with fail
 refine (kl.out).mono ?_
 rintro e w' ⟨rfl,rfl⟩
 go_wp2
 go_ret
 exact ⟨rfl,rfl⟩
theorem p2_pow (s:Nat):(2:Int) ^ s=p2 s:=by
 induction s with
 | zero=>rfl
 | succ s ih=>rw [Int.pow_succ,ih,p2];omega
theorem nat_p2 (s:Nat):((2 ^ s:Nat):Int)=p2 s:=by
 induction s with
 | zero=>rfl
 | succ s ih=>rw [Nat.pow_succ,p2];omega
theorem up_bound {x c:Int} {s:Nat} (h1:0≤x) (h2:x<4294967296) (hs:s≤31) (h3:0≤c) (h4:c<p2 s):0≤x*p2 s+c∧x*p2 s+c<4294967296*p2 s∧x*p2 s+c<9223372036854775808∧0≤x*p2 s:=by
 have hp:=p2_pos s
 have hp2:=p2_mono (m:=s) (n:=31) hs
 rw [show p2 31=2147483648 from by decide] at hp2
 have e1:0≤x*p2 s:=Int.mul_nonneg h1 (by omega)
 have e2:(x+1)*p2 s≤4294967296*p2 s:=Int.mul_le_mul_of_nonneg_right (by omega) (by omega)
 rw [Int.add_mul] at e2
 omega
theorem or_shift {x c:Int} {s:Nat} (h1:0≤x) (h2:x<4294967296) (hs:s≤31) (h3:0≤c) (h4:c<p2 s):bits .or .u64 (IntKind.u64.wrap (x*2 ^ s)) c=x*p2 s+c:=by
 have hb:=up_bound h1 h2 hs h3 h4
 have hp:=p2_pos s
 rw [p2_pow,IntKind.wrap_u64,Int.emod_eq_of_lt hb.2.2.2 (by omega),u64_or _ _ hb.2.2.2 (by omega) h3 (by omega)]
 obtain ⟨a,rfl⟩:=Int.eq_ofNat_of_zero_le h1
 obtain ⟨d,rfl⟩:=Int.eq_ofNat_of_zero_le h3
 have e1:((a:Int)*p2 s).toNat=2 ^ s*a:=by
  rw [←nat_p2,Int.mul_comm,←Int.natCast_mul,Int.toNat_natCast]
 have hd:d<2 ^ s:=by have:=nat_p2 s;omega
 rw [e1,Int.toNat_natCast,←Nat.two_pow_add_eq_or_of_lt hd,Int.natCast_add,Int.natCast_mul,nat_p2,Int.mul_comm]
theorem up_val {zs qs:List Int} {k:Nat} {z c m t:Int} (hk:qs.length=k) (hz:zs.getD k 0=z) (hs:t=z*m+c) (h:val qs+pw k*c=vf zs k*m) :
  val (qs ++ [t % 4294967296])+pw (k+1)*(t / 4294967296)=vf zs (k+1)*m:=by
 rw [val_snoc,vf,hz,hk,pw,Int.add_mul]
 have e:t=t % 4294967296+4294967296*(t / 4294967296):=by omega
 have e2:pw k*(t % 4294967296)+4294967296*pw k*(t / 4294967296)=pw k*t:=by
  rw [Int.mul_comm 4294967296 (pw k),Int.mul_assoc,←Int.mul_add,←e]
 have e3:pw k*z*m=pw k*(z*m):=by rw [Int.mul_assoc]
 rw [Int.add_assoc,e2,hs,Int.mul_add,e3]
 omega
set_option maxRecDepth 20000 in
set_option maxHeartbeats 1000000 in
theorem moveUp_any (w:World) (ao:Option Addr) (n cap:Nat) (xs:List Int) (hx:Sl w (.slice ao n cap) xs) (s:Nat) (hs:s≤31) (hm:xs.length≤1000000) :
  Calls Tryz.prog 209 #[.slice ao n cap,.int .u64 s] w fun e w'=>∃ cur qs,e=.returned (.slice (some ⟨w.heap.size,0,none⟩) (n+1) (n+1))∧Limb qs∧qs.length=n+1∧val qs=val xs*p2 s∧w'.heap[w.heap.size]? = some (.cells cur 103 (0,0))∧cur.size=n+1∧At cur .u32 0 qs∧Below w.heap.size w w' := by
 obtain ⟨rfl,h1,h2,h3⟩:=hx.parts
 obtain ⟨i0,hi,hz0,hz1,hz2⟩:=info_parts info32
 have H3:=hide h3
 have hp:=p2_pos s
 have hp2:=p2_mono (m:=s) (n:=31) hs
 rw [show p2 31=2147483648 from by decide] at hp2
 clear h3
 go_enter Tryz.func209,Tryz.ntmps209
 go_wp2_with (refine wpList_make_full _ rfl (.tmp 12) (.tmp 12) 38 rfl w.heap.size 103 i0 (.int .u32 0) 1 Tryz.underlying38 hi hz0 hz1 .i64 .i64 _ _ (xs.length+1) rfl rfl (by omega) (by omega) (by rw [hz2];omega) (by unfold maxLen;omega) (Nat.le_refl _) ?hK)
 case hK =>
  intro w1 hown hgrow
  obtain ⟨_,cur,hh,hcs,hat⟩:=block_of_made hown
  have hb1:Below w.heap.size w w1:=(Below.refl w.heap.size w).grown hgrow (Nat.le_refl _) (by simp)
  have HH:=hide hh
  have HS:=hide hcs
  have HA:=hide hat
  clear hown hgrow hh hcs hat
  go_wp2
  go_loopw [6,16] (fun cv i wr=>∃ (k:Nat) (c:Int) (qs:List Int) (cur' : Array Value),k≤xs.length∧cv=.int .u64 c∧i=.int .i64 k∧(0≤c∧c<p2 s)∧qs.length=k∧Limb qs∧val qs+pw k*c=vf xs k*p2 s∧Wr w1 wr w.heap.size cur' 103∧cur'.size=xs.length+1∧At cur' .u32 0 (qs ++ (List.replicate (xs.length+1) 0).drop k)) (fun _ i _=>xs.length - (intOf i).toNat)
  case atStart=>exact ⟨0,0,[],cur,Nat.zero_le _,rfl,rfl,by omega,rfl,limb_nil,by simp [val,vf,pw],Wr.refl HH.out,HS.out,by simpa using HA.out⟩
  case round =>
   obtain ⟨k,c,qs,cur',hk,rfl,rfl,hcb,hql,hq,hval,hwr,hcs,hat⟩:=hrel
   have HQL:=hide hql
   have HQ:=hide hq
   have HV:=hide hval
   have HW:=hide hwr
   have HC:=hide hcs
   have HT:=hide hat
   clear hql hq hval hwr hcs hat
   by_cases hlt:k<xs.length
   ·have sx:=HW.out.sl (Nat.le_refl _) hb1 rfl hx
    obtain ⟨b,off,rfl,hcx⟩:=sx.cells (by omega)
    have cx:=hcx k (by omega)
    have bx:=limb_getD H3.out k
    obtain ⟨x,hxk⟩:∃ x,xs.getD k 0=x:=⟨_,rfl⟩
    rw [hxk] at cx bx
    have hlen:(qs ++ (List.replicate (xs.length+1) (0:Int)).drop k).length=xs.length+1:=by have:=HQL.out;simp;omega
    have hcell:=HT.out.cell HW.out.here k (by rw [hlen];omega)
    rw [Nat.zero_add] at hcell
    generalize (qs ++ (List.replicate (xs.length+1) (0:Int)).drop k).getD k 0=old at hcell
    have hfree:=HW.out.free k
    obtain ⟨M,hM⟩:∃ M,M=x*p2 s+c:=⟨_,rfl⟩
    have hor:bits .or .u64 (IntKind.u64.wrap (x*2 ^ s)) c=M:=by rw [hM];exact or_shift bx.1 bx.2 hs hcb.1 hcb.2
    have hmb:=up_bound bx.1 bx.2 hs hcb.1 hcb.2
    rw [←hM] at hmb
    have m1:=hmb.1
    have m2:=hmb.2.1
    have m3:=hmb.2.2.1
    have HV' := hide (up_val HQL.out hxk hM HV.out)
    have HT' := hide (HT.out.set k (M % 4294967296))
    have HW' := hide (HW.out.set k (.int .u32 (M % 4294967296)))
    clear hlen sx hcx hM hmb hxk
    go_wp2
    go_roundw
    case rel=>exact ⟨k+1,M / 4294967296,qs ++ [M % 4294967296],_,by omega,rfl,by go_num,by omega,by have:=HQL.out;simp;omega,limb_append.2 ⟨HQ.out,limb_cons.2 ⟨by omega,limb_nil⟩⟩,HV'.out,HW'.out,by simpa using HC.out,by rw [←set_snoc qs _ k _ HQL.out (by simp;omega)];simpa using HT'.out⟩
    case measure=>simp [intOf];omega
   ·have hkM:k=xs.length:=by omega
    subst hkM
    have hlen:(qs ++ (List.replicate (xs.length+1) (0:Int)).drop xs.length).length=xs.length+1:=by have:=HQL.out;simp;omega
    have hcell:=HT.out.cell HW.out.here xs.length (by rw [hlen];omega)
    rw [Nat.zero_add] at hcell
    have hfree:=HW.out.free xs.length
    generalize hold:(qs ++ (List.replicate (xs.length+1) (0:Int)).drop xs.length).getD xs.length 0=old at hcell
    have hat2:=HT.out.set xs.length c
    rw [set_snoc qs _ xs.length c HQL.out (by simp),List.drop_of_length_le (by simp),List.append_nil,Nat.zero_add] at hat2
    have hw2:=HW.out.set xs.length (.int .u32 c)
    have hlr:Limb (qs ++ [c]):=limb_append.2 ⟨HQ.out,limb_cons.2 ⟨by omega,limb_nil⟩⟩
    have R:=hide (And.intro hat2 (And.intro hw2 (And.intro hlr (show val (qs ++ [c])=val xs*p2 s by
     rw [val_snoc,HQL.out,HV.out,vf_all xs _ (Nat.le_refl _)]))))
    have hbel:Below w.heap.size w (wr.setCell ⟨w.heap.size,xs.length,none⟩ (.int .u32 c)):=hb1.trans (hw2.below (Nat.le_refl _))
    have hc2:c<4294967296:=by omega
    clear hat2 hw2 hlr hlen hold
    go_wp2
    go_ret
    exact ⟨_,qs ++ [c],rfl,R.out.2.2.1,by have:=HQL.out;simp;omega,R.out.2.2.2,R.out.2.1.here,by simpa using HC.out,R.out.1,hbel⟩
end Lm
end Go.Proofs.YtaofpigilgapgaaGreatDoor

namespace Go.Proofs.YtaofpigilgapgaaGreatDoor
namespace Lm
open Go.RowKit
theorem p2_split {s:Nat} (hs:s≤31):p2 s*p2 (32 - s)=4294967296:=by
 rw [←p2_add,show s+(32 - s)=32 by omega]
 decide
theorem down_limb {A C:Int} {s:Nat} (hs:s≤31) (hA:0≤A∧A<4294967296) (hC:0≤C):0≤(C*4294967296+A) / p2 s∧p2 s*(((C*4294967296+A) / p2 s) % 4294967296)=A - A % p2 s+C % p2 s*4294967296:=by
 have hP:=p2_pos s
 have hR:=p2_pos (32 - s)
 have hPR:=p2_split hs
 generalize p2 s=P at *
 generalize p2 (32 - s)=R at *
 have e1:C*4294967296+A=A+P*(C*R):=by
  rw [←hPR,←Int.mul_assoc C,Int.mul_comm C P,Int.mul_assoc]
  omega
 have e2:(C*4294967296+A) / P=A / P+C*R:=by rw [e1,Int.add_mul_ediv_left _ _ (by omega)]
 have hq:0≤A / P:=Int.ediv_nonneg hA.1 (by omega)
 have hc0:0≤C % P∧C % P<P:=⟨Int.emod_nonneg _ (by omega),Int.emod_lt_of_pos _ (by omega)⟩
 have ec:=Int.mul_ediv_add_emod C P
 have e3:C*R=C % P*R+4294967296*(C / P):=by
  have:C*R=(P*(C / P)+C % P)*R:=by rw [ec]
  rw [this,Int.add_mul,←hPR,Int.mul_assoc P,Int.mul_comm (C / P) R,←Int.mul_assoc]
  omega
 have hCR:0≤C*R:=Int.mul_nonneg hC (by omega)
 have h0R:0≤C % P*R:=Int.mul_nonneg hc0.1 (by omega)
 have ea:=Int.mul_ediv_add_emod A P
 have ham:0≤A % P:=Int.emod_nonneg _ (by omega)
 have hAR:A / P<R:=by
  apply Int.ediv_lt_of_lt_mul (by omega)
  rw [Int.mul_comm,hPR]
  exact hA.2
 have hlt:A / P+C % P*R<4294967296:=by
  have h1:(C % P+1)*R≤P*R:=Int.mul_le_mul_of_nonneg_right (by omega) (by omega)
  rw [hPR,Int.add_mul] at h1
  omega
 refine ⟨by rw [e2];omega,?_⟩
 have e4:(A / P+C*R) % 4294967296=A / P+C % P*R:=by
  rw [e3,←Int.add_assoc,Int.add_mul_emod_self_left,Int.emod_eq_of_lt (by omega) hlt]
 rw [e2,e4,Int.mul_add,←Int.mul_assoc,Int.mul_comm P (C % P),Int.mul_assoc,hPR]
 omega
theorem down_val {xs qs:List Int} {k:Nat} {P o r0 A C:Int} (hk:qs.length=k) (hA:xs.getD k 0=A) (ho:P*o=A - A % P+C % P*4294967296) (h:P*val qs+r0=vf xs k+pw k*(A % P)):P*val (qs ++ [o])+r0=vf xs (k+1)+pw (k+1)*(C % P):=by
 rw [val_snoc,vf,hA,hk,pw,Int.mul_add]
 have e1:P*(pw k*o)=pw k*(P*o):=by rw [←Int.mul_assoc,Int.mul_comm P,Int.mul_assoc]
 have e2:pw k*(P*o)=pw k*A - pw k*(A % P)+4294967296*pw k*(C % P):=by
  rw [ho,Int.mul_add,Int.mul_sub,Int.mul_comm (C % P),←Int.mul_assoc,Int.mul_comm (pw k) 4294967296]
 omega
set_option maxRecDepth 20000 in
set_option maxHeartbeats 1000000 in
theorem moveDown_any (w:World) (ao:Option Addr) (n cap:Nat) (xs:List Int) (hx:Sl w (.slice ao n cap) xs) (s:Nat) (hs:s≤31) (hm:xs.length≤1000000) :
  Calls Tryz.prog 213 #[.slice ao n cap,.int .u64 s] w fun e w'=>∃ v,e=.returned v∧Is w.heap.size w' v (val xs / p2 s)∧Below w.heap.size w w' := by
 obtain ⟨rfl,h1,h2,h3⟩:=hx.parts
 obtain ⟨i0,hi,hz0,hz1,hz2⟩:=info_parts info32
 have H3:=hide h3
 clear h3
 go_enter Tryz.func213,Tryz.ntmps213
 go_wp2_with (refine wpList_make_full _ rfl (.tmp 10) (.tmp 10) 38 rfl w.heap.size 103 i0 (.int .u32 0) 1 Tryz.underlying38 hi hz0 hz1 .i64 .i64 _ _ xs.length rfl rfl (by omega) (by omega) (by rw [hz2];omega) (by unfold maxLen;omega) (Nat.le_refl _) ?hK)
 case hK =>
  intro w1 hown hgrow
  obtain ⟨_,cur,hh,hcs,hat⟩:=block_of_made hown
  have hb1:Below w.heap.size w w1:=(Below.refl w.heap.size w).grown hgrow (Nat.le_refl _) (by simp)
  have HH:=hide hh
  have HS:=hide hcs
  have HA:=hide hat
  clear hown hgrow hh hcs hat
  go_wp2
  go_loopw [14] (fun i wr=>∃ (k:Nat) (qs:List Int) (cur' : Array Value),k≤xs.length∧i=.int .i64 k∧qs.length=k∧Limb qs∧p2 s*val qs+xs.getD 0 0 % p2 s=vf xs k+pw k*(xs.getD k 0 % p2 s)∧Wr w1 wr w.heap.size cur' 103∧cur'.size=xs.length∧At cur' .u32 0 (qs ++ (List.replicate xs.length 0).drop k)) (fun i _=>xs.length - (intOf i).toNat)
  case atStart=>exact ⟨0,[],cur,Nat.zero_le _,rfl,rfl,limb_nil,by simp [val,vf,pw],Wr.refl HH.out,HS.out,by simpa using HA.out⟩
  case round =>
   obtain ⟨k,qs,cur',hk,rfl,hql,hq,hval,hwr,hcs,hat⟩:=hrel
   have HQL:=hide hql
   have HQ:=hide hq
   have HV:=hide hval
   have HW:=hide hwr
   have HC:=hide hcs
   have HT:=hide hat
   clear hql hq hval hwr hcs hat
   by_cases hlt:k<xs.length
   ·have sx:=HW.out.sl (Nat.le_refl _) hb1 rfl hx
    obtain ⟨b,off,rfl,hcx⟩:=sx.cells (by omega)
    have cx:=hcx k (by omega)
    have bx:=limb_getD H3.out k
    have by' := limb_getD H3.out (k+1)
    have kl:Hid (Calls Tryz.prog 197 #[.slice (some ⟨b,off,none⟩) xs.length cap,.int .i64 ((k:Int)+1)] wr fun e w'=>e=.returned (.int .u32 (xs.getD (k+1) 0))∧w' = wr):=by
     have h9:=limb_any wr _ xs sx ((k:Int)+1) (by omega)
     rwa [show ((k:Int)+1).toNat=k+1 by omega] at h9
    have HVn:=hide (fun o ho=>down_val (o:=o) (C:=xs.getD (k+1) 0) HQL.out rfl ho HV.out)
    generalize hCe:xs.getD (k+1) 0=C at by' kl HVn
    have HCE:=hide hCe
    clear hCe
    generalize xs.getD k 0=A at cx bx HVn
    have hdl:=down_limb hs bx by'.1
    have hor:=or_join C A by'.1 by'.2 bx.1 bx.2
    have hlen:(qs ++ (List.replicate xs.length (0:Int)).drop k).length=xs.length:=by have:=HQL.out;simp;omega
    have hcell:=HT.out.cell HW.out.here k (by rw [hlen];omega)
    rw [Nat.zero_add] at hcell
    generalize (qs ++ (List.replicate xs.length (0:Int)).drop k).getD k 0=old at hcell
    have hfree:=HW.out.free k
    obtain ⟨M,hM⟩:∃ M,M=C*4294967296+A:=⟨_,rfl⟩
    rw [←hM] at hor hdl
    have hM0:0≤M:=by omega
    have hM1:M<18446744073709551616:=by omega
    have hpw:=p2_pow s
    have HVf:=hide (HVn.out _ hdl.2)
    have hd0:=hdl.1
    have HT' := hide (HT.out.set k (M / p2 s % 4294967296))
    have HW' := hide (HW.out.set k (.int .u32 (M / p2 s % 4294967296)))
    have hp1:=p2_pos s
    clear hlen sx hcx hM hdl HVn
    go_wp2_with fail
    refine (kl.out).mono ?_
    rintro e w2 ⟨rfl,rfl⟩
    go_wp2
    go_roundw
    case rel=>exact ⟨k+1,qs ++ [M / p2 s % 4294967296],_,by omega,by go_num,by have:=HQL.out;simp;omega,limb_append.2 ⟨HQ.out,limb_cons.2 ⟨by omega,limb_nil⟩⟩,by rw [HCE.out];exact HVf.out,HW'.out,by simpa using HC.out,by rw [←set_snoc qs _ k _ HQL.out (by simp;omega)];simpa using HT'.out⟩
    case measure=>simp [intOf];omega
   ·have hkM:k=xs.length:=by omega
    subst hkM
    have hat2:=HT.out
    rw [List.drop_of_length_le (by simp),List.append_nil] at hat2
    have how:Ow w.heap.size wr (.slice (some ⟨w.heap.size,0,none⟩) xs.length xs.length) qs:=by
     have:=HQL.out
     exact ⟨_,xs.length,by rw [this],by omega,by unfold maxLen;omega,HQ.out,.inr ⟨_,0,_,rfl,Nat.le_refl _,HW.out.here,by rw [HC.out];omega,hat2⟩⟩
    have hbel:Below w.heap.size w wr:=hb1.trans (HW.out.below (Nat.le_refl _))
    have his:=how.is_cut (x:=val xs / p2 s) (by
     have hv:=HV.out
     have hz:xs.getD xs.length 0=0:=by rw [List.getD_eq_getElem?_getD,List.getElem?_eq_none (Nat.le_refl _)];rfl
     rw [hz,Int.zero_emod,Int.mul_zero,Int.add_zero,vf_all xs _ (Nat.le_refl _)] at hv
     have hp1:=p2_pos s
     have hr:=Int.emod_lt_of_pos (xs.getD 0 0) (show 0<p2 s by omega)
     have hr0:=Int.emod_nonneg (xs.getD 0 0) (show p2 s≠0 by omega)
     have:=div_of (a:=val xs) (b:=p2 s) (q:=val qs) (by omega) (by rw [←hv,Int.mul_comm]) hr0 hr
     exact this.1.symm)
    clear hat2
    go_wp2_with fail
    refine (cut_any _ _ _ _ _ how.sl).mono ?_
    rintro e w2 ⟨rfl,rfl⟩
    go_wp2
    go_ret
    exact ⟨_,rfl,his,hbel⟩
end Lm
end Go.Proofs.YtaofpigilgapgaaGreatDoor

namespace Go.Proofs.YtaofpigilgapgaaGreatDoor
namespace Lm
open Go.RowKit
theorem guess_start {v1 v2 u2 U g r:Int} (h2:0≤v2) (h3:u2<4294967296) (hg:U=g*v1+r) (hr:r<v1) (hg0:0≤g):U*4294967296+u2<(g+1)*(v1*4294967296+v2):=by
 have e1:(g+1)*(v1*4294967296+v2)=(g*v1+v1)*4294967296+(g+1)*v2:=by
  rw [Int.mul_add,←Int.mul_assoc,Int.add_mul,Int.one_mul]
 have e2:0≤(g+1)*v2:=Int.mul_nonneg (by omega) h2
 rw [e1]
 omega
theorem guess_le {v1 v2 u2 U g r:Int} (hg:g*v1+r=U) (h:g*v2≤r*4294967296+u2):g*(v1*4294967296+v2)≤U*4294967296+u2:=by
 rw [Int.mul_add,←Int.mul_assoc,←hg]
 omega
theorem guess_gt {v1 v2 u2 U g r:Int} (hg:g*v1+r=U) (h:r*4294967296+u2<g*v2):U*4294967296+u2<g*(v1*4294967296+v2):=by
 rw [Int.mul_add,←Int.mul_assoc,←hg]
 omega
theorem guess_break {v1 v2 u2 U g r:Int} (hv:0≤v2∧v2<4294967296) (hu:0≤u2) (hg:g*v1+r=U) (hr:4294967296≤r) (hg0:0≤g) (hg1:g<4294967296):g*(v1*4294967296+v2)≤U*4294967296+u2:=by
 apply guess_le hg
 have h1:g*v2≤4294967295*v2:=Int.mul_le_mul_of_nonneg_right (by omega) hv.1
 omega
theorem guess_top {v1 U g r:Int} (hv:2147483648≤v1) (hU:U≤v1*4294967296+4294967295) (hg:g*v1+r=U) (_hr:0≤r) (hb:4294967296≤r+v1):g≤4294967296:=by
 apply Classical.byContradiction
 intro hn
 have h1:4294967297*v1≤g*v1:=Int.mul_le_mul_of_nonneg_right (by omega) (by omega)
 omega
theorem guess_max {v1 U g r:Int} (hv:2147483648≤v1) (hU:U≤v1*4294967296+4294967295) (hg:g*v1+r=U) (hr:0≤r):g≤4294967297:=by
 apply Classical.byContradiction
 intro hn
 have h1:4294967298*v1≤g*v1:=Int.mul_le_mul_of_nonneg_right (by omega) (by omega)
 omega
set_option maxRecDepth 20000 in
set_option maxHeartbeats 2000000 in
theorem guess_any (w:World) (a1 a2:Option Addr) (n c1 c2:Nat) (ps Y:List Int) (hp:Sl w (.slice a1 (n+2+1) c1) ps) (hy:Sl w (.slice a2 (n+2) c2) Y)
  (htop:2147483648≤Y.getD (n+1) 0) (hu:ps.getD (n+2) 0≤Y.getD (n+1) 0) :
  Calls Tryz.prog 210 #[.slice a1 (n+2+1) c1,.slice a2 (n+2) c2] w fun e w'=>∃ g:Int,e=.returned (.int .u32 g)∧(0≤g∧g<4294967296)∧g*(Y.getD (n+1) 0*4294967296+Y.getD n 0)≤(ps.getD (n+2) 0*4294967296+ps.getD (n+1) 0)*4294967296+ps.getD n 0∧(4294967296≤g+1∨(ps.getD (n+2) 0*4294967296+ps.getD (n+1) 0)*4294967296+ps.getD n 0<(g+1)*(Y.getD (n+1) 0*4294967296+Y.getD n 0))∧∃ q,w' = w.drewN q:=by
 obtain ⟨hpl,p1,p2,p3⟩:=hp.parts
 obtain ⟨hyl,y1,y2,y3⟩:=hy.parts
 obtain ⟨b,off,rfl,hc⟩:=hp.cells (by omega)
 obtain ⟨b',off',rfl,hc'⟩:=hy.cells (by omega)
 have f0:=hc (n+2) (by omega)
 have f1:=hc (n+1) (by omega)
 have f2:=hc n (by omega)
 have e1:=hc' (n+1) (by omega)
 have e2:=hc' n (by omega)
 have bu0:=limb_getD p3 (n+2)
 have bu1:=limb_getD p3 (n+1)
 have bu2:=limb_getD p3 n
 have bv1:=limb_getD y3 (n+1)
 have bv2:=limb_getD y3 n
 generalize ps.getD (n+2) 0=u0 at *
 generalize ps.getD (n+1) 0=u1 at *
 generalize ps.getD n 0=u2 at *
 generalize Y.getD (n+1) 0=v1 at *
 generalize Y.getD n 0=v2 at *
 have hN:n+3≤9223372036854775807:=by omega
 have hor1:=or_join u0 u1 bu0.1 bu0.2 bu1.1 bu1.2
 obtain ⟨U,hU⟩:∃ U,U=u0*4294967296+u1:=⟨_,rfl⟩
 rw [←hU] at hor1 ⊢
 have hU0:0≤U:=by omega
 have hUb:U<18446744073709551616:=by omega
 have hUm:U≤v1*4294967296+4294967295:=by omega
 have HU:=hide hU
 clear hc hc' p3 y3 hpl hyl hU
 go_enter Tryz.func210,Tryz.ntmps210
 go_wp2
 go_quiet (fail)
 go_wp2
 replace f0:(w.drewN nq).cell? _ = _:=f0
 replace f1:(w.drewN nq).cell? _ = _:=f1
 replace f2:(w.drewN nq).cell? _ = _:=f2
 replace e1:(w.drewN nq).cell? _ = _:=e1
 replace e2:(w.drewN nq).cell? _ = _:=e2
 generalize hwq:w.drewN nq=wq at f0 f1 f2 e1 e2 ⊢
 have HQ:Hid (∃ q,wq=w.drewN q):=⟨_,hwq.symm⟩
 clear hwq
 go_quiet (fail)
 go_wp2
 replace f2:(wq.drewN nq).cell? _ = _:=f2
 replace HQ:Hid (∃ q,wq.drewN nq=w.drewN q):=by
  obtain ⟨q,hq⟩:=HQ.out
  exact ⟨q+nq,by rw [hq];simp [World.drewN];omega⟩
 generalize wq.drewN nq=wz at f2 HQ ⊢
 have hv0:0<v1:=by omega
 have hq0:0≤U / v1:=Int.ediv_nonneg hU0 (by omega)
 have hqm:=Int.mul_ediv_add_emod U v1
 have hr0:=Int.emod_nonneg U (show v1≠0 by omega)
 have hr1:=Int.emod_lt_of_pos U hv0
 have hq1:U / v1≤4294967297:=guess_max htop hUm (by rw [Int.mul_comm];exact hqm) hr0
 have t1:U.tdiv v1=U / v1:=Int.tdiv_eq_ediv_of_nonneg hU0
 have t2:IntKind.u64.wrap (U / v1)=U / v1:=by rw [IntKind.wrap_u64];exact Int.emod_eq_of_lt hq0 (by omega)
 have t3:U.tmod v1=U % v1:=Int.tmod_eq_emod_of_nonneg hU0
 have HQM:=hide hqm
 clear hqm
 go_quiet (fail)
 go_wp2
 replace f2:(wz.drewN nq).cell? _ = _:=f2
 replace HQ:Hid (∃ q,wz.drewN nq=w.drewN q):=by
  obtain ⟨q,hq⟩:=HQ.out
  exact ⟨q+nq,by rw [hq];simp [World.drewN];omega⟩
 generalize wz.drewN nq=wl at f2 HQ ⊢
 go_loop [9,10] (fun gv rv=>∃ gu rs:Int,gv=.int .u64 gu∧rv=.int .u64 rs∧0≤gu∧gu≤4294967297∧0≤rs∧rs<4294967296∧gu*v1+rs=U∧(4294967296≤gu+1∨U*4294967296+u2<(gu+1)*(v1*4294967296+v2))) (fun gv _=>(intOf gv).toNat)
 case atStart=>exact ⟨U / v1,U % v1,rfl,rfl,hq0,hq1,hr0,by omega,by rw [Int.mul_comm];exact HQM.out,.inr (guess_start bv2.1 bu2.2 (by rw [Int.mul_comm];exact HQM.out.symm) hr1 hq0)⟩
 case round =>
  obtain ⟨gu,rs,rfl,rfl,hg0,hg1,hs0,hs1,hgs,hgb⟩:=hrel
  have HGS:=hide hgs
  have HGB:=hide hgb
  have hor2:=or_join rs u2 hs0 hs1 bu2.1 bu2.2
  clear hgs hgb t1 t2 t3 hor1
  by_cases hbig:4294967296≤gu
  ·have hne:(gu / 4294967296 != 0)=true:=by rw [bne_iff_ne];omega
   have HN:Hid ((gu - 1)*v1+(rs+v1)=U):=by have h9:=HGS.out;show _ = _;rw [Int.sub_mul];omega
   by_cases hbr:4294967296≤rs+v1
   ·have hne2:((rs+v1) / 4294967296 != 0)=true:=by rw [bne_iff_ne];omega
    have hgl:=guess_top htop hUm HGS.out hs0 hbr
    have HF:=hide (guess_break bv2 bu2.1 HN.out hbr (by omega) (by omega))
    go_wp2
    go_ret
    exact ⟨gu - 1,rfl,by omega,HF.out,.inl (by omega),HQ.out⟩
   ·have hne2:((rs+v1) / 4294967296 != 0)=false:=by rw [bne_eq_false_iff_eq];omega
    go_wp2
    go_round
    case rel=>exact ⟨gu - 1,rs+v1,rfl,rfl,by omega,by omega,by omega,by omega,HN.out,.inl (by omega)⟩
    case measure=>simp [intOf];omega
  ·have hne:(gu / 4294967296 != 0)=false:=by rw [bne_eq_false_iff_eq];omega
   have hmb:=mul_bound (show 0≤gu∧gu<4294967296 by omega) bv2
   by_cases hgt:rs*4294967296+u2<gu*v2
   ·have hd:decide (rs*4294967296+u2<gu*v2)=true:=decide_eq_true hgt
    have hgu1:1≤gu:=by
     apply Classical.byContradiction
     intro hn
     have h0:gu=0:=by omega
     rw [h0,Int.zero_mul] at hgt
     omega
    have HN:Hid ((gu - 1)*v1+(rs+v1)=U):=by have h9:=HGS.out;show _ = _;rw [Int.sub_mul];omega
    have HB2:=hide (guess_gt HGS.out hgt)
    by_cases hbr:4294967296≤rs+v1
    ·have hne2:((rs+v1) / 4294967296 != 0)=true:=by rw [bne_iff_ne];omega
     have HF:=hide (guess_break bv2 bu2.1 HN.out hbr (by omega) (by omega))
     go_wp2
     go_ret
     exact ⟨gu - 1,rfl,by omega,HF.out,.inr (by rw [Int.sub_add_cancel];exact HB2.out),HQ.out⟩
    ·have hne2:((rs+v1) / 4294967296 != 0)=false:=by rw [bne_eq_false_iff_eq];omega
     go_wp2
     go_round
     case rel=>exact ⟨gu - 1,rs+v1,rfl,rfl,by omega,by omega,by omega,by omega,HN.out,.inr (by rw [Int.sub_add_cancel];exact HB2.out)⟩
     case measure=>simp [intOf];omega
   ·have hd:decide (rs*4294967296+u2<gu*v2)=false:=decide_eq_false hgt
    have HF:=hide (guess_le HGS.out (show gu*v2≤rs*4294967296+u2 by omega))
    go_wp2
    go_ret
    exact ⟨gu,rfl,by omega,HF.out,HGB.out,HQ.out⟩
end Lm
end Go.Proofs.YtaofpigilgapgaaGreatDoor

namespace Go.Proofs.YtaofpigilgapgaaGreatDoor
namespace Lm
theorem val_top {zs:List Int} {n:Nat} (hl:zs.length=n+1):val zs=val (zs.take n)+pw n*zs.getD n 0:=by
 have e1:zs=zs.take n ++ [zs.getD n 0]:=by
  rw [←take_succ_getD zs n (by omega),List.take_of_length_le (by omega)]
 have e2:=val_append (zs.take n) [zs.getD n 0]
 rw [←e1,List.length_take,Nat.min_eq_left (by omega)] at e2
 rw [e2]
 simp [val]
theorem val_top2 {zs:List Int} {n:Nat} (hl:zs.length=n+2):val zs=val (zs.take n)+pw n*(zs.getD (n+1) 0*4294967296+zs.getD n 0):=by
 rw [val_top (n:=n+1) hl,val_top (zs:=zs.take (n+1)) (n:=n) (by rw [List.length_take];omega),List.take_take,Nat.min_eq_left (by omega)]
 have e:(zs.take (n+1)).getD n 0=zs.getD n 0:=by
  rw [List.getD_eq_getElem?_getD,List.getD_eq_getElem?_getD,List.getElem?_take,if_pos (by omega)]
 rw [e,pw,Int.mul_add,Int.mul_comm (zs.getD (n+1) 0) 4294967296,←Int.mul_assoc,Int.mul_comm (pw n) 4294967296]
 omega
theorem val_top3 {zs:List Int} {n:Nat} (hl:zs.length=n+3):val zs=val (zs.take n)+pw n*((zs.getD (n+2) 0*4294967296+zs.getD (n+1) 0)*4294967296+zs.getD n 0):=by
 rw [val_top (n:=n+2) hl,val_top2 (zs:=zs.take (n+2)) (n:=n) (by rw [List.length_take];omega),List.take_take,Nat.min_eq_left (by omega)]
 have e:∀ i,i<n+2→(zs.take (n+2)).getD i 0=zs.getD i 0:=by
  intro i hi
  rw [List.getD_eq_getElem?_getD,List.getD_eq_getElem?_getD,List.getElem?_take,if_pos hi]
 rw [e (n+1) (by omega),e n (by omega)]
 have e2:pw (n+2)=pw n*(4294967296*4294967296):=by
  simp only [pw]
  rw [Int.mul_comm (pw n),Int.mul_assoc]
 have e3:pw n*((zs.getD (n+2) 0*4294967296+zs.getD (n+1) 0)*4294967296+zs.getD n 0)=pw n*(4294967296*4294967296)*zs.getD (n+2) 0+pw n*(zs.getD (n+1) 0*4294967296+zs.getD n 0):=by
  rw [Int.mul_assoc,←Int.mul_add]
  congr 1
  omega
 rw [e2,e3]
 omega
theorem top_le {W Y:List Int} {n:Nat} (hW:Limb W) (hY:Limb Y) (h1:W.length=n+1) (h2:Y.length=n+1) (h:val W<val Y):W.getD n 0≤Y.getD n 0:=by
 apply Classical.byContradiction
 intro hn
 rw [val_top h1,val_top h2] at h
 have b1:=val_bounds (limb_take hW n)
 have b2:=val_bounds (limb_take hY n)
 rw [List.length_take,Nat.min_eq_left (by omega)] at b1 b2
 have hp:=pw_pos n
 have e:pw n*(Y.getD n 0+1)≤pw n*W.getD n 0:=Int.mul_le_mul_of_nonneg_left (by omega) (by omega)
 rw [Int.mul_add] at e
 omega
theorem guess_near {ps Y:List Int} {n:Nat} {g P U:Int} (hp:Limb ps) (hy:Limb Y) (h1:ps.length=n+3) (h2:Y.length=n+2) (hP:val ps=P) (hU:val Y=U) (htop:1≤Y.getD (n+1) 0) (hlt:P<4294967296*U) (hg:0≤g∧g<4294967296)
  (hA:g*(Y.getD (n+1) 0*4294967296+Y.getD n 0)≤(ps.getD (n+2) 0*4294967296+ps.getD (n+1) 0)*4294967296+ps.getD n 0)
  (hB:4294967296≤g+1∨(ps.getD (n+2) 0*4294967296+ps.getD (n+1) 0)*4294967296+ps.getD n 0<(g+1)*(Y.getD (n+1) 0*4294967296+Y.getD n 0)) :
  P<(g+1)*U∧(g - 1)*U≤P:=by
 have eP:=val_top3 h1
 have eU:=val_top2 h2
 have bP:=val_bounds (limb_take hp n)
 have bU:=val_bounds (limb_take hy n)
 rw [List.length_take,Nat.min_eq_left (by omega)] at bP bU
 rw [hP] at eP
 rw [hU] at eU
 have hv2:=(limb_getD hy n).1
 generalize (ps.getD (n+2) 0*4294967296+ps.getD (n+1) 0)*4294967296+ps.getD n 0=P3 at *
 have hU2:4294967296≤Y.getD (n+1) 0*4294967296+Y.getD n 0:=by omega
 generalize Y.getD (n+1) 0*4294967296+Y.getD n 0=U2 at *
 generalize val (ps.take n)=Pl at *
 generalize val (Y.take n)=Ul at *
 have hp1:=pw_pos n
 have hUp:4294967296*pw n≤pw n*U2:=by
  have:pw n*4294967296≤pw n*U2:=Int.mul_le_mul_of_nonneg_left hU2 (by omega)
  omega
 constructor
 ·rcases hB with hB | hB
  ·have:4294967296*U≤(g+1)*U:=Int.mul_le_mul_of_nonneg_right (by omega) (by omega)
   omega
  ·have e1:pw n*(P3+1)≤pw n*((g+1)*U2):=Int.mul_le_mul_of_nonneg_left (by omega) (by omega)
   have e2:(g+1)*U=(g+1)*Ul+pw n*((g+1)*U2):=by
    rw [eU,Int.mul_add,←Int.mul_assoc (g+1) (pw n),Int.mul_comm (g+1) (pw n),Int.mul_assoc]
   have e3:0≤(g+1)*Ul:=Int.mul_nonneg (by omega) bU.1
   rw [Int.mul_add] at e1
   omega
 ·have e1:pw n*(g*U2)≤pw n*P3:=Int.mul_le_mul_of_nonneg_left hA (by omega)
  have e2:g*U=g*Ul+pw n*(g*U2):=by
   rw [eU,Int.mul_add,←Int.mul_assoc g (pw n),Int.mul_comm g (pw n),Int.mul_assoc]
  have e3:g*Ul≤4294967295*Ul:=Int.mul_le_mul_of_nonneg_right (by omega) bU.1
  rw [Int.sub_mul]
  omega
theorem rest_near {P U g A b p A2 c:Int} (_hU:0<U) (_hp:U<p) (hlow:P<(g+1)*U) (hhigh:(g - 1)*U≤P) (hA:0≤A∧A<p) (_hb:0≤b∧b≤1) (h:A - p*b=P - g*U) :
  (b=0→0≤A∧A<U∧P=g*U+A)∧(b=1→0≤A2∧A2<p→0≤c∧c≤1→A2+p*c=A+U→0≤A2∧A2<U∧P=(g - 1)*U+A2):=by
 rw [Int.add_mul] at hlow
 rw [Int.sub_mul] at hhigh ⊢
 constructor
 ·intro hb0
  rw [hb0,Int.mul_zero] at h
  omega
 ·intro hb1 hA2 hc hs
  rw [hb1,Int.mul_one] at h
  have hc01:c=0∨c=1:=by omega
  rcases hc01 with hc0 | hc0
  ·rw [hc0,Int.mul_zero] at hs;omega
  ·rw [hc0,Int.mul_one] at hs;omega
theorem part_lt {W:List Int} {x U:Int} (hx:x<4294967296) (h:val W<U):val (x :: W)<4294967296*U:=by
 rw [val]
 omega
theorem long_step {lo W W' Q:List Int} {x q U T:Int} (hinv:val (lo ++ [x])+pw (lo.length+1)*val W+U*(pw (lo.length+1)*val Q)=T) (hp:val (x :: W)=q*U+val W') :
  val lo+pw lo.length*val W'+U*(pw lo.length*val (q :: Q))=T:=by
 rw [val_append] at hinv
 have e1:val [x]=x:=by simp [val]
 rw [e1] at hinv
 rw [val] at hp ⊢
 rw [pw] at hinv
 generalize pw lo.length=p at *
 have e2:p*(x+4294967296*val W)=p*(q*U+val W'):=by rw [hp]
 have e3:4294967296*p*val W=p*(4294967296*val W):=by rw [Int.mul_comm 4294967296 p,Int.mul_assoc]
 have e4:U*(p*(q+4294967296*val Q))=p*(q*U)+U*(4294967296*p*val Q):=by
  rw [Int.mul_add,Int.mul_add,Int.mul_comm 4294967296 p,Int.mul_assoc p 4294967296,←Int.mul_assoc U p q,Int.mul_comm U p,Int.mul_assoc p U q,Int.mul_comm U q]
 rw [Int.mul_add,Int.mul_add] at e2
 omega
theorem top_zero {W:List Int} {n:Nat} (hW:Limb W) (hl:W.length=n+1) (h:val W<pw n):val (W.take n)=val W∧W.getD n 0=0:=by
 have e:=val_top hl
 have b:=val_bounds (limb_take hW n)
 have h0:=(limb_getD hW n).1
 have hp:=pw_pos n
 have hz:W.getD n 0=0:=by
  apply Classical.byContradiction
  intro hn
  have:pw n*1≤pw n*W.getD n 0:=Int.mul_le_mul_of_nonneg_left (by omega) (by omega)
  omega
 rw [hz,Int.mul_zero] at e
 exact ⟨by omega,hz⟩
end Lm
end Go.Proofs.YtaofpigilgapgaaGreatDoor

namespace Go.Proofs.YtaofpigilgapgaaGreatDoor
namespace Lm
open Go.RowKit
structure Wr2 (w w' : World) (g h:Nat) (c d:Array Value) (e:TypeId):Prop where
 os:w'.os=w.os
 tape:w'.tape=w.tape
 output:w'.output=w.output
 size:w'.heap.size=w.heap.size
 here:w'.heap[g]? = some (.cells c e (0,0))
 there:w'.heap[h]? = some (.cells d e (0,0))
 other:∀ k,k≠g→k≠h→w'.heap[k]? = w.heap[k]?
theorem Wr2.left {w w' w'' : World} {g h:Nat} {c d c' : Array Value} {e:TypeId} (H:Wr2 w w' g h c d e) (hn:h≠g) (K:Wr w' w'' g c' e):Wr2 w w'' g h c' d e :=
 ⟨K.os.trans H.os,K.tape.trans H.tape,K.output.trans H.output,K.size.trans H.size,K.here,(K.other h hn).trans H.there,fun k h1 h2=>(K.other k h1).trans (H.other k h1 h2)⟩
theorem Wr2.right {w w' w'' : World} {g h:Nat} {c d d' : Array Value} {e:TypeId} (H:Wr2 w w' g h c d e) (hn:g≠h) (K:Wr w' w'' h d' e):Wr2 w w'' g h c d' e :=
 ⟨K.os.trans H.os,K.tape.trans H.tape,K.output.trans H.output,K.size.trans H.size,(K.other g hn).trans H.here,K.here,fun k h1 h2=>(K.other k h2).trans (H.other k h1 h2)⟩
theorem Wr2.drewN {w w' : World} {g h:Nat} {c d:Array Value} {e:TypeId} (H:Wr2 w w' g h c d e) (n:Nat):Wr2 w (w'.drewN n) g h c d e:=⟨H.os,H.tape,H.output,H.size,H.here,H.there,H.other⟩
theorem Wr2.below {w w' : World} {g h:Nat} {c d:Array Value} {e:TypeId} (H:Wr2 w w' g h c d e) {B:Nat} (h1:B≤g) (h2:B≤h):Below B w w' :=
 ⟨H.os,H.tape,H.output,by rw [H.size];exact Nat.le_refl _,fun k hk=>H.other k (by omega) (by omega)⟩
theorem sl_of_at {w:World} {g o n cap:Nat} {cur:Array Value} {zs:List Int} (hh:w.heap[g]? = some (.cells cur 103 (0,0))) (ha:At cur .u32 o zs) (hz:Limb zs) (hl:zs.length=n) (h1:n≤cap) (h2:cap≤maxLen):Sl w (.slice (some ⟨g,o,none⟩) n cap) zs :=
 ⟨_,cap,by rw [hl],by omega,h2,hz,.inr ⟨g,o,rfl,fun i hi=>ha.cell hh i hi⟩⟩
theorem At.take {cur:Array Value} {k:IntKind} {o:Nat} {zs:List Int} (h:At cur k o zs) (n:Nat):At cur k o (zs.take n):=by
 intro i hi
 rw [List.length_take] at hi
 rw [h i (by omega),List.getD_eq_getElem?_getD,List.getD_eq_getElem?_getD,List.getElem?_take,if_pos (by omega)]
structure Dv (w3 wr:World) (A q N m n:Nat) (U T:Int) (k:Nat) (lo W rest Q:List Int) (cur d:Array Value):Prop where
 two:Wr2 w3 wr A q cur d 103
 csz:cur.size=N+1
 dsz:d.size=m
 atc:At cur .u32 0 (lo ++ W ++ rest)
 atd:At d .u32 0 (List.replicate k 0 ++ Q)
 lol:lo.length=k
 wl:W.length=n+2
 ql:k+Q.length=m
 lil:Limb lo
 liW:Limb W
 liQ:Limb Q
 low:val W<U
 inv:val lo+pw k*val W+U*(pw k*val Q)=T
theorem split_last {lo:List Int} {k:Nat} (h:lo.length=k+1):∃ lo' x,lo=lo' ++ [x]∧lo'.length=k :=
 ⟨lo.take k,lo.getD k 0,by rw [←take_succ_getD lo k (by omega),List.take_of_length_le (by omega)],by rw [List.length_take];omega⟩
theorem Dv.mid {w3 wr:World} {A q N m n:Nat} {U T:Int} {k:Nat} {lo W rest Q:List Int} {x:Int} {cur d:Array Value} (D:Dv w3 wr A q N m n U T (k+1) (lo ++ [x]) W rest Q cur d) (hl:lo.length=k):At cur .u32 k (x :: W)∧Limb (x :: W):=by
 have h1:=D.atc
 rw [show lo ++ [x] ++ W ++ rest=lo ++ (x :: W) ++ rest by simp] at h1
 have h2:=at_mid h1
 rw [hl] at h2
 have h3:=D.lil
 rw [limb_append] at h3
 exact ⟨h2,limb_cons.2 ⟨(limb_cons.1 h3.2).1,D.liW⟩⟩
theorem set_zeros (k:Nat) (Q:List Int) (g:Int):(List.replicate (k+1) (0:Int) ++ Q).set k g=List.replicate k 0 ++ g :: Q:=by
 have h:=set_cons (List.replicate (k+1) (0:Int)) Q k g (by simp)
 rw [List.take_of_length_le (by simp),List.take_replicate,Nat.min_eq_left (by omega)] at h
 exact h
theorem Dv.step {w3 wr w5:World} {A q N m n:Nat} {U T:Int} {k:Nat} {lo W rest Q qs:List Int} {x g:Int} {cur d cur' : Array Value} (D:Dv w3 wr A q N m n U T (k+1) (lo ++ [x]) W rest Q cur d) (hl:lo.length=k) (hn:A≠q)
  (two:Wr2 w3 w5 A q cur' d 103) (hcs:cur'.size=cur.size) (hat:At cur' .u32 k qs) (hout:∀ i,i<k∨k+(n+2+1)≤i→cur'[i]? = cur[i]?) (hq:Limb qs) (hql:qs.length=n+2+1) (hU:U≤pw (n+2)) (hlt:val qs<U) (hv:val (x :: W)=g*U+val qs) (hg:0≤g∧g<4294967296) :
  Dv w3 (w5.setCell ⟨q,k,none⟩ (.int .u32 g)) A q N m n U T k lo (qs.take (n+2)) (qs.drop (n+2) ++ rest) (g :: Q) cur' (d.setIfInBounds k (.int .u32 g)):=by
 have htz:=top_zero hq hql (by omega)
 have h3:=D.lil
 rw [limb_append] at h3
 have hinv:=D.inv
 rw [←hl] at hinv
 have hat1:At cur .u32 0 (lo ++ (x :: W) ++ rest):=by
  have:=D.atc
  rwa [show lo ++ [x] ++ W ++ rest=lo ++ (x :: W) ++ rest by simp] at this
 have hat2:=at_window hat1 (by rw [hl];exact hat) (by have:=D.wl;simp;omega) (by
  have e:(x :: W).length=n+2+1:=by have:=D.wl;simp;omega
  rw [hl,e];exact hout)
 refine ⟨two.right hn ((Wr.refl two.there).set k _),by rw [hcs];exact D.csz,by simpa using D.dsz,?_,?_,hl,by rw [List.length_take];omega,by have:=D.ql;simp;omega,h3.1,limb_take hq _,limb_cons.2 ⟨hg,D.liQ⟩,by rw [htz.1];exact hlt,?_⟩
 ·rw [List.append_assoc,←List.append_assoc (qs.take (n+2)),List.take_append_drop,←List.append_assoc]
  exact hat2
 ·rw [←set_zeros]
  have:=D.atd.set k g
  rwa [Nat.zero_add] at this
 ·rw [htz.1]
  have:=long_step (W' := qs) (q:=g) hinv hv
  rwa [hl] at this
theorem long_start {O:List Int} {m n:Nat} {P:Int} (hO:Limb O) (hm:m≤O.length) (hv:val O<pw m*(pw (n+1)*P)):val (O.drop m)<pw (n+1)*P:=by
 have h1:=val_append (O.take m) (O.drop m)
 rw [List.take_append_drop,List.length_take,Nat.min_eq_left hm] at h1
 have h2:=(val_bounds (limb_take hO m)).1
 apply Classical.byContradiction
 intro hn
 have h3:pw m*(pw (n+1)*P)≤pw m*val (O.drop m):=Int.mul_le_mul_of_nonneg_left (by omega) (by have:=pw_pos m;omega)
 omega
theorem long_end {X Y Q W P:Int} (hP:0<P) (hY:0<Y) (h:W+Y*P*Q=X*P) (h0:0≤W) (h1:W<Y*P):X / Y=Q∧X % Y=W / P:=by
 have e1:W=(X - Q*Y)*P:=by
  have:Y*P*Q=Q*Y*P:=by rw [Int.mul_comm (Y*P),Int.mul_assoc]
  rw [Int.sub_mul]
  omega
 have e2:W / P=X - Q*Y:=by rw [e1];exact Int.mul_ediv_cancel _ (by omega)
 rw [e2]
 obtain ⟨R,hR⟩:∃ R,R=X - Q*Y:=⟨_,rfl⟩
 rw [←hR] at e1 ⊢
 have hR0:0≤R:=by
  apply Classical.byContradiction
  intro hn
  have:R*P≤-1*P:=Int.mul_le_mul_of_nonneg_right (by omega) (by omega)
  omega
 have hR1:R<Y:=by
  apply Classical.byContradiction
  intro hn
  have:Y*P≤R*P:=Int.mul_le_mul_of_nonneg_right (by omega) (by omega)
  omega
 exact div_of hY (by omega) hR0 hR1
theorem norm_val {v:Int} {n l s:Nat} (hb:IsBits v (32*(n+1)+l)) (hl:0<l) (hs:s+l=32):v*p2 s<pw (n+2)∧pw (n+1)*2147483648≤v*p2 s:=by
 have hp:=p2_pos s
 obtain ⟨h1,h2⟩:=hb
 have h3:p2 (32*(n+1)+l - 1)≤v:=by rcases h2 with h0 | h0 <;> omega
 constructor
 ·have:v*p2 s<p2 (32*(n+1)+l)*p2 s:=Int.mul_lt_mul_of_pos_right h1 (by omega)
  rw [←p2_add,show 32*(n+1)+l+s=32*(n+2) by omega,←pw_p2] at this
  exact this
 ·have:p2 (32*(n+1)+l - 1)*p2 s≤v*p2 s:=Int.mul_le_mul_of_nonneg_right h3 (by omega)
  rw [←p2_add,show 32*(n+1)+l - 1+s=32*(n+1)+31 by omega,p2_add,←pw_p2,show p2 31=2147483648 from by decide] at this
  exact this
theorem norm_top {Y:List Int} {n:Nat} (hY:Limb Y) (hl:Y.length=n+2) (h:pw (n+1)*2147483648≤val Y):2147483648≤Y.getD (n+1) 0:=by
 have e:=val_top (n:=n+1) hl
 have b:=val_bounds (limb_take hY (n+1))
 rw [List.length_take,Nat.min_eq_left (by omega)] at b
 apply Classical.byContradiction
 intro hn
 have:pw (n+1)*(Y.getD (n+1) 0+1)≤pw (n+1)*2147483648:=Int.mul_le_mul_of_nonneg_left (by omega) (by have:=pw_pos (n+1);omega)
 rw [Int.mul_add] at this
 omega
end Lm
end Go.Proofs.YtaofpigilgapgaaGreatDoor

namespace Go.Proofs.YtaofpigilgapgaaGreatDoor
namespace Lm
open Go.RowKit
set_option maxRecDepth 20000 in
set_option maxHeartbeats 2000000 in
theorem divideLong_any (w:World) (a1 a2:Option Addr) (n1 n2 c1 c2:Nat) (xs ys:List Int) (hx:Sl w (.slice a1 n1 c1) xs) (hy:Sl w (.slice a2 n2 c2) ys) (hm1:xs.length≤500000) (h2:2≤ys.length) (hle:ys.length≤xs.length) (hcan:Canon ys) :
  Calls Tryz.prog 201 #[.slice a1 n1 c1,.slice a2 n2 c2] w fun e w'=>∃ v1 v2,e=.returned (.tuple #[v1,v2])∧Is w.heap.size w' v1 (val xs / val ys)∧Is w.heap.size w' v2 (val xs % val ys)∧Sep v1 v2∧Below w.heap.size w w' := by
 obtain ⟨rfl,x1,x2,x3⟩:=hx.parts
 obtain ⟨hyl,y1,y2,y3⟩:=hy.parts
 obtain ⟨n,hn⟩:∃ n,ys.length=n+2:=⟨ys.length - 2,by omega⟩
 have e2:n2=n+2:=by omega
 subst e2
 obtain ⟨b,off,rfl,hc⟩:=hy.cells (by omega)
 have hcell:=hc (n+1) (by omega)
 have hlb:=limb_getD y3 (n+1)
 have hpos:0<ys.getD (n+1) 0:=by
  have:ys.getD (n+1) 0≠0:=fun h0=>by
   have:=tl_le_of_zero (zs:=ys) (n:=n+1) (by have:=tl_le ys;omega) h0
   have:=hcan.2
   omega
  omega
 have hbits:=bitLen_bits (ys.getD (n+1) 0).toNat (by omega)
 rw [Int.toNat_of_nonneg hlb.1] at hbits
 have hl32:Lib.bitLen (ys.getD (n+1) 0).toNat≤32:=Lib.bitLen_le _ 32 (by omega) (by omega)
 have hl0:=isBits_pos hbits hpos
 obtain ⟨s,hs⟩:∃ s:Nat,s+Lib.bitLen (ys.getD (n+1) 0).toNat=32:=⟨32 - Lib.bitLen (ys.getD (n+1) 0).toNat,by omega⟩
 have NV:=hide (norm_val (bits_top hcan hn hbits hpos) hl0 hs)
 have kl:Hid (∀ w:World,Calls Tryz.prog 208 #[.int .u32 (ys.getD (n+1) 0)] w fun e w'=>e=.returned (.int .i64 (s:Nat))∧w' = w):=by
  intro w
  have h9:=lead_any (ys.getD (n+1) 0) w hlb.1 hlb.2
  rwa [show (32 - ((Lib.bitLen (ys.getD (n+1) 0).toNat:Nat):Int))=(s:Nat) by omega] at h9
 have hs31:s≤31:=by omega
 have YL:=hide (show pw (n+1)≤val ys by
  have h9:=canon_low hcan (by intro e;subst e;simp at h2)
  rwa [hn] at h9)
 have HN:=hide hn
 have X3:=hide x3
 have hxn:n+2≤xs.length:=by omega
 obtain ⟨m,hm2,hm3⟩:∃ m,m+n+1≤xs.length∧xs.length≤m+n+1:=⟨xs.length - (n+1),by omega,by omega⟩
 generalize ys.getD (n+1) 0=top at hcell hlb hpos kl
 obtain ⟨i0,hi,hz0,hz1,hz2⟩:=info_parts info32
 clear hs hl0 hl32 hbits hc y3 hyl hcan h2 hle hn x3
 go_enter Tryz.func201,Tryz.ntmps201
 go_wp2_with fail
 refine (kl.out _).mono ?_
 rintro e w' ⟨rfl,rfl⟩
 go_wp2_with fail
 refine (moveUp_any _ _ _ _ xs hx s hs31 (by omega)).mono ?_
 rintro e w1 ⟨cur0,O,rfl,hO,hOl,hOv,hOh,hOs,hOa,hb1⟩
 have hy1:=hy.below hb1
 have O1:=hide hO
 have O2:=hide hOl
 have O3:=hide hOv
 have O4:=hide hOh
 have O5:=hide hOs
 have O6:=hide hOa
 clear hO hOl hOv hOh hOs hOa
 go_wp2_with fail
 refine (moveUp_any _ _ _ _ ys hy1 s hs31 (by have:=HN.out;omega)).mono ?_
 rintro e w2 ⟨curY,Y1,rfl,hY,hYl,hYv,hYh,hYs,hYa,hb2⟩
 have Q1:=hide hY
 have Q2:=hide hYl
 have Q3:=hide hYv
 have Q4:=hide hYh
 have Q5:=hide hYs
 have Q6:=hide hYa
 clear hY hYl hYv hYh hYs hYa
 go_wp2_with (refine wpList_make_full _ rfl (.tmp 34) (.tmp 34) 38 rfl w2.heap.size 103 i0 (.int .u32 0) 1 Tryz.underlying38 hi hz0 hz1 .i64 .i64 _ _ m rfl rfl (by omega) (by omega) (by rw [hz2];omega) (by unfold maxLen;omega) (Nat.le_refl _) ?hK)
 case hK =>
  intro w3 hown hgrow
  obtain ⟨_,d0,hh,hds,hat⟩:=block_of_made hown
  have hb3:Below w2.heap.size w2 w3:=(Below.refl w2.heap.size w2).grown hgrow (Nat.le_refl _) (by simp)
  have s1:=lt_of_heap O4.out
  have s2:=lt_of_heap Q4.out
  have s3:=lt_of_heap hh
  have hU:Hid (val (Y1.take (n+2))=val ys*p2 s∧(Y1.take (n+2)).length=n+2∧Limb (Y1.take (n+2))∧At curY .u32 0 (Y1.take (n+2))):=by
   have h9:=top_zero Q1.out Q2.out (by rw [Q3.out];exact NV.out.1)
   exact ⟨by rw [h9.1,Q3.out],by rw [List.length_take,Q2.out];omega,limb_take Q1.out _,Q6.out.take _⟩
  generalize Y1.take (n+2)=Y at hU
  have htop:Hid (2147483648≤Y.getD (n+1) 0):=norm_top hU.out.2.2.1 hU.out.2.1 (by rw [hU.out.1];exact NV.out.2)
  have U3:Hid (w3.heap[w1.heap.size]? = some (.cells curY 103 (0,0))):=(hb3.block _ s2).trans Q4.out
  have hne:w'.heap.size≠w2.heap.size:=by omega
  have hne2:w1.heap.size≠w2.heap.size:=by omega
  have hne3:w1.heap.size≠w'.heap.size:=by omega
  have hstart:Hid (Dv w3 w3 w'.heap.size w2.heap.size xs.length m n (val ys*p2 s) (val xs*p2 s) m (O.take m) (O.drop m) [] [] cur0 d0):=by
   have hp:=p2_pos s
   have e9:w3.heap[w'.heap.size]? = some (.cells cur0 103 (0,0)):=(hb3.block _ (by omega)).trans ((hb2.block _ s1).trans O4.out)
   refine ⟨⟨rfl,rfl,rfl,rfl,e9,hh,fun _ _ _=>rfl⟩,O5.out,hds,?_,?_,?_,?_,by simp,limb_take O1.out _,limb_drop O1.out _,limb_nil,?_,?_⟩
   ·rw [List.take_append_drop,List.append_nil];exact O6.out
   ·rw [List.append_nil];exact hat
   ·have:=O2.out;rw [List.length_take];omega
   ·have:=O2.out;rw [List.length_drop];omega
   ·have h8:val xs*p2 s<pw xs.length*p2 s:=Int.mul_lt_mul_of_pos_right (val_bounds X3.out).2 (by omega)
    rw [show xs.length=m+(n+1) by omega,pw_add,Int.mul_assoc] at h8
    have h9:=long_start (m:=m) (n:=n) (P:=p2 s) O1.out (by have:=O2.out;omega) (by rw [O3.out];exact h8)
    have h10:pw (n+1)*p2 s≤val ys*p2 s:=Int.mul_le_mul_of_nonneg_right YL.out (by omega)
    omega
   ·have h9:=val_append (O.take m) (O.drop m)
    rw [List.take_append_drop,List.length_take,Nat.min_eq_left (by have:=O2.out;omega),O3.out] at h9
    rw [h9]
    simp [val]
  clear hown hgrow hh hds hat
  go_wp2
  go_loopw [10] (fun i wr=>∃ (k:Nat) (lo W rest Q:List Int) (cur d:Array Value),k≤m∧i=.int .i64 ((k:Int) - 1)∧Dv w3 wr w'.heap.size w2.heap.size xs.length m n (val ys*p2 s) (val xs*p2 s) k lo W rest Q cur d) (fun i _=>(intOf i+1).toNat)
  case atStart=>exact ⟨m,_,_,_,_,_,_,Nat.le_refl _,by first | rfl | (congr 1;omega),hstart.out⟩
  case round =>
   obtain ⟨k,lo,W,rest,Q,cur,d,hk,rfl,hD⟩:=hrel
   have D:=hide hD
   clear hD
   cases k with
   | zero =>
    have hlo:lo = []:=List.eq_nil_of_length_eq_zero D.out.lol
    subst hlo
    have hatQ:At d .u32 0 Q:=by simpa using D.out.atd
    have hatW:At cur .u32 0 W:=at_mid (A:=[]) D.out.atc
    have hQm:Q.length=m:=by have:=D.out.ql;omega
    have hp:=p2_pos s
    have hend:val xs / val ys=val Q∧val xs % val ys=val W / p2 s:=by
     have h9:=D.out.inv
     simp only [val,pw,Int.one_mul,Int.zero_add] at h9
     have h8:=pw_pos (n+1)
     exact long_end (by omega) (by have:=YL.out;omega) h9 (val_bounds D.out.liW).1 D.out.low
    have hbel:Below w'.heap.size w' wr:=hb1.trans ((hb2.mono hb1.size).trans ((hb3.mono (by omega)).trans (D.out.two.below (by omega) (by omega))))
    have how:Ow w'.heap.size wr (.slice (some ⟨w2.heap.size,0,none⟩) m m) Q :=
     ⟨_,m,by rw [hQm],by omega,by unfold maxLen;omega,D.out.liQ,.inr ⟨_,0,_,rfl,by omega,D.out.two.there,by rw [D.out.dsz];omega,hatQ⟩⟩
    have his:=hide (how.is_cut (x:=val xs / val ys) hend.1.symm)
    have hWs:Sl wr (.slice (some ⟨w'.heap.size,0,none⟩) (n+2) (xs.length+1)) W:=sl_of_at D.out.two.here hatW D.out.liW D.out.wl (by omega) (by unfold maxLen;omega)
    have HE:=hide hend.2
    have hWl:W.length≤1000000:=by have:=D.out.wl;omega
    have ht:=tl_le Q
    have htm:tl Q≤m:=by omega
    have HO:=hide how
    clear hend hatQ hatW hQm how ht
    go_wp2
    go_region_with (first
     | (go_at_call 136;refine (cut_any _ _ _ _ Q (HO.out.sl.below (by repeat (first | exact Below.refl _ _ | refine Below.drew ?_)))).mono ?_;rintro e wc ⟨rfl,rfl⟩)
     | (go_at_call 213;refine (moveDown_any _ _ _ _ W (hWs.below (by repeat (first | exact Below.refl _ _ | refine Below.drew ?_))) s hs31 hWl).mono ?_;rintro e wd ⟨vd,rfl,hi,hbd⟩))
    all_goals
     have hbd' := (show Below wr.heap.size wr _ by repeat (first | exact Below.refl _ _ | refine Below.drew ?_)).trans hbd
     have his' := his.out.below hbd'
     have hi' := hi.mono (B' := wr.heap.size) (by first | exact Nat.le_refl _ | simp)
     clear hbd hi
     go_wp2
     go_ret2
     obtain ⟨q1,q2,q3,q4⟩:=his.out
     obtain ⟨s1,s2,s3,s4⟩:=hi'
     exact ⟨_,_,rfl,his',⟨s1,s2.mono hbel.size,s3,by rw [s4,HE.out]⟩,sep_of q2 s2 (Nat.le_refl _),hbel.trans (hbd'.mono hbel.size)⟩
   | succ k =>
    obtain ⟨lo',x,hlo,hll⟩:=split_last D.out.lol
    subst hlo
    have LL:=hide hll
    have MD:=hide (D.out.mid hll)
    clear hll
    have hxW:(x :: W).length=n+2+1:=by have:=D.out.wl;simp;omega
    have hPU:val (x :: W)<4294967296*(val ys*p2 s):=part_lt ((limb_cons.1 MD.out.2).1.2) D.out.low
    have e0:k+(n+2)+1 - k=n+2+1:=by omega
    have hYsl:∀ wq cq,Wr wr wq w'.heap.size cq 103→Sl wq (.slice (some ⟨w1.heap.size,0,none⟩) (n+2) (n+2+1)) Y:=by
     intro wq cq hq
     refine sl_of_at (cur:=curY) ?_ hU.out.2.2.2 hU.out.2.2.1 hU.out.2.1 (by omega) (by unfold maxLen;omega)
     rw [hq.other _ hne3,D.out.two.other _ hne3 hne2]
     exact U3.out
    have hup:(x :: W).getD (n+2) 0≤Y.getD (n+1) 0:=by
     have h9:=top_le (n:=n+1) D.out.liW hU.out.2.2.1 D.out.wl hU.out.2.1 (by rw [hU.out.1];exact D.out.low)
     simpa using h9
    have kg:Hid (Calls Tryz.prog 210 #[.slice (some ⟨w'.heap.size,k,none⟩) (k+(n+2)+1 - k) (xs.length+1 - k),.slice (some ⟨w1.heap.size,0,none⟩) (n+2) (n+2+1)] wr fun e wz=>∃ g:Int,e=.returned (.int .u32 g)∧(0≤g∧g<4294967296)∧(val (x :: W)<(g+1)*(val ys*p2 s)∧(g - 1)*(val ys*p2 s)≤val (x :: W))∧∃ q,wz=wr.drewN q):=by
     rw [e0]
     refine (guess_any wr _ _ n _ _ (x :: W) Y (sl_of_at D.out.two.here MD.out.1 MD.out.2 hxW (by omega) (by unfold maxLen;omega)) (hYsl _ _ (Wr.refl D.out.two.here)) htop.out hup).mono ?_
     rintro e wq ⟨g,rfl,hg,hA,hB,hq⟩
     exact ⟨g,rfl,hg,guess_near MD.out.2 hU.out.2.2.1 hxW hU.out.2.1 rfl hU.out.1 (by have:=htop.out;omega) hPU hg hA hB,hq⟩
    have kt:Hid (∀ q g,0≤g∧g<4294967296→Calls Tryz.prog 211 #[.slice (some ⟨w'.heap.size,k,none⟩) (k+(n+2)+1 - k) (xs.length+1 - k),.slice (some ⟨w1.heap.size,0,none⟩) (n+2) (n+2+1),.int .u32 g] (wr.drewN q) fun e wz=>∃ qs b cur',e=.returned (.bool (b != 0))∧(0≤b∧b≤1)∧val qs - pw (n+2+1)*b=val (x :: W) - g*val Y∧Limb qs∧qs.length=n+2+1∧Wr (wr.drewN q) wz w'.heap.size cur' 103∧cur'.size=cur.size∧At cur' .u32 k qs∧(∀ i,i<k∨k+(n+2+1)≤i→cur'[i]? = cur[i]?)):=by
     intro q g hg
     rw [e0]
     exact takeTimes_any (wr.drewN q) _ k (n+2) _ _ cur (x :: W) Y _ g hg (D.out.two.drewN q).here MD.out.1 MD.out.2 hxW (by omega) (fun wq cq hq=>hYsl wq cq ⟨hq.os,hq.tape,hq.output,hq.size,hq.here,hq.other⟩)
    have kb:Hid (∀ (wq:World) (cq:Array Value) (ps:List Int),Wr wr wq w'.heap.size cq 103→At cq .u32 k ps→Limb ps→ps.length=n+2+1→Calls Tryz.prog 212 #[.slice (some ⟨w'.heap.size,k,none⟩) (k+(n+2)+1 - k) (xs.length+1 - k),.slice (some ⟨w1.heap.size,0,none⟩) (n+2) (n+2+1)] wq fun e wz=>∃ qs c cur',e=.returned (.tuple #[])∧(0≤c∧c≤1)∧val qs+pw (n+2+1)*c=val ps+val Y∧Limb qs∧qs.length=n+2+1∧Wr wq wz w'.heap.size cur' 103∧cur'.size=cq.size∧At cur' .u32 k qs∧(∀ i,i<k∨k+(n+2+1)≤i→cur'[i]? = cq[i]?)):=by
     intro wq cq ps hq ha hp hl
     rw [e0]
     exact addBack_any wq _ k (n+2) _ _ cq ps Y _ hq.here ha hp hl (by omega) (fun wz cz hz=>hYsl wz cz (hq.trans hz))
    clear hxW hPU e0 hYsl hup
    go_wp2_with fail
    refine (kg.out).mono ?_
    rintro e w4 ⟨g,rfl,hg,hnear,q1,rfl⟩
    have NR:=hide hnear
    clear hnear
    go_wp2_with fail
    refine (kt.out q1 g hg).mono ?_
    rintro e w5 ⟨qs,bo,cur',rfl,hbo,hv,hq,hql,hwr,hcs,hat,hout⟩
    have V1:=hide hv
    have V2:=hide hq
    have V3:=hide hql
    have V4:=hide hwr
    have V5:=hide hcs
    have V6:=hide hat
    have V7:=hide hout
    clear hv hq hql hwr hcs hat hout
    have hqb:Hid (0≤val qs∧val qs<pw (n+2+1)):=by
     have h9:=val_bounds V2.out
     rwa [V3.out] at h9
    have hU0:Hid (0<val ys*p2 s∧val ys*p2 s<pw (n+2+1)∧val ys*p2 s≤pw (n+2)):=by
     have h9:=NV.out
     have h8:=pw_mono (m:=n+2) (n:=n+2+1) (by omega)
     have h7:=pw_pos (n+1)
     exact ⟨by omega,by omega,by omega⟩
    have V8:Hid (val qs - pw (n+2+1)*bo=val (x :: W) - g*(val ys*p2 s)):=by rw [←hU.out.1];exact V1.out
    by_cases hb0:bo=0
    ·have two:=hide ((D.out.two.drewN q1).left hne.symm V4.out)
     have near:=(rest_near (A2:=0) (c:=0) hU0.out.1 hU0.out.2.1 NR.out.1 NR.out.2 hqb.out hbo V8.out).1 hb0
     have ST:=hide (D.out.step LL.out hne two.out V5.out V6.out V7.out V2.out V3.out hU0.out.2.2 near.2.1 near.2.2 hg)
     have hcq:=D.out.atd.cell two.out.there k (by have:=D.out.ql;simp;omega)
     rw [Nat.zero_add] at hcq
     generalize (List.replicate (k+1) (0:Int) ++ Q).getD k 0=old at hcq
     have hfree:=(Wr.refl two.out.there).free k
     clear near
     subst hb0
     go_wp2
     go_roundw
     case rel=>exact ⟨k,_,_,_,_,_,_,by omega,by first | rfl | go_num,ST.out⟩
     case measure=>simp [intOf]
    ·have hb1' : bo=1:=by omega
     subst hb1'
     have hg1:1≤g:=by
      apply Classical.byContradiction
      intro hn
      have h9:=V8.out
      have h8:=hqb.out
      have h7:=(val_bounds MD.out.2).1
      rw [show g=0 by omega,Int.zero_mul,Int.mul_one] at h9
      omega
     have KB:=hide (kb.out w5 cur' qs ⟨V4.out.os,V4.out.tape,V4.out.output,V4.out.size,V4.out.here,V4.out.other⟩ V6.out V2.out V3.out)
     go_wp2_with fail
     refine (KB.out).mono ?_
     rintro e w6 ⟨q2,c,cur2,rfl,hc,hv,hq,hql,hwr,hcs,hat,hout⟩
     have hq2:0≤val q2∧val q2<pw (n+2+1):=by
      have h9:=val_bounds hq
      rwa [hql] at h9
     have two:=hide (((D.out.two.drewN q1).left hne.symm V4.out).left hne.symm hwr)
     have near:=(rest_near (A2:=val q2) (c:=c) hU0.out.1 hU0.out.2.1 NR.out.1 NR.out.2 hqb.out hbo V8.out).2 rfl hq2 hc (by rw [←hU.out.1];exact hv)
     have ST:=hide (D.out.step LL.out hne two.out (hcs.trans V5.out) hat (fun i hi=>(hout i hi).trans (V7.out i hi)) hq hql hU0.out.2.2 near.2.1 near.2.2 (by omega))
     have hcq:=D.out.atd.cell two.out.there k (by have:=D.out.ql;simp;omega)
     rw [Nat.zero_add] at hcq
     generalize (List.replicate (k+1) (0:Int) ++ Q).getD k 0=old at hcq
     have hfree:=(Wr.refl two.out.there).free k
     clear near hq2 hv hq hql hwr hcs hat hout
     go_wp2
     go_roundw
     case rel=>exact ⟨k,_,_,_,_,_,_,by omega,by first | rfl | go_num,ST.out⟩
     case measure=>simp [intOf]
end Lm
end Go.Proofs.YtaofpigilgapgaaGreatDoor

namespace Go.Proofs.YtaofpigilgapgaaGreatDoor
namespace Lm
open Go.RowKit
set_option maxRecDepth 20000 in
set_option maxHeartbeats 1000000 in
theorem divmod_long (w:World) (a1 a2:Option Addr) (n1 n2 c1 c2:Nat) (xs ys:List Int) (hx:Sl w (.slice a1 n1 c1) xs) (hy:Sl w (.slice a2 n2 c2) ys) (hm1:xs.length≤500000) (hle:tl ys≤tl xs) (h2:2≤tl ys) :
  Calls Tryz.prog 174 #[.slice a1 n1 c1,.slice a2 n2 c2] w fun e w'=>∃ v1 v2,e=.returned (.tuple #[v1,v2,.bool true])∧Is w.heap.size w' v1 (val xs / val ys)∧Is w.heap.size w' v2 (val xs % val ys)∧Sep v1 v2∧Below w.heap.size w w' := by
 obtain ⟨rfl,h1,_,h3⟩:=hx.parts
 obtain ⟨rfl,g1,_,g3⟩:=hy.parts
 have t1:=tl_le xs
 have t2:=tl_le ys
 have kd:=divideLong_any w a1 a2 (tl xs) (tl ys) c1 c2 _ _ hx.cut hy.cut (by rw [List.length_take];omega) (by rw [List.length_take];omega) (by rw [List.length_take,List.length_take];omega) (canon_trim g3)
 rw [val_take_tl,val_take_tl] at kd
 have KD:=hide kd
 clear kd h3 g3
 have hne:(((tl ys:Nat):Int) == 0)=false:=by simp;omega
 have hne1:(((tl ys:Nat):Int) == 1)=false:=by simp;omega
 go_enter Tryz.func174,Tryz.ntmps174
 go_wp2_with fail
 refine (cut_any w a1 _ c1 xs hx).mono ?_
 rintro e w' ⟨rfl,rfl⟩
 go_wp2_with fail
 refine (cut_any _ a2 _ c2 ys hy).mono ?_
 rintro e w' ⟨rfl,rfl⟩
 go_wp2_with fail
 refine (KD.out).mono ?_
 rintro e w1 ⟨v1,v2,rfl,hi1,hi2,hsep,hb⟩
 go_wp2
 go_ret3
 exact ⟨_,_,rfl,hi1,hi2,hsep,hb⟩
theorem divmod_any (w:World) (a1 a2:Option Addr) (n1 n2 c1 c2:Nat) (xs ys:List Int) (hx:Sl w (.slice a1 n1 c1) xs) (hy:Sl w (.slice a2 n2 c2) ys) (hm1:xs.length≤500000) (h0:val ys≠0) :
  Calls Tryz.prog 174 #[.slice a1 n1 c1,.slice a2 n2 c2] w fun e w'=>∃ v1 v2,e=.returned (.tuple #[v1,v2,.bool true])∧Is w.heap.size w' v1 (val xs / val ys)∧Is w.heap.size w' v2 (val xs % val ys)∧Sep v1 v2∧Below w.heap.size w w' := by
 have hz:0<tl ys:=by
  apply Classical.byContradiction
  intro hn
  exact h0 (tl_zero (by omega))
 by_cases h1:tl xs<tl ys
 ·exact divmod_less w a1 a2 n1 n2 c1 c2 xs ys hx hy (by omega) h1
 ·by_cases h2:tl ys=1
  ·exact divmod_short w a1 a2 n1 n2 c1 c2 xs ys hx hy (by omega) (by omega) h2
  ·exact divmod_long w a1 a2 n1 n2 c1 c2 xs ys hx hy hm1 (by omega) (by omega)
theorem divmod_none (w:World) (a1 a2:Option Addr) (n1 n2 c1 c2:Nat) (xs ys:List Int) (hx:Sl w (.slice a1 n1 c1) xs) (hy:Sl w (.slice a2 n2 c2) ys) (h0:val ys=0) :
  Calls Tryz.prog 174 #[.slice a1 n1 c1,.slice a2 n2 c2] w fun e w'=>e=.returned (.tuple #[.slice none 0 0,.slice none 0 0,.bool false])∧Below w.heap.size w w' := by
 refine divmod_zero w a1 a2 n1 n2 c1 c2 xs ys hx hy ?_
 apply Classical.byContradiction
 intro hn
 have:=val_pos_tl hy.parts.2.2.2 (by omega)
 omega
theorem divmod_g (w:World) (a1 a2:Option Addr) (n1 n2 c1 c2:Nat) (xs ys:List Int) (hx:Sl w (.slice a1 n1 c1) xs) (hy:Sl w (.slice a2 n2 c2) ys) (hm1:xs.length≤500000) (h0:val ys≠0) :
  Calls Tryz.prog 174 #[.slice a1 n1 c1,.slice a2 n2 c2] w fun e w'=>∃ ao cap rs bo dap ss,e=.returned (.tuple #[.slice ao rs.length cap,.slice bo ss.length dap,.bool true])∧Got w' ao cap rs (val xs / val ys)∧Got w' bo dap ss (val xs % val ys)∧rs.length≤xs.length∧ss.length≤ys.length∧Below w.heap.size w w' := by
 refine (divmod_any w a1 a2 n1 n2 c1 c2 xs ys hx hy hm1 h0).mono ?_
 rintro e w' ⟨v1,v2,rfl,hi1,hi2,_,hb⟩
 obtain ⟨ao,cap,rs,rfl,hg1⟩:=hi1.got
 obtain ⟨bo,dap,ss,rfl,hg2⟩:=hi2.got
 have bx:=val_bounds hx.parts.2.2.2
 have by' := val_bounds hy.parts.2.2.2
 refine ⟨ao,cap,rs,bo,dap,ss,rfl,hg1,hg2,le_len hx.parts.2.2.2 hg1.canon ?_,le_len hy.parts.2.2.2 hg2.canon ?_,hb⟩
 ·rw [hg1.val]
  exact Int.ediv_le_self _ bx.1
 ·rw [hg2.val]
  have:=Int.emod_lt_of_pos (val xs) (show 0<val ys by omega)
  omega
end Lm
end Go.Proofs.YtaofpigilgapgaaGreatDoor

namespace Go.Proofs.YtaofpigilgapgaaGreatDoor
namespace Lm
open Go.RowKit
theorem boxed4 (w:World) (nx:Bool) (vx:Value) (ny:Bool) (vy:Value):∃ w0:World,(((w.alloc (.cells #[.bool nx,vx] 66)).alloc (.cells #[.bool ny,vy] 66)).alloc (.cells #[.bool false,.slice none 0 0] 66)).alloc (.cells #[.bool false,.slice none 0 0] 66)=w0∧Box w0 w.heap.size nx vx∧Box w0 (w.heap.size+1) ny vy∧Box w0 (w.heap.size+1+1) false (.slice none 0 0)∧Box w0 (w.heap.size+1+1+1) false (.slice none 0 0)∧Below w.heap.size w w0∧w0.heap.size=w.heap.size+4:=by
 obtain ⟨w2,e2,b1,b2,b3,hb,hs⟩:=boxed3 w nx vx ny vy
 have h2:=boxed w2 false (.slice none 0 0)
 rw [e2]
 refine ⟨_,rfl,b1.below h2.2.1,b2.below h2.2.1,b3.below h2.2.1,?_,hb.trans (h2.2.1.mono (by omega)),by rw [h2.2.2,hs]⟩
 have h3:=h2.1
 rw [hs] at h3
 exact h3
theorem ediv_sg (ny:Bool) (X Y:Int):X / sg ny Y=sg ny (X / Y)∧X % sg ny Y=X % Y:=by
 cases ny <;> simp [sg,Int.ediv_neg,Int.emod_neg]
theorem euclid_neg {X Y:Int} (hY:0<Y):(X % Y=0→-X / Y = -(X / Y)∧-X % Y=0)∧(X % Y≠0→-X / Y = -(X / Y+1)∧-X % Y=Y - X % Y):=by
 have h1:=Int.mul_ediv_add_emod X Y
 have h2:=Int.emod_nonneg X (show Y≠0 by omega)
 have h3:=Int.emod_lt_of_pos X hY
 constructor
 ·intro h0
  refine div_of hY ?_ (Int.le_refl 0) hY
  rw [Int.neg_mul,Int.mul_comm (X / Y)]
  omega
 ·intro h0
  refine div_of hY ?_ (by omega) (by omega)
  rw [Int.neg_mul,Int.add_mul,Int.mul_comm (X / Y)]
  omega
theorem Box.other {w:World} {g h:Nat} {ng:Bool} {v:Value} (H:Box w g ng v) (hn:g≠h) (b u:Value):Box ((w.setCell ⟨h,0,none⟩ b).setCell ⟨h,1,none⟩ u) g ng v :=
 (heap_setCell_other _ ⟨h,1,none⟩ g u hn).trans ((heap_setCell_other w ⟨h,0,none⟩ g b hn).trans H)
theorem box_two {w:World} {g h:Nat} {n1 n2 nq nr:Bool} {v1 v2 vq vr:Value} (H1:Box w g n1 v1) (H2:Box w h n2 v2) (hn:g≠h):Box ((((w.setCell ⟨g,0,none⟩ (.bool nq)).setCell ⟨g,1,none⟩ vq).setCell ⟨h,0,none⟩ (.bool nr)).setCell ⟨h,1,none⟩ vr) g nq vq∧Box ((((w.setCell ⟨g,0,none⟩ (.bool nq)).setCell ⟨g,1,none⟩ vq).setCell ⟨h,0,none⟩ (.bool nr)).setCell ⟨h,1,none⟩ vr) h nr vr :=
 ⟨(H1.set nq vq).other hn _ _,(H2.other (Ne.symm hn) _ _).set nr vr⟩
theorem wdiv_pos (ny:Bool) (X Y:Int):sg (false != ny) (X / Y)=sg false X / sg ny Y∧sg false (X % Y)=sg false X % sg ny Y:=by
 have h:=ediv_sg ny (sg false X) Y
 rw [h.1,h.2]
 cases ny <;> simp [sg]
theorem wdiv_even (nx ny:Bool) {X Y:Int} (hY:0<Y) (h0:X % Y=0):sg (nx != ny) (X / Y)=sg nx X / sg ny Y∧sg false (X % Y)=sg nx X % sg ny Y:=by
 cases nx with
 | false=>exact wdiv_pos ny X Y
 | true =>
  have h:=ediv_sg ny (sg true X) Y
  have h2:=(euclid_neg (X:=X) hY).1 h0
  rw [h.1,h.2,h0]
  cases ny <;> simp [sg,h2]
theorem wdiv_odd (ny:Bool) {X Y:Int} (hY:0<Y) (h0:X % Y≠0):sg (true != ny) (X / Y+1)=sg true X / sg ny Y∧sg false (Y - X % Y)=sg true X % sg ny Y:=by
 have h:=ediv_sg ny (sg true X) Y
 have h2:=(euclid_neg (X:=X) hY).2 h0
 rw [h.1,h.2]
 cases ny <;> simp [sg,h2]
set_option maxRecDepth 20000 in
set_option maxHeartbeats 1000000 in
theorem wdivmod_none (w:World) (nx:Bool) (a1:Option Addr) (n1 c1:Nat) (xs:List Int) (hx:Sl w (.slice a1 n1 c1) xs) (ny:Bool) (a2:Option Addr) (n2 c2:Nat) (ys:List Int) (hy:Sl w (.slice a2 n2 c2) ys) (h0:val ys=0) :
  Calls Tryz.prog 143 #[.agg #[.bool nx,.slice a1 n1 c1],.agg #[.bool ny,.slice a2 n2 c2]] w fun e w'=>e=.returned (.tuple #[.agg #[.bool false,.slice none 0 0],.agg #[.bool false,.slice none 0 0],.bool false])∧Below w.heap.size w w' := by
 obtain ⟨w0,e0,bx,by',bq,br,hb0,hs0⟩:=boxed4 w nx (.slice a1 n1 c1) ny (.slice a2 n2 c2)
 have E0:=hide e0
 have hx0:=hx.below hb0
 have hy0:=hy.below hb0
 clear e0 hs0
 have H0:=hide h0
 clear h0
 go_enter Tryz.func143,Tryz.ntmps143
 go_wp2_with fail
 rw [E0.out]
 obtain ⟨ca,cb,cc,cd⟩:=bx.facts
 obtain ⟨ea,eb,ec,ed⟩:=by'.facts
 refine (divmod_none _ _ _ _ _ _ _ xs ys hx0 hy0 H0.out).mono ?_
 rintro e w1 ⟨rfl,hb1⟩
 have Z:=hide (hb0.trans (hb1.mono hb0.size))
 obtain ⟨qa,qb,qc,qd⟩:=(bq.below hb1).facts
 obtain ⟨ra,rb,rc,rd⟩:=(br.below hb1).facts
 have F:=hide (box_two (nq:=false) (vq:=.slice none 0 0) (nr:=false) (vr:=.slice none 0 0) (bq.below hb1) (br.below hb1) (by omega))
 have Z2:=hide (below_set2 (below_set2 Z.out (show w.heap.size≤w.heap.size+1+1 by omega) (.bool false) (.slice none 0 0)) (show w.heap.size≤w.heap.size+1+1+1 by omega) (.bool false) (.slice none 0 0))
 go_wp2
 refine bodyPost_ret (v:=.tuple #[.agg #[.bool false,.slice none 0 0],.agg #[.bool false,.slice none 0 0],.bool false]) ?_ rfl ⟨rfl,Z2.out⟩
 simp [results,Tryz.results143,go_sem,F.out.1.facts.1,F.out.1.facts.2.1,F.out.2.facts.1,F.out.2.facts.2.1]
end Lm
end Go.Proofs.YtaofpigilgapgaaGreatDoor

namespace Go.Proofs.YtaofpigilgapgaaGreatDoor
namespace Lm
open Go.RowKit
theorem wdec_len {ds:List Int} {x:Int} (h:IsDec ds x) {m:Nat} (hm:1≤m) (hx:x<p10 m):ds.length≤m:=by
 obtain ⟨h1,h2,h3⟩:=h
 rcases h3 with ⟨_,rfl⟩ | ⟨c,cs,rfl,hc⟩
 ·simp;omega
 ·have:=dval_low h1 hc
  simp only [List.length_cons]
  apply Classical.byContradiction
  intro hn
  have:=p10_mono (m:=m) (n:=cs.length) (by omega)
  omega
theorem minus_ahead (ds:List Int):(⟨#[45]⟩:ByteArray) ++ strOfNums ds=strOfNums (45 :: ds):=by
 apply ByteArray.ext
 rw [ByteArray.data_append]
 apply Array.toList_inj.1
 simp [strOfNums]
theorem sign_three' (z:Int) : -1≤Int.sign z∧Int.sign z≤1:=by
 rcases Int.lt_trichotomy z 0 with h | h | h
 ·rw [Int.sign_eq_neg_one_of_neg h];omega
 ·rw [h];simp
 ·rw [Int.sign_eq_one_of_pos h];omega
set_option maxRecDepth 20000 in
set_option maxHeartbeats 400000 in
theorem wtext_neg (w:World) (ng:Bool) (ao:Option Addr) (n cap:Nat) (zs:List Int) (h:Sl w (.slice ao n cap) zs) (hz:zs.length≤1000000) (hneg:sg ng (val zs)<0) :
  Calls Tryz.prog 77 #[.agg #[.bool ng,.slice ao n cap]] w fun e w'=>∃ ds,e=.returned (.string (strOfNums (45 :: ds)))∧IsDec ds (val zs)∧Below w.heap.size w w' := by
 obtain ⟨w0,e0,bx,hb0,hs0⟩:=boxed0 w ng (.slice ao n cap)
 have E0:=hide e0
 have h0:=h.below hb0
 have HN:=hide hneg
 have ks:=wsign_any w0 ng ao n cap zs h0 hz
 rw [Int.sign_eq_neg_one_of_neg hneg] at ks
 have KS:=hide ks
 clear e0 hs0 ks hneg
 go_enter Tryz.func77,Tryz.ntmps77
 go_wp2_with fail
 rw [E0.out]
 refine (KS.out).mono ?_
 rintro e w1 ⟨rfl,hb1⟩
 obtain ⟨xa,xb,xc,xd⟩:=(bx.below hb1).facts
 have h1:=h0.below hb1
 go_wp2_with fail
 refine (text_any _ _ _ _ zs h1 hz).mono ?_
 rintro e w2 ⟨ds,rfl,hd,hb2⟩
 have Z:=hide (hb0.trans ((hb1.trans (hb2.mono hb1.size)).mono hb0.size))
 have HD:=hide hd
 have hcs:¬ 9223372036854775807<1+(strOfNums ds).size:=by
  have h8:=(val_bounds h.parts.2.2.2).2
  have h7:=pw_le_p10 zs.length
  have h6:=p10_mono (m:=10*zs.length) (n:=10*zs.length+1) (by omega)
  have h9:=wdec_len hd (m:=10*zs.length+1) (by omega) (by omega)
  rw [strOfNums_size]
  omega
 have MA:=hide (minus_ahead ds)
 clear hd
 go_wp2
 refine bodyPost_ret (v:=.string (strOfNums (45 :: ds))) ?_ rfl ⟨ds,rfl,HD.out,Z.out⟩
 simp [results,Tryz.results77,go_sem,MA.out]
set_option maxRecDepth 20000 in
set_option maxHeartbeats 400000 in
theorem wtext_pos (w:World) (ng:Bool) (ao:Option Addr) (n cap:Nat) (zs:List Int) (h:Sl w (.slice ao n cap) zs) (hz:zs.length≤1000000) (hpos:¬ sg ng (val zs)<0) :
  Calls Tryz.prog 77 #[.agg #[.bool ng,.slice ao n cap]] w fun e w'=>∃ ds,e=.returned (.string (strOfNums ds))∧IsDec ds (val zs)∧Below w.heap.size w w' := by
 obtain ⟨w0,e0,bx,hb0,hs0⟩:=boxed0 w ng (.slice ao n cap)
 have E0:=hide e0
 have h0:=h.below hb0
 obtain ⟨s,hs,hs1⟩:∃ s,Int.sign (sg ng (val zs))=s∧¬ s<0:=⟨_,rfl,by
  intro h9
  have h8:=Int.sign_eq_neg_one_iff_neg.1 (show Int.sign (sg ng (val zs)) = -1 by have:=sign_three' (sg ng (val zs));omega)
  omega⟩
 have ks:=wsign_any w0 ng ao n cap zs h0 hz
 rw [hs] at ks
 have KS:=hide ks
 clear e0 hs0 ks hpos hs
 go_enter Tryz.func77,Tryz.ntmps77
 go_wp2_with fail
 rw [E0.out]
 refine (KS.out).mono ?_
 rintro e w1 ⟨rfl,hb1⟩
 obtain ⟨xa,xb,xc,xd⟩:=(bx.below hb1).facts
 have h1:=h0.below hb1
 go_wp2_with fail
 refine (text_any _ _ _ _ zs h1 hz).mono ?_
 rintro e w2 ⟨ds,rfl,hd,hb2⟩
 have Z:=hide (hb0.trans ((hb1.trans (hb2.mono hb1.size)).mono hb0.size))
 have HD:=hide hd
 clear hd
 go_wp2
 go_ret
 exact ⟨ds,rfl,HD.out,Z.out⟩
end Lm
end Go.Proofs.YtaofpigilgapgaaGreatDoor

namespace Go.Proofs.YtaofpigilgapgaaGreatDoor
namespace Lm
open Go.RowKit
theorem two_limbs {zs:List Int} (hz:Limb zs) (i:Nat):∃ t:Int,val zs / pw i=(zs.getD (i+1) 0*4294967296+zs.getD i 0)+18446744073709551616*t:=by
 have h0:val zs / pw i=val (zs.drop i):=by
  by_cases hi:i≤zs.length
  ·have e:=val_append (zs.take i) (zs.drop i)
   rw [List.take_append_drop,List.length_take,Nat.min_eq_left hi] at e
   have b:=val_bounds (limb_take hz i)
   rw [List.length_take,Nat.min_eq_left hi] at b
   exact (div_of (a:=val zs) (b:=pw i) (by have:=pw_pos i;omega) (by rw [e,Int.mul_comm];omega) b.1 b.2).1
  ·rw [List.drop_of_length_le (by omega)]
   have b:=val_bounds hz
   have hm:=pw_mono (m:=zs.length) (n:=i) (by omega)
   exact Int.ediv_eq_zero_of_lt b.1 (by omega)
 refine ⟨val (zs.drop (i+2)),?_⟩
 rw [h0]
 by_cases h1:i<zs.length
 ·rw [drop_getD zs i h1,val]
  by_cases h2:i+1<zs.length
  ·rw [drop_getD zs (i+1) h2,val,show i+2=i+1+1 from rfl]
   omega
  ·have e1:zs.drop (i+1) = []:=List.drop_of_length_le (by omega)
   have e2:zs.drop (i+2) = []:=List.drop_of_length_le (by omega)
   have e3:zs.getD (i+1) 0=0:=by rw [List.getD_eq_getElem?_getD,List.getElem?_eq_none (by omega)];rfl
   rw [e1,e2,e3]
   simp [val]
 ·have e1:zs.drop i = []:=List.drop_of_length_le (by omega)
  have e2:zs.drop (i+2) = []:=List.drop_of_length_le (by omega)
  have e3:zs.getD (i+1) 0=0:=by rw [List.getD_eq_getElem?_getD,List.getElem?_eq_none (by omega)];rfl
  have e4:zs.getD i 0=0:=by rw [List.getD_eq_getElem?_getD,List.getElem?_eq_none (by omega)];rfl
  rw [e1,e2,e3,e4]
  simp [val]
theorem mask30 {x:Int} (h0:0≤x) (h1:x<4294967296):bits .and .u32 x 1073741823=x % 1073741824:=by
 rw [u32_and _ _ h0 h1 (by omega) (by omega)]
 have:(1073741823:Int).toNat=2 ^ 30 - 1:=by decide
 rw [this,Nat.and_two_pow_sub_one_eq_mod]
 omega
theorem window_val {V r t:Int} {s:Nat} (hs:s≤31) (hV:V=r+18446744073709551616*t):r / p2 s % 4294967296 % 1073741824=V / p2 s % 1073741824:=by
 have hp:=p2_pos s
 have e1:(18446744073709551616:Int)=p2 s*(1073741824*p2 (34 - s)):=by
  have h9:p2 s*(p2 30*p2 (34 - s))=p2 64:=by rw [←p2_add,←p2_add,show s+(30+(34 - s))=64 by omega]
  rw [show p2 30=1073741824 from by decide,show p2 64=18446744073709551616 from by decide] at h9
  exact h9.symm
 have e2:V / p2 s=r / p2 s+1073741824*(p2 (34 - s)*t):=by
  rw [hV,e1,Int.mul_assoc,Int.add_mul_ediv_left _ _ (by omega),Int.mul_assoc]
 rw [e2,Int.add_mul_emod_self_left]
 omega
set_option maxRecDepth 20000 in
set_option maxHeartbeats 400000 in
theorem window_any (w:World) (ao:Option Addr) (n cap:Nat) (zs:List Int) (h:Sl w (.slice ao n cap) zs) (low:Nat) (hlow:low≤100000000) :
  Calls Tryz.prog 199 #[.slice ao n cap,.int .i64 low] w fun e w'=>e=.returned (.int .u32 (val zs / p2 low % 1073741824))∧w' = w:=by
 obtain ⟨rfl,x1,x2,x3⟩:=h.parts
 obtain ⟨i,hi⟩:∃ i,i=low / 32:=⟨_,rfl⟩
 obtain ⟨s,hs⟩:∃ s,s=low % 32:=⟨_,rfl⟩
 have e1:(low:Int) / 32=(i:Nat):=by omega
 have e2:(low:Int) % 32=(s:Nat):=by omega
 have hs31:s≤31:=by omega
 have hib:i≤100000000:=by omega
 have HPL:Hid (p2 low=pw i*p2 s):=by
  show _ = _
  rw [pw_p2,←p2_add]
  congr 1
  omega
 have bA:=limb_getD x3 i
 have bC:=limb_getD x3 (i+1)
 obtain ⟨t,ht⟩:=two_limbs x3 i
 have k1:Hid (∀ w' : World,Sl w' (.slice ao zs.length cap) zs→Calls Tryz.prog 197 #[.slice ao zs.length cap,.int .i64 ((i:Int)+1)] w' fun e w''=>e=.returned (.int .u32 (zs.getD (i+1) 0))∧w'' = w'):=by
  intro w' h'
  have h9:=limb_any w' _ zs h' ((i:Int)+1) (by omega)
  rwa [show ((i:Int)+1).toNat=i+1 by omega] at h9
 have k2:Hid (∀ w' : World,Sl w' (.slice ao zs.length cap) zs→Calls Tryz.prog 197 #[.slice ao zs.length cap,.int .i64 (i:Int)] w' fun e w''=>e=.returned (.int .u32 (zs.getD i 0))∧w'' = w'):=fun w' h'=>limb_nat w' _ zs h' i
 have HT:=hide ht
 generalize zs.getD (i+1) 0=C at bC k1 HT
 generalize zs.getD i 0=A at bA k2 HT
 have hor:=or_join C A bC.1 bC.2 bA.1 bA.2
 obtain ⟨M,hM⟩:∃ M,M=C*4294967296+A:=⟨_,rfl⟩
 rw [←hM] at hor HT
 have hM0:0≤M:=by omega
 have hM1:M<18446744073709551616:=by omega
 have hpw:=p2_pow s
 have hp1:=p2_pos s
 have hd0:0≤M / p2 s:=Int.ediv_nonneg hM0 (by omega)
 have hmk:bits .and .u32 (M / p2 s % 4294967296) 1073741823=M / p2 s % 4294967296 % 1073741824:=mask30 (by omega) (by omega)
 have HV:Hid (M / p2 s % 1073741824=val zs / p2 low % 1073741824):=by
  have h9:=window_val hs31 HT.out
  rw [Int.ediv_ediv_of_nonneg (by have:=pw_pos i;omega),←HPL.out] at h9
  show _ = _
  omega
 clear x3 ht hM hi hs
 go_enter Tryz.func199,Tryz.ntmps199
 go_wp2_with fail
 refine (k1.out _ h).mono ?_
 rintro e w1 ⟨rfl,rfl⟩
 go_wp2_with fail
 refine (k2.out _ h).mono ?_
 rintro e w1 ⟨rfl,rfl⟩
 go_wp2
 go_ret
 exact ⟨by rw [←HV.out];rfl,rfl⟩
end Lm
end Go.Proofs.YtaofpigilgapgaaGreatDoor

namespace Go.Proofs.YtaofpigilgapgaaGreatDoor
namespace Lm
open Go.RowKit
theorem com_val {xs ys os:List Int} {k:Nat} {p q x y c s:Int} (hk:os.length=k) (hx:xs.getD k 0=x) (hy:ys.getD k 0=y) (hs:s=p*x+q*y+c) (h:val os+pw k*c=p*vf xs k+q*vf ys k) :
  val (os ++ [s % 4294967296])+pw (k+1)*(s / 4294967296)=p*vf xs (k+1)+q*vf ys (k+1):=by
 rw [val_snoc,vf,vf,hx,hy,hk,pw]
 have e:s=s % 4294967296+4294967296*(s / 4294967296):=by omega
 have e2:pw k*(s % 4294967296)+4294967296*pw k*(s / 4294967296)=pw k*s:=by
  rw [Int.mul_comm 4294967296 (pw k),Int.mul_assoc,←Int.mul_add,←e]
 have e3:p*(pw k*x)=pw k*(p*x):=by rw [←Int.mul_assoc,Int.mul_comm p,Int.mul_assoc]
 have e4:q*(pw k*y)=pw k*(q*y):=by rw [←Int.mul_assoc,Int.mul_comm q,Int.mul_assoc]
 rw [Int.add_assoc,e2,hs,Int.mul_add,Int.mul_add,Int.mul_add,Int.mul_add,e3,e4]
 omega
theorem com_bound {p x:Int} (hp : -1073741824≤p∧p≤1073741824) (hx:0≤x∧x<4294967296) : -4611686018427387904≤p*x∧p*x≤4611686018427387904:=by
 have h1:p*x≤1073741824*x:=Int.mul_le_mul_of_nonneg_right hp.2 hx.1
 have h2 : -1073741824*x≤p*x:=Int.mul_le_mul_of_nonneg_right hp.1 hx.1
 omega
theorem com_two {p q x y:Int} (hp : -1073741824≤p∧p≤1073741824) (hq : -1073741824≤q∧q≤1073741824) (hs:(0≤p∧q≤0)∨(p≤0∧0≤q)) (hx:0≤x∧x<4294967296) (hy:0≤y∧y<4294967296) : -4611686018427387904≤p*x+q*y∧p*x+q*y≤4611686018427387904:=by
 have b1:=com_bound hp hx
 have b2:=com_bound hq hy
 rcases hs with ⟨h1,h2⟩ | ⟨h1,h2⟩
 ·have p1:0≤p*x:=Int.mul_nonneg h1 hx.1
  have p2:0≤(-q)*y:=Int.mul_nonneg (by omega) hy.1
  rw [Int.neg_mul] at p2
  omega
 ·have p1:0≤(-p)*x:=Int.mul_nonneg (by omega) hx.1
  have p2:0≤q*y:=Int.mul_nonneg h2 hy.1
  rw [Int.neg_mul] at p1
  omega
set_option maxRecDepth 20000 in
set_option maxHeartbeats 1000000 in
theorem combine_any (w:World) (a1 a2:Option Addr) (n1 n2 c1 c2:Nat) (xs ys:List Int) (hx:Sl w (.slice a1 n1 c1) xs) (hy:Sl w (.slice a2 n2 c2) ys) (hm:xs.length≤1000000) (hl:ys.length≤xs.length) (p q:Int) (hp : -1073741824≤p∧p≤1073741824) (hq : -1073741824≤q∧q≤1073741824) (hs:(0≤p∧q≤0)∨(p≤0∧0≤q)) (h0:0≤p*val xs+q*val ys) (h1:p*val xs+q*val ys<pw xs.length) :
  Calls Tryz.prog 200 #[.int .i64 p,.slice a1 n1 c1,.int .i64 q,.slice a2 n2 c2] w fun e w'=>∃ v,e=.returned v∧Is w.heap.size w' v (p*val xs+q*val ys)∧Below w.heap.size w w' := by
 obtain ⟨rfl,x1,x2,x3⟩:=hx.parts
 obtain ⟨rfl,y1,y2,y3⟩:=hy.parts
 obtain ⟨i0,hi,hz0,hz1,hz2⟩:=info_parts info32
 have X3:=hide x3
 have Y3:=hide y3
 have H0:=hide h0
 have H1:=hide h1
 have HP:=hide hp
 have HQ:=hide hq
 have HS:=hide hs
 clear x3 y3 h0 h1 hp hq hs
 go_enter Tryz.func200,Tryz.ntmps200
 go_wp2_with (refine wpList_make_full _ rfl (.tmp 14) (.tmp 14) 38 rfl w.heap.size 103 i0 (.int .u32 0) 1 Tryz.underlying38 hi hz0 hz1 .i64 .i64 _ _ xs.length rfl rfl (by omega) (by omega) (by rw [hz2];omega) (by unfold maxLen;omega) (Nat.le_refl _) ?hK)
 case hK =>
  intro w1 hown hgrow
  obtain ⟨_,cur,hh,hcs,hat⟩:=block_of_made hown
  have hb1:Below w.heap.size w w1:=(Below.refl w.heap.size w).grown hgrow (Nat.le_refl _) (by simp)
  have HH:=hide hh
  have HC0:=hide hcs
  have HA:=hide hat
  clear hown hgrow hh hcs hat
  go_wp2
  go_loopw [10,18] (fun cv i wr=>∃ (k:Nat) (c:Int) (os:List Int) (cur' : Array Value),k≤xs.length∧cv=.int .i64 c∧i=.int .i64 k∧(-1073741826≤c∧c≤1073741826)∧os.length=k∧Limb os∧val os+pw k*c=p*vf xs k+q*vf ys k∧Wr w1 wr w.heap.size cur' 103∧cur'.size=xs.length∧At cur' .u32 0 (os ++ (List.replicate xs.length 0).drop k)) (fun _ i _=>xs.length - (intOf i).toNat)
  case atStart=>exact ⟨0,0,[],cur,Nat.zero_le _,rfl,rfl,by omega,rfl,limb_nil,by simp [val,vf,pw],Wr.refl HH.out,HC0.out,by simpa using HA.out⟩
  case round =>
   obtain ⟨k,c,os,cur',hk,rfl,rfl,hc,hol,ho,hval,hwr,hcs,hat⟩:=hrel
   have HOL:=hide hol
   have HO:=hide ho
   have HV:=hide hval
   have HW:=hide hwr
   have HC:=hide hcs
   have HT:=hide hat
   clear hol ho hval hwr hcs hat
   by_cases hlt:k<xs.length
   ·have sx:=HW.out.sl (Nat.le_refl _) hb1 rfl hx
    have sy:=HW.out.sl (Nat.le_refl _) hb1 rfl hy
    obtain ⟨b,off,rfl,hcx⟩:=sx.cells (by omega)
    have cx:=hcx k (by omega)
    have bx:=limb_getD X3.out k
    have by' := limb_getD Y3.out k
    obtain ⟨x,hxk⟩:∃ x,xs.getD k 0=x:=⟨_,rfl⟩
    obtain ⟨y,hyk⟩:∃ y,ys.getD k 0=y:=⟨_,rfl⟩
    have ky:Hid (∀ n,Calls Tryz.prog 197 #[.slice a2 ys.length c2,.int .i64 k] (wr.drewN n) fun e w'=>e=.returned (.int .u32 y)∧w' = wr.drewN n):=by
     intro n;rw [←hyk];exact limb_nat _ _ ys (sy.below (below_drewN (Below.refl _ _) n)) k
    rw [hxk] at cx bx
    rw [hyk] at by'
    have hpx:=com_bound HP.out bx
    have hqy:=com_bound HQ.out by'
    have htw:=com_two HP.out HQ.out HS.out bx by'
    obtain ⟨P,hP⟩:∃ P,P=p*x:=⟨_,rfl⟩
    obtain ⟨R,hR⟩:∃ R,R=q*y:=⟨_,rfl⟩
    have HV' := hide (com_val (p:=p) (q:=q) HOL.out hxk hyk rfl HV.out)
    rw [←hP] at hpx htw HV'
    rw [←hR] at hqy htw HV'
    have ep:p*x=P:=hP.symm
    have er:q*y=R:=hR.symm
    have hlen:(os ++ (List.replicate xs.length (0:Int)).drop k).length=xs.length:=by have:=HOL.out;simp;omega
    have hcell:=HT.out.cell HW.out.here k (by rw [hlen];omega)
    rw [Nat.zero_add] at hcell
    generalize (os ++ (List.replicate xs.length (0:Int)).drop k).getD k 0=old at hcell
    have hfree:=HW.out.free k
    have HT' := hide (HT.out.set k ((P+R+c) % 4294967296))
    have HW' := hide (HW.out.set k (.int .u32 ((P+R+c) % 4294967296)))
    clear hlen sx sy hcx hxk hyk hP hR
    go_wp2
    go_quiet ((go_at_call 197;exact Calls.quiet_of_same (ky.out _)))
    go_wp2
    go_roundw
    case rel=>exact ⟨k+1,(P+R+c) / 4294967296,os ++ [(P+R+c) % 4294967296],_,by omega,rfl,by go_num,by omega,by have:=HOL.out;simp;omega,limb_append.2 ⟨HO.out,limb_cons.2 ⟨by omega,limb_nil⟩⟩,HV'.out,HW'.out.drewN _,by simpa using HC.out,by rw [←set_snoc os _ k _ HOL.out (by simp;omega)];simpa using HT'.out⟩
    case measure=>simp [intOf];omega
   ·have hkn:k=xs.length:=by omega
    subst hkn
    have hat2:=HT.out
    rw [List.drop_of_length_le (by simp),List.append_nil] at hat2
    have how:Ow w.heap.size wr (.slice (some ⟨w.heap.size,0,none⟩) xs.length xs.length) os:=by
     have:=HOL.out
     exact ⟨_,xs.length,by rw [this],by omega,by unfold maxLen;omega,HO.out,.inr ⟨_,0,_,rfl,Nat.le_refl _,HW.out.here,by rw [HC.out];omega,hat2⟩⟩
    have hbel:Below w.heap.size w wr:=hb1.trans (HW.out.below (Nat.le_refl _))
    have hfin:val os=p*val xs+q*val ys:=by
     have hv:=HV.out
     rw [vf_all xs _ (Nat.le_refl _),vf_all ys _ hl] at hv
     have hb:=val_bounds HO.out
     rw [HOL.out] at hb
     have h0:=H0.out
     have h1:=H1.out
     have hp:=pw_pos xs.length
     have hc0:c=0:=by
      rcases Int.lt_trichotomy c 0 with h | h | h
      ·have:pw xs.length*c≤pw xs.length*(-1):=Int.mul_le_mul_of_nonneg_left (by omega) (by omega)
       omega
      ·exact h
      ·have:pw xs.length*1≤pw xs.length*c:=Int.mul_le_mul_of_nonneg_left (by omega) (by omega)
       omega
     rw [hc0,Int.mul_zero,Int.add_zero] at hv
     exact hv
    have his:=how.is_cut hfin
    clear hat2 hfin
    go_wp2_with fail
    refine (cut_any _ _ _ _ _ how.sl).mono ?_
    rintro e w2 ⟨rfl,rfl⟩
    go_wp2
    go_ret
    exact ⟨_,rfl,his,hbel⟩
end Lm
end Go.Proofs.YtaofpigilgapgaaGreatDoor

namespace Go.Proofs.YtaofpigilgapgaaGreatDoor
namespace Lm
structure Lh (x0 y0 X Y a b c d x y:Int):Prop where
 ex:x=a*x0+b*y0
 ey:y=c*x0+d*y0
 sig:(0≤a∧b≤0∧c≤0∧0≤d∧d*x - b*y=x0∧a*y - c*x=y0)∨(a≤0∧0≤b∧0≤c∧d≤0∧b*y - d*x=x0∧c*x - a*y=y0)
 xa:0≤x+a
 xb:0≤x+b
 yc:0≤y+c
 yd:0≤y+d
 x1:1≤x
 y0' : 0≤y
 ba : -1073741824≤a∧a≤1073741824
 bb : -1073741824≤b∧b≤1073741824
 bc : -1073741824≤c∧c≤1073741824
 bd : -1073741824≤d∧d≤1073741824
 bx:x<1073741824
 by' : y<1073741824
 le:c*X+d*Y≤a*X+b*Y
 nn:0≤c*X+d*Y
 top:a*X+b*Y≤X
 low:c*X+d*Y≤Y
 bz:b≠0→c*X+d*Y<Y
 gcd:Int.gcd (a*X+b*Y) (c*X+d*Y)=Int.gcd X Y
theorem lh_between {x0 y0 X Y L a b x:Int} (hX:x0*L≤X) (hX2:X≤(x0+1)*L) (hY:y0*L≤Y) (hY2:Y≤(y0+1)*L) (ex:x=a*x0+b*y0) (ha:0≤a) (hb:b≤0) :
  (x+b)*L≤a*X+b*Y∧a*X+b*Y≤(x+a)*L:=by
 have e1:a*(x0*L)≤a*X:=Int.mul_le_mul_of_nonneg_left hX ha
 have e2:a*X≤a*((x0+1)*L):=Int.mul_le_mul_of_nonneg_left hX2 ha
 have e3:(-b)*(y0*L)≤(-b)*Y:=Int.mul_le_mul_of_nonneg_left hY (by omega)
 have e4:(-b)*Y≤(-b)*((y0+1)*L):=Int.mul_le_mul_of_nonneg_left hY2 (by omega)
 rw [Int.add_mul,Int.one_mul,Int.mul_add] at e2 e4
 rw [Int.neg_mul,Int.neg_mul] at e3
 rw [Int.neg_mul,Int.neg_mul,Int.neg_mul] at e4
 rw [ex,Int.add_mul,Int.add_mul,Int.add_mul,Int.add_mul,Int.mul_assoc,Int.mul_assoc]
 constructor <;> omega
theorem lh_between' {x0 y0 X Y L a b x:Int} (hX:x0*L≤X) (hX2:X≤(x0+1)*L) (hY:y0*L≤Y) (hY2:Y≤(y0+1)*L) (ex:x=a*x0+b*y0) (ha:a≤0) (hb:0≤b) :
  (x+a)*L≤a*X+b*Y∧a*X+b*Y≤(x+b)*L:=by
 have h:=lh_between hY hY2 hX hX2 (a:=b) (b:=a) (x:=x) (by omega) hb ha
 constructor <;> omega
theorem euclid_between {L X1 Y1 q u v s t:Int} (hL:0<L) (hu:X1≤u*L) (hv:v*L≤X1) (hs:s*L≤Y1) (ht:Y1≤t*L) (h1:q*t≤v) (h2:u<(q+1)*s) (hq:0≤q):q*Y1≤X1∧X1<(q+1)*Y1:=by
 constructor
 ·have e1:q*Y1≤q*(t*L):=Int.mul_le_mul_of_nonneg_left ht hq
  have e2:q*t*L≤v*L:=Int.mul_le_mul_of_nonneg_right h1 (by omega)
  rw [Int.mul_assoc] at e2
  omega
 ·have e1:(q+1)*(s*L)≤(q+1)*Y1:=Int.mul_le_mul_of_nonneg_left hs (by omega)
  have e2:(u+1)*L≤(q+1)*s*L:=Int.mul_le_mul_of_nonneg_right (by omega) (by omega)
  rw [Int.mul_assoc,Int.add_mul,Int.one_mul] at e2
  omega
theorem gcd_step (X Y q:Int):Int.gcd Y (X - q*Y)=Int.gcd X Y:=by
 apply Nat.dvd_antisymm
 ·apply Int.dvd_gcd
  ·have h1:=Int.gcd_dvd_left Y (X - q*Y)
   have h2:=Int.gcd_dvd_right Y (X - q*Y)
   have h4:=Int.dvd_add h2 (Int.dvd_mul_of_dvd_right (b:=q) h1)
   have h3:(X - q*Y)+q*Y=X:=by omega
   rw [h3] at h4
   exact h4
  ·exact Int.gcd_dvd_left _ _
 ·apply Int.dvd_gcd
  ·exact Int.gcd_dvd_right _ _
  ·exact Int.dvd_sub (Int.gcd_dvd_left _ _) (Int.dvd_mul_of_dvd_right (Int.gcd_dvd_right _ _))
theorem fac_bound {c y x0:Int} (hy:1≤y) (hc:0≤c) (h:c*y≤x0):c≤x0:=by
 have:c*1≤c*y:=Int.mul_le_mul_of_nonneg_left hy hc
 omega
theorem Lh.step {x0 y0 X Y L a b c d x y q:Int} (H:Lh x0 y0 X Y a b c d x y) (hL:0<L) (hX:x0*L≤X) (hX2:X≤(x0+1)*L) (hY:y0*L≤Y) (hY2:Y≤(y0+1)*L) (hx0:x0<1073741824) (hy0:y0<1073741824)
  (hc:0<y+c) (hd:0<y+d) (q1:q*(y+c)≤x+a) (q2:x+a<(q+1)*(y+c)) (q3:q*(y+d)≤x+b) (q4:x+b<(q+1)*(y+d)) (hq:0≤q) :
  Lh x0 y0 X Y c d (a - q*c) (b - q*d) y (x - q*y):=by
 have hqy:0≤q*y:=Int.mul_nonneg hq H.y0'
 have m1:q*(y+c)=q*y+q*c:=Int.mul_add _ _ _
 have m2:q*(y+d)=q*y+q*d:=Int.mul_add _ _ _
 have eXY:(a - q*c)*X+(b - q*d)*Y=(a*X+b*Y) - q*(c*X+d*Y):=by
  rw [Int.sub_mul,Int.sub_mul,Int.mul_add,Int.mul_assoc,Int.mul_assoc];omega
 have ey' : x - q*y=(a - q*c)*x0+(b - q*d)*y0:=by
  rw [Int.sub_mul,Int.sub_mul,Int.mul_assoc,Int.mul_assoc,H.ex,H.ey,Int.mul_add];omega
 have n1:d*(x - q*y)=d*x - q*d*y:=by rw [Int.mul_sub,←Int.mul_assoc,Int.mul_comm d q]
 have n2:(b - q*d)*y=b*y - q*d*y:=Int.sub_mul _ _ _
 have n3:c*(x - q*y)=c*x - q*c*y:=by rw [Int.mul_sub,←Int.mul_assoc,Int.mul_comm c q]
 have n4:(a - q*c)*y=a*y - q*c*y:=Int.sub_mul _ _ _
 have key:q*(c*X+d*Y)≤a*X+b*Y∧a*X+b*Y<(q+1)*(c*X+d*Y):=by
  rcases H.sig with ⟨s1,s2,s3,s4,_,_⟩ | ⟨s1,s2,s3,s4,_,_⟩
  ·have b1:=lh_between hX hX2 hY hY2 H.ex s1 s2
   have b2:=lh_between' hX hX2 hY hY2 H.ey s3 s4
   exact euclid_between hL b1.2 b1.1 b2.1 b2.2 q3 q2 hq
  ·have b1:=lh_between' hX hX2 hY hY2 H.ex s1 s2
   have b2:=lh_between hX hX2 hY hY2 H.ey s3 s4
   exact euclid_between hL b1.2 b1.1 b2.1 b2.2 q1 q4 hq
 have key2:(q+1)*(c*X+d*Y)=q*(c*X+d*Y)+(c*X+d*Y):=by rw [Int.add_mul,Int.one_mul]
 have hle:=H.le
 have hnn:=H.nn
 have htop:=H.top
 have hlow:=H.low
 have hg:=gcd_step (a*X+b*Y) (c*X+d*Y) q
 rw [H.gcd,←eXY] at hg
 have hsig:((0≤c∧d≤0∧a - q*c≤0∧0≤b - q*d∧(b - q*d)*y - d*(x - q*y)=x0∧c*(x - q*y) - (a - q*c)*y=y0)∨(c≤0∧0≤d∧0≤a - q*c∧b - q*d≤0∧d*(x - q*y) - (b - q*d)*y=x0∧(a - q*c)*y - c*(x - q*y)=y0))∧1≤y∧0≤x - q*y:=by
  rcases H.sig with ⟨s1,s2,s3,s4,s5,s6⟩ | ⟨s1,s2,s3,s4,s5,s6⟩
  ·have p1:q*c≤0:=by
    have:q*c≤q*0:=Int.mul_le_mul_of_nonneg_left s3 hq
    omega
   have p2:0≤q*d:=Int.mul_nonneg hq s4
   exact ⟨.inr ⟨s3,s4,by omega,by omega,by omega,by omega⟩,by omega,by omega⟩
  ·have p1:0≤q*c:=Int.mul_nonneg hq s3
   have p2:q*d≤0:=by
    have:q*d≤q*0:=Int.mul_le_mul_of_nonneg_left s4 hq
    omega
   exact ⟨.inl ⟨s3,s4,by omega,by omega,by omega,by omega⟩,by omega,by omega⟩
 obtain ⟨hsg,hy1,hyy⟩:=hsig
 have hbnd:(-1073741824≤a - q*c∧a - q*c≤1073741824)∧(-1073741824≤b - q*d∧b - q*d≤1073741824):=by
  rcases hsg with ⟨s1,s2,s3,s4,s5,s6⟩ | ⟨s1,s2,s3,s4,s5,s6⟩
  ·have p1:0≤c*(x - q*y):=Int.mul_nonneg s1 hyy
   have p2:0≤(-d)*(x - q*y):=Int.mul_nonneg (by omega) hyy
   rw [Int.neg_mul] at p2
   have f1:=fac_bound (c:=-(a - q*c)) (x0:=y0) hy1 (by omega) (by rw [Int.neg_mul];omega)
   have f2:=fac_bound (c:=b - q*d) (x0:=x0) hy1 (by omega) (by omega)
   omega
  ·have p1:0≤(-c)*(x - q*y):=Int.mul_nonneg (by omega) hyy
   have p2:0≤d*(x - q*y):=Int.mul_nonneg s2 hyy
   rw [Int.neg_mul] at p1
   have f1:=fac_bound (c:=a - q*c) (x0:=y0) hy1 (by omega) (by omega)
   have f2:=fac_bound (c:=-(b - q*d)) (x0:=x0) hy1 (by omega) (by rw [Int.neg_mul];omega)
   omega
 refine ⟨H.ey,ey',?_,H.yc,H.yd,by omega,by omega,hy1,hyy,H.bc,H.bd,hbnd.1,hbnd.2,H.by',?_,?_,?_,?_,?_,?_,hg⟩
 ·rcases hsg with h | h
  ·exact .inl ⟨h.1,h.2.1,h.2.2.1,h.2.2.2.1,h.2.2.2.2.1,h.2.2.2.2.2⟩
  ·exact .inr ⟨h.1,h.2.1,h.2.2.1,h.2.2.2.1,h.2.2.2.2.1,h.2.2.2.2.2⟩
 ·have:=H.bx;omega
 ·rw [eXY];omega
 ·rw [eXY];omega
 ·omega
 ·rw [eXY];omega
 ·intro _;rw [eXY];omega
theorem Lh.start {x0 y0 X Y:Int} (h1:1≤x0) (h2:0≤y0) (h3:x0<1073741824) (h4:y0<1073741824) (hY:0≤Y) (hle:Y≤X):Lh x0 y0 X Y 1 0 0 1 x0 y0:=by
 refine ⟨by omega,by omega,.inl ⟨by omega,by omega,by omega,by omega,by omega,by omega⟩,by omega,by omega,by omega,by omega,h1,h2,by omega,by omega,by omega,by omega,h3,h4,by omega,by omega,by omega,by omega,fun h=>absurd rfl h,?_⟩
 rw [Int.one_mul,Int.zero_mul,Int.zero_mul,Int.one_mul,Int.add_zero,Int.zero_add]
end Lm
end Go.Proofs.YtaofpigilgapgaaGreatDoor

namespace Go.Proofs.YtaofpigilgapgaaGreatDoor
namespace Lm
open Go.RowKit
def Fac (w:World) (g:Nat) (a b c d:Int):Prop:=w.heap[g]? = some (.cells #[.int .i64 a,.int .i64 b,.int .i64 c,.int .i64 d] 240 (0,0))
theorem Fac.facts {w:World} {g:Nat} {a b c d:Int} (h:Fac w g a b c d):(w.cell? ⟨g,0,none⟩ = some (.int .i64 a)∧w.cell? ⟨g,1,none⟩ = some (.int .i64 b)∧w.cell? ⟨g,2,none⟩ = some (.int .i64 c)∧w.cell? ⟨g,3,none⟩ = some (.int .i64 d))∧(w.frozen? ⟨g,0,none⟩ = false∧w.frozen? ⟨g,1,none⟩ = false∧w.frozen? ⟨g,2,none⟩ = false∧w.frozen? ⟨g,3,none⟩ = false) :=
 ⟨⟨by rw [cell_of_row _ _ _ _ _ (0,0) h];rfl,by rw [cell_of_row _ _ _ _ _ (0,0) h];rfl,by rw [cell_of_row _ _ _ _ _ (0,0) h];rfl,by rw [cell_of_row _ _ _ _ _ (0,0) h];rfl⟩,frozen_of_row _ _ _ _ _ h,frozen_of_row _ _ _ _ _ h,frozen_of_row _ _ _ _ _ h,frozen_of_row _ _ _ _ _ h⟩
theorem div_fit {u s:Int} (hs:0<s):u / s*s≤u∧u<(u / s+1)*s:=by
 have h1:=Int.mul_ediv_add_emod u s
 have h2:=Int.emod_nonneg u (show s≠0 by omega)
 have h3:=Int.emod_lt_of_pos u hs
 rw [Int.add_mul,Int.one_mul,Int.mul_comm (u / s) s]
 omega
theorem div_small {u s:Int} (hu:0≤u) (hs:0<s):0≤u / s∧u / s≤u:=⟨Int.ediv_nonneg hu (by omega),Int.ediv_le_self _ hu⟩
theorem Lh.less {x0 y0 X Y a b c d x y q:Int} (H:Lh x0 y0 X Y a b c d x y) (hq:0≤q) (q2:x+a<(q+1)*(y+c)) (q4:x+b<(q+1)*(y+d)):x - q*y<y∧q*y≤q*y:=by
 have m1:(q+1)*(y+c)=q*y+q*c+(y+c):=by rw [Int.add_mul,Int.one_mul,Int.mul_add]
 have m2:(q+1)*(y+d)=q*y+q*d+(y+d):=by rw [Int.add_mul,Int.one_mul,Int.mul_add]
 rcases H.sig with ⟨s1,s2,s3,s4,_,_⟩ | ⟨s1,s2,s3,s4,_,_⟩
 ·have p1:q*c≤0:=by
   have:q*c≤q*0:=Int.mul_le_mul_of_nonneg_left s3 hq
   omega
  omega
 ·have p2:q*d≤0:=by
   have:q*d≤q*0:=Int.mul_le_mul_of_nonneg_left s4 hq
   omega
  omega
theorem Fac.set {w:World} {g:Nat} {a b c d:Int} (h:Fac w g a b c d) (a' b' c' d' : Int):Fac ((((w.setCell ⟨g,0,none⟩ (.int .i64 a')).setCell ⟨g,1,none⟩ (.int .i64 b')).setCell ⟨g,2,none⟩ (.int .i64 c')).setCell ⟨g,3,none⟩ (.int .i64 d')) g a' b' c' d' := by
 have h1:=heap_setCell_same w g 0 _ _ (.int .i64 a') h
 have h2:=heap_setCell_same _ g 1 _ _ (.int .i64 b') h1
 have h3:=heap_setCell_same _ g 2 _ _ (.int .i64 c') h2
 have h4:=heap_setCell_same _ g 3 _ _ (.int .i64 d') h3
 exact h4
theorem Fac.other {w:World} {g k:Nat} {a b c d:Int} (H:Fac w g a b c d) (hn:g≠k) (a' b' c' d' : Value):Fac ((((w.setCell ⟨k,0,none⟩ a').setCell ⟨k,1,none⟩ b').setCell ⟨k,2,none⟩ c').setCell ⟨k,3,none⟩ d') g a b c d :=
 (heap_setCell_other _ ⟨k,3,none⟩ g d' hn).trans ((heap_setCell_other _ ⟨k,2,none⟩ g c' hn).trans ((heap_setCell_other _ ⟨k,1,none⟩ g b' hn).trans ((heap_setCell_other w ⟨k,0,none⟩ g a' hn).trans H)))
theorem below_set4 {B:Nat} {w w1:World} {g:Nat} (hb:Below B w w1) (hg:B≤g) (a b c d:Value):Below B w ((((w1.setCell ⟨g,0,none⟩ a).setCell ⟨g,1,none⟩ b).setCell ⟨g,2,none⟩ c).setCell ⟨g,3,none⟩ d):=(((hb.setCell hg _).setCell hg _).setCell hg _).setCell hg _
set_option maxRecDepth 20000 in
set_option maxHeartbeats 2000000 in
theorem lookAhead_any (w:World) (x0 y0 X Y L:Int) (h1:1≤x0) (h2:0≤y0) (h3:x0<1073741824) (h4:y0<1073741824) (hY0:0≤Y) (hle:Y≤X) (hL:0<L) (hX:x0*L≤X) (hX2:X≤(x0+1)*L) (hY:y0*L≤Y) (hY2:Y≤(y0+1)*L) :
  Calls Tryz.prog 198 #[.int .i64 x0,.int .i64 y0] w fun e w'=>∃ a b c d x y,e=.returned (.agg #[.int .i64 a,.int .i64 b,.int .i64 c,.int .i64 d])∧Lh x0 y0 X Y a b c d x y∧Below w.heap.size w w' := by
 have ST:=hide (Lh.start h1 h2 h3 h4 hY0 hle)
 have e0:∃ w0:World,(w.alloc (.cells #[.int .i64 0,.int .i64 0,.int .i64 0,.int .i64 0] 240)).alloc (.cells #[.int .i64 1,.int .i64 0,.int .i64 0,.int .i64 1] 240)=w0∧Fac w0 w.heap.size 0 0 0 0∧Fac w0 (w.heap.size+1) 1 0 0 1∧Below w.heap.size w w0:=by
  have h1:=heap_alloc_new w (.cells #[.int .i64 0,.int .i64 0,.int .i64 0,.int .i64 0] 240)
  have b1:Below w.heap.size w (w.alloc (.cells #[.int .i64 0,.int .i64 0,.int .i64 0,.int .i64 0] 240)):=(Below.refl _ _).alloc (Nat.le_refl _) _
  have h2:=heap_alloc_new (w.alloc (.cells #[.int .i64 0,.int .i64 0,.int .i64 0,.int .i64 0] 240)) (.cells #[.int .i64 1,.int .i64 0,.int .i64 0,.int .i64 1] 240)
  have b2:Below (w.alloc (.cells #[.int .i64 0,.int .i64 0,.int .i64 0,.int .i64 0] 240)).heap.size (w.alloc (.cells #[.int .i64 0,.int .i64 0,.int .i64 0,.int .i64 0] 240)) ((w.alloc (.cells #[.int .i64 0,.int .i64 0,.int .i64 0,.int .i64 0] 240)).alloc (.cells #[.int .i64 1,.int .i64 0,.int .i64 0,.int .i64 1] 240)):=(Below.refl _ _).alloc (Nat.le_refl _) _
  refine ⟨_,rfl,(b2.block _ (by simp)).trans h1,?_,b1.trans (b2.mono b1.size)⟩
  have h3:=h2
  rw [World.size_alloc] at h3
  exact h3
 obtain ⟨w0,e0,hR0,hF0,hb0⟩:=e0
 have E0:=hide e0
 clear e0
 go_enter Tryz.func198,Tryz.ntmps198
 go_wp2
 rw [E0.out]
 go_loopw [0,1] (fun xv yv wr=>∃ a b c d x y:Int,xv=.int .i64 x∧yv=.int .i64 y∧Lh x0 y0 X Y a b c d x y∧Fac wr (w.heap.size+1) a b c d∧Fac wr w.heap.size 0 0 0 0∧Below w.heap.size w wr) (fun _ yv _=>(intOf yv).toNat)
 case atStart=>exact ⟨1,0,0,1,x0,y0,rfl,rfl,ST.out,hF0,hR0,hb0⟩
 case round =>
  obtain ⟨a,b,c,d,x,y,rfl,rfl,hD,hF,hR,HB⟩:=hrel
  have D:=hide hD
  have ba:=hD.ba
  have bb:=hD.bb
  have bc:=hD.bc
  have bd:=hD.bd
  have bx:=hD.bx
  have by' := hD.by'
  have x1:=hD.x1
  have y1:=hD.y0'
  have pxa:=hD.xa
  have pxb:=hD.xb
  have pyc:=hD.yc
  have pyd:=hD.yd
  clear hD
  by_cases hc:y+c=0
  ·have hcb:((y+c) != 0)=false:=by simp [hc]
   have HC:=hide hc
   clear hc
   obtain ⟨⟨fa,fb,fc,fd⟩,_⟩:=hF.facts
   obtain ⟨⟨ra,rb,rc,rd⟩,re,rf,rg,rh⟩:=hR.facts
   have XF:=hide (hR.set a b c d).facts.1
   have Z:=hide (below_set4 HB (Nat.le_refl _) (.int .i64 a) (.int .i64 b) (.int .i64 c) (.int .i64 d))
   go_wp2
   refine bodyPost_ret (v:=.agg #[.int .i64 a,.int .i64 b,.int .i64 c,.int .i64 d]) ?_ rfl ⟨a,b,c,d,x,y,rfl,D.out,Z.out⟩
   simp [results,Tryz.results198,go_sem,XF.out.1,XF.out.2.1,XF.out.2.2.1,XF.out.2.2.2]
  ·have hcb:((y+c) != 0)=true:=by simp [hc]
   have hcp:0<y+c:=by omega
   clear hc
   by_cases hd:y+d=0
   ·have hdb:((y+d) != 0)=false:=by simp [hd]
    have HD:=hide hd
    clear hd
    obtain ⟨⟨fa,fb,fc,fd⟩,_⟩:=hF.facts
    obtain ⟨⟨ra,rb,rc,rd⟩,re,rf,rg,rh⟩:=hR.facts
    have XF:=hide (hR.set a b c d).facts.1
    have Z:=hide (below_set4 HB (Nat.le_refl _) (.int .i64 a) (.int .i64 b) (.int .i64 c) (.int .i64 d))
    go_wp2
    refine bodyPost_ret (v:=.agg #[.int .i64 a,.int .i64 b,.int .i64 c,.int .i64 d]) ?_ rfl ⟨a,b,c,d,x,y,rfl,D.out,Z.out⟩
    simp [results,Tryz.results198,go_sem,XF.out.1,XF.out.2.1,XF.out.2.2.1,XF.out.2.2.2]
   ·have hdb:((y+d) != 0)=true:=by simp [hd]
    have hdp:0<y+d:=by omega
    clear hd
    have f1:=div_fit (u:=x+a) hcp
    have f2:=div_fit (u:=x+b) hdp
    have g1:=div_small pxa hcp
    have g2:=div_small pxb hdp
    have t1:(x+a).tdiv (y+c)=(x+a) / (y+c):=Int.tdiv_eq_ediv_of_nonneg pxa
    have t2:(x+b).tdiv (y+d)=(x+b) / (y+d):=Int.tdiv_eq_ediv_of_nonneg pxb
    obtain ⟨q,hq⟩:∃ q,(x+a) / (y+c)=q:=⟨_,rfl⟩
    obtain ⟨q',hq'⟩:∃ q,(x+b) / (y+d)=q:=⟨_,rfl⟩
    rw [hq] at f1 g1 t1
    rw [hq'] at f2 g2 t2
    clear hq hq'
    by_cases hqq:q=q'
    ·subst hqq
     have ST' := hide (D.out.step hL hX hX2 hY hY2 h3 h4 hcp hdp f1.1 f1.2 f2.1 f2.2 g1.1)
     have LS:=(D.out.less g1.1 f1.2 f2.2).1
     have bc' := ST'.out.bc
     have bd' := ST'.out.bd
     have by2:=ST'.out.y0'
     obtain ⟨P1,hP1⟩:∃ P,q*c=P:=⟨_,rfl⟩
     obtain ⟨P2,hP2⟩:∃ P,q*d=P:=⟨_,rfl⟩
     obtain ⟨P3,hP3⟩:∃ P,q*y=P:=⟨_,rfl⟩
     rw [hP1] at ST' bc'
     rw [hP2] at ST' bd'
     rw [hP3] at ST' LS by2
     obtain ⟨⟨fa,fb,fc,fd⟩,fe,ff,fg,fh⟩:=hF.facts
     have HF' := hide (hF.set c d (a - P1) (b - P2))
     have HR' := hide (hR.other (show w.heap.size≠w.heap.size+1 by omega) (.int .i64 c) (.int .i64 d) (.int .i64 (a - P1)) (.int .i64 (b - P2)))
     have HB' := hide (below_set4 HB (Nat.le_succ _) (.int .i64 c) (.int .i64 d) (.int .i64 (a - P1)) (.int .i64 (b - P2)))
     have p3:0≤P3:=by rw [←hP3];exact Int.mul_nonneg g1.1 y1
     clear f1 f2
     go_wp2
     go_roundw
     case rel=>exact ⟨c,d,a - P1,b - P2,y,x - P3,rfl,rfl,ST'.out,HF'.out,HR'.out,HB'.out⟩
     case measure=>simp [intOf];omega
    ·have hqb:(q != q')=true:=by simp [hqq]
     clear f1 f2
     obtain ⟨⟨fa,fb,fc,fd⟩,_⟩:=hF.facts
     obtain ⟨⟨ra,rb,rc,rd⟩,re,rf,rg,rh⟩:=hR.facts
     have XF:=hide (hR.set a b c d).facts.1
     have Z:=hide (below_set4 HB (Nat.le_refl _) (.int .i64 a) (.int .i64 b) (.int .i64 c) (.int .i64 d))
     go_wp2
     refine bodyPost_ret (v:=.agg #[.int .i64 a,.int .i64 b,.int .i64 c,.int .i64 d]) ?_ rfl ⟨a,b,c,d,x,y,rfl,D.out,Z.out⟩
     simp [results,Tryz.results198,go_sem,XF.out.1,XF.out.2.1,XF.out.2.2.1,XF.out.2.2.2]
end Lm
end Go.Proofs.YtaofpigilgapgaaGreatDoor

namespace Go.Proofs.YtaofpigilgapgaaGreatDoor
namespace Lm
open Go.RowKit
theorem Fac.below {w w' : World} {g:Nat} {a b c d:Int} (h:Fac w g a b c d) (hb:Below w.heap.size w w'):Fac w' g a b c d:=(hb.block g (lt_of_heap h)).trans h
theorem below_then {w w' w'' : World} (h:Below w.heap.size w w') (h2:Below w'.heap.size w' w''):Below w.heap.size w w'' := h.trans (h2.mono h.size)
theorem win_facts {X Y:Int} {l m:Nat} (hX:IsBits X l) (hl:l=m+30) (hY0:0≤Y) (hle:Y≤X) :
  X / p2 m % 1073741824=X / p2 m∧Y / p2 m % 1073741824=Y / p2 m∧1≤X / p2 m∧0≤Y / p2 m∧X / p2 m<1073741824∧Y / p2 m<1073741824∧X / p2 m*p2 m≤X∧X≤(X / p2 m+1)*p2 m∧Y / p2 m*p2 m≤Y∧Y≤(Y / p2 m+1)*p2 m:=by
 have hp:=p2_pos m
 have hlow:p2 (l - 1)≤X:=by rcases hX.2 with h | h <;> omega
 have h29:p2 (l - 1)=p2 m*p2 29:=by rw [←p2_add];congr 1;omega
 have h30:p2 l=p2 m*p2 30:=by rw [←p2_add,hl]
 rw [show p2 29=536870912 from by decide] at h29
 rw [show p2 30=1073741824 from by decide] at h30
 have hX1:=hX.1
 have fx:=div_fit (u:=X) (s:=p2 m) (by omega)
 have fy:=div_fit (u:=Y) (s:=p2 m) (by omega)
 have x0:0≤X / p2 m:=Int.ediv_nonneg (by omega) (by omega)
 have y0:0≤Y / p2 m:=Int.ediv_nonneg hY0 (by omega)
 have xl:X / p2 m<1073741824:=Int.ediv_lt_of_lt_mul (by omega) (by rw [Int.mul_comm];omega)
 have yl:Y / p2 m<1073741824:=Int.ediv_lt_of_lt_mul (by omega) (by rw [Int.mul_comm];omega)
 have x1:1≤X / p2 m:=by
  apply Int.le_ediv_of_mul_le (by omega)
  omega
 refine ⟨Int.emod_eq_of_lt x0 xl,Int.emod_eq_of_lt y0 yl,x1,y0,xl,yl,fx.1,by omega,fy.1,by omega⟩
set_option maxRecDepth 20000 in
set_option maxHeartbeats 2000000 in
theorem shrink_any (w:World) (B:Nat) (hB:B≤w.heap.size) (a1 a2:Option Addr) (c1 c2:Nat) (xs ys:List Int) (hx:Ow B w (.slice a1 xs.length c1) xs) (hy:Ow B w (.slice a2 ys.length c2) ys) (hcy:Canon ys) (hm:xs.length≤400000) (h3:2<ys.length) (hle:val ys≤val xs) :
  Calls Tryz.prog 173 #[.slice a1 xs.length c1,.slice a2 ys.length c2] w fun e w'=>∃ v1 v2 X' Y',e=.returned (.tuple #[v1,v2])∧Is B w' v1 X'∧Is B w' v2 Y'∧Y'≤X'∧Y'<val ys∧X'≤val xs∧Int.gcd X' Y' = Int.gcd (val xs) (val ys)∧Below w.heap.size w w' := by
 obtain ⟨_,x1,x2,x3⟩:=hx.sl.parts
 obtain ⟨_,y1,y2,y3⟩:=hy.sl.parts
 have hY0:=(val_bounds y3).1
 have hlen:ys.length≤xs.length:=le_len x3 hcy hle
 have hX64:18446744073709551616≤val xs:=by
  have h9:=canon_low hcy (by intro e;subst e;simp at h3)
  have h8:=pw_mono (m:=2) (n:=ys.length - 1) (by omega)
  rw [show pw 2=18446744073709551616 from by decide] at h8
  omega
 have sx:=hx.sl
 have sy:=hy.sl
 go_enter Tryz.func173,Tryz.ntmps173
 go_wp2_with fail
 refine (bits_any _ _ _ _ xs sx (by omega)).mono ?_
 rintro e w' ⟨l,rfl,t1,rfl⟩
 have hl65:65≤l:=by
  apply Classical.byContradiction
  intro hn
  have h9:=p2_mono (m:=l) (n:=64) (by omega)
  rw [show p2 64=18446744073709551616 from by decide] at h9
  have:=t1.1
  omega
 have hlm:l≤32*xs.length:=by
  have h9:=(val_bounds x3).2
  rw [pw_p2] at h9
  apply Classical.byContradiction
  intro hn
  have h8:=p2_mono (m:=32*xs.length) (n:=l - 1) (by omega)
  rcases t1.2 with h | h <;> omega
 obtain ⟨m,hm'⟩:∃ m,l=m+30:=⟨l - 30,by omega⟩
 have WF:=hide (win_facts t1 hm' hY0 hle)
 have el:(l:Int) - 30=(m:Nat):=by omega
 have kx:Hid (∀ w2:World,Sl w2 (.slice a1 xs.length c1) xs→Calls Tryz.prog 199 #[.slice a1 xs.length c1,.int .i64 m] w2 fun e w3=>e=.returned (.int .u32 (val xs / p2 m))∧w3=w2):=by
  intro w2 h2
  have h9:=window_any w2 a1 _ c1 xs h2 m (by omega)
  rwa [WF.out.1] at h9
 have ky:Hid (∀ w2:World,Sl w2 (.slice a2 ys.length c2) ys→Calls Tryz.prog 199 #[.slice a2 ys.length c2,.int .i64 m] w2 fun e w3=>e=.returned (.int .u32 (val ys / p2 m))∧w3=w2):=by
  intro w2 h2
  have h9:=window_any w2 a2 _ c2 ys h2 m (by omega)
  rwa [WF.out.2.1] at h9
 obtain ⟨u,hu⟩:∃ u,val xs / p2 m=u:=⟨_,rfl⟩
 obtain ⟨v,hv⟩:∃ v,val ys / p2 m=v:=⟨_,rfl⟩
 rw [hu] at WF kx
 rw [hv] at WF ky
 have u1:=WF.out.2.2.1
 have v1:=WF.out.2.2.2.1
 have u2:=WF.out.2.2.2.2.1
 have v2:=WF.out.2.2.2.2.2.1
 have kl:Hid (∀ w2:World,Calls Tryz.prog 198 #[.int .i64 u,.int .i64 v] w2 fun e w3=>∃ a b c d x y,e=.returned (.agg #[.int .i64 a,.int .i64 b,.int .i64 c,.int .i64 d])∧Lh u v (val xs) (val ys) a b c d x y∧Below w2.heap.size w2 w3):=by
  intro w2
  have hp:=p2_pos m
  exact lookAhead_any w2 u v (val xs) (val ys) (p2 m) u1 v1 u2 v2 hY0 hle (by omega) WF.out.2.2.2.2.2.2.1 WF.out.2.2.2.2.2.2.2.1 WF.out.2.2.2.2.2.2.2.2.1 WF.out.2.2.2.2.2.2.2.2.2
 clear t1 hm' hu hv x3 y3
 go_wp2_with fail
 refine (kx.out _ sx).mono ?_
 rintro e w2 ⟨rfl,rfl⟩
 go_wp2_with fail
 refine (ky.out _ sy).mono ?_
 rintro e w2 ⟨rfl,rfl⟩
 go_wp2_with fail
 refine (kl.out _).mono ?_
 rintro e w3 ⟨a,b,c,d,x,y,rfl,hD,hb3⟩
 have D:=hide hD
 have hb4:Below w3.heap.size w3 (w3.alloc (.cells #[.int .i64 a,.int .i64 b,.int .i64 c,.int .i64 d] 240)):=(Below.refl _ _).alloc (Nat.le_refl _) _
 have HZ:Below w2.heap.size w2 (w3.alloc (.cells #[.int .i64 a,.int .i64 b,.int .i64 c,.int .i64 d] 240)):=below_then hb3 hb4
 have FZ:Fac (w3.alloc (.cells #[.int .i64 a,.int .i64 b,.int .i64 c,.int .i64 d] 240)) w3.heap.size a b c d:=heap_alloc_new w3 _
 obtain ⟨w4,e4⟩:∃ w4,w3.alloc (.cells #[.int .i64 a,.int .i64 b,.int .i64 c,.int .i64 d] 240)=w4:=⟨_,rfl⟩
 rw [e4] at HZ FZ
 have E4:=hide e4
 clear e4 hD hb4
 have hx4:=hx.below HZ
 have hy4:=hy.below HZ
 by_cases hb:b=0
 ·subst hb
  have G:=hide (gcd_step (val xs) (val ys) (val xs / val ys))
  have hpos:0<val ys:=by
   have h9:=canon_low hcy (by intro e;subst e;simp at h3)
   have:=pw_pos (ys.length - 1)
   omega
  have hmod:val xs - val xs / val ys*val ys=val xs % val ys:=by
   have:=Int.mul_ediv_add_emod (val xs) (val ys)
   rw [Int.mul_comm] at this
   omega
  rw [hmod] at G
  have M:=hide (And.intro (Int.emod_nonneg (val xs) (show val ys≠0 by omega)) (Int.emod_lt_of_pos (val xs) hpos))
  clear hmod
  go_wp2_with fail
  rw [E4.out]
  refine (divmod_any _ _ _ _ _ _ _ xs ys hx4.sl hy4.sl (by omega) (by omega)).mono ?_
  rintro e w5 ⟨v1',v2',rfl,i1,i2,_,hb5⟩
  have R1:Hid (Is B w5 (.slice a2 ys.length c2) (val ys)):=⟨ys,hy4.below hb5,hcy,rfl⟩
  have R2:=hide (i2.mono (B' := B) (by have:=HZ.size;omega))
  have Z:=hide (below_then HZ hb5)
  go_wp2
  go_ret2
  exact ⟨_,_,val ys,val xs % val ys,rfl,R1.out,R2.out,by have:=M.out;omega,M.out.2,hle,G.out,Z.out⟩
 ·have hbb:(b == 0)=false:=by simp [hb]
  obtain ⟨⟨fa,fb,fc,fd⟩,fe,ff,fg,fh⟩:=FZ.facts
  have VX:=(val_bounds hx.sl.parts.2.2.2).2
  have sgn1:(0≤a∧b≤0)∨(a≤0∧0≤b):=by rcases D.out.sig with h | h <;> omega
  have sgn2:(0≤c∧d≤0)∨(c≤0∧0≤d):=by rcases D.out.sig with h | h <;> omega
  have SG1:=hide sgn1
  have SG2:=hide sgn2
  have P1:Hid (0≤a*val xs+b*val ys∧a*val xs+b*val ys<pw xs.length):=by have h1:=D.out.le;have h2:=D.out.nn;have h4:=D.out.top;show _∧_;omega
  have P2:Hid (0≤c*val xs+d*val ys∧c*val xs+d*val ys<pw xs.length):=by have h1:=D.out.le;have h2:=D.out.nn;have h4:=D.out.top;show _∧_;omega
  have HB0:=hide hb
  clear sgn1 sgn2 VX hb
  go_wp2
  rw [E4.out]
  go_region_held3 (fun w'=>w'.cell? ⟨w3.heap.size,0,none⟩ = some (.int .i64 a)∧w'.cell? ⟨w3.heap.size,1,none⟩ = some (.int .i64 b)∧w'.cell? ⟨w3.heap.size,2,none⟩ = some (.int .i64 c)∧w'.cell? ⟨w3.heap.size,3,none⟩ = some (.int .i64 d)) (go_keep) (first
   | (go_at_call 200;have _hq:=hb5';refine (combine_any _ _ _ _ _ _ _ xs ys ((hx4.below hb5').sl.below (by repeat (first | exact Below.refl _ _ | refine Below.drew ?_))) ((hy4.below hb5').sl.below (by repeat (first | exact Below.refl _ _ | refine Below.drew ?_))) (by omega) hlen c d D.out.bc D.out.bd SG2.out P2.out.1 P2.out.2).mono ?_;rintro e w6 ⟨v6,rfl,i6,hb6⟩;have hb6' : Below w5.heap.size w5 w6:=(show Below w5.heap.size w5 _ by repeat (first | exact Below.refl _ _ | refine Below.drew ?_)).trans hb6;have FZ6:=FZ5.below hb6';obtain ⟨⟨ha,hb,hc,hd⟩,he,hf,hg,hh⟩:=FZ6.facts)
   | (go_at_call 200;refine (combine_any _ _ _ _ _ _ _ xs ys (hx4.sl.below (by repeat (first | exact Below.refl _ _ | refine Below.drew ?_))) (hy4.sl.below (by repeat (first | exact Below.refl _ _ | refine Below.drew ?_))) (by omega) hlen a b D.out.ba D.out.bb SG1.out P1.out.1 P1.out.2).mono ?_;rintro e w5 ⟨v5,rfl,i5,hb5⟩;have hb5' : Below w4.heap.size w4 w5:=(show Below w4.heap.size w4 _ by repeat (first | exact Below.refl _ _ | refine Below.drew ?_)).trans hb5;have FZ5:=FZ.below hb5';obtain ⟨⟨ga,gb,gc,gd⟩,ge,gf,gg,gh⟩:=FZ5.facts))
  all_goals
   have R1:=hide ((i5.below hb6').mono (B' := B) (show B≤w4.heap.size by have:=HZ.size;omega))
   have R2:=hide (i6.mono (B' := B) (show B≤w5.heap.size by have:=HZ.size;have:=hb5'.size;omega))
   have Z:=hide (below_then HZ (below_then hb5' hb6'))
   clear fa fb fc fd fe ff fg fh ga gb gc gd ge gf gg gh ha hb hc hd he hf hg hh
   go_wp2
   go_ret2
   exact ⟨_,_,_,_,rfl,R1.out,R2.out,D.out.le,D.out.bz HB0.out,D.out.top,D.out.gcd,Z.out⟩
end Lm
end Go.Proofs.YtaofpigilgapgaaGreatDoor

namespace Go.Proofs.YtaofpigilgapgaaGreatDoor
namespace Lm
open Go.RowKit
theorem two_val' {rs:List Int} (h:¬ 2<rs.length):rs.getD 1 0*4294967296+rs.getD 0 0=val rs:=by
 match rs,h with
 | [],_=>rfl
 | [x],_=>simp [val]
 | [x,y],_=>simp [val];omega
 | _ :: _ :: _ :: _,h=>simp at h
theorem ret2_u64' {a b:Int} (h:a=b):Ending.returned (.tuple #[.int .u64 a,.bool true])=.returned (.tuple #[.int .u64 b,.bool true]):=by rw [h]
theorem short_val' {rs:List Int} (h:Limb rs) (h2:rs.length≤2):0≤val rs∧val rs<18446744073709551616:=by
 have h1:=val_bounds h
 have h3:=pw_mono (m:=rs.length) (n:=2) (by omega)
 rw [show pw 2=18446744073709551616 from by decide] at h3
 omega
set_option maxRecDepth 20000 in
set_option maxHeartbeats 400000 in
theorem uint_short (w:World) (ao:Option Addr) (n cap:Nat) (xs:List Int) (hx:Sl w (.slice ao n cap) xs) (hs:xs.length≤2) :
  Calls Tryz.prog 175 #[.slice ao n cap] w fun e w'=>e=.returned (.tuple #[.int .u64 (val xs),.bool true])∧w' = w:=by
 obtain ⟨rfl,h1,h2,h3⟩:=hx.parts
 have t1:=tl_le xs
 have kc:=hide (cut_any w ao _ cap xs hx)
 have hcn:=canon_trim h3
 have hX:(xs.take (tl xs)).length=tl xs:=by simp;omega
 have h2' : ¬ (2:Int)<((tl xs:Nat):Int):=by omega
 have E3:=hide (two_val' (rs:=xs.take (tl xs)) (by omega))
 rw [val_take_tl] at E3
 have b1:=limb_getD hcn.1 1
 have b0:=limb_getD hcn.1 0
 have k1:=limb_nat w _ _ hx.cut 1
 have k0:=limb_nat w _ _ hx.cut 0
 generalize (xs.take (tl xs)).getD 1 0=y1 at E3 b1 k1
 generalize (xs.take (tl xs)).getD 0 0=y0 at E3 b0 k0
 have K1:=hide k1
 have K0:=hide k0
 have hor:bits .or .u64 (y1*4294967296) y0=y1*4294967296+y0:=or_join y1 y0 b1.1 b1.2 b0.1 b0.2
 clear hcn hX k1 k0
 go_enter Tryz.func175,Tryz.ntmps175
 go_wp2_with fail
 refine (kc.out).mono ?_
 rintro e w' ⟨rfl,rfl⟩
 go_wp2_with fail
 refine (K1.out).mono ?_
 rintro e w' ⟨rfl,rfl⟩
 go_wp2_with fail
 refine (K0.out).mono ?_
 rintro e w' ⟨rfl,rfl⟩
 go_wp2
 go_ret2
 exact ⟨ret2_u64' E3.out,rfl⟩
theorem gcd_mod (m n:Int):Int.gcd n (m % n)=Int.gcd m n:=by
 have h1:=gcd_step m n (m / n)
 have h2:=Int.mul_ediv_add_emod m n
 rw [Int.mul_comm] at h2
 rw [show m - m / n*n=m % n by omega] at h1
 exact h1
theorem ret_u64 {a b:Int} (h:a=b):Ending.returned (.int .u64 a)=.returned (.int .u64 b):=by rw [h]
set_option maxRecDepth 20000 in
set_option maxHeartbeats 400000 in
theorem gcdShort_any (w:World) (m n:Int) (hm:0≤m∧m<18446744073709551616) (hn:0≤n∧n<18446744073709551616) :
  Calls Tryz.prog 176 #[.int .u64 m,.int .u64 n] w fun e w'=>e=.returned (.int .u64 (Int.gcd m n))∧Below w.heap.size w w' := by
 go_enter Tryz.func176,Tryz.ntmps176
 go_wp2
 go_loopw [0,1] (fun mv nv wr=>∃ a b:Int,mv=.int .u64 a∧nv=.int .u64 b∧(0≤a∧a<18446744073709551616)∧(0≤b∧b<18446744073709551616)∧Int.gcd a b=Int.gcd m n∧Below w.heap.size w wr) (fun _ nv _=>(intOf nv).toNat)
 case atStart=>exact ⟨m,n,rfl,rfl,hm,hn,rfl,Below.refl _ _⟩
 case round =>
  obtain ⟨a,b,rfl,rfl,ha,hb,hg,HB⟩:=hrel
  have HG:=hide hg
  clear hg
  by_cases h0:b=0
  ·subst h0
   have HF:Hid (a=(Int.gcd m n:Int)):=by
    show _ = _
    rw [←HG.out,Int.gcd_zero_right]
    omega
   go_wp2
   go_ret
   exact ⟨ret_u64 HF.out,HB⟩
  ·have hbb:(b != 0)=true:=by simp [h0]
   have t1:a.tmod b=a % b:=Int.tmod_eq_emod_of_nonneg ha.1
   have r0:=Int.emod_nonneg a h0
   have r1:=Int.emod_lt_of_pos a (show 0<b by omega)
   have HG' := hide ((gcd_mod a b).trans HG.out)
   go_wp2
   go_quiet (fail)
   go_wp2
   go_roundw
   case rel=>exact ⟨b,a % b,rfl,rfl,hb,by omega,HG'.out,below_drewN HB _⟩
   case measure=>simp [intOf];omega
theorem Is.ow {B:Nat} {w:World} {v:Value} {x:Int} (h:Is B w v x):∃ ao cap rs,v=.slice ao rs.length cap∧Ow B w (.slice ao rs.length cap) rs∧Canon rs∧val rs=x:=by
 obtain ⟨rs,ho,hc,hv⟩:=h
 obtain ⟨ao,cap,rfl,h1,h2,h3,h4⟩:=ho
 exact ⟨ao,cap,rs,rfl,⟨ao,cap,rfl,h1,h2,h3,h4⟩,hc,hv⟩
theorem trim_is' (w:World) (ao:Option Addr) (n cap:Nat) (zs:List Int) (h:Sl w (.slice ao n cap) zs) (hz:zs.length≤1000000) :
  Calls Tryz.prog 135 #[.slice ao n cap] w fun e w'=>∃ ao cap rs,e=.returned (.slice ao rs.length cap)∧Ow w.heap.size w' (.slice ao rs.length cap) rs∧Canon rs∧val rs=val zs∧rs.length≤zs.length∧Below w.heap.size w w' := by
 refine (trim_any w ao n cap zs h hz).mono ?_
 rintro e w' ⟨v,rfl,ho,hb⟩
 obtain ⟨ao',cap',rs,rfl,h1,h2,h3⟩:=Is.ow (B:=w.heap.size) ⟨_,ho,canon_trim h.parts.2.2.2,val_take_tl zs⟩
 exact ⟨ao',cap',rs,rfl,h1,h2,h3,le_len h.parts.2.2.2 h2 (by omega),hb⟩
theorem sl_one_list {w:World} {v:Value} {r s:List Int} (h1:Sl w v r) (h2:Sl w v s):r=s:=by
 obtain ⟨ao,cap,rfl,_,_,_,h4⟩:=h1
 obtain ⟨ao',cap',hv,_,_,_,g4⟩:=h2
 obtain ⟨rfl,hl,rfl⟩:=(Value.slice.injEq .. ▸ hv)
 apply List.ext_getElem hl
 intro i hi1 hi2
 rcases h4 with rfl | ⟨b,off,rfl,hc⟩
 ·simp at hi1
 rcases g4 with rfl | ⟨b',off',e,hc'⟩
 ·simp at hi2
 ·obtain ⟨rfl,rfl⟩:b=b'∧off=off' := by simpa using e
  have e1:=hc i hi1
  have e2:=hc' i hi2
  rw [e1] at e2
  simp only [Option.some.injEq,Value.int.injEq,true_and,List.getD_eq_getElem?_getD,List.getElem?_eq_getElem hi1,List.getElem?_eq_getElem hi2,Option.getD_some] at e2
  exact e2
open Classical in
noncomputable def worth (w:World) (v:Value):Nat:=if h:∃ r,Sl w v r then (val (Classical.choose h)).toNat else 0
theorem worth_of {w:World} {v:Value} {r:List Int} (h:Sl w v r):worth w v=(val r).toNat:=by
 have hex:∃ r,Sl w v r:=⟨r,h⟩
 unfold worth
 rw [dif_pos hex,sl_one_list (Classical.choose_spec hex) h]
set_option maxRecDepth 20000 in
set_option maxHeartbeats 2000000 in
theorem gcd_any (w:World) (a1 a2:Option Addr) (n1 n2 c1 c2:Nat) (xs ys:List Int) (hx:Sl w (.slice a1 n1 c1) xs) (hy:Sl w (.slice a2 n2 c2) ys) (hm1:xs.length≤400000) (hm2:ys.length≤400000) :
  Calls Tryz.prog 134 #[.slice a1 n1 c1,.slice a2 n2 c2] w fun e w'=>∃ v,e=.returned v∧Is w.heap.size w' v (Int.gcd (val xs) (val ys))∧Below w.heap.size w w' := by
 go_enter Tryz.func134,Tryz.ntmps134
 go_wp2_with fail
 refine (trim_is' _ _ _ _ xs hx (by omega)).mono ?_
 rintro e w1 ⟨p1,q1,r1,rfl,o1,k1,v1,l1,hb1⟩
 go_wp2_with fail
 refine (trim_is' _ _ _ _ ys (hy.below hb1) (by omega)).mono ?_
 rintro e w2 ⟨p2,q2,r2,rfl,o2,k2,v2,l2,hb2⟩
 replace o1:=o1.below hb2
 replace o2:=o2.mono (B' := w.heap.size) hb1.size
 have HB2:=below_then hb1 hb2
 have C1:=hide k1
 have C2:=hide k2
 have V1:=hide v1
 have V2:=hide v2
 clear k1 k2 v1 v2
 have hle:=fun (h:¬ val r1<val r2)=>show val r2≤val r1 by omega
 have g0:∀ {a b c d:Int},Int.gcd a b=Int.gcd c d→((Int.gcd a b:Nat):Int)=((Int.gcd c d:Nat):Int):=fun h=>by rw [h]
 have G1:Hid (Int.gcd (val r1) (val r2)=Int.gcd (val xs) (val ys)):=by rw [V1.out,V2.out];rfl
 have G2:Hid (Int.gcd (val r2) (val r1)=Int.gcd (val xs) (val ys)):=by show _ = _;rw [Int.gcd_comm];exact G1.out
 clear g0 hle
 by_cases hlt:val r1<val r2
 ·have k1:=hide (cmpI_lt hlt)
  have HLT:=hide hlt
  clear hlt
  go_wp2_with fail
  refine (cmp_any _ _ _ _ _ _ _ r1 r2 o1.sl o2.sl).mono ?_
  rintro e w3 ⟨rfl,hb3⟩
  rw [k1.out]
  replace o1:=o1.below hb3
  replace o2:=o2.below hb3
  have HB3:=below_then HB2 hb3
  go_wp2
  go_loopw [5,6] (fun xv yv wr=>∃ (p p' : Option Addr) (q q' : Nat) (r r' : List Int),xv=.slice p r.length q∧yv=.slice p' r'.length q'∧Ow w.heap.size wr (.slice p r.length q) r∧Canon r∧Ow w.heap.size wr (.slice p' r'.length q') r'∧Canon r'∧val r'≤val r∧r.length≤400000∧Int.gcd (val r) (val r')=Int.gcd (val xs) (val ys)∧Below w.heap.size w wr) (fun _ yv wr=>worth wr yv)
  case atStart=>exact ⟨p2,p1,q2,q1,r2,r1,rfl,rfl,o2,C2.out,o1,C1.out,by have:=HLT.out;omega,by omega,G2.out,HB3⟩
  case round =>
   obtain ⟨p,p',q,q',r,r',rfl,rfl,hr,hcr,hr',hcr',hle,hlr,hg,HB⟩:=hrel
   obtain ⟨_,z1,z2,z3⟩:=hr.sl.parts
   obtain ⟨_,y1,y2,y3⟩:=hr'.sl.parts
   have HCR:=hide hcr
   have HCR' := hide hcr'
   have HLE:=hide hle
   have HG:=hide hg
   have Z3:=hide z3
   have Y3:=hide y3
   have hrl:r'.length≤r.length:=le_len z3 hcr' hle
   clear hcr hcr' hle hg z3 y3
   by_cases h2:2<r'.length
   ·have h2' : (2:Int)<(r'.length:Int):=by omega
    have ks:=hide (shrink_any wr w.heap.size HB.size p p' q q' r r' hr hr' HCR'.out hlr h2 HLE.out)
    have MW:=hide (worth_of hr'.sl)
    have V0:=hide (val_bounds Y3.out).1
    go_wp2_with fail
    refine (ks.out).mono ?_
    rintro e w5 ⟨v5,v6,X',Y',rfl,i5,i6,hle5,hlt5,htop5,hg5,hb5⟩
    obtain ⟨p5,q5,r5,rfl,o5,c5,e5⟩:=i5.ow
    obtain ⟨p6,q6,r6,rfl,o6,c6,e6⟩:=i6.ow
    have MW5:=hide (worth_of o6.sl)
    have L5:Hid (r5.length≤400000):=by
     have h9:=le_len Z3.out c5 (by rw [e5];exact htop5)
     show _≤_
     omega
    have R:=hide (And.intro e5 (And.intro e6 (And.intro hle5 (And.intro hlt5 hg5))))
    have C5:=hide c5
    have C6:=hide c6
    have Z5:=hide (HB.trans (hb5.mono HB.size))
    clear e5 e6 hle5 hlt5 htop5 hg5 c5 c6
    go_wp2
    go_roundw
    case rel=>exact ⟨p5,p6,q5,q6,r5,r6,rfl,rfl,o5,C5.out,o6,C6.out,by rw [R.out.1,R.out.2.1];exact R.out.2.2.1,L5.out,by rw [R.out.1,R.out.2.1,R.out.2.2.2.2];exact HG.out,Z5.out⟩
    case measure =>
     rw [MW.out,MW5.out,R.out.2.1]
     have h8:=(val_bounds C6.out.1).1
     rw [R.out.2.1] at h8
     have h7:=R.out.2.2.2.1
     omega
   ·have h2' : ¬ (2:Int)<(r'.length:Int):=by omega
    by_cases h0:val r' = 0
    ·have kd:=hide (divmod_none wr _ _ _ _ _ _ r r' hr.sl hr'.sl h0)
     have F:Hid (Is w.heap.size wr (.slice p r.length q) (Int.gcd (val xs) (val ys))):=by
      refine ⟨r,hr,HCR.out,?_⟩
      rw [←HG.out,h0,Int.gcd_zero_right]
      have:=(val_bounds Z3.out).1
      omega
     go_wp2_with fail
     refine (kd.out).mono ?_
     rintro e w5 ⟨rfl,hb5⟩
     have F5:=hide (F.out.below hb5)
     have Z5:=hide (HB.trans (hb5.mono HB.size))
     go_wp2
     go_ret
     exact ⟨_,rfl,F5.out,Z5.out⟩
    ·have kd:=hide (divmod_g wr _ _ _ _ _ _ r r' hr.sl hr'.sl (by omega) h0)
     have GM:=hide ((gcd_mod (val r) (val r')).trans HG.out)
     have sv:=short_val' Y3.out (by omega)
     go_wp2_with fail
     refine (kd.out).mono ?_
     rintro e w5 ⟨p5,q5,r5,p6,q6,r6,rfl,G5,G6,l5,l6,hb5⟩
     have hr5:=hr'.below hb5
     have sv6:=short_val' G6.canon.1 (by omega)
     have V6:=hide G6.val
     have Z5:=HB.trans (hb5.mono HB.size)
     go_wp2_with fail
     refine (uint_short _ _ _ _ r' hr5.sl (by omega)).mono ?_
     rintro e w6 ⟨rfl,rfl⟩
     go_wp2_with fail
     refine (uint_short _ _ _ _ r6 G6.sl (by omega)).mono ?_
     rintro e w6 ⟨rfl,rfl⟩
     go_wp2_with fail
     refine (gcdShort_any _ (val r') (val r6) sv sv6).mono ?_
     rintro e w7 ⟨rfl,hb7⟩
     have E7:Hid (Int.gcd (val r') (val r6)=Int.gcd (val xs) (val ys)):=by rw [V6.out];exact GM.out
     rw [E7.out]
     have hgl:Hid (((Int.gcd (val xs) (val ys):Nat):Int)<18446744073709551616):=by
      have h9:Int.gcd (val r') (val r6)≤(val r').natAbs:=Int.gcd_le_natAbs_left _ (by omega)
      rw [E7.out] at h9
      show _<_
      omega
     have Z7:=Z5.trans (hb7.mono Z5.size)
     have hs0:(0:Int)≤((Int.gcd (val xs) (val ys):Nat):Int):=by omega
     obtain ⟨GG,hGG⟩:∃ G,((Int.gcd (val xs) (val ys):Nat):Int)=G:=⟨_,rfl⟩
     rw [hGG] at hgl hs0 ⊢
     have HGG:=hide hGG
     clear hGG
     go_wp2_with fail
     refine (small_any _ GG hs0 hgl.out).mono ?_
     rintro e w8 ⟨v8,rfl,i8,hb8⟩
     have R8:=hide (i8.mono (B' := w.heap.size) Z7.size)
     have Z8:=hide (Z7.trans (hb8.mono Z7.size))
     go_wp2
     go_ret
     exact ⟨_,rfl,by rw [HGG.out];exact R8.out,Z8.out⟩
 ·have HK:Hid (∃ k,cmpI (val r1) (val r2)=k∧¬ k<0):=⟨_,rfl,fun h=>hlt (cmpI_neg.1 h)⟩
  obtain ⟨k,hk,hk0⟩:=HK.out
  have k1:=hide hk
  have HLT:=hide hlt
  clear hlt hk HK
  go_wp2_with fail
  refine (cmp_any _ _ _ _ _ _ _ r1 r2 o1.sl o2.sl).mono ?_
  rintro e w3 ⟨rfl,hb3⟩
  rw [k1.out]
  replace o1:=o1.below hb3
  replace o2:=o2.below hb3
  have HB3:=below_then HB2 hb3
  go_wp2
  go_loopw [5,6] (fun xv yv wr=>∃ (p p' : Option Addr) (q q' : Nat) (r r' : List Int),xv=.slice p r.length q∧yv=.slice p' r'.length q'∧Ow w.heap.size wr (.slice p r.length q) r∧Canon r∧Ow w.heap.size wr (.slice p' r'.length q') r'∧Canon r'∧val r'≤val r∧r.length≤400000∧Int.gcd (val r) (val r')=Int.gcd (val xs) (val ys)∧Below w.heap.size w wr) (fun _ yv wr=>worth wr yv)
  case atStart=>exact ⟨p1,p2,q1,q2,r1,r2,rfl,rfl,o1,C1.out,o2,C2.out,by have:=HLT.out;omega,by omega,G1.out,HB3⟩
  case round =>
   obtain ⟨p,p',q,q',r,r',rfl,rfl,hr,hcr,hr',hcr',hle,hlr,hg,HB⟩:=hrel
   obtain ⟨_,z1,z2,z3⟩:=hr.sl.parts
   obtain ⟨_,y1,y2,y3⟩:=hr'.sl.parts
   have HCR:=hide hcr
   have HCR' := hide hcr'
   have HLE:=hide hle
   have HG:=hide hg
   have Z3:=hide z3
   have Y3:=hide y3
   have hrl:r'.length≤r.length:=le_len z3 hcr' hle
   clear hcr hcr' hle hg z3 y3
   by_cases h2:2<r'.length
   ·have h2' : (2:Int)<(r'.length:Int):=by omega
    have ks:=hide (shrink_any wr w.heap.size HB.size p p' q q' r r' hr hr' HCR'.out hlr h2 HLE.out)
    have MW:=hide (worth_of hr'.sl)
    have V0:=hide (val_bounds Y3.out).1
    go_wp2_with fail
    refine (ks.out).mono ?_
    rintro e w5 ⟨v5,v6,X',Y',rfl,i5,i6,hle5,hlt5,htop5,hg5,hb5⟩
    obtain ⟨p5,q5,r5,rfl,o5,c5,e5⟩:=i5.ow
    obtain ⟨p6,q6,r6,rfl,o6,c6,e6⟩:=i6.ow
    have MW5:=hide (worth_of o6.sl)
    have L5:Hid (r5.length≤400000):=by
     have h9:=le_len Z3.out c5 (by rw [e5];exact htop5)
     show _≤_
     omega
    have R:=hide (And.intro e5 (And.intro e6 (And.intro hle5 (And.intro hlt5 hg5))))
    have C5:=hide c5
    have C6:=hide c6
    have Z5:=hide (HB.trans (hb5.mono HB.size))
    clear e5 e6 hle5 hlt5 htop5 hg5 c5 c6
    go_wp2
    go_roundw
    case rel=>exact ⟨p5,p6,q5,q6,r5,r6,rfl,rfl,o5,C5.out,o6,C6.out,by rw [R.out.1,R.out.2.1];exact R.out.2.2.1,L5.out,by rw [R.out.1,R.out.2.1,R.out.2.2.2.2];exact HG.out,Z5.out⟩
    case measure =>
     rw [MW.out,MW5.out,R.out.2.1]
     have h8:=(val_bounds C6.out.1).1
     rw [R.out.2.1] at h8
     have h7:=R.out.2.2.2.1
     omega
   ·have h2' : ¬ (2:Int)<(r'.length:Int):=by omega
    by_cases h0:val r' = 0
    ·have kd:=hide (divmod_none wr _ _ _ _ _ _ r r' hr.sl hr'.sl h0)
     have F:Hid (Is w.heap.size wr (.slice p r.length q) (Int.gcd (val xs) (val ys))):=by
      refine ⟨r,hr,HCR.out,?_⟩
      rw [←HG.out,h0,Int.gcd_zero_right]
      have:=(val_bounds Z3.out).1
      omega
     go_wp2_with fail
     refine (kd.out).mono ?_
     rintro e w5 ⟨rfl,hb5⟩
     have F5:=hide (F.out.below hb5)
     have Z5:=hide (HB.trans (hb5.mono HB.size))
     go_wp2
     go_ret
     exact ⟨_,rfl,F5.out,Z5.out⟩
    ·have kd:=hide (divmod_g wr _ _ _ _ _ _ r r' hr.sl hr'.sl (by omega) h0)
     have GM:=hide ((gcd_mod (val r) (val r')).trans HG.out)
     have sv:=short_val' Y3.out (by omega)
     go_wp2_with fail
     refine (kd.out).mono ?_
     rintro e w5 ⟨p5,q5,r5,p6,q6,r6,rfl,G5,G6,l5,l6,hb5⟩
     have hr5:=hr'.below hb5
     have sv6:=short_val' G6.canon.1 (by omega)
     have V6:=hide G6.val
     have Z5:=HB.trans (hb5.mono HB.size)
     go_wp2_with fail
     refine (uint_short _ _ _ _ r' hr5.sl (by omega)).mono ?_
     rintro e w6 ⟨rfl,rfl⟩
     go_wp2_with fail
     refine (uint_short _ _ _ _ r6 G6.sl (by omega)).mono ?_
     rintro e w6 ⟨rfl,rfl⟩
     go_wp2_with fail
     refine (gcdShort_any _ (val r') (val r6) sv sv6).mono ?_
     rintro e w7 ⟨rfl,hb7⟩
     have E7:Hid (Int.gcd (val r') (val r6)=Int.gcd (val xs) (val ys)):=by rw [V6.out];exact GM.out
     rw [E7.out]
     have hgl:Hid (((Int.gcd (val xs) (val ys):Nat):Int)<18446744073709551616):=by
      have h9:Int.gcd (val r') (val r6)≤(val r').natAbs:=Int.gcd_le_natAbs_left _ (by omega)
      rw [E7.out] at h9
      show _<_
      omega
     have Z7:=Z5.trans (hb7.mono Z5.size)
     have hs0:(0:Int)≤((Int.gcd (val xs) (val ys):Nat):Int):=by omega
     obtain ⟨GG,hGG⟩:∃ G,((Int.gcd (val xs) (val ys):Nat):Int)=G:=⟨_,rfl⟩
     rw [hGG] at hgl hs0 ⊢
     have HGG:=hide hGG
     clear hGG
     go_wp2_with fail
     refine (small_any _ GG hs0 hgl.out).mono ?_
     rintro e w8 ⟨v8,rfl,i8,hb8⟩
     have R8:=hide (i8.mono (B' := w.heap.size) Z7.size)
     have Z8:=hide (Z7.trans (hb8.mono Z7.size))
     go_wp2
     go_ret
     exact ⟨_,rfl,by rw [HGG.out];exact R8.out,Z8.out⟩
end Lm
end Go.Proofs.YtaofpigilgapgaaGreatDoor

namespace Go.Proofs.YtaofpigilgapgaaGreatDoor
namespace Lm
open Go.RowKit
theorem gcd_sg (nx ny:Bool) (X Y:Int):Int.gcd (sg nx X) (sg ny Y)=Int.gcd X Y:=by
 cases nx <;> cases ny <;> simp [sg]
theorem gcd_small {X Y:Int} (hX:0≤X) (hY:0≤Y):((Int.gcd X Y:Nat):Int)≤X+Y:=by
 by_cases h:X=0
 ·subst h
  rw [Int.gcd_zero_left]
  omega
 ·have h9:Int.gcd X Y≤X.natAbs:=Int.gcd_le_natAbs_left _ h
  omega
theorem gcd_g (w:World) (a1 a2:Option Addr) (n1 n2 c1 c2:Nat) (xs ys:List Int) (hx:Sl w (.slice a1 n1 c1) xs) (hy:Sl w (.slice a2 n2 c2) ys) (hm1:xs.length≤400000) (hm2:ys.length≤400000) :
  Calls Tryz.prog 134 #[.slice a1 n1 c1,.slice a2 n2 c2] w fun e w'=>∃ ao cap rs,e=.returned (.slice ao rs.length cap)∧Got w' ao cap rs (Int.gcd (val xs) (val ys))∧rs.length≤xs.length+ys.length+1∧Below w.heap.size w w' := by
 refine (gcd_any w a1 a2 n1 n2 c1 c2 xs ys hx hy hm1 hm2).mono ?_
 rintro e w' ⟨v,rfl,hi,hb⟩
 obtain ⟨ao,cap,rs,rfl,hg⟩:=hi.got
 refine ⟨ao,cap,rs,rfl,hg,canon_len hg.canon ?_,hb⟩
 rw [hg.val]
 have b1:=val_bounds hx.parts.2.2.2
 have b2:=val_bounds hy.parts.2.2.2
 have h1:=gcd_small b1.1 b2.1
 have m1:=pw_mono (m:=xs.length) (n:=xs.length+ys.length) (by omega)
 have m2:=pw_mono (m:=ys.length) (n:=xs.length+ys.length) (by omega)
 rw [pw]
 have:=pw_pos (xs.length+ys.length)
 omega
end Lm
end Go.Proofs.YtaofpigilgapgaaGreatDoor

namespace Go.Proofs.YtaofpigilgapgaaGreatDoor
namespace Lm
open Go Go.RowKit
theorem OutL.to {z:Int} {L L' : Nat} {v:Value} {w:World} (h:OutL z L v w) (hl:L≤L'):OutL z L' v w:=by
 obtain ⟨ao,cap,rs,e,h,l⟩:=h
 exact ⟨ao,cap,rs,e,h,Nat.le_trans l hl⟩
section
variable {dst:Option Tmp} {ty:TypeId} {pos:String} {after:Array Edge} {guard:Option (Nat × Bool)} {a:Act} {w:World} {ats:Array TypeId} {i j:Nat} {x y:Int} {L L1 L2:Nat}
theorem has_ltrim:Has Tryz.prog 135:=by unfold Has;kernel_rfl
theorem op_ltrim (h:IsL x L (a.eval (.tmp i)) w) (hL:L≤1000000) :
  Does Tryz.prog { dst,op:=.call { callee:=.value (.func 135),args:=#[.tmp i],argTypes:=ats },type:=ty,pos,after,guard } a.eval w fun v w'=>Below w.heap.size w w'∧OutL x L v w' := by
 obtain ⟨ao,n,cap,xs,e,S,rfl,l⟩:=h
 refine does_call has_ltrim _ (by simp only [List.map_toArray,List.map_cons,List.map_nil,e]) ((trim_g w _ _ _ _ S (by omega)).mono ?_)
 rintro e w' ⟨ao,cap,rs,rfl,G,l',hb⟩
 exact ⟨_,rfl,hb,_,_,_,rfl,G,by omega⟩
theorem has_lgcd:Has Tryz.prog 134:=by unfold Has;kernel_rfl
theorem op_lgcd (h1:IsL x L1 (a.eval (.tmp i)) w) (h2:IsL y L2 (a.eval (.tmp j)) w) (hL:L1≤400000) (hL' : L2≤400000) :
  Does Tryz.prog { dst,op:=.call { callee:=.value (.func 134),args:=#[.tmp i,.tmp j],argTypes:=ats },type:=ty,pos,after,guard } a.eval w fun v w'=>Below w.heap.size w w'∧OutL (Int.gcd x y) (L1+L2+1) v w' := by
 obtain ⟨ao,n,cap,xs,e,S,rfl,l⟩:=h1
 obtain ⟨bo,m,dap,ys,e',S',rfl,l'⟩:=h2
 refine does_call has_lgcd _ (by simp only [List.map_toArray,List.map_cons,List.map_nil,e,e']) ((gcd_g w _ _ _ _ _ _ _ _ S S' (by omega) (by omega)).mono ?_)
 rintro e w' ⟨ao,cap,rs,rfl,G,l',hb⟩
 exact ⟨_,rfl,hb,_,_,_,rfl,G,by omega⟩
theorem does_via {P:Program} {k:Nat} {f:FuncId} {xs:Array Operand} {R:Value→World→Prop} (hk:a.eval (.tmp k)=.func (.func f) #[] #[]) (h:Does P { dst,op:=.call { callee:=.value (.func f),args:=xs,argTypes:=ats },type:=ty,pos,after,guard } a.eval w R) :
  Does P { dst,op:=.call { callee:=.value (.tmp k),args:=xs,argTypes:=ats },type:=ty,pos,after,guard } a.eval w R:=by
 have e:execOp a.eval { dst,op:=.call { callee:=.value (.tmp k),args:=xs,argTypes:=ats },type:=ty,pos,after,guard } = execOp a.eval { dst,op:=.call { callee:=.value (.func f),args:=xs,argTypes:=ats },type:=ty,pos,after,guard } := by
  simp only [execOp,resolve,hk]
  rfl
 refine ⟨?_⟩
 have h:=h.out
 unfold Turns at *
 rw [e]
 exact h
def BitsOf (x:Int):Says:=fun v _=>∃ k:Nat,v=.int .i64 k∧IsBits x k
theorem BitsOf.mono4 (x:Int):Mono4 (BitsOf x):=fun _ _ _ _ h=>h
theorem has_lbits:Has Tryz.prog 93:=by unfold Has;kernel_rfl
theorem op_lbits (h:IsL x L (a.eval (.tmp i)) w) (hL:L≤1000000) :
  Does Tryz.prog { dst,op:=.call { callee:=.value (.func 93),args:=#[.tmp i],argTypes:=ats },type:=ty,pos,after,guard } a.eval w fun v w'=>Below w.heap.size w w'∧BitsOf x v w' := by
 obtain ⟨ao,n,cap,xs,e,S,rfl,l⟩:=h
 refine does_call has_lbits _ (by simp only [List.map_toArray,List.map_cons,List.map_nil,e]) ((bits_any w _ _ _ _ S (by omega)).mono ?_)
 rintro e w' ⟨k,rfl,B,rfl⟩
 exact ⟨_,rfl,Below.refl _ _,k,rfl,B⟩
theorem has_ldiv:Has Tryz.prog 174:=by unfold Has;kernel_rfl
theorem op_ldiv (h1:IsL x L1 (a.eval (.tmp i)) w) (h2:IsL y L2 (a.eval (.tmp j)) w) (hL:L1≤400000) (h0:y≠0) :
  Does Tryz.prog { dst,op:=.call { callee:=.value (.func 174),args:=#[.tmp i,.tmp j],argTypes:=ats },type:=ty,pos,after,guard } a.eval w fun v w'=>Below w.heap.size w w'∧Tup3 (OutL (x / y) L1) (OutL (x % y) L2) (Eqs (.bool true)) v w' := by
 obtain ⟨ao,n,cap,xs,e,S,rfl,l⟩:=h1
 obtain ⟨bo,m,dap,ys,e',S',rfl,l'⟩:=h2
 refine does_call has_ldiv _ (by simp only [List.map_toArray,List.map_cons,List.map_nil,e,e']) ((divmod_g w _ _ _ _ _ _ _ _ S S' (by omega) h0).mono ?_)
 rintro e w' ⟨ao,cap,rs,bo,dap,ss,rfl,G,G',l1,l2,hb⟩
 exact ⟨_,rfl,hb,_,_,_,rfl,⟨_,_,_,rfl,G,by omega⟩,⟨_,_,_,rfl,G',by omega⟩,rfl⟩
end
theorem bits_is_one {x:Int} {k:Nat} (h:IsBits x k) (hx:0<x):((k:Int)=1↔x=1):=by
 constructor
 ·intro hk
  have hk:k=1:=by omega
  subst hk
  have:=h.1
  simp [p2] at this
  omega
 ·intro hx1
  subst hx1
  have h1:IsBits 1 1:=⟨by simp [p2],.inr (by simp [p2])⟩
  have:=isBits_one h h1
  omega
def nm (p q:Int):Int:=Int.sign q*(p / (Int.gcd p q:Int))
def dn (p q:Int):Int:=Int.sign q*(q / (Int.gcd p q:Int))
theorem tq_ne (q:Int):tq q≠0:=by
 unfold tq
 split <;> simp_all
theorem mul_ne {p q:Int} (h1:p≠0) (h2:q≠0):p*q≠0:=Int.mul_ne_zero h1 h2
theorem sign_zero_iff {z:Int} : Int.sign z=0↔z=0:=Int.sign_eq_zero_iff_zero
theorem gcd_sgn (a b:Bool) (x y:Int):Int.gcd (sg a x) (sg b y)=Int.gcd x y:=by
 cases a <;> cases b <;> simp [sg]
theorem nm_sg (a b:Bool) {x y:Int} (hy:0<y):nm (sg a x) (sg b y)=sg (a != b) (x / (Int.gcd x y:Int)):=by
 unfold nm
 rw [gcd_sgn]
 have hd:((Int.gcd x y:Nat):Int) ∣ x:=Int.gcd_dvd_left x y
 have hs:Int.sign y=1:=Int.sign_eq_one_of_pos hy
 cases a <;> cases b <;> simp [sg,hs,Int.neg_ediv_of_dvd hd]
theorem dn_sg (a b:Bool) {x y:Int} (hy:0<y):dn (sg a x) (sg b y)=y / (Int.gcd x y:Int):=by
 unfold dn
 rw [gcd_sgn]
 have hd:((Int.gcd x y:Nat):Int) ∣ y:=Int.gcd_dvd_right x y
 have hs:Int.sign y=1:=Int.sign_eq_one_of_pos hy
 cases b <;> simp [sg,hs,Int.neg_ediv_of_dvd hd]
end Lm
end Go.Proofs.YtaofpigilgapgaaGreatDoor

namespace Go.Proofs.YtaofpigilgapgaaGreatDoor
namespace Lm
open Go Go.RowKit
theorem gcd_pos' {x y:Int} (hy:0<y):(0:Int)<((Int.gcd x y:Nat):Int):=by
 have:=Int.gcd_pos_of_ne_zero_right x (show y≠0 by omega)
 omega
theorem ediv_pos_of {y g:Int} (hy:0<y) (hg:0<g) (hd:g ∣ y):0<y / g:=by
 obtain ⟨k,rfl⟩:=hd
 rw [Int.mul_ediv_cancel_left _ (by omega)]
 exact Int.pos_of_mul_pos_right hy (by omega)
theorem low_pos {x y X Y:Int} {n:Nat} (hy:0<y) (hx:0≤x) (h:(n=1∧X=x∧Y=y)∨(n=0∧X=x / ((Int.gcd x y:Nat):Int)∧Y=y / ((Int.gcd x y:Nat):Int))):0<Y∧0≤X∧((Int.gcd X Y:Nat):Int)≠0:=by
 have hg:=gcd_pos' (x:=x) hy
 have hY:0<Y:=by
  rcases h with ⟨_,_,rfl⟩ | ⟨_,_,rfl⟩
  ·exact hy
  ·exact ediv_pos_of hy hg (Int.gcd_dvd_right x y)
 refine ⟨hY,?_,?_⟩
 ·rcases h with ⟨_,rfl,_⟩ | ⟨_,rfl,_⟩
  ·exact hx
  ·exact Int.ediv_nonneg hx (by omega)
 ·have:=gcd_pos' (x:=X) hY
  omega
theorem low_end {x y X Y:Int} {n:Nat} (_hy:0<y) (h:(n=1∧X=x∧Y=y)∨(n=0∧X=x / ((Int.gcd x y:Nat):Int)∧Y=y / ((Int.gcd x y:Nat):Int))) (hg:((Int.gcd X Y:Nat):Int)=1):X=x / ((Int.gcd x y:Nat):Int)∧Y=y / ((Int.gcd x y:Nat):Int):=by
 rcases h with ⟨_,rfl,rfl⟩ | ⟨_,h1,h2⟩
 ·rw [hg];simp
 ·exact ⟨h1,h2⟩
theorem low_more {x y X Y:Int} {n:Nat} (hy:0<y) (h:(n=1∧X=x∧Y=y)∨(n=0∧X=x / ((Int.gcd x y:Nat):Int)∧Y=y / ((Int.gcd x y:Nat):Int))) (hg:((Int.gcd X Y:Nat):Int)≠1):n=1∧X=x∧Y=y:=by
 rcases h with h | ⟨_,rfl,rfl⟩
 ·exact h
 ·exfalso
  apply hg
  have hp:0<Int.gcd x y:=Int.gcd_pos_of_ne_zero_right x (show y≠0 by omega)
  rw [Int.gcd_ediv_gcd_ediv_gcd hp]
  rfl
set_option maxRecDepth 20000 in
set_option maxHeartbeats 2000000 in
theorem lowest_z (w:World) (L:Nat) (hL:L≤100000) (nx:Bool) (ax:Option Addr) (mx cx:Nat) (xs:List Int) (zx:Int) (Ax:Ag w nx ax mx cx xs zx) (Lx:xs.length≤L) (ny:Bool) (ay:Option Addr) (my cy:Nat) (ys:List Int) (zy:Int) (Ay:Ag w ny ay my cy ys zy) (Ly:ys.length≤L) (hy:zy≠0) :
  Calls Tryz.prog 144 #[.agg #[.bool nx,.slice ax mx cx],.agg #[.bool ny,.slice ay my cy]] w fun e w'=>∃ v,e=.returned v∧OutR (nm zx zy) (dn zx zy) L v w'∧Below w.heap.size w w' := by
 have hx0:0≤val xs:=(val_bounds Ax.sl.parts.2.2.2).1
 have hy0:0<val ys:=by
  have h1:=(val_bounds Ay.sl.parts.2.2.2).1
  have h2:val ys≠0:=fun e=>hy (by rw [←Ay.worth,e];cases ny <;> simp [sg])
  omega
 go_enter Tryz.func144,Tryz.ntmps144
 generalize hA:(Act.mk _ _)=aa
 have hn:aa.tmps.size=51:=by rw [←hA];rfl
 have hd:aa.defers = []:=by rw [←hA]
 have f0:aa.eval (.tmp 0)=.agg #[.bool nx,.slice ax mx cx]:=by rw [←hA];rfl
 have f1:aa.eval (.tmp 1)=.agg #[.bool ny,.slice ay my cy]:=by rw [←hA];rfl
 clear hA
 have HB:Below w.heap.size w w:=Below.refl _ _
 have Tx:=Ax.sl;have Ty:=Ay.sl;have hwx:=Ax.worth;have hwy:=Ay.worth
 refine wp_seq ?_
 refine region4 [some 2,some 3,some 4] [Tt,Tt,Tt] [⟨W2,some 0,0,2,.agg #[.bool nx,.slice ax mx cx],none,[]⟩,⟨W2,some 1,0,3,.agg #[.bool ny,.slice ay my cy],none,[]⟩,⟨R3,some 2,0,4,.agg #[.bool false,.slice none 0 0,.slice none 0 0],none,[]⟩] [] (by kernel_rfl) hn rfl (by kernel_rfl) (by kernel_rfl) (by kernel_rfl) (by kernel_rfl) (by kernel_rfl) (by kernel_rfl) ⟨True.mono4,True.mono4,True.mono4,trivial⟩ (ok_cons W2ok (ok_cons W2ok (ok_cons R3ok ok_nil))) (IsOld.all (bx:=[⟨W2,some 0,0,2,.agg #[.bool nx,.slice ax mx cx],none,[]⟩,⟨W2,some 1,0,3,.agg #[.bool ny,.slice ay my cy],none,[]⟩,⟨R3,some 2,0,4,.agg #[.bool false,.slice none 0 0,.slice none 0 0],none,[]⟩]) ⟨someNe,someNe,someNe,trivial⟩) (DisOld.all (bx:=[⟨W2,some 0,0,2,.agg #[.bool nx,.slice ax mx cx],none,[]⟩,⟨W2,some 1,0,3,.agg #[.bool ny,.slice ay my cy],none,[]⟩,⟨R3,some 2,0,4,.agg #[.bool false,.slice none 0 0,.slice none 0 0],none,[]⟩]) ⟨someNe,someNe,someNe,trivial⟩) ?_ ?_
 ·exact ⟨.alloc 0 _ rfl rfl (.inr ⟨_,rfl,w2_cs,fun a_ hR=>(hR 0 rfl).trans f0⟩) rfl rfl rfl rfl rfl,.alloc 1 _ rfl rfl (.inr ⟨_,rfl,w2_cs,fun a_ hR=>(hR 1 rfl).trans f1⟩) rfl rfl rfl rfl rfl,.alloc 2 _ rfl rfl (.inl ⟨rfl,rfl⟩) rfl rfl rfl rfl rfl,trivial⟩
 ·intro a1 w1 gs1 hn1 hd1 hBt hr hR hP hX hU
  replace hn:=hn1;replace hd:=hd1.trans hd
  have ne2_4:gs1 0≠gs1 2:=hU 0 2 (by simp) (by simp) (by decide)
  have ne3_4:gs1 1≠gs1 2:=hU 1 2 (by simp) (by simp) (by decide)
  have b2:BoxV W2 w1 (gs1 0) (.agg #[.bool nx,.slice ax mx cx]):=(hX 0 _ rfl).2.2.2
  have f2:=(hX 0 _ rfl).1
  have u2:w.heap.size≤gs1 0:=Nat.le_trans HB.size ((hX 0 _ rfl).2.2.1 (by simp))
  have b3:BoxV W2 w1 (gs1 1) (.agg #[.bool ny,.slice ay my cy]):=(hX 1 _ rfl).2.2.2
  have f3:=(hX 1 _ rfl).1
  have u3:w.heap.size≤gs1 1:=Nat.le_trans HB.size ((hX 1 _ rfl).2.2.1 (by simp))
  have b4:BoxV R3 w1 (gs1 2) (.agg #[.bool false,.slice none 0 0,.slice none 0 0]):=(hX 2 _ rfl).2.2.2
  have f4:=(hX 2 _ rfl).1
  have u4:w.heap.size≤gs1 2:=Nat.le_trans HB.size ((hX 2 _ rfl).2.2.1 (by simp))
  replace Ax:=Ax.rl hr
  replace Tx:=Tx.rl hr
  replace Ay:=Ay.rl hr
  replace Ty:=Ty.rl hr
  replace HB:=HB.trans (hBt.below HB.size (UpOld.all (bx:=[⟨W2,some 0,0,2,.agg #[.bool nx,.slice ax mx cx],none,[]⟩,⟨W2,some 1,0,3,.agg #[.bool ny,.slice ay my cy],none,[]⟩,⟨R3,some 2,0,4,.agg #[.bool false,.slice none 0 0,.slice none 0 0],none,[]⟩]) ⟨someNe,someNe,someNe,trivial⟩))
  clear hBt hr hR hP hX hU
  refine wp_scope_straight ?_
  refine wp_seq ?_
  refine region4 [some 9,some 10,some 11,some 12,some 13,some 14,some 5,some 6] [Eqs (.pointer (some ⟨gs1 0,1,none⟩)),Eqs (.slice ax mx cx),OutL ((val xs)) (L),Eqs (.pointer (some ⟨gs1 1,1,none⟩)),Eqs (.slice ay my cy),OutL ((val ys)) (L),OutL ((val xs)) (L),OutL ((val ys)) (L)] [] [] (by kernel_rfl) hn rfl (by kernel_rfl) (by kernel_rfl) (by kernel_rfl) (by kernel_rfl) (by kernel_rfl) (by kernel_rfl) ⟨Eqs.mono4 _,Eqs.mono4 _,OutL.mono4 _ _,Eqs.mono4 _,Eqs.mono4 _,OutL.mono4 _ _,OutL.mono4 _ _,OutL.mono4 _ _,trivial⟩ ok_nil (IsOld.all (bx:=[]) trivial) (DisOld.all (bx:=[]) trivial) ?_ ?_
  ·exact ⟨.norm 9 rfl rfl rfl (fun a_ w_ _ t r R D _ _=>op_fa fa_mag ((R 2 rfl).trans f2)),.norm 10 rfl rfl rfl (fun a_ w_ _ t r R D _ _=>op_ldmag (show a_.eval (.tmp 9)=.pointer (some ⟨gs1 0,1,none⟩) from D 0 rfl) (b2.keep t trivial)),.norm 11 rfl rfl rfl (fun a_ w_ _ t r R D _ _=>op_ltrim (isl_eq (show a_.eval (.tmp 10)=.slice ax mx cx from D 1 rfl) (Tx.rl r) rfl Lx) (by omega)),.norm 12 rfl rfl rfl (fun a_ w_ _ t r R D _ _=>op_fa fa_mag ((R 3 rfl).trans f3)),.norm 13 rfl rfl rfl (fun a_ w_ _ t r R D _ _=>op_ldmag (show a_.eval (.tmp 12)=.pointer (some ⟨gs1 1,1,none⟩) from D 3 rfl) (b3.keep t trivial)),.norm 14 rfl rfl rfl (fun a_ w_ _ t r R D _ _=>op_ltrim (isl_eq (show a_.eval (.tmp 13)=.slice ay my cy from D 4 rfl) (Ty.rl r) rfl Ly) (by omega)),.norm 5 rfl rfl rfl (fun a_ w_ _ t r R D _ _=>op_asp (p:=OutL ((val xs)) (L)) (show OutL ((val xs)) (L) (a_.eval (.tmp 11)) w_ from D 2 rfl)),.norm 6 rfl rfl rfl (fun a_ w_ _ t r R D _ _=>op_asp (p:=OutL ((val ys)) (L)) (show OutL ((val ys)) (L) (a_.eval (.tmp 14)) w_ from D 5 rfl)),trivial⟩
  ·intro a2 w2 gs2 hn2 hd2 hBt hr hR hP hX hU
   replace hn:=hn2;replace hd:=hd2.trans hd
   replace b2:=b2.keep hBt trivial
   replace b3:=b3.keep hBt trivial
   replace b4:=b4.keep hBt trivial
   replace f2:=(hR 2 rfl).trans f2
   replace f3:=(hR 3 rfl).trans f3
   replace f4:=(hR 4 rfl).trans f4
   obtain ⟨a_3,c_3,r_3,e5,K3,l3⟩:OutL ((val xs)) (L) (a2.eval (.tmp 5)) w2:=hP 6 (by decide)
   have S3:=K3.sl;have V3:=K3.val
   have f5:=e5
   obtain ⟨a_4,c_4,r_4,e6,K4,l4⟩:OutL ((val ys)) (L) (a2.eval (.tmp 6)) w2:=hP 7 (by decide)
   have S4:=K4.sl;have V4:=K4.val
   have f6:=e6
   replace Ax:=Ax.rl hr
   replace Tx:=Tx.rl hr
   replace Ay:=Ay.rl hr
   replace Ty:=Ty.rl hr
   replace HB:=HB.trans (hBt.below HB.size (UpOld.all (bx:=[]) trivial))
   clear hBt hr hR hP hX hU
   refine wp_seq ?_
   refine wp_label ?_
   refine wp_seq ?_
   refine wp_block ?_
   refine wp_loop_ghost (fun n a w'=>a.tmps.size=51∧a.defers = []∧a.eval (.tmp 2)=.pointer (some ⟨(gs1 0),0,none⟩)∧a.eval (.tmp 3)=.pointer (some ⟨(gs1 1),0,none⟩)∧a.eval (.tmp 4)=.pointer (some ⟨(gs1 2),0,none⟩)∧BoxV W2 w' (gs1 0) (.agg #[.bool nx,.slice ax mx cx])∧BoxV W2 w' (gs1 1) (.agg #[.bool ny,.slice ay my cy])∧BoxV R3 w' (gs1 2) (.agg #[.bool false,.slice none 0 0,.slice none 0 0])∧Below w.heap.size w w'∧∃ X Y,OutL X L (a.eval (.tmp 5)) w'∧OutL Y L (a.eval (.tmp 6)) w'∧((n=1∧X=val xs∧Y=val ys)∨(n=0∧X=val xs / ((Int.gcd (val xs) (val ys):Nat):Int)∧Y=val ys / ((Int.gcd (val xs) (val ys):Nat):Int)))) 1 ⟨hn,hd,f2,f3,f4,b2,b3,b4,HB,val xs,val ys,outl_eq f5 K3 l3,outl_eq f6 K4 l4,.inl ⟨rfl,rfl,rfl⟩⟩ ?_
   clear hn hd f2 f3 f4 f5 f6 b2 b3 b4 HB Ax Tx Ay Ty K3 S3 K4 S4
   rintro n aL wL ⟨hn,hd,f2,f3,f4,b2,b3,b4,HB,X,Y,⟨a_X,c_X,r_X,f5,KX,lX⟩,⟨a_Y,c_Y,r_Y,f6,KY,lY⟩,hXY⟩
   have SX:=KX.sl;have VX:=KX.val;have SY:=KY.sl;have VY:=KY.val
   obtain ⟨hY0,hX0,hg0⟩:=low_pos hy0 hx0 hXY
   
   refine wp_block ?_
   refine wp_seq ?_
   refine region4 [some 15,some 16,some 17,some 7] [Eqs (.slice a_X r_X.length c_X),Eqs (.slice a_Y r_Y.length c_Y),OutL (((Int.gcd X Y:Nat):Int)) (L+L+1),OutL (((Int.gcd X Y:Nat):Int)) (L+L+1)] [] [] (by kernel_rfl) hn rfl (by kernel_rfl) (by kernel_rfl) (by kernel_rfl) (by kernel_rfl) (by kernel_rfl) (by kernel_rfl) ⟨Eqs.mono4 _,Eqs.mono4 _,OutL.mono4 _ _,OutL.mono4 _ _,trivial⟩ ok_nil (IsOld.all (bx:=[]) trivial) (DisOld.all (bx:=[]) trivial) ?_ ?_
   ·exact ⟨.norm 15 rfl rfl rfl (fun a_ w_ _ t r R D _ _=>op_mv ((R 5 rfl).trans f5)),.norm 16 rfl rfl rfl (fun a_ w_ _ t r R D _ _=>op_mv ((R 6 rfl).trans f6)),.norm 17 rfl rfl rfl (fun a_ w_ _ t r R D _ _=>op_lgcd (isl_eq (show a_.eval (.tmp 15)=.slice a_X r_X.length c_X from D 0 rfl) (SX.rl r) VX lX) (isl_eq (show a_.eval (.tmp 16)=.slice a_Y r_Y.length c_Y from D 1 rfl) (SY.rl r) VY lY) (by omega) (by omega)),.norm 7 rfl rfl rfl (fun a_ w_ _ t r R D _ _=>op_asp (p:=OutL (((Int.gcd X Y:Nat):Int)) (L+L+1)) (show OutL (((Int.gcd X Y:Nat):Int)) (L+L+1) (a_.eval (.tmp 17)) w_ from D 2 rfl)),trivial⟩
   ·intro a5 w5 gs5 hn5 hd5 hBt hr hR hP hX hU
    replace hn:=hn5;replace hd:=hd5.trans hd
    replace b2:=b2.keep hBt trivial
    replace b3:=b3.keep hBt trivial
    replace b4:=b4.keep hBt trivial
    replace f2:=(hR 2 rfl).trans f2
    replace f3:=(hR 3 rfl).trans f3
    replace f4:=(hR 4 rfl).trans f4
    replace f5:=(hR 5 rfl).trans f5
    replace f6:=(hR 6 rfl).trans f6
    obtain ⟨a_6,c_6,r_6,e7,K6,l6⟩:OutL (((Int.gcd X Y:Nat):Int)) (L+L+1) (a5.eval (.tmp 7)) w5:=hP 3 (by decide)
    have S6:=K6.sl;have V6:=K6.val
    have f7:=e7
    replace KX:=KX.rl hr
    replace SX:=SX.rl hr
    replace KY:=KY.rl hr
    replace SY:=SY.rl hr
    replace HB:=HB.trans (hBt.below HB.size (UpOld.all (bx:=[]) trivial))
    clear hBt hr hR hP hX hU
    refine wp_seq ?_
    refine region4 [some 18,some 19] [Eqs (.slice a_6 r_6.length c_6),BitsOf (((Int.gcd X Y:Nat):Int))] [] [] (by kernel_rfl) hn rfl (by kernel_rfl) (by kernel_rfl) (by kernel_rfl) (by kernel_rfl) (by kernel_rfl) (by kernel_rfl) ⟨Eqs.mono4 _,BitsOf.mono4 _,trivial⟩ ok_nil (IsOld.all (bx:=[]) trivial) (DisOld.all (bx:=[]) trivial) ?_ ?_
    ·exact ⟨.norm 18 rfl rfl rfl (fun a_ w_ _ t r R D _ _=>op_mv ((R 7 rfl).trans f7)),.norm 19 rfl rfl rfl (fun a_ w_ _ t r R D _ _=>op_lbits (isl_eq (show a_.eval (.tmp 18)=.slice a_6 r_6.length c_6 from D 0 rfl) (S6.rl r) V6 l6) (by omega)),trivial⟩
    ·intro a7 w7 gs7 hn7 hd7 hBt hr hR hP hX hU
     replace hn:=hn7;replace hd:=hd7.trans hd
     replace b2:=b2.keep hBt trivial
     replace b3:=b3.keep hBt trivial
     replace b4:=b4.keep hBt trivial
     replace f2:=(hR 2 rfl).trans f2
     replace f3:=(hR 3 rfl).trans f3
     replace f4:=(hR 4 rfl).trans f4
     replace f5:=(hR 5 rfl).trans f5
     replace f6:=(hR 6 rfl).trans f6
     replace f7:=(hR 7 rfl).trans f7
     obtain ⟨k_8,e19,B8⟩:BitsOf (((Int.gcd X Y:Nat):Int)) (a7.eval (.tmp 19)) w7:=hP 1 (by decide)
     have f19:=e19
     replace KX:=KX.rl hr
     replace SX:=SX.rl hr
     replace KY:=KY.rl hr
     replace SY:=SY.rl hr
     replace K6:=K6.rl hr
     replace S6:=S6.rl hr
     replace HB:=HB.trans (hBt.below HB.size (UpOld.all (bx:=[]) trivial))
     clear hBt hr hR hP hX hU
     refine wp_block ?_
     refine wp_seq ?_
     refine region4 [some 35,some 34] [Eqs (.bool (decide ((k_8:Int)=1))),Eqs (.bool (decide ((k_8:Int)=1)))] [] [] (by kernel_rfl) hn rfl (by kernel_rfl) (by kernel_rfl) (by kernel_rfl) (by kernel_rfl) (by kernel_rfl) (by kernel_rfl) ⟨Eqs.mono4 _,Eqs.mono4 _,trivial⟩ ok_nil (IsOld.all (bx:=[]) trivial) (DisOld.all (bx:=[]) trivial) ?_ ?_
     ·exact ⟨.norm 35 rfl rfl rfl (fun a_ w_ _ t r R D _ _=>op_eqlk ((R 19 rfl).trans f19)),.norm 34 rfl rfl rfl (fun a_ w_ _ t r R D _ _=>op_assign (show a_.eval (.tmp 35)=.bool (decide ((k_8:Int)=1)) from D 0 rfl)),trivial⟩
     ·intro a9 w9 gs9 hn9 hd9 hBt hr hR hP hX hU
      replace hn:=hn9;replace hd:=hd9.trans hd
      replace b2:=b2.keep hBt trivial
      replace b3:=b3.keep hBt trivial
      replace b4:=b4.keep hBt trivial
      replace f2:=(hR 2 rfl).trans f2
      replace f3:=(hR 3 rfl).trans f3
      replace f4:=(hR 4 rfl).trans f4
      replace f5:=(hR 5 rfl).trans f5
      replace f6:=(hR 6 rfl).trans f6
      replace f7:=(hR 7 rfl).trans f7
      have e34:a9.eval (.tmp 34)=.bool (decide ((k_8:Int)=1)):=hP 1 (by decide)
      have f34:=e34
      replace KX:=KX.rl hr
      replace SX:=SX.rl hr
      replace KY:=KY.rl hr
      replace SY:=SY.rl hr
      replace K6:=K6.rl hr
      replace S6:=S6.rl hr
      replace HB:=HB.trans (hBt.below HB.size (UpOld.all (bx:=[]) trivial))
      clear hBt hr hR hP hX hU
      refine wp_cond_split f34 (fun hc34=>?_) (fun hc34=>?_)
      ·skip
       have hg1:((Int.gcd X Y:Nat):Int)=1:=(bits_is_one B8 (by omega)).1 (by simpa using hc34)
       have hXe:=low_end hy0 hXY hg1
       refine wp_exit ?_
       repeat (first | refine then_exit ?_ | refine scope_exit ?_ | refine block_pass (by decide) ?_)
       refine block_exit ?_
       obtain ⟨bb,hbb⟩:∃ b,(nx != ny)=b:=⟨_,rfl⟩
       cases bb with
       | true =>
        refine wp_seq ?_
        refine region4 [some 36,some 37,some 38,some 39,some 40,some 41,some 42,some 43,some 44,some 45,some 8] [Eqs (.pointer (some ⟨(gs1 0),0,none⟩)),Eqs (.bool nx),Eqs (.pointer (some ⟨(gs1 1),0,none⟩)),Eqs (.bool ny),Eqs (.bool true),Eqs (.bool true),Eqs (.slice a_X r_X.length c_X),Eqs (.int .i64 (r_X.length:Int)),Eqs (.bool (decide (0<(r_X.length:Int)))),Eqs (.bool (decide (0<(r_X.length:Int)))),Eqs (.bool (decide (0<(r_X.length:Int))))] [] [] (by kernel_rfl) hn rfl (by kernel_rfl) (by kernel_rfl) (by kernel_rfl) (by kernel_rfl) (by kernel_rfl) (by kernel_rfl) ⟨Eqs.mono4 _,Eqs.mono4 _,Eqs.mono4 _,Eqs.mono4 _,Eqs.mono4 _,Eqs.mono4 _,Eqs.mono4 _,Eqs.mono4 _,Eqs.mono4 _,Eqs.mono4 _,Eqs.mono4 _,trivial⟩ ok_nil (IsOld.all (bx:=[]) trivial) (DisOld.all (bx:=[]) trivial) ?_ ?_
        ·exact ⟨.norm 36 rfl rfl rfl (fun a_ w_ _ t r R D _ _=>op_fa fa_neg ((R 2 rfl).trans f2)),.norm 37 rfl rfl rfl (fun a_ w_ _ t r R D _ _=>op_ldneg (show a_.eval (.tmp 36)=.pointer (some ⟨(gs1 0),0,none⟩) from D 0 rfl) (b2.keep t trivial)),.norm 38 rfl rfl rfl (fun a_ w_ _ t r R D _ _=>op_fa fa_neg ((R 3 rfl).trans f3)),.norm 39 rfl rfl rfl (fun a_ w_ _ t r R D _ _=>op_ldneg (show a_.eval (.tmp 38)=.pointer (some ⟨(gs1 1),0,none⟩) from D 2 rfl) (b3.keep t trivial)),.norm 40 rfl rfl rfl (fun a_ w_ _ t r R D _ _=>(by rw [←hbb];exact op_neqb (show a_.eval (.tmp 37)=.bool nx from D 1 rfl) (show a_.eval (.tmp 39)=.bool ny from D 3 rfl))),.norm 41 rfl rfl rfl (fun a_ w_ _ t r R D _ _=>op_mv (show a_.eval (.tmp 40)=.bool true from D 4 rfl)),.norm 42 rfl rfl rfl (fun a_ w_ _ t r R D _ _=>⟨⟨_,rfl⟩,fun _=>op_mv ((R 5 rfl).trans f5),fun hne=>absurd (D 5 rfl) hne⟩),.norm 43 rfl rfl rfl (fun a_ w_ _ t r R D _ _=>⟨⟨_,rfl⟩,fun _=>op_len (show a_.eval (.tmp 42)=.slice a_X r_X.length c_X from D 6 rfl),fun hne=>absurd (D 5 rfl) hne⟩),.norm 44 rfl rfl rfl (fun a_ w_ _ t r R D _ _=>⟨⟨_,rfl⟩,fun _=>op_gtrk (show a_.eval (.tmp 43)=.int .i64 (r_X.length:Int) from D 7 rfl),fun hne=>absurd (D 5 rfl) hne⟩),.norm 45 rfl rfl rfl (fun a_ w_ _ t r R D _ _=>op_pickb (show a_.eval (.tmp 41)=.bool true from D 5 rfl) (show a_.eval (.tmp 44)=.bool (decide (0<(r_X.length:Int))) from D 8 rfl)),.norm 8 rfl rfl rfl (fun a_ w_ _ t r R D _ _=>op_assign (show a_.eval (.tmp 45)=.bool (decide (0<(r_X.length:Int))) from D 9 rfl)),trivial⟩
        ·intro a10 w10 gs10 hn10 hd10 hBt hr hR hP hX hU
         replace hn:=hn10;replace hd:=hd10.trans hd
         replace b4:=b4.keep hBt trivial
         replace f4:=(hR 4 rfl).trans f4
         replace f5:=(hR 5 rfl).trans f5
         replace f6:=(hR 6 rfl).trans f6
         have e8:a10.eval (.tmp 8)=.bool (decide (0<(r_X.length:Int))):=hP 10 (by decide)
         have f8:=e8
         replace KX:=KX.rl hr
         replace SX:=SX.rl hr
         replace KY:=KY.rl hr
         replace SY:=SY.rl hr
         replace K6:=K6.rl hr
         replace S6:=S6.rl hr
         replace HB:=HB.trans (hBt.below HB.size (UpOld.all (bx:=[]) trivial))
         clear hBt hr hR hP hX hU
         refine wp_seq ?_
         refine region4 [some 46,some 47,some 48,some 49,some 50,none] [Eqs (.bool (decide (0<(r_X.length:Int)))),Eqs (.slice a_X r_X.length c_X),Eqs (.agg #[.bool (decide (0<(r_X.length:Int))),.slice a_X r_X.length c_X]),Eqs (.slice a_Y r_Y.length c_Y),Eqs (.agg #[.bool (decide (0<(r_X.length:Int))),.slice a_X r_X.length c_X,.slice a_Y r_Y.length c_Y]),Tt] [⟨R3,none,(gs1 2),4,.agg #[.bool false,.slice none 0 0,.slice none 0 0],some (5,50,4),[]⟩] [] (by kernel_rfl) hn rfl (by kernel_rfl) (by kernel_rfl) (by kernel_rfl) (by kernel_rfl) (by kernel_rfl) (by kernel_rfl) ⟨Eqs.mono4 _,Eqs.mono4 _,Eqs.mono4 _,Eqs.mono4 _,Eqs.mono4 _,True.mono4,trivial⟩ (ok_cons R3ok ok_nil) (IsOld.all (bx:=[⟨R3,none,(gs1 2),4,.agg #[.bool false,.slice none 0 0,.slice none 0 0],some (5,50,4),[]⟩]) ⟨fun _=>⟨f4,b4⟩,trivial⟩) (DisOld.all (bx:=[⟨R3,none,(gs1 2),4,.agg #[.bool false,.slice none 0 0,.slice none 0 0],some (5,50,4),[]⟩]) ⟨fun _=>trivial,trivial⟩) ?_ ?_
         ·exact ⟨.norm 46 rfl rfl rfl (fun a_ w_ _ t r R D _ _=>op_mv ((R 8 rfl).trans f8)),.norm 47 rfl rfl rfl (fun a_ w_ _ t r R D _ _=>op_mv ((R 5 rfl).trans f5)),.norm 48 rfl rfl rfl (fun a_ w_ _ t r R D _ _=>op_bW2 (show a_.eval (.tmp 46)=.bool (decide (0<(r_X.length:Int))) from D 0 rfl) (show a_.eval (.tmp 47)=.slice a_X r_X.length c_X from D 1 rfl)),.norm 49 rfl rfl rfl (fun a_ w_ _ t r R D _ _=>op_mv ((R 6 rfl).trans f6)),.norm 50 rfl rfl rfl (fun a_ w_ _ t r R D _ _=>op_bR (show a_.eval (.tmp 48)=.agg #[.bool (decide (0<(r_X.length:Int))),.slice a_X r_X.length c_X] from D 2 rfl) (show a_.eval (.tmp 49)=.slice a_Y r_Y.length c_Y from D 3 rfl)),.store 0 _ _ _ rfl rfl rfl rfl rfl rfl rfl (fun ia h=>by cases h) rfl rfl rfl (eqs_cs r3_cs),trivial⟩
         ·intro a11 w11 gs11 hn11 hd11 hBt hr hR hP hX hU
          replace hn:=hn11;replace hd:=hd11.trans hd
          have e50:a11.eval (.tmp 50)=.agg #[.bool (decide (0<(r_X.length:Int))),.slice a_X r_X.length c_X,.slice a_Y r_Y.length c_Y]:=hP 4 (by decide)
          have b4:BoxV R3 w11 ((gs1 2)) (.agg #[.bool (decide (0<(r_X.length:Int))),.slice a_X r_X.length c_X,.slice a_Y r_Y.length c_Y]):=boxv_old ((hX 0 _ rfl).2.1 rfl) (hX 0 _ rfl).2.2.2 e50
          replace f4:a11.eval (.tmp 4) = _:=(hR 4 rfl).trans f4
          replace KX:=KX.rl hr
          replace SX:=SX.rl hr
          replace KY:=KY.rl hr
          replace SY:=SY.rl hr
          replace K6:=K6.rl hr
          replace S6:=S6.rl hr
          replace HB:=HB.trans (hBt.below HB.size (UpOld.all (bx:=[⟨R3,none,(gs1 2),4,.agg #[.bool false,.slice none 0 0,.slice none 0 0],some (5,50,4),[]⟩]) ⟨fun _=>u4,trivial⟩))
          clear hBt hr hR hP hX hU
          refine wp_ret ?_
          repeat (first | refine then_ret ?_ | refine scope_ret ?_ | refine block_ret ?_)
          refine bodyPost_ret (v:=.agg #[.bool (decide (0<(r_X.length:Int))),.slice a_X r_X.length c_X,.slice a_Y r_Y.length c_Y]) (res_c rfl f4 (lv_R3 b4)) hd ⟨_,rfl,outr_eq rfl ?_ ?_ lX lY,HB⟩
          ·rw [←hwx,←hwy,nm_sg _ _ hy0,hbb,←hXe.1]
           have h:=Wh.of true KX
           simpa using h
          ·rw [←hwx,←hwy,dn_sg _ _ hy0,←hXe.2];exact KY
       | false =>
        refine wp_seq ?_
        refine region4 [some 36,some 37,some 38,some 39,some 40,some 41,some 42,some 43,some 44,some 45,some 8] [Eqs (.pointer (some ⟨(gs1 0),0,none⟩)),Eqs (.bool nx),Eqs (.pointer (some ⟨(gs1 1),0,none⟩)),Eqs (.bool ny),Eqs (.bool false),Eqs (.bool false),Tt,Tt,Tt,Eqs (.bool false),Eqs (.bool false)] [] [] (by kernel_rfl) hn rfl (by kernel_rfl) (by kernel_rfl) (by kernel_rfl) (by kernel_rfl) (by kernel_rfl) (by kernel_rfl) ⟨Eqs.mono4 _,Eqs.mono4 _,Eqs.mono4 _,Eqs.mono4 _,Eqs.mono4 _,Eqs.mono4 _,True.mono4,True.mono4,True.mono4,Eqs.mono4 _,Eqs.mono4 _,trivial⟩ ok_nil (IsOld.all (bx:=[]) trivial) (DisOld.all (bx:=[]) trivial) ?_ ?_
        ·exact ⟨.norm 36 rfl rfl rfl (fun a_ w_ _ t r R D _ _=>op_fa fa_neg ((R 2 rfl).trans f2)),.norm 37 rfl rfl rfl (fun a_ w_ _ t r R D _ _=>op_ldneg (show a_.eval (.tmp 36)=.pointer (some ⟨(gs1 0),0,none⟩) from D 0 rfl) (b2.keep t trivial)),.norm 38 rfl rfl rfl (fun a_ w_ _ t r R D _ _=>op_fa fa_neg ((R 3 rfl).trans f3)),.norm 39 rfl rfl rfl (fun a_ w_ _ t r R D _ _=>op_ldneg (show a_.eval (.tmp 38)=.pointer (some ⟨(gs1 1),0,none⟩) from D 2 rfl) (b3.keep t trivial)),.norm 40 rfl rfl rfl (fun a_ w_ _ t r R D _ _=>(by rw [←hbb];exact op_neqb (show a_.eval (.tmp 37)=.bool nx from D 1 rfl) (show a_.eval (.tmp 39)=.bool ny from D 3 rfl))),.norm 41 rfl rfl rfl (fun a_ w_ _ t r R D _ _=>op_mv (show a_.eval (.tmp 40)=.bool false from D 4 rfl)),.norm 42 rfl rfl rfl (fun a_ w_ _ t r R D _ _=>⟨⟨_,rfl⟩,fun h=>absurd ((show _=Value.bool false from D 5 rfl).symm.trans h) (by simp),fun _=>trivial⟩),.norm 43 rfl rfl rfl (fun a_ w_ _ t r R D _ _=>⟨⟨_,rfl⟩,fun h=>absurd ((show _=Value.bool false from D 5 rfl).symm.trans h) (by simp),fun _=>trivial⟩),.norm 44 rfl rfl rfl (fun a_ w_ _ t r R D _ _=>⟨⟨_,rfl⟩,fun h=>absurd ((show _=Value.bool false from D 5 rfl).symm.trans h) (by simp),fun _=>trivial⟩),.norm 45 rfl rfl rfl (fun a_ w_ _ t r R D _ _=>op_pickb (show a_.eval (.tmp 41)=.bool false from D 5 rfl) rfl),.norm 8 rfl rfl rfl (fun a_ w_ _ t r R D _ _=>op_assign (show a_.eval (.tmp 45)=.bool false from D 9 rfl)),trivial⟩
        ·intro a12 w12 gs12 hn12 hd12 hBt hr hR hP hX hU
         replace hn:=hn12;replace hd:=hd12.trans hd
         replace b4:=b4.keep hBt trivial
         replace f4:=(hR 4 rfl).trans f4
         replace f5:=(hR 5 rfl).trans f5
         replace f6:=(hR 6 rfl).trans f6
         have e8:a12.eval (.tmp 8)=.bool false:=hP 10 (by decide)
         have f8:=e8
         replace KX:=KX.rl hr
         replace SX:=SX.rl hr
         replace KY:=KY.rl hr
         replace SY:=SY.rl hr
         replace K6:=K6.rl hr
         replace S6:=S6.rl hr
         replace HB:=HB.trans (hBt.below HB.size (UpOld.all (bx:=[]) trivial))
         clear hBt hr hR hP hX hU
         refine wp_seq ?_
         refine region4 [some 46,some 47,some 48,some 49,some 50,none] [Eqs (.bool false),Eqs (.slice a_X r_X.length c_X),Eqs (.agg #[.bool false,.slice a_X r_X.length c_X]),Eqs (.slice a_Y r_Y.length c_Y),Eqs (.agg #[.bool false,.slice a_X r_X.length c_X,.slice a_Y r_Y.length c_Y]),Tt] [⟨R3,none,(gs1 2),4,.agg #[.bool false,.slice none 0 0,.slice none 0 0],some (5,50,4),[]⟩] [] (by kernel_rfl) hn rfl (by kernel_rfl) (by kernel_rfl) (by kernel_rfl) (by kernel_rfl) (by kernel_rfl) (by kernel_rfl) ⟨Eqs.mono4 _,Eqs.mono4 _,Eqs.mono4 _,Eqs.mono4 _,Eqs.mono4 _,True.mono4,trivial⟩ (ok_cons R3ok ok_nil) (IsOld.all (bx:=[⟨R3,none,(gs1 2),4,.agg #[.bool false,.slice none 0 0,.slice none 0 0],some (5,50,4),[]⟩]) ⟨fun _=>⟨f4,b4⟩,trivial⟩) (DisOld.all (bx:=[⟨R3,none,(gs1 2),4,.agg #[.bool false,.slice none 0 0,.slice none 0 0],some (5,50,4),[]⟩]) ⟨fun _=>trivial,trivial⟩) ?_ ?_
         ·exact ⟨.norm 46 rfl rfl rfl (fun a_ w_ _ t r R D _ _=>op_mv ((R 8 rfl).trans f8)),.norm 47 rfl rfl rfl (fun a_ w_ _ t r R D _ _=>op_mv ((R 5 rfl).trans f5)),.norm 48 rfl rfl rfl (fun a_ w_ _ t r R D _ _=>op_bW2 (show a_.eval (.tmp 46)=.bool false from D 0 rfl) (show a_.eval (.tmp 47)=.slice a_X r_X.length c_X from D 1 rfl)),.norm 49 rfl rfl rfl (fun a_ w_ _ t r R D _ _=>op_mv ((R 6 rfl).trans f6)),.norm 50 rfl rfl rfl (fun a_ w_ _ t r R D _ _=>op_bR (show a_.eval (.tmp 48)=.agg #[.bool false,.slice a_X r_X.length c_X] from D 2 rfl) (show a_.eval (.tmp 49)=.slice a_Y r_Y.length c_Y from D 3 rfl)),.store 0 _ _ _ rfl rfl rfl rfl rfl rfl rfl (fun ia h=>by cases h) rfl rfl rfl (eqs_cs r3_cs),trivial⟩
         ·intro a13 w13 gs13 hn13 hd13 hBt hr hR hP hX hU
          replace hn:=hn13;replace hd:=hd13.trans hd
          have e50:a13.eval (.tmp 50)=.agg #[.bool false,.slice a_X r_X.length c_X,.slice a_Y r_Y.length c_Y]:=hP 4 (by decide)
          have b4:BoxV R3 w13 ((gs1 2)) (.agg #[.bool false,.slice a_X r_X.length c_X,.slice a_Y r_Y.length c_Y]):=boxv_old ((hX 0 _ rfl).2.1 rfl) (hX 0 _ rfl).2.2.2 e50
          replace f4:a13.eval (.tmp 4) = _:=(hR 4 rfl).trans f4
          replace KX:=KX.rl hr
          replace SX:=SX.rl hr
          replace KY:=KY.rl hr
          replace SY:=SY.rl hr
          replace K6:=K6.rl hr
          replace S6:=S6.rl hr
          replace HB:=HB.trans (hBt.below HB.size (UpOld.all (bx:=[⟨R3,none,(gs1 2),4,.agg #[.bool false,.slice none 0 0,.slice none 0 0],some (5,50,4),[]⟩]) ⟨fun _=>u4,trivial⟩))
          clear hBt hr hR hP hX hU
          refine wp_ret ?_
          repeat (first | refine then_ret ?_ | refine scope_ret ?_ | refine block_ret ?_)
          refine bodyPost_ret (v:=.agg #[.bool false,.slice a_X r_X.length c_X,.slice a_Y r_Y.length c_Y]) (res_c rfl f4 (lv_R3 b4)) hd ⟨_,rfl,outr_eq rfl ?_ ?_ lX lY,HB⟩
          ·rw [←hwx,←hwy,nm_sg _ _ hy0,hbb,←hXe.1]
           have h:=Wh.of false KX
           simpa using h
          ·rw [←hwx,←hwy,dn_sg _ _ hy0,←hXe.2];exact KY
      ·skip
       have hg1:((Int.gcd X Y:Nat):Int)≠1:=fun e=>absurd ((bits_is_one B8 (by omega)).2 e) (by simpa using hc34)
       have hn1:=low_more hy0 hXY hg1
       refine wp_seq ?_
       refine region4 [some 21,some 22,some 23,some 20,some 24,some 25,some 26,some 5] [Eqs (.slice a_X r_X.length c_X),Eqs (.slice a_6 r_6.length c_6),Tup3 (OutL ((X / ((Int.gcd X Y:Nat):Int))) (L)) (OutL ((X % ((Int.gcd X Y:Nat):Int))) (L+L+1)) (Eqs (.bool true)),Tup3 (OutL ((X / ((Int.gcd X Y:Nat):Int))) (L)) (OutL ((X % ((Int.gcd X Y:Nat):Int))) (L+L+1)) (Eqs (.bool true)),OutL ((X / ((Int.gcd X Y:Nat):Int))) (L),OutL ((X % ((Int.gcd X Y:Nat):Int))) (L+L+1),Eqs (.bool true),OutL ((X / ((Int.gcd X Y:Nat):Int))) (L)] [] [(7,0)] (by kernel_rfl) hn rfl (by kernel_rfl) (by kernel_rfl) (by kernel_rfl) (by kernel_rfl) (by kernel_rfl) (by kernel_rfl) ⟨Eqs.mono4 _,Eqs.mono4 _,Tup3.mono4 (OutL.mono4 _ _) (OutL.mono4 _ _) (Eqs.mono4 _),Tup3.mono4 (OutL.mono4 _ _) (OutL.mono4 _ _) (Eqs.mono4 _),OutL.mono4 _ _,OutL.mono4 _ _,Eqs.mono4 _,OutL.mono4 _ _,trivial⟩ ok_nil (IsOld.all (bx:=[]) trivial) (DisOld.all (bx:=[]) trivial) ?_ ?_
       ·exact ⟨.norm 21 rfl rfl rfl (fun a_ w_ _ t r R D _ hS=>op_mv ((hS 7 5 rfl rfl).trans f5)),.norm 22 rfl rfl rfl (fun a_ w_ _ t r R D _ _=>op_mv ((R 7 rfl).trans f7)),.norm 23 rfl rfl rfl (fun a_ w_ _ t r R D _ _=>op_ldiv (isl_eq (show a_.eval (.tmp 21)=.slice a_X r_X.length c_X from D 0 rfl) (SX.rl r) VX lX) (isl_eq (show a_.eval (.tmp 22)=.slice a_6 r_6.length c_6 from D 1 rfl) (S6.rl r) V6 l6) (by omega) hg0),.norm 20 rfl rfl rfl (fun a_ w_ _ t r R D _ _=>op_mvp (p:=Tup3 (OutL ((X / ((Int.gcd X Y:Nat):Int))) (L)) (OutL ((X % ((Int.gcd X Y:Nat):Int))) (L+L+1)) (Eqs (.bool true))) (show Tup3 (OutL ((X / ((Int.gcd X Y:Nat):Int))) (L)) (OutL ((X % ((Int.gcd X Y:Nat):Int))) (L+L+1)) (Eqs (.bool true)) (a_.eval (.tmp 23)) w_ from D 2 rfl)),.norm 24 rfl rfl rfl (fun a_ w_ _ t r R D _ _=>op_ex30 (show Tup3 (OutL ((X / ((Int.gcd X Y:Nat):Int))) (L)) (OutL ((X % ((Int.gcd X Y:Nat):Int))) (L+L+1)) (Eqs (.bool true)) (a_.eval (.tmp 20)) w_ from D 3 rfl)),.norm 25 rfl rfl rfl (fun a_ w_ _ t r R D _ _=>op_ex31 (show Tup3 (OutL ((X / ((Int.gcd X Y:Nat):Int))) (L)) (OutL ((X % ((Int.gcd X Y:Nat):Int))) (L+L+1)) (Eqs (.bool true)) (a_.eval (.tmp 20)) w_ from D 3 rfl)),.norm 26 rfl rfl rfl (fun a_ w_ _ t r R D _ _=>op_ex32 (show Tup3 (OutL ((X / ((Int.gcd X Y:Nat):Int))) (L)) (OutL ((X % ((Int.gcd X Y:Nat):Int))) (L+L+1)) (Eqs (.bool true)) (a_.eval (.tmp 20)) w_ from D 3 rfl)),.norm 5 rfl rfl rfl (fun a_ w_ _ t r R D _ _=>op_asp (p:=OutL ((X / ((Int.gcd X Y:Nat):Int))) (L)) (show OutL ((X / ((Int.gcd X Y:Nat):Int))) (L) (a_.eval (.tmp 24)) w_ from D 4 rfl)),trivial⟩
       ·intro a14 w14 gs14 hn14 hd14 hBt hr hR hP hX hU
        replace hn:=hn14;replace hd:=hd14.trans hd
        replace b2:=b2.keep hBt trivial
        replace b3:=b3.keep hBt trivial
        replace b4:=b4.keep hBt trivial
        replace f2:=(hR 2 rfl).trans f2
        replace f3:=(hR 3 rfl).trans f3
        replace f4:=(hR 4 rfl).trans f4
        replace f6:=(hR 6 rfl).trans f6
        replace f7:=(hR 7 rfl).trans f7
        obtain ⟨a_15,c_15,r_15,e5,K15,l15⟩:OutL ((X / ((Int.gcd X Y:Nat):Int))) (L) (a14.eval (.tmp 5)) w14:=hP 7 (by decide)
        have S15:=K15.sl;have V15:=K15.val
        have f5:=e5
        replace KX:=KX.rl hr
        replace SX:=SX.rl hr
        replace KY:=KY.rl hr
        replace SY:=SY.rl hr
        replace K6:=K6.rl hr
        replace S6:=S6.rl hr
        replace HB:=HB.trans (hBt.below HB.size (UpOld.all (bx:=[]) trivial))
        clear hBt hr hR hP hX hU
        refine region4 [some 28,some 29,some 30,some 27,some 31,some 32,some 33,some 6] [Eqs (.slice a_Y r_Y.length c_Y),Eqs (.slice a_6 r_6.length c_6),Tup3 (OutL ((Y / ((Int.gcd X Y:Nat):Int))) (L)) (OutL ((Y % ((Int.gcd X Y:Nat):Int))) (L+L+1)) (Eqs (.bool true)),Tup3 (OutL ((Y / ((Int.gcd X Y:Nat):Int))) (L)) (OutL ((Y % ((Int.gcd X Y:Nat):Int))) (L+L+1)) (Eqs (.bool true)),OutL ((Y / ((Int.gcd X Y:Nat):Int))) (L),OutL ((Y % ((Int.gcd X Y:Nat):Int))) (L+L+1),Eqs (.bool true),OutL ((Y / ((Int.gcd X Y:Nat):Int))) (L)] [] [(7,0)] (by kernel_rfl) hn rfl (by kernel_rfl) (by kernel_rfl) (by kernel_rfl) (by kernel_rfl) (by kernel_rfl) (by kernel_rfl) ⟨Eqs.mono4 _,Eqs.mono4 _,Tup3.mono4 (OutL.mono4 _ _) (OutL.mono4 _ _) (Eqs.mono4 _),Tup3.mono4 (OutL.mono4 _ _) (OutL.mono4 _ _) (Eqs.mono4 _),OutL.mono4 _ _,OutL.mono4 _ _,Eqs.mono4 _,OutL.mono4 _ _,trivial⟩ ok_nil (IsOld.all (bx:=[]) trivial) (DisOld.all (bx:=[]) trivial) ?_ ?_
        ·exact ⟨.norm 28 rfl rfl rfl (fun a_ w_ _ t r R D _ hS=>op_mv ((hS 7 6 rfl rfl).trans f6)),.norm 29 rfl rfl rfl (fun a_ w_ _ t r R D _ _=>op_mv ((R 7 rfl).trans f7)),.norm 30 rfl rfl rfl (fun a_ w_ _ t r R D _ _=>op_ldiv (isl_eq (show a_.eval (.tmp 28)=.slice a_Y r_Y.length c_Y from D 0 rfl) (SY.rl r) VY lY) (isl_eq (show a_.eval (.tmp 29)=.slice a_6 r_6.length c_6 from D 1 rfl) (S6.rl r) V6 l6) (by omega) hg0),.norm 27 rfl rfl rfl (fun a_ w_ _ t r R D _ _=>op_mvp (p:=Tup3 (OutL ((Y / ((Int.gcd X Y:Nat):Int))) (L)) (OutL ((Y % ((Int.gcd X Y:Nat):Int))) (L+L+1)) (Eqs (.bool true))) (show Tup3 (OutL ((Y / ((Int.gcd X Y:Nat):Int))) (L)) (OutL ((Y % ((Int.gcd X Y:Nat):Int))) (L+L+1)) (Eqs (.bool true)) (a_.eval (.tmp 30)) w_ from D 2 rfl)),.norm 31 rfl rfl rfl (fun a_ w_ _ t r R D _ _=>op_ex30 (show Tup3 (OutL ((Y / ((Int.gcd X Y:Nat):Int))) (L)) (OutL ((Y % ((Int.gcd X Y:Nat):Int))) (L+L+1)) (Eqs (.bool true)) (a_.eval (.tmp 27)) w_ from D 3 rfl)),.norm 32 rfl rfl rfl (fun a_ w_ _ t r R D _ _=>op_ex31 (show Tup3 (OutL ((Y / ((Int.gcd X Y:Nat):Int))) (L)) (OutL ((Y % ((Int.gcd X Y:Nat):Int))) (L+L+1)) (Eqs (.bool true)) (a_.eval (.tmp 27)) w_ from D 3 rfl)),.norm 33 rfl rfl rfl (fun a_ w_ _ t r R D _ _=>op_ex32 (show Tup3 (OutL ((Y / ((Int.gcd X Y:Nat):Int))) (L)) (OutL ((Y % ((Int.gcd X Y:Nat):Int))) (L+L+1)) (Eqs (.bool true)) (a_.eval (.tmp 27)) w_ from D 3 rfl)),.norm 6 rfl rfl rfl (fun a_ w_ _ t r R D _ _=>op_asp (p:=OutL ((Y / ((Int.gcd X Y:Nat):Int))) (L)) (show OutL ((Y / ((Int.gcd X Y:Nat):Int))) (L) (a_.eval (.tmp 31)) w_ from D 4 rfl)),trivial⟩
        ·intro a16 w16 gs16 hn16 hd16 hBt hr hR hP hX hU
         replace hn:=hn16;replace hd:=hd16.trans hd
         replace b2:=b2.keep hBt trivial
         replace b3:=b3.keep hBt trivial
         replace b4:=b4.keep hBt trivial
         replace f2:=(hR 2 rfl).trans f2
         replace f3:=(hR 3 rfl).trans f3
         replace f4:=(hR 4 rfl).trans f4
         replace f5:=(hR 5 rfl).trans f5
         obtain ⟨a_17,c_17,r_17,e6,K17,l17⟩:OutL ((Y / ((Int.gcd X Y:Nat):Int))) (L) (a16.eval (.tmp 6)) w16:=hP 7 (by decide)
         have S17:=K17.sl;have V17:=K17.val
         have f6:=e6
         replace KX:=KX.rl hr
         replace SX:=SX.rl hr
         replace KY:=KY.rl hr
         replace SY:=SY.rl hr
         replace K6:=K6.rl hr
         replace S6:=S6.rl hr
         replace K15:=K15.rl hr
         replace S15:=S15.rl hr
         replace HB:=HB.trans (hBt.below HB.size (UpOld.all (bx:=[]) trivial))
         clear hBt hr hR hP hX hU
         refine block_normal ?_
         refine block_normal ?_
         exact ⟨0,by omega,hn,hd,f2,f3,f4,b2,b3,b4,HB,_,_,outl_eq f5 K15 l15,outl_eq f6 K17 l17,Or.inr ⟨rfl,by rw [hn1.2.1,hn1.2.2],by rw [hn1.2.1,hn1.2.2]⟩⟩
theorem has_lowest:Has Tryz.prog 144:=by unfold Has;kernel_rfl
theorem op_lowest {dst:Option Tmp} {ty:TypeId} {pos:String} {after:Array Edge} {guard:Option (Nat × Bool)} {a:Act} {w:World} {ats:Array TypeId} {i j:Nat} {p q:Int} {L1 L2:Nat} (h:IsW p L1 (a.eval (.tmp i)) w) (h' : IsW q L2 (a.eval (.tmp j)) w) (hL:L1+L2≤100000) (hq:q≠0) :
  Does Tryz.prog { dst,op:=.call { callee:=.value (.func 144),args:=#[.tmp i,.tmp j],argTypes:=ats },type:=ty,pos,after,guard } a.eval w fun v w'=>Below w.heap.size w w'∧OutR (nm p q) (dn p q) (L1+L2) v w' := by
 obtain ⟨ng,ao,n,cap,xs,e,A,l⟩:=h
 obtain ⟨ng',ao',n',cap',xs',e',A',l'⟩:=h'
 refine does_call has_lowest _ (by simp only [List.map_toArray,List.map_cons,List.map_nil,e,e']) ((lowest_z w (L1+L2) hL _ _ _ _ _ _ A (by omega) _ _ _ _ _ _ A' (by omega) hq).mono ?_)
 rintro e w' ⟨v,rfl,h1,hb⟩
 exact ⟨_,rfl,hb,h1⟩
end Lm
end Go.Proofs.YtaofpigilgapgaaGreatDoor

namespace Go.Proofs.YtaofpigilgapgaaGreatDoor
namespace Lm
open Go Go.RowKit
section
variable {dst:Option Tmp} {ty:TypeId} {pos:String} {after:Array Edge} {guard:Option (Nat × Bool)} {a:Act} {w:World} {ats:Array TypeId} {i j:Nat} {x y:Int} {L L1 L2:Nat}
theorem has_wtrim:Has Tryz.prog 205:=by unfold Has;kernel_rfl
theorem op_wtrim (hx:IsW x L1 (a.eval (.tmp i)) w) (h1:L1≤400000) :
  Does Tryz.prog { dst,op:=.call { callee:=.value (.func 205),args:=#[.tmp i],argTypes:=ats },type:=ty,pos,after,guard } a.eval w fun v w'=>Below w.heap.size w w'∧OutW x L1 v w' := by
 obtain ⟨n1,a1,m1,c1,xs,e1,A1,l1⟩:=hx
 refine does_call has_wtrim _ (by simp only [List.map_toArray,List.map_cons,List.map_nil,e1]) ((trim_z _ _ _ _ _ _ _ A1 (by omega)).mono ?_)
 rintro e w' ⟨ng,ao,cap,rs,rfl,G,l,hb⟩
 exact ⟨_,rfl,hb,_,_,_,_,rfl,G,by omega⟩
theorem has_small:Has Tryz.prog 96:=by unfold Has;kernel_rfl
theorem op_small {v:Int} (h1:0≤v) (h2:v<18446744073709551616) :
  Does Tryz.prog { dst,op:=.call { callee:=.value (.func 96),args:=#[.const (.int .u64 v)],argTypes:=ats },type:=ty,pos,after,guard } a.eval w fun v' w'=>Below w.heap.size w w'∧OutL v 2 v' w' := by
 refine does_call has_small _ (by simp only [List.map_toArray,List.map_cons,List.map_nil,Act.eval]) ((small_any w v h1 h2).mono ?_)
 rintro e w' ⟨v',rfl,I,hb⟩
 obtain ⟨ao,cap,rs,rfl,G,l⟩:=got_small I h2
 exact ⟨_,rfl,hb,_,_,_,rfl,G,l⟩
end
set_option maxRecDepth 20000 in
set_option maxHeartbeats 2000000 in
theorem from_z (w:World) (Bx:Nat) (nx:Bool) (ax:Option Addr) (mx cx:Nat) (xs:List Int) (zx:Int) (Ax:Ag w nx ax mx cx xs zx) (Lx:xs.length≤Bx) (hL:Bx≤100000) :
  Calls Tryz.prog 193 #[.agg #[.bool nx,.slice ax mx cx]] w fun e w'=>∃ v,e=.returned v∧(OutR zx 1 (Bx+2)) v w'∧Below w.heap.size w w' := by
 go_enter Tryz.func193,Tryz.ntmps193
 generalize hA:(Act.mk _ _)=aa
 have hn:aa.tmps.size=7:=by rw [←hA];rfl
 have hd:aa.defers = []:=by rw [←hA]
 have f0:aa.eval (.tmp 0)=.agg #[.bool nx,.slice ax mx cx]:=by rw [←hA];rfl
 clear hA
 have HB:Below w.heap.size w w:=Below.refl _ _
 have Tx:=Ax.sl
 refine wp_seq ?_
 refine region4 [some 1,some 2] [Tt,Tt] [⟨W2,some 0,0,1,.agg #[.bool nx,.slice ax mx cx],none,[]⟩,⟨R3,some 1,0,2,.agg #[.bool false,.slice none 0 0,.slice none 0 0],none,[]⟩] [] (by kernel_rfl) hn rfl (by kernel_rfl) (by kernel_rfl) (by kernel_rfl) (by kernel_rfl) (by kernel_rfl) (by kernel_rfl) ⟨True.mono4,True.mono4,trivial⟩ (ok_cons W2ok (ok_cons R3ok ok_nil)) (IsOld.all (bx:=[⟨W2,some 0,0,1,.agg #[.bool nx,.slice ax mx cx],none,[]⟩,⟨R3,some 1,0,2,.agg #[.bool false,.slice none 0 0,.slice none 0 0],none,[]⟩]) ⟨someNe,someNe,trivial⟩) (DisOld.all (bx:=[⟨W2,some 0,0,1,.agg #[.bool nx,.slice ax mx cx],none,[]⟩,⟨R3,some 1,0,2,.agg #[.bool false,.slice none 0 0,.slice none 0 0],none,[]⟩]) ⟨someNe,someNe,trivial⟩) ?_ ?_
 ·exact ⟨.alloc 0 _ rfl rfl (.inr ⟨_,rfl,w2_cs,fun a_ hR=>(hR 0 rfl).trans f0⟩) rfl rfl rfl rfl rfl,.alloc 1 _ rfl rfl (.inl ⟨rfl,rfl⟩) rfl rfl rfl rfl rfl,trivial⟩
 ·intro a1 w1 gs1 hn1 hd1 hBt hr hR hP hX hU
  replace hn:=hn1;replace hd:=hd1.trans hd
  have ne1_2:gs1 0≠gs1 1:=hU 0 1 (by simp) (by simp) (by decide)
  have b1:BoxV W2 w1 (gs1 0) (.agg #[.bool nx,.slice ax mx cx]):=(hX 0 _ rfl).2.2.2
  have f1:=(hX 0 _ rfl).1
  have u1:w.heap.size≤gs1 0:=Nat.le_trans HB.size ((hX 0 _ rfl).2.2.1 (by simp))
  have b2:BoxV R3 w1 (gs1 1) (.agg #[.bool false,.slice none 0 0,.slice none 0 0]):=(hX 1 _ rfl).2.2.2
  have f2:=(hX 1 _ rfl).1
  have u2:w.heap.size≤gs1 1:=Nat.le_trans HB.size ((hX 1 _ rfl).2.2.1 (by simp))
  replace Ax:=Ax.rl hr
  replace Tx:=Tx.rl hr
  replace HB:=HB.trans (hBt.below HB.size (UpOld.all (bx:=[⟨W2,some 0,0,1,.agg #[.bool nx,.slice ax mx cx],none,[]⟩,⟨R3,some 1,0,2,.agg #[.bool false,.slice none 0 0,.slice none 0 0],none,[]⟩]) ⟨someNe,someNe,trivial⟩))
  clear hBt hr hR hP hX hU
  refine wp_seq ?_
  refine region4 [some 3,some 4,some 5,some 6,none] [Eqs (.agg #[.bool nx,.slice ax mx cx]),OutW (zx) (Bx),OutL (1) (2),OutR (zx) (1) ((Bx)+(2)),Tt] [⟨R3,none,(gs1 1),2,.agg #[.bool false,.slice none 0 0,.slice none 0 0],some (4,6,3),[]⟩] [] (by kernel_rfl) hn rfl (by kernel_rfl) (by kernel_rfl) (by kernel_rfl) (by kernel_rfl) (by kernel_rfl) (by kernel_rfl) ⟨Eqs.mono4 _,OutW.mono4 _ _,OutL.mono4 _ _,OutR.mono4 _ _ _,True.mono4,trivial⟩ (ok_cons R3ok ok_nil) (IsOld.all (bx:=[⟨R3,none,(gs1 1),2,.agg #[.bool false,.slice none 0 0,.slice none 0 0],some (4,6,3),[]⟩]) ⟨fun _=>⟨f2,b2⟩,trivial⟩) (DisOld.all (bx:=[⟨R3,none,(gs1 1),2,.agg #[.bool false,.slice none 0 0,.slice none 0 0],some (4,6,3),[]⟩]) ⟨fun _=>trivial,trivial⟩) ?_ ?_
  ·exact ⟨.norm 3 rfl rfl rfl (fun a_ w_ _ t r R D _ _=>op_loadv W2ok ((R 1 rfl).trans f1) (b1.keep t ⟨fun _=>ne1_2.symm,trivial⟩)),.norm 4 rfl rfl rfl (fun a_ w_ _ t r R D _ _=>op_wtrim (isw_eq (show a_.eval (.tmp 3)=.agg #[.bool nx,.slice ax mx cx] from D 0 rfl) (Ax.rl r) Lx) (by omega)),.norm 5 rfl rfl rfl (fun a_ w_ _ t r R D _ _=>op_small (by omega) (by omega)),.norm 6 rfl rfl rfl (fun a_ w_ _ t r R D _ _=>op_bRo ((show OutW (zx) (Bx) (a_.eval (.tmp 4)) w_ from D 1 rfl).to rfl (by omega)) ((show OutL (1) (2) (a_.eval (.tmp 5)) w_ from D 2 rfl).to (by omega))),.store 0 _ _ _ rfl rfl rfl rfl rfl rfl rfl (fun ia h=>by cases h) rfl rfl rfl OutR.cs,trivial⟩
  ·intro a2 w2 gs2 hn2 hd2 hBt hr hR hP hX hU
   replace hn:=hn2;replace hd:=hd2.trans hd
   obtain ⟨n_3,a_3,c_3,r_3,b_3,d_3,s_3,e6,G3,K3,l3,k3⟩:OutR (zx) (1) ((Bx)+(2)) (a2.eval (.tmp 6)) w2:=hP 3 (by decide)
   have A3:=G3.ag;have S3:=K3.sl;have V3:=K3.val
   have b2:BoxV R3 w2 ((gs1 1)) (.agg #[.bool n_3,.slice a_3 r_3.length c_3,.slice b_3 s_3.length d_3]):=boxv_old ((hX 0 _ rfl).2.1 rfl) (hX 0 _ rfl).2.2.2 e6
   replace f2:a2.eval (.tmp 2) = _:=(hR 2 rfl).trans f2
   replace Ax:=Ax.rl hr
   replace Tx:=Tx.rl hr
   replace HB:=HB.trans (hBt.below HB.size (UpOld.all (bx:=[⟨R3,none,(gs1 1),2,.agg #[.bool false,.slice none 0 0,.slice none 0 0],some (4,6,3),[]⟩]) ⟨fun _=>u2,trivial⟩))
   clear hBt hr hR hP hX hU
   refine wp_ret ?_
   repeat (first | refine then_ret ?_ | refine scope_ret ?_ | refine block_ret ?_)
   exact bodyPost_ret (v:=.agg #[.bool n_3,.slice a_3 r_3.length c_3,.slice b_3 s_3.length d_3]) (res_c rfl f2 (lv_R3 b2)) hd ⟨_,rfl,OutR.to (outr_eq rfl G3 K3 l3 k3) rfl rfl (by omega),HB⟩
set_option maxRecDepth 20000 in
set_option maxHeartbeats 2000000 in
theorem rtrim_z (w:World) (Br:Nat) (nr:Bool) (ar:Option Addr) (mr cr:Nat) (rs:List Int) (pr:Int) (Ar:Ag w nr ar mr cr rs pr) (Lr:rs.length≤Br) (br:Option Addr) (kr dr:Nat) (rt:List Int) (qr:Int) (Sr:Sl w (.slice br kr dr) rt) (Vr:val rt=qr) (Mr:rt.length≤Br) (hL:2*(Br+2)≤100000) :
  Calls Tryz.prog 109 #[.agg #[.bool nr,.slice ar mr cr,.slice br kr dr]] w fun e w'=>∃ v,e=.returned v∧(OutR (nm (tp pr qr) (tq qr)) (dn (tp pr qr) (tq qr)) (2*(Br+2))) v w'∧Below w.heap.size w w' := by
 go_enter Tryz.func109,Tryz.ntmps109
 generalize hA:(Act.mk _ _)=aa
 have hn:aa.tmps.size=8:=by rw [←hA];rfl
 have hd:aa.defers = []:=by rw [←hA]
 have f0:aa.eval (.tmp 0)=.agg #[.bool nr,.slice ar mr cr,.slice br kr dr]:=by rw [←hA];rfl
 clear hA
 have HB:Below w.heap.size w w:=Below.refl _ _
 have Dr:Ag w false br kr dr rt qr:=⟨Sr,Vr⟩
 refine wp_seq ?_
 refine region4 [some 1,some 2] [Tt,Tt] [⟨R3,some 0,0,1,.agg #[.bool nr,.slice ar mr cr,.slice br kr dr],none,[]⟩,⟨R3,some 1,0,2,.agg #[.bool false,.slice none 0 0,.slice none 0 0],none,[]⟩] [] (by kernel_rfl) hn rfl (by kernel_rfl) (by kernel_rfl) (by kernel_rfl) (by kernel_rfl) (by kernel_rfl) (by kernel_rfl) ⟨True.mono4,True.mono4,trivial⟩ (ok_cons R3ok (ok_cons R3ok ok_nil)) (IsOld.all (bx:=[⟨R3,some 0,0,1,.agg #[.bool nr,.slice ar mr cr,.slice br kr dr],none,[]⟩,⟨R3,some 1,0,2,.agg #[.bool false,.slice none 0 0,.slice none 0 0],none,[]⟩]) ⟨someNe,someNe,trivial⟩) (DisOld.all (bx:=[⟨R3,some 0,0,1,.agg #[.bool nr,.slice ar mr cr,.slice br kr dr],none,[]⟩,⟨R3,some 1,0,2,.agg #[.bool false,.slice none 0 0,.slice none 0 0],none,[]⟩]) ⟨someNe,someNe,trivial⟩) ?_ ?_
 ·exact ⟨.alloc 0 _ rfl rfl (.inr ⟨_,rfl,r3_cs,fun a_ hR=>(hR 0 rfl).trans f0⟩) rfl rfl rfl rfl rfl,.alloc 1 _ rfl rfl (.inl ⟨rfl,rfl⟩) rfl rfl rfl rfl rfl,trivial⟩
 ·intro a1 w1 gs1 hn1 hd1 hBt hr hR hP hX hU
  replace hn:=hn1;replace hd:=hd1.trans hd
  have ne1_2:gs1 0≠gs1 1:=hU 0 1 (by simp) (by simp) (by decide)
  have b1:BoxV R3 w1 (gs1 0) (.agg #[.bool nr,.slice ar mr cr,.slice br kr dr]):=(hX 0 _ rfl).2.2.2
  have f1:=(hX 0 _ rfl).1
  have u1:w.heap.size≤gs1 0:=Nat.le_trans HB.size ((hX 0 _ rfl).2.2.1 (by simp))
  have b2:BoxV R3 w1 (gs1 1) (.agg #[.bool false,.slice none 0 0,.slice none 0 0]):=(hX 1 _ rfl).2.2.2
  have f2:=(hX 1 _ rfl).1
  have u2:w.heap.size≤gs1 1:=Nat.le_trans HB.size ((hX 1 _ rfl).2.2.1 (by simp))
  replace Ar:=Ar.rl hr
  replace Sr:=Sr.rl hr
  replace Dr:=Dr.rl hr
  replace HB:=HB.trans (hBt.below HB.size (UpOld.all (bx:=[⟨R3,some 0,0,1,.agg #[.bool nr,.slice ar mr cr,.slice br kr dr],none,[]⟩,⟨R3,some 1,0,2,.agg #[.bool false,.slice none 0 0,.slice none 0 0],none,[]⟩]) ⟨someNe,someNe,trivial⟩))
  clear hBt hr hR hP hX hU
  refine wp_seq ?_
  refine region4 [some 3,some 4,some 5,some 6,some 7,none] [Eqs (.agg #[.bool nr,.slice ar mr cr,.slice br kr dr]),Tup2 (IsW ((tp pr qr)) ((Br)+2)) (IsW ((tq qr)) ((Br)+2)),IsW ((tp pr qr)) ((Br)+2),IsW ((tq qr)) ((Br)+2),OutR ((nm (tp pr qr) (tq qr))) ((dn (tp pr qr) (tq qr))) (((Br)+2)+((Br)+2)),Tt] [⟨R3,none,(gs1 1),2,.agg #[.bool false,.slice none 0 0,.slice none 0 0],some (5,7,4),[]⟩] [] (by kernel_rfl) hn rfl (by kernel_rfl) (by kernel_rfl) (by kernel_rfl) (by kernel_rfl) (by kernel_rfl) (by kernel_rfl) ⟨Eqs.mono4 _,Tup2.mono4 (IsW.mono4 _ _) (IsW.mono4 _ _),IsW.mono4 _ _,IsW.mono4 _ _,OutR.mono4 _ _ _,True.mono4,trivial⟩ (ok_cons R3ok ok_nil) (IsOld.all (bx:=[⟨R3,none,(gs1 1),2,.agg #[.bool false,.slice none 0 0,.slice none 0 0],some (5,7,4),[]⟩]) ⟨fun _=>⟨f2,b2⟩,trivial⟩) (DisOld.all (bx:=[⟨R3,none,(gs1 1),2,.agg #[.bool false,.slice none 0 0,.slice none 0 0],some (5,7,4),[]⟩]) ⟨fun _=>trivial,trivial⟩) ?_ ?_
  ·exact ⟨.norm 3 rfl rfl rfl (fun a_ w_ _ t r R D _ _=>op_loadv R3ok ((R 1 rfl).trans f1) (b1.keep t ⟨fun _=>ne1_2.symm,trivial⟩)),.norm 4 rfl rfl rfl (fun a_ w_ _ t r R D _ _=>op_terms (isr_eq (show a_.eval (.tmp 3)=.agg #[.bool nr,.slice ar mr cr,.slice br kr dr] from D 0 rfl) (Ar.rl r) (Sr.rl r) Vr Lr Mr) (by omega)),.norm 5 rfl rfl rfl (fun a_ w_ _ t r R D _ _=>op_ex20 (show Tup2 (IsW ((tp pr qr)) ((Br)+2)) (IsW ((tq qr)) ((Br)+2)) (a_.eval (.tmp 4)) w_ from D 1 rfl)),.norm 6 rfl rfl rfl (fun a_ w_ _ t r R D _ _=>op_ex21 (show Tup2 (IsW ((tp pr qr)) ((Br)+2)) (IsW ((tq qr)) ((Br)+2)) (a_.eval (.tmp 4)) w_ from D 1 rfl)),.norm 7 rfl rfl rfl (fun a_ w_ _ t r R D _ _=>op_lowest (show IsW ((tp pr qr)) ((Br)+2) (a_.eval (.tmp 5)) w_ from D 2 rfl) (show IsW ((tq qr)) ((Br)+2) (a_.eval (.tmp 6)) w_ from D 3 rfl) (by omega) (tq_ne _)),.store 0 _ _ _ rfl rfl rfl rfl rfl rfl rfl (fun ia h=>by cases h) rfl rfl rfl OutR.cs,trivial⟩
  ·intro a2 w2 gs2 hn2 hd2 hBt hr hR hP hX hU
   replace hn:=hn2;replace hd:=hd2.trans hd
   obtain ⟨n_3,a_3,c_3,r_3,b_3,d_3,s_3,e7,G3,K3,l3,k3⟩:OutR ((nm (tp pr qr) (tq qr))) ((dn (tp pr qr) (tq qr))) (((Br)+2)+((Br)+2)) (a2.eval (.tmp 7)) w2:=hP 4 (by decide)
   have A3:=G3.ag;have S3:=K3.sl;have V3:=K3.val
   have b2:BoxV R3 w2 ((gs1 1)) (.agg #[.bool n_3,.slice a_3 r_3.length c_3,.slice b_3 s_3.length d_3]):=boxv_old ((hX 0 _ rfl).2.1 rfl) (hX 0 _ rfl).2.2.2 e7
   replace f2:a2.eval (.tmp 2) = _:=(hR 2 rfl).trans f2
   replace Ar:=Ar.rl hr
   replace Sr:=Sr.rl hr
   replace Dr:=Dr.rl hr
   replace HB:=HB.trans (hBt.below HB.size (UpOld.all (bx:=[⟨R3,none,(gs1 1),2,.agg #[.bool false,.slice none 0 0,.slice none 0 0],some (5,7,4),[]⟩]) ⟨fun _=>u2,trivial⟩))
   clear hBt hr hR hP hX hU
   refine wp_ret ?_
   repeat (first | refine then_ret ?_ | refine scope_ret ?_ | refine block_ret ?_)
   exact bodyPost_ret (v:=.agg #[.bool n_3,.slice a_3 r_3.length c_3,.slice b_3 s_3.length d_3]) (res_c rfl f2 (lv_R3 b2)) hd ⟨_,rfl,OutR.to (outr_eq rfl G3 K3 l3 k3) rfl rfl (by omega),HB⟩
set_option maxRecDepth 20000 in
set_option maxHeartbeats 2000000 in
theorem rneg_z (w:World) (Br:Nat) (nr:Bool) (ar:Option Addr) (mr cr:Nat) (rs:List Int) (pr:Int) (Ar:Ag w nr ar mr cr rs pr) (Lr:rs.length≤Br) (br:Option Addr) (kr dr:Nat) (rt:List Int) (qr:Int) (Sr:Sl w (.slice br kr dr) rt) (Vr:val rt=qr) (Mr:rt.length≤Br) (hL:2*(Br+2)≤100000) :
  Calls Tryz.prog 165 #[.agg #[.bool nr,.slice ar mr cr,.slice br kr dr]] w fun e w'=>∃ v,e=.returned v∧(OutR (nm (-(tp pr qr)) (tq qr)) (dn (-(tp pr qr)) (tq qr)) (2*(Br+2))) v w'∧Below w.heap.size w w' := by
 go_enter Tryz.func165,Tryz.ntmps165
 generalize hA:(Act.mk _ _)=aa
 have hn:aa.tmps.size=14:=by rw [←hA];rfl
 have hd:aa.defers = []:=by rw [←hA]
 have f0:aa.eval (.tmp 0)=.agg #[.bool nr,.slice ar mr cr,.slice br kr dr]:=by rw [←hA];rfl
 clear hA
 have HB:Below w.heap.size w w:=Below.refl _ _
 have Dr:Ag w false br kr dr rt qr:=⟨Sr,Vr⟩
 refine wp_seq ?_
 refine region4 [some 1,some 2] [Tt,Tt] [⟨R3,some 0,0,1,.agg #[.bool nr,.slice ar mr cr,.slice br kr dr],none,[]⟩,⟨R3,some 1,0,2,.agg #[.bool false,.slice none 0 0,.slice none 0 0],none,[]⟩] [] (by kernel_rfl) hn rfl (by kernel_rfl) (by kernel_rfl) (by kernel_rfl) (by kernel_rfl) (by kernel_rfl) (by kernel_rfl) ⟨True.mono4,True.mono4,trivial⟩ (ok_cons R3ok (ok_cons R3ok ok_nil)) (IsOld.all (bx:=[⟨R3,some 0,0,1,.agg #[.bool nr,.slice ar mr cr,.slice br kr dr],none,[]⟩,⟨R3,some 1,0,2,.agg #[.bool false,.slice none 0 0,.slice none 0 0],none,[]⟩]) ⟨someNe,someNe,trivial⟩) (DisOld.all (bx:=[⟨R3,some 0,0,1,.agg #[.bool nr,.slice ar mr cr,.slice br kr dr],none,[]⟩,⟨R3,some 1,0,2,.agg #[.bool false,.slice none 0 0,.slice none 0 0],none,[]⟩]) ⟨someNe,someNe,trivial⟩) ?_ ?_
 ·exact ⟨.alloc 0 _ rfl rfl (.inr ⟨_,rfl,r3_cs,fun a_ hR=>(hR 0 rfl).trans f0⟩) rfl rfl rfl rfl rfl,.alloc 1 _ rfl rfl (.inl ⟨rfl,rfl⟩) rfl rfl rfl rfl rfl,trivial⟩
 ·intro a1 w1 gs1 hn1 hd1 hBt hr hR hP hX hU
  replace hn:=hn1;replace hd:=hd1.trans hd
  have ne1_2:gs1 0≠gs1 1:=hU 0 1 (by simp) (by simp) (by decide)
  have b1:BoxV R3 w1 (gs1 0) (.agg #[.bool nr,.slice ar mr cr,.slice br kr dr]):=(hX 0 _ rfl).2.2.2
  have f1:=(hX 0 _ rfl).1
  have u1:w.heap.size≤gs1 0:=Nat.le_trans HB.size ((hX 0 _ rfl).2.2.1 (by simp))
  have b2:BoxV R3 w1 (gs1 1) (.agg #[.bool false,.slice none 0 0,.slice none 0 0]):=(hX 1 _ rfl).2.2.2
  have f2:=(hX 1 _ rfl).1
  have u2:w.heap.size≤gs1 1:=Nat.le_trans HB.size ((hX 1 _ rfl).2.2.1 (by simp))
  replace Ar:=Ar.rl hr
  replace Sr:=Sr.rl hr
  replace Dr:=Dr.rl hr
  replace HB:=HB.trans (hBt.below HB.size (UpOld.all (bx:=[⟨R3,some 0,0,1,.agg #[.bool nr,.slice ar mr cr,.slice br kr dr],none,[]⟩,⟨R3,some 1,0,2,.agg #[.bool false,.slice none 0 0,.slice none 0 0],none,[]⟩]) ⟨someNe,someNe,trivial⟩))
  clear hBt hr hR hP hX hU
  refine wp_seq ?_
  refine region4 [some 6,some 7,some 5,some 8,some 9,some 3,some 4,none,none] [Eqs (.agg #[.bool nr,.slice ar mr cr,.slice br kr dr]),Tup2 (IsW ((tp pr qr)) ((Br)+2)) (IsW ((tq qr)) ((Br)+2)),Tup2 (IsW ((tp pr qr)) ((Br)+2)) (IsW ((tq qr)) ((Br)+2)),IsW ((tp pr qr)) ((Br)+2),IsW ((tq qr)) ((Br)+2),Tt,Tt,Tt,Tt] [⟨W2,some 5,0,3,.agg #[.bool false,.slice none 0 0],some (7,8,3),[]⟩,⟨W2,some 6,0,4,.agg #[.bool false,.slice none 0 0],some (8,9,4),[]⟩] [] (by kernel_rfl) hn rfl (by kernel_rfl) (by kernel_rfl) (by kernel_rfl) (by kernel_rfl) (by kernel_rfl) (by kernel_rfl) ⟨Eqs.mono4 _,Tup2.mono4 (IsW.mono4 _ _) (IsW.mono4 _ _),Tup2.mono4 (IsW.mono4 _ _) (IsW.mono4 _ _),IsW.mono4 _ _,IsW.mono4 _ _,True.mono4,True.mono4,True.mono4,True.mono4,trivial⟩ (ok_cons W2ok (ok_cons W2ok ok_nil)) (IsOld.all (bx:=[⟨W2,some 5,0,3,.agg #[.bool false,.slice none 0 0],some (7,8,3),[]⟩,⟨W2,some 6,0,4,.agg #[.bool false,.slice none 0 0],some (8,9,4),[]⟩]) ⟨someNe,someNe,trivial⟩) (DisOld.all (bx:=[⟨W2,some 5,0,3,.agg #[.bool false,.slice none 0 0],some (7,8,3),[]⟩,⟨W2,some 6,0,4,.agg #[.bool false,.slice none 0 0],some (8,9,4),[]⟩]) ⟨someNe,someNe,trivial⟩) ?_ ?_
  ·exact ⟨.norm 6 rfl rfl rfl (fun a_ w_ _ t r R D _ _=>op_loadv R3ok ((R 1 rfl).trans f1) (b1.keep t ⟨someNe,someNe,trivial⟩)),.norm 7 rfl rfl rfl (fun a_ w_ _ t r R D _ _=>op_terms (isr_eq (show a_.eval (.tmp 6)=.agg #[.bool nr,.slice ar mr cr,.slice br kr dr] from D 0 rfl) (Ar.rl r) (Sr.rl r) Vr Lr Mr) (by omega)),.norm 5 rfl rfl rfl (fun a_ w_ _ t r R D _ _=>op_mvp (p:=Tup2 (IsW ((tp pr qr)) ((Br)+2)) (IsW ((tq qr)) ((Br)+2))) (show Tup2 (IsW ((tp pr qr)) ((Br)+2)) (IsW ((tq qr)) ((Br)+2)) (a_.eval (.tmp 7)) w_ from D 1 rfl)),.norm 8 rfl rfl rfl (fun a_ w_ _ t r R D _ _=>op_ex20 (show Tup2 (IsW ((tp pr qr)) ((Br)+2)) (IsW ((tq qr)) ((Br)+2)) (a_.eval (.tmp 5)) w_ from D 2 rfl)),.norm 9 rfl rfl rfl (fun a_ w_ _ t r R D _ _=>op_ex21 (show Tup2 (IsW ((tp pr qr)) ((Br)+2)) (IsW ((tq qr)) ((Br)+2)) (a_.eval (.tmp 5)) w_ from D 2 rfl)),.alloc 0 _ rfl rfl (.inl ⟨rfl,rfl⟩) rfl rfl rfl rfl rfl,.alloc 1 _ rfl rfl (.inl ⟨rfl,rfl⟩) rfl rfl rfl rfl rfl,.store 0 _ _ _ rfl rfl rfl rfl rfl rfl rfl (fun ia h=>by cases h;rfl) rfl rfl rfl IsW.cs,.store 1 _ _ _ rfl rfl rfl rfl rfl rfl rfl (fun ia h=>by cases h;rfl) rfl rfl rfl IsW.cs,trivial⟩
  ·intro a2 w2 gs2 hn2 hd2 hBt hr hR hP hX hU
   replace hn:=hn2;replace hd:=hd2.trans hd
   have ne2_3:(gs1 1)≠gs2 0:=by have h1:=b2.lt;have h2:=(hX 0 _ rfl).2.2.1 (by simp);omega
   have ne2_4:(gs1 1)≠gs2 1:=by have h1:=b2.lt;have h2:=(hX 1 _ rfl).2.2.1 (by simp);omega
   replace b2:=b2.keep hBt ⟨someNe,someNe,trivial⟩
   obtain ⟨n_3,a_3,m_3,c_3,r_3,e8,A3,l3⟩:IsW ((tp pr qr)) ((Br)+2) (a2.eval (.tmp 8)) w2:=hP 3 (by decide)
   have b3:BoxV W2 w2 (gs2 0) (.agg #[.bool n_3,.slice a_3 m_3 c_3]):=boxv_of (hX 0 _ rfl).2.2.2 e8
   have f3:=(hX 0 _ rfl).1
   have u3:w.heap.size≤gs2 0:=Nat.le_trans HB.size ((hX 0 _ rfl).2.2.1 (by simp))
   obtain ⟨n_4,a_4,m_4,c_4,r_4,e9,A4,l4⟩:IsW ((tq qr)) ((Br)+2) (a2.eval (.tmp 9)) w2:=hP 4 (by decide)
   have b4:BoxV W2 w2 (gs2 1) (.agg #[.bool n_4,.slice a_4 m_4 c_4]):=boxv_of (hX 1 _ rfl).2.2.2 e9
   have f4:=(hX 1 _ rfl).1
   have u4:w.heap.size≤gs2 1:=Nat.le_trans HB.size ((hX 1 _ rfl).2.2.1 (by simp))
   replace f2:=(hR 2 rfl).trans f2
   replace Ar:=Ar.rl hr
   replace Sr:=Sr.rl hr
   replace Dr:=Dr.rl hr
   replace HB:=HB.trans (hBt.below HB.size (UpOld.all (bx:=[⟨W2,some 5,0,3,.agg #[.bool false,.slice none 0 0],some (7,8,3),[]⟩,⟨W2,some 6,0,4,.agg #[.bool false,.slice none 0 0],some (8,9,4),[]⟩]) ⟨someNe,someNe,trivial⟩))
   clear hBt hr hR hP hX hU
   refine wp_seq ?_
   refine region4 [some 10,some 11,some 12,some 13,none] [Eqs (.agg #[.bool n_3,.slice a_3 m_3 c_3]),OutW ((-(tp pr qr))) ((Br)+2),Eqs (.agg #[.bool n_4,.slice a_4 m_4 c_4]),OutR ((nm (-(tp pr qr)) (tq qr))) ((dn (-(tp pr qr)) (tq qr))) (((Br)+2)+((Br)+2)),Tt] [⟨R3,none,(gs1 1),2,.agg #[.bool false,.slice none 0 0,.slice none 0 0],some (4,13,3),[]⟩] [] (by kernel_rfl) hn rfl (by kernel_rfl) (by kernel_rfl) (by kernel_rfl) (by kernel_rfl) (by kernel_rfl) (by kernel_rfl) ⟨Eqs.mono4 _,OutW.mono4 _ _,Eqs.mono4 _,OutR.mono4 _ _ _,True.mono4,trivial⟩ (ok_cons R3ok ok_nil) (IsOld.all (bx:=[⟨R3,none,(gs1 1),2,.agg #[.bool false,.slice none 0 0,.slice none 0 0],some (4,13,3),[]⟩]) ⟨fun _=>⟨f2,b2⟩,trivial⟩) (DisOld.all (bx:=[⟨R3,none,(gs1 1),2,.agg #[.bool false,.slice none 0 0,.slice none 0 0],some (4,13,3),[]⟩]) ⟨fun _=>trivial,trivial⟩) ?_ ?_
   ·exact ⟨.norm 10 rfl rfl rfl (fun a_ w_ _ t r R D _ _=>op_loadv W2ok ((R 3 rfl).trans f3) (b3.keep t ⟨fun _=>ne2_3,trivial⟩)),.norm 11 rfl rfl rfl (fun a_ w_ _ t r R D _ _=>op_neg (isw_eq (show a_.eval (.tmp 10)=.agg #[.bool n_3,.slice a_3 m_3 c_3] from D 0 rfl) (A3.rl r) l3) (by omega)),.norm 12 rfl rfl rfl (fun a_ w_ _ t r R D _ _=>op_loadv W2ok ((R 4 rfl).trans f4) (b4.keep t ⟨fun _=>ne2_4,trivial⟩)),.norm 13 rfl rfl rfl (fun a_ w_ _ t r R D _ _=>op_lowest (show OutW ((-(tp pr qr))) ((Br)+2) (a_.eval (.tmp 11)) w_ from D 1 rfl).is (isw_eq (show a_.eval (.tmp 12)=.agg #[.bool n_4,.slice a_4 m_4 c_4] from D 2 rfl) (A4.rl r) l4) (by omega) (tq_ne _)),.store 0 _ _ _ rfl rfl rfl rfl rfl rfl rfl (fun ia h=>by cases h) rfl rfl rfl OutR.cs,trivial⟩
   ·intro a5 w5 gs5 hn5 hd5 hBt hr hR hP hX hU
    replace hn:=hn5;replace hd:=hd5.trans hd
    obtain ⟨n_6,a_6,c_6,r_6,b_6,d_6,s_6,e13,G6,K6,l6,k6⟩:OutR ((nm (-(tp pr qr)) (tq qr))) ((dn (-(tp pr qr)) (tq qr))) (((Br)+2)+((Br)+2)) (a5.eval (.tmp 13)) w5:=hP 3 (by decide)
    have A6:=G6.ag;have S6:=K6.sl;have V6:=K6.val
    have b2:BoxV R3 w5 ((gs1 1)) (.agg #[.bool n_6,.slice a_6 r_6.length c_6,.slice b_6 s_6.length d_6]):=boxv_old ((hX 0 _ rfl).2.1 rfl) (hX 0 _ rfl).2.2.2 e13
    replace f2:a5.eval (.tmp 2) = _:=(hR 2 rfl).trans f2
    replace Ar:=Ar.rl hr
    replace Sr:=Sr.rl hr
    replace Dr:=Dr.rl hr
    replace A3:=A3.rl hr
    replace A4:=A4.rl hr
    replace HB:=HB.trans (hBt.below HB.size (UpOld.all (bx:=[⟨R3,none,(gs1 1),2,.agg #[.bool false,.slice none 0 0,.slice none 0 0],some (4,13,3),[]⟩]) ⟨fun _=>u2,trivial⟩))
    clear hBt hr hR hP hX hU
    refine wp_ret ?_
    repeat (first | refine then_ret ?_ | refine scope_ret ?_ | refine block_ret ?_)
    exact bodyPost_ret (v:=.agg #[.bool n_6,.slice a_6 r_6.length c_6,.slice b_6 s_6.length d_6]) (res_c rfl f2 (lv_R3 b2)) hd ⟨_,rfl,OutR.to (outr_eq rfl G6 K6 l6 k6) rfl rfl (by omega),HB⟩
theorem has_rneg:Has Tryz.prog 165:=by unfold Has;kernel_rfl
set_option maxRecDepth 20000 in
set_option maxHeartbeats 2000000 in
theorem joinadd_z (w:World) (Br:Nat) (nr:Bool) (ar:Option Addr) (mr cr:Nat) (rs:List Int) (pr:Int) (Ar:Ag w nr ar mr cr rs pr) (Lr:rs.length≤Br) (br:Option Addr) (kr dr:Nat) (rt:List Int) (qr:Int) (Sr:Sl w (.slice br kr dr) rt) (Vr:val rt=qr) (Mr:rt.length≤Br) (Bu:Nat) (nu:Bool) (au:Option Addr) (mu cu:Nat) (us:List Int) (pu:Int) (Au:Ag w nu au mu cu us pu) (Lu:us.length≤Bu) (bu:Option Addr) (ku du:Nat) (ut:List Int) (qu:Int) (Su:Sl w (.slice bu ku du) ut) (Vu:val ut=qu) (Mu:ut.length≤Bu) (hL:3*(Br+Bu+4)+1≤100000) :
  Calls Tryz.prog 121 #[.agg #[.bool nr,.slice ar mr cr,.slice br kr dr],.agg #[.bool nu,.slice au mu cu,.slice bu ku du],.func (.func 81) #[] #[]] w fun e w'=>∃ v,e=.returned v∧(OutR (nm (tp pr qr*tq qu+tp pu qu*tq qr) (tq qr*tq qu)) (dn (tp pr qr*tq qu+tp pu qu*tq qr) (tq qr*tq qu)) (3*(Br+Bu+4)+1)) v w'∧Below w.heap.size w w' := by
 go_enter Tryz.func121,Tryz.ntmps121
 generalize hA:(Act.mk _ _)=aa
 have hn:aa.tmps.size=35:=by rw [←hA];rfl
 have hd:aa.defers = []:=by rw [←hA]
 have f0:aa.eval (.tmp 0)=.agg #[.bool nr,.slice ar mr cr,.slice br kr dr]:=by rw [←hA];rfl
 have f1:aa.eval (.tmp 1)=.agg #[.bool nu,.slice au mu cu,.slice bu ku du]:=by rw [←hA];rfl
 have f2:aa.eval (.tmp 2)=.func (.func 81) #[] #[]:=by rw [←hA];rfl
 clear hA
 have HB:Below w.heap.size w w:=Below.refl _ _
 have Dr:Ag w false br kr dr rt qr:=⟨Sr,Vr⟩
 have Du:Ag w false bu ku du ut qu:=⟨Su,Vu⟩
 refine wp_seq ?_
 refine region4 [some 3,some 4,some 6] [Tt,Tt,Tt] [⟨R3,some 0,0,3,.agg #[.bool nr,.slice ar mr cr,.slice br kr dr],none,[]⟩,⟨R3,some 1,0,4,.agg #[.bool nu,.slice au mu cu,.slice bu ku du],none,[]⟩,⟨R3,some 2,0,6,.agg #[.bool false,.slice none 0 0,.slice none 0 0],none,[]⟩] [] (by kernel_rfl) hn rfl (by kernel_rfl) (by kernel_rfl) (by kernel_rfl) (by kernel_rfl) (by kernel_rfl) (by kernel_rfl) ⟨True.mono4,True.mono4,True.mono4,trivial⟩ (ok_cons R3ok (ok_cons R3ok (ok_cons R3ok ok_nil))) (IsOld.all (bx:=[⟨R3,some 0,0,3,.agg #[.bool nr,.slice ar mr cr,.slice br kr dr],none,[]⟩,⟨R3,some 1,0,4,.agg #[.bool nu,.slice au mu cu,.slice bu ku du],none,[]⟩,⟨R3,some 2,0,6,.agg #[.bool false,.slice none 0 0,.slice none 0 0],none,[]⟩]) ⟨someNe,someNe,someNe,trivial⟩) (DisOld.all (bx:=[⟨R3,some 0,0,3,.agg #[.bool nr,.slice ar mr cr,.slice br kr dr],none,[]⟩,⟨R3,some 1,0,4,.agg #[.bool nu,.slice au mu cu,.slice bu ku du],none,[]⟩,⟨R3,some 2,0,6,.agg #[.bool false,.slice none 0 0,.slice none 0 0],none,[]⟩]) ⟨someNe,someNe,someNe,trivial⟩) ?_ ?_
 ·exact ⟨.alloc 0 _ rfl rfl (.inr ⟨_,rfl,r3_cs,fun a_ hR=>(hR 0 rfl).trans f0⟩) rfl rfl rfl rfl rfl,.alloc 1 _ rfl rfl (.inr ⟨_,rfl,r3_cs,fun a_ hR=>(hR 1 rfl).trans f1⟩) rfl rfl rfl rfl rfl,.alloc 2 _ rfl rfl (.inl ⟨rfl,rfl⟩) rfl rfl rfl rfl rfl,trivial⟩
 ·intro a1 w1 gs1 hn1 hd1 hBt hr hR hP hX hU
  replace hn:=hn1;replace hd:=hd1.trans hd
  have ne3_6:gs1 0≠gs1 2:=hU 0 2 (by simp) (by simp) (by decide)
  have ne4_6:gs1 1≠gs1 2:=hU 1 2 (by simp) (by simp) (by decide)
  have b3:BoxV R3 w1 (gs1 0) (.agg #[.bool nr,.slice ar mr cr,.slice br kr dr]):=(hX 0 _ rfl).2.2.2
  have f3:=(hX 0 _ rfl).1
  have u3:w.heap.size≤gs1 0:=Nat.le_trans HB.size ((hX 0 _ rfl).2.2.1 (by simp))
  have b4:BoxV R3 w1 (gs1 1) (.agg #[.bool nu,.slice au mu cu,.slice bu ku du]):=(hX 1 _ rfl).2.2.2
  have f4:=(hX 1 _ rfl).1
  have u4:w.heap.size≤gs1 1:=Nat.le_trans HB.size ((hX 1 _ rfl).2.2.1 (by simp))
  have b6:BoxV R3 w1 (gs1 2) (.agg #[.bool false,.slice none 0 0,.slice none 0 0]):=(hX 2 _ rfl).2.2.2
  have f6:=(hX 2 _ rfl).1
  have u6:w.heap.size≤gs1 2:=Nat.le_trans HB.size ((hX 2 _ rfl).2.2.1 (by simp))
  replace f2:=(hR 2 rfl).trans f2
  replace Ar:=Ar.rl hr
  replace Sr:=Sr.rl hr
  replace Dr:=Dr.rl hr
  replace Au:=Au.rl hr
  replace Su:=Su.rl hr
  replace Du:=Du.rl hr
  replace HB:=HB.trans (hBt.below HB.size (UpOld.all (bx:=[⟨R3,some 0,0,3,.agg #[.bool nr,.slice ar mr cr,.slice br kr dr],none,[]⟩,⟨R3,some 1,0,4,.agg #[.bool nu,.slice au mu cu,.slice bu ku du],none,[]⟩,⟨R3,some 2,0,6,.agg #[.bool false,.slice none 0 0,.slice none 0 0],none,[]⟩]) ⟨someNe,someNe,someNe,trivial⟩))
  clear hBt hr hR hP hX hU
  refine wp_seq ?_
  refine region4 [some 13,some 14,some 12,some 15,some 16,some 7,some 8,none,none] [Eqs (.agg #[.bool nr,.slice ar mr cr,.slice br kr dr]),Tup2 (IsW ((tp pr qr)) ((Br)+2)) (IsW ((tq qr)) ((Br)+2)),Tup2 (IsW ((tp pr qr)) ((Br)+2)) (IsW ((tq qr)) ((Br)+2)),IsW ((tp pr qr)) ((Br)+2),IsW ((tq qr)) ((Br)+2),Tt,Tt,Tt,Tt] [⟨W2,some 5,0,7,.agg #[.bool false,.slice none 0 0],some (7,15,3),[]⟩,⟨W2,some 6,0,8,.agg #[.bool false,.slice none 0 0],some (8,16,4),[]⟩] [] (by kernel_rfl) hn rfl (by kernel_rfl) (by kernel_rfl) (by kernel_rfl) (by kernel_rfl) (by kernel_rfl) (by kernel_rfl) ⟨Eqs.mono4 _,Tup2.mono4 (IsW.mono4 _ _) (IsW.mono4 _ _),Tup2.mono4 (IsW.mono4 _ _) (IsW.mono4 _ _),IsW.mono4 _ _,IsW.mono4 _ _,True.mono4,True.mono4,True.mono4,True.mono4,trivial⟩ (ok_cons W2ok (ok_cons W2ok ok_nil)) (IsOld.all (bx:=[⟨W2,some 5,0,7,.agg #[.bool false,.slice none 0 0],some (7,15,3),[]⟩,⟨W2,some 6,0,8,.agg #[.bool false,.slice none 0 0],some (8,16,4),[]⟩]) ⟨someNe,someNe,trivial⟩) (DisOld.all (bx:=[⟨W2,some 5,0,7,.agg #[.bool false,.slice none 0 0],some (7,15,3),[]⟩,⟨W2,some 6,0,8,.agg #[.bool false,.slice none 0 0],some (8,16,4),[]⟩]) ⟨someNe,someNe,trivial⟩) ?_ ?_
  ·exact ⟨.norm 13 rfl rfl rfl (fun a_ w_ _ t r R D _ _=>op_loadv R3ok ((R 3 rfl).trans f3) (b3.keep t ⟨someNe,someNe,trivial⟩)),.norm 14 rfl rfl rfl (fun a_ w_ _ t r R D _ _=>op_terms (isr_eq (show a_.eval (.tmp 13)=.agg #[.bool nr,.slice ar mr cr,.slice br kr dr] from D 0 rfl) (Ar.rl r) (Sr.rl r) Vr Lr Mr) (by omega)),.norm 12 rfl rfl rfl (fun a_ w_ _ t r R D _ _=>op_mvp (p:=Tup2 (IsW ((tp pr qr)) ((Br)+2)) (IsW ((tq qr)) ((Br)+2))) (show Tup2 (IsW ((tp pr qr)) ((Br)+2)) (IsW ((tq qr)) ((Br)+2)) (a_.eval (.tmp 14)) w_ from D 1 rfl)),.norm 15 rfl rfl rfl (fun a_ w_ _ t r R D _ _=>op_ex20 (show Tup2 (IsW ((tp pr qr)) ((Br)+2)) (IsW ((tq qr)) ((Br)+2)) (a_.eval (.tmp 12)) w_ from D 2 rfl)),.norm 16 rfl rfl rfl (fun a_ w_ _ t r R D _ _=>op_ex21 (show Tup2 (IsW ((tp pr qr)) ((Br)+2)) (IsW ((tq qr)) ((Br)+2)) (a_.eval (.tmp 12)) w_ from D 2 rfl)),.alloc 0 _ rfl rfl (.inl ⟨rfl,rfl⟩) rfl rfl rfl rfl rfl,.alloc 1 _ rfl rfl (.inl ⟨rfl,rfl⟩) rfl rfl rfl rfl rfl,.store 0 _ _ _ rfl rfl rfl rfl rfl rfl rfl (fun ia h=>by cases h;rfl) rfl rfl rfl IsW.cs,.store 1 _ _ _ rfl rfl rfl rfl rfl rfl rfl (fun ia h=>by cases h;rfl) rfl rfl rfl IsW.cs,trivial⟩
  ·intro a2 w2 gs2 hn2 hd2 hBt hr hR hP hX hU
   replace hn:=hn2;replace hd:=hd2.trans hd
   have ne6_7:(gs1 2)≠gs2 0:=by have h1:=b6.lt;have h2:=(hX 0 _ rfl).2.2.1 (by simp);omega
   have ne6_8:(gs1 2)≠gs2 1:=by have h1:=b6.lt;have h2:=(hX 1 _ rfl).2.2.1 (by simp);omega
   replace b4:=b4.keep hBt ⟨someNe,someNe,trivial⟩
   replace b6:=b6.keep hBt ⟨someNe,someNe,trivial⟩
   obtain ⟨n_3,a_3,m_3,c_3,r_3,e15,A3,l3⟩:IsW ((tp pr qr)) ((Br)+2) (a2.eval (.tmp 15)) w2:=hP 3 (by decide)
   have b7:BoxV W2 w2 (gs2 0) (.agg #[.bool n_3,.slice a_3 m_3 c_3]):=boxv_of (hX 0 _ rfl).2.2.2 e15
   have f7:=(hX 0 _ rfl).1
   have u7:w.heap.size≤gs2 0:=Nat.le_trans HB.size ((hX 0 _ rfl).2.2.1 (by simp))
   obtain ⟨n_4,a_4,m_4,c_4,r_4,e16,A4,l4⟩:IsW ((tq qr)) ((Br)+2) (a2.eval (.tmp 16)) w2:=hP 4 (by decide)
   have b8:BoxV W2 w2 (gs2 1) (.agg #[.bool n_4,.slice a_4 m_4 c_4]):=boxv_of (hX 1 _ rfl).2.2.2 e16
   have f8:=(hX 1 _ rfl).1
   have u8:w.heap.size≤gs2 1:=Nat.le_trans HB.size ((hX 1 _ rfl).2.2.1 (by simp))
   replace f2:=(hR 2 rfl).trans f2
   replace f4:=(hR 4 rfl).trans f4
   replace f6:=(hR 6 rfl).trans f6
   replace Ar:=Ar.rl hr
   replace Sr:=Sr.rl hr
   replace Dr:=Dr.rl hr
   replace Au:=Au.rl hr
   replace Su:=Su.rl hr
   replace Du:=Du.rl hr
   replace HB:=HB.trans (hBt.below HB.size (UpOld.all (bx:=[⟨W2,some 5,0,7,.agg #[.bool false,.slice none 0 0],some (7,15,3),[]⟩,⟨W2,some 6,0,8,.agg #[.bool false,.slice none 0 0],some (8,16,4),[]⟩]) ⟨someNe,someNe,trivial⟩))
   clear hBt hr hR hP hX hU
   refine wp_seq ?_
   refine region4 [some 18,some 19,some 17,some 20,some 21,some 9,some 10,none,none] [Eqs (.agg #[.bool nu,.slice au mu cu,.slice bu ku du]),Tup2 (IsW ((tp pu qu)) ((Bu)+2)) (IsW ((tq qu)) ((Bu)+2)),Tup2 (IsW ((tp pu qu)) ((Bu)+2)) (IsW ((tq qu)) ((Bu)+2)),IsW ((tp pu qu)) ((Bu)+2),IsW ((tq qu)) ((Bu)+2),Tt,Tt,Tt,Tt] [⟨W2,some 5,0,9,.agg #[.bool false,.slice none 0 0],some (7,20,3),[]⟩,⟨W2,some 6,0,10,.agg #[.bool false,.slice none 0 0],some (8,21,4),[]⟩] [] (by kernel_rfl) hn rfl (by kernel_rfl) (by kernel_rfl) (by kernel_rfl) (by kernel_rfl) (by kernel_rfl) (by kernel_rfl) ⟨Eqs.mono4 _,Tup2.mono4 (IsW.mono4 _ _) (IsW.mono4 _ _),Tup2.mono4 (IsW.mono4 _ _) (IsW.mono4 _ _),IsW.mono4 _ _,IsW.mono4 _ _,True.mono4,True.mono4,True.mono4,True.mono4,trivial⟩ (ok_cons W2ok (ok_cons W2ok ok_nil)) (IsOld.all (bx:=[⟨W2,some 5,0,9,.agg #[.bool false,.slice none 0 0],some (7,20,3),[]⟩,⟨W2,some 6,0,10,.agg #[.bool false,.slice none 0 0],some (8,21,4),[]⟩]) ⟨someNe,someNe,trivial⟩) (DisOld.all (bx:=[⟨W2,some 5,0,9,.agg #[.bool false,.slice none 0 0],some (7,20,3),[]⟩,⟨W2,some 6,0,10,.agg #[.bool false,.slice none 0 0],some (8,21,4),[]⟩]) ⟨someNe,someNe,trivial⟩) ?_ ?_
   ·exact ⟨.norm 18 rfl rfl rfl (fun a_ w_ _ t r R D _ _=>op_loadv R3ok ((R 4 rfl).trans f4) (b4.keep t ⟨someNe,someNe,trivial⟩)),.norm 19 rfl rfl rfl (fun a_ w_ _ t r R D _ _=>op_terms (isr_eq (show a_.eval (.tmp 18)=.agg #[.bool nu,.slice au mu cu,.slice bu ku du] from D 0 rfl) (Au.rl r) (Su.rl r) Vu Lu Mu) (by omega)),.norm 17 rfl rfl rfl (fun a_ w_ _ t r R D _ _=>op_mvp (p:=Tup2 (IsW ((tp pu qu)) ((Bu)+2)) (IsW ((tq qu)) ((Bu)+2))) (show Tup2 (IsW ((tp pu qu)) ((Bu)+2)) (IsW ((tq qu)) ((Bu)+2)) (a_.eval (.tmp 19)) w_ from D 1 rfl)),.norm 20 rfl rfl rfl (fun a_ w_ _ t r R D _ _=>op_ex20 (show Tup2 (IsW ((tp pu qu)) ((Bu)+2)) (IsW ((tq qu)) ((Bu)+2)) (a_.eval (.tmp 17)) w_ from D 2 rfl)),.norm 21 rfl rfl rfl (fun a_ w_ _ t r R D _ _=>op_ex21 (show Tup2 (IsW ((tp pu qu)) ((Bu)+2)) (IsW ((tq qu)) ((Bu)+2)) (a_.eval (.tmp 17)) w_ from D 2 rfl)),.alloc 0 _ rfl rfl (.inl ⟨rfl,rfl⟩) rfl rfl rfl rfl rfl,.alloc 1 _ rfl rfl (.inl ⟨rfl,rfl⟩) rfl rfl rfl rfl rfl,.store 0 _ _ _ rfl rfl rfl rfl rfl rfl rfl (fun ia h=>by cases h;rfl) rfl rfl rfl IsW.cs,.store 1 _ _ _ rfl rfl rfl rfl rfl rfl rfl (fun ia h=>by cases h;rfl) rfl rfl rfl IsW.cs,trivial⟩
   ·intro a5 w5 gs5 hn5 hd5 hBt hr hR hP hX hU
    replace hn:=hn5;replace hd:=hd5.trans hd
    have ne6_9:(gs1 2)≠gs5 0:=by have h1:=b6.lt;have h2:=(hX 0 _ rfl).2.2.1 (by simp);omega
    have ne6_10:(gs1 2)≠gs5 1:=by have h1:=b6.lt;have h2:=(hX 1 _ rfl).2.2.1 (by simp);omega
    replace b6:=b6.keep hBt ⟨someNe,someNe,trivial⟩
    replace b7:=b7.keep hBt ⟨someNe,someNe,trivial⟩
    replace b8:=b8.keep hBt ⟨someNe,someNe,trivial⟩
    obtain ⟨n_6,a_6,m_6,c_6,r_6,e20,A6,l6⟩:IsW ((tp pu qu)) ((Bu)+2) (a5.eval (.tmp 20)) w5:=hP 3 (by decide)
    have b9:BoxV W2 w5 (gs5 0) (.agg #[.bool n_6,.slice a_6 m_6 c_6]):=boxv_of (hX 0 _ rfl).2.2.2 e20
    have f9:=(hX 0 _ rfl).1
    have u9:w.heap.size≤gs5 0:=Nat.le_trans HB.size ((hX 0 _ rfl).2.2.1 (by simp))
    obtain ⟨n_7,a_7,m_7,c_7,r_7,e21,A7,l7⟩:IsW ((tq qu)) ((Bu)+2) (a5.eval (.tmp 21)) w5:=hP 4 (by decide)
    have b10:BoxV W2 w5 (gs5 1) (.agg #[.bool n_7,.slice a_7 m_7 c_7]):=boxv_of (hX 1 _ rfl).2.2.2 e21
    have f10:=(hX 1 _ rfl).1
    have u10:w.heap.size≤gs5 1:=Nat.le_trans HB.size ((hX 1 _ rfl).2.2.1 (by simp))
    replace f2:=(hR 2 rfl).trans f2
    replace f6:=(hR 6 rfl).trans f6
    replace f7:=(hR 7 rfl).trans f7
    replace f8:=(hR 8 rfl).trans f8
    replace Ar:=Ar.rl hr
    replace Sr:=Sr.rl hr
    replace Dr:=Dr.rl hr
    replace Au:=Au.rl hr
    replace Su:=Su.rl hr
    replace Du:=Du.rl hr
    replace A3:=A3.rl hr
    replace A4:=A4.rl hr
    replace HB:=HB.trans (hBt.below HB.size (UpOld.all (bx:=[⟨W2,some 5,0,9,.agg #[.bool false,.slice none 0 0],some (7,20,3),[]⟩,⟨W2,some 6,0,10,.agg #[.bool false,.slice none 0 0],some (8,21,4),[]⟩]) ⟨someNe,someNe,trivial⟩))
    clear hBt hr hR hP hX hU
    refine wp_seq ?_
    refine region4 [some 22,some 23,some 24,some 25,some 26,some 27,some 28,some 29,some 11,none] [Eqs (.func (.func 81) #[] #[]),Eqs (.agg #[.bool n_3,.slice a_3 m_3 c_3]),Eqs (.agg #[.bool n_7,.slice a_7 m_7 c_7]),OutW (((tp pr qr)*(tq qu))) (((Br)+2)+((Bu)+2)),Eqs (.agg #[.bool n_6,.slice a_6 m_6 c_6]),Eqs (.agg #[.bool n_4,.slice a_4 m_4 c_4]),OutW (((tp pu qu)*(tq qr))) (((Bu)+2)+((Br)+2)),OutW ((((tp pr qr)*(tq qu))+((tp pu qu)*(tq qr)))) ((((Br)+2)+((Bu)+2))+(((Bu)+2)+((Br)+2))+1),Tt,Tt] [⟨W2,some 8,0,11,.agg #[.bool false,.slice none 0 0],some (9,29,7),[]⟩] [] (by kernel_rfl) hn rfl (by kernel_rfl) (by kernel_rfl) (by kernel_rfl) (by kernel_rfl) (by kernel_rfl) (by kernel_rfl) ⟨Eqs.mono4 _,Eqs.mono4 _,Eqs.mono4 _,OutW.mono4 _ _,Eqs.mono4 _,Eqs.mono4 _,OutW.mono4 _ _,OutW.mono4 _ _,True.mono4,True.mono4,trivial⟩ (ok_cons W2ok ok_nil) (IsOld.all (bx:=[⟨W2,some 8,0,11,.agg #[.bool false,.slice none 0 0],some (9,29,7),[]⟩]) ⟨someNe,trivial⟩) (DisOld.all (bx:=[⟨W2,some 8,0,11,.agg #[.bool false,.slice none 0 0],some (9,29,7),[]⟩]) ⟨someNe,trivial⟩) ?_ ?_
    ·exact ⟨.norm 22 rfl rfl rfl (fun a_ w_ _ t r R D _ _=>op_mv ((R 2 rfl).trans f2)),.norm 23 rfl rfl rfl (fun a_ w_ _ t r R D _ _=>op_loadv W2ok ((R 7 rfl).trans f7) (b7.keep t ⟨someNe,trivial⟩)),.norm 24 rfl rfl rfl (fun a_ w_ _ t r R D _ _=>op_loadv W2ok ((R 10 rfl).trans f10) (b10.keep t ⟨someNe,trivial⟩)),.norm 25 rfl rfl rfl (fun a_ w_ _ t r R D _ _=>op_mul (isw_eq (show a_.eval (.tmp 23)=.agg #[.bool n_3,.slice a_3 m_3 c_3] from D 1 rfl) (A3.rl r) l3) (isw_eq (show a_.eval (.tmp 24)=.agg #[.bool n_7,.slice a_7 m_7 c_7] from D 2 rfl) (A7.rl r) l7) (by omega) (by omega)),.norm 26 rfl rfl rfl (fun a_ w_ _ t r R D _ _=>op_loadv W2ok ((R 9 rfl).trans f9) (b9.keep t ⟨someNe,trivial⟩)),.norm 27 rfl rfl rfl (fun a_ w_ _ t r R D _ _=>op_loadv W2ok ((R 8 rfl).trans f8) (b8.keep t ⟨someNe,trivial⟩)),.norm 28 rfl rfl rfl (fun a_ w_ _ t r R D _ _=>op_mul (isw_eq (show a_.eval (.tmp 26)=.agg #[.bool n_6,.slice a_6 m_6 c_6] from D 4 rfl) (A6.rl r) l6) (isw_eq (show a_.eval (.tmp 27)=.agg #[.bool n_4,.slice a_4 m_4 c_4] from D 5 rfl) (A4.rl r) l4) (by omega) (by omega)),.norm 29 rfl rfl rfl (fun a_ w_ _ t r R D _ _=>does_via ((D 0 rfl:_ = _)) (op_add (show OutW (((tp pr qr)*(tq qu))) (((Br)+2)+((Bu)+2)) (a_.eval (.tmp 25)) w_ from D 3 rfl).is (show OutW (((tp pu qu)*(tq qr))) (((Bu)+2)+((Br)+2)) (a_.eval (.tmp 28)) w_ from D 6 rfl).is (by omega) (by omega))),.alloc 0 _ rfl rfl (.inl ⟨rfl,rfl⟩) rfl rfl rfl rfl rfl,.store 0 _ _ _ rfl rfl rfl rfl rfl rfl rfl (fun ia h=>by cases h;rfl) rfl rfl rfl OutW.cs,trivial⟩
    ·intro a8 w8 gs8 hn8 hd8 hBt hr hR hP hX hU
     replace hn:=hn8;replace hd:=hd8.trans hd
     have ne6_11:(gs1 2)≠gs8 0:=by have h1:=b6.lt;have h2:=(hX 0 _ rfl).2.2.1 (by simp);omega
     replace b6:=b6.keep hBt ⟨someNe,trivial⟩
     replace b8:=b8.keep hBt ⟨someNe,trivial⟩
     replace b10:=b10.keep hBt ⟨someNe,trivial⟩
     obtain ⟨n_9,a_9,c_9,r_9,e29,G9,l9⟩:OutW ((((tp pr qr)*(tq qu))+((tp pu qu)*(tq qr)))) ((((Br)+2)+((Bu)+2))+(((Bu)+2)+((Br)+2))+1) (a8.eval (.tmp 29)) w8:=hP 7 (by decide)
     have A9:=G9.ag
     have b11:BoxV W2 w8 (gs8 0) (.agg #[.bool n_9,.slice a_9 r_9.length c_9]):=boxv_of (hX 0 _ rfl).2.2.2 e29
     have f11:=(hX 0 _ rfl).1
     have u11:w.heap.size≤gs8 0:=Nat.le_trans HB.size ((hX 0 _ rfl).2.2.1 (by simp))
     replace f6:=(hR 6 rfl).trans f6
     replace f8:=(hR 8 rfl).trans f8
     replace f10:=(hR 10 rfl).trans f10
     replace Ar:=Ar.rl hr
     replace Sr:=Sr.rl hr
     replace Dr:=Dr.rl hr
     replace Au:=Au.rl hr
     replace Su:=Su.rl hr
     replace Du:=Du.rl hr
     replace A3:=A3.rl hr
     replace A4:=A4.rl hr
     replace A6:=A6.rl hr
     replace A7:=A7.rl hr
     replace HB:=HB.trans (hBt.below HB.size (UpOld.all (bx:=[⟨W2,some 8,0,11,.agg #[.bool false,.slice none 0 0],some (9,29,7),[]⟩]) ⟨someNe,trivial⟩))
     clear hBt hr hR hP hX hU
     refine wp_seq ?_
     refine region4 [some 30,some 31,some 32,some 33,some 34,none] [Eqs (.agg #[.bool n_9,.slice a_9 r_9.length c_9]),Eqs (.agg #[.bool n_4,.slice a_4 m_4 c_4]),Eqs (.agg #[.bool n_7,.slice a_7 m_7 c_7]),OutW (((tq qr)*(tq qu))) (((Br)+2)+((Bu)+2)),OutR ((nm (((tp pr qr)*(tq qu))+((tp pu qu)*(tq qr))) ((tq qr)*(tq qu)))) ((dn (((tp pr qr)*(tq qu))+((tp pu qu)*(tq qr))) ((tq qr)*(tq qu)))) (((((Br)+2)+((Bu)+2))+(((Bu)+2)+((Br)+2))+1)+(((Br)+2)+((Bu)+2))),Tt] [⟨R3,none,(gs1 2),6,.agg #[.bool false,.slice none 0 0,.slice none 0 0],some (5,34,4),[]⟩] [] (by kernel_rfl) hn rfl (by kernel_rfl) (by kernel_rfl) (by kernel_rfl) (by kernel_rfl) (by kernel_rfl) (by kernel_rfl) ⟨Eqs.mono4 _,Eqs.mono4 _,Eqs.mono4 _,OutW.mono4 _ _,OutR.mono4 _ _ _,True.mono4,trivial⟩ (ok_cons R3ok ok_nil) (IsOld.all (bx:=[⟨R3,none,(gs1 2),6,.agg #[.bool false,.slice none 0 0,.slice none 0 0],some (5,34,4),[]⟩]) ⟨fun _=>⟨f6,b6⟩,trivial⟩) (DisOld.all (bx:=[⟨R3,none,(gs1 2),6,.agg #[.bool false,.slice none 0 0,.slice none 0 0],some (5,34,4),[]⟩]) ⟨fun _=>trivial,trivial⟩) ?_ ?_
     ·exact ⟨.norm 30 rfl rfl rfl (fun a_ w_ _ t r R D _ _=>op_loadv W2ok ((R 11 rfl).trans f11) (b11.keep t ⟨fun _=>ne6_11,trivial⟩)),.norm 31 rfl rfl rfl (fun a_ w_ _ t r R D _ _=>op_loadv W2ok ((R 8 rfl).trans f8) (b8.keep t ⟨fun _=>ne6_8,trivial⟩)),.norm 32 rfl rfl rfl (fun a_ w_ _ t r R D _ _=>op_loadv W2ok ((R 10 rfl).trans f10) (b10.keep t ⟨fun _=>ne6_10,trivial⟩)),.norm 33 rfl rfl rfl (fun a_ w_ _ t r R D _ _=>op_mul (isw_eq (show a_.eval (.tmp 31)=.agg #[.bool n_4,.slice a_4 m_4 c_4] from D 1 rfl) (A4.rl r) l4) (isw_eq (show a_.eval (.tmp 32)=.agg #[.bool n_7,.slice a_7 m_7 c_7] from D 2 rfl) (A7.rl r) l7) (by omega) (by omega)),.norm 34 rfl rfl rfl (fun a_ w_ _ t r R D _ _=>op_lowest (isw_eq (show a_.eval (.tmp 30)=.agg #[.bool n_9,.slice a_9 r_9.length c_9] from D 0 rfl) (A9.rl r) l9) (show OutW (((tq qr)*(tq qu))) (((Br)+2)+((Bu)+2)) (a_.eval (.tmp 33)) w_ from D 3 rfl).is (by omega) (mul_ne (tq_ne _) (tq_ne _))),.store 0 _ _ _ rfl rfl rfl rfl rfl rfl rfl (fun ia h=>by cases h) rfl rfl rfl OutR.cs,trivial⟩
     ·intro a10 w10 gs10 hn10 hd10 hBt hr hR hP hX hU
      replace hn:=hn10;replace hd:=hd10.trans hd
      obtain ⟨n_11,a_11,c_11,r_11,b_11,d_11,s_11,e34,G11,K11,l11,k11⟩:OutR ((nm (((tp pr qr)*(tq qu))+((tp pu qu)*(tq qr))) ((tq qr)*(tq qu)))) ((dn (((tp pr qr)*(tq qu))+((tp pu qu)*(tq qr))) ((tq qr)*(tq qu)))) (((((Br)+2)+((Bu)+2))+(((Bu)+2)+((Br)+2))+1)+(((Br)+2)+((Bu)+2))) (a10.eval (.tmp 34)) w10:=hP 4 (by decide)
      have A11:=G11.ag;have S11:=K11.sl;have V11:=K11.val
      have b6:BoxV R3 w10 ((gs1 2)) (.agg #[.bool n_11,.slice a_11 r_11.length c_11,.slice b_11 s_11.length d_11]):=boxv_old ((hX 0 _ rfl).2.1 rfl) (hX 0 _ rfl).2.2.2 e34
      replace f6:a10.eval (.tmp 6) = _:=(hR 6 rfl).trans f6
      replace Ar:=Ar.rl hr
      replace Sr:=Sr.rl hr
      replace Dr:=Dr.rl hr
      replace Au:=Au.rl hr
      replace Su:=Su.rl hr
      replace Du:=Du.rl hr
      replace A3:=A3.rl hr
      replace A4:=A4.rl hr
      replace A6:=A6.rl hr
      replace A7:=A7.rl hr
      replace G9:=G9.rl hr
      replace A9:=A9.rl hr
      replace HB:=HB.trans (hBt.below HB.size (UpOld.all (bx:=[⟨R3,none,(gs1 2),6,.agg #[.bool false,.slice none 0 0,.slice none 0 0],some (5,34,4),[]⟩]) ⟨fun _=>u6,trivial⟩))
      clear hBt hr hR hP hX hU
      refine wp_ret ?_
      repeat (first | refine then_ret ?_ | refine scope_ret ?_ | refine block_ret ?_)
      exact bodyPost_ret (v:=.agg #[.bool n_11,.slice a_11 r_11.length c_11,.slice b_11 s_11.length d_11]) (res_c rfl f6 (lv_R3 b6)) hd ⟨_,rfl,OutR.to (outr_eq rfl G11 K11 l11 k11) rfl rfl (by omega),HB⟩
theorem has_joinadd:Has Tryz.prog 121:=by unfold Has;kernel_rfl
theorem op_joinadd {dst:Option Tmp} {ty:TypeId} {pos:String} {after:Array Edge} {guard:Option (Nat × Bool)} {a:Act} {w:World} {ats:Array TypeId} {i j:Nat} {Br:Nat} {pr qr:Int} (Hr:IsR pr qr Br (a.eval (.tmp i)) w) {Bu:Nat} {pu qu:Int} (Hu:IsR pu qu Bu (a.eval (.tmp j)) w) (hL:3*(Br+Bu+4)+1≤100000) :
  Does Tryz.prog { dst,op:=.call { callee:=.value (.func 121),args:=#[.tmp i,.tmp j,.func 81],argTypes:=ats },type:=ty,pos,after,guard } a.eval w fun v w'=>Below w.heap.size w w'∧(OutR (nm (tp pr qr*tq qu+tp pu qu*tq qr) (tq qr*tq qu)) (dn (tp pr qr*tq qu+tp pu qu*tq qr) (tq qr*tq qu)) (3*(Br+Bu+4)+1)) v w' := by
 obtain ⟨nr,ar,mr,cr,rs,br,kr,dr,rt,er,Ar,Sr,Vr,Lr,Mr⟩:=Hr
 obtain ⟨nu,au,mu,cu,us,bu,ku,du,ut,eu,Au,Su,Vu,Lu,Mu⟩:=Hu
 refine does_call has_joinadd _ (by simp only [List.map_toArray,List.map_cons,List.map_nil,er,eu];rfl) ((joinadd_z w Br _ _ _ _ _ _ Ar Lr _ _ _ _ _ Sr Vr Mr Bu _ _ _ _ _ _ Au Lu _ _ _ _ _ Su Vu Mu hL).mono ?_)
 rintro e w' ⟨v,rfl,h1,hb⟩
 exact ⟨_,rfl,hb,h1⟩
set_option maxRecDepth 20000 in
set_option maxHeartbeats 2000000 in
theorem radd_z (w:World) (Br:Nat) (nr:Bool) (ar:Option Addr) (mr cr:Nat) (rs:List Int) (pr:Int) (Ar:Ag w nr ar mr cr rs pr) (Lr:rs.length≤Br) (br:Option Addr) (kr dr:Nat) (rt:List Int) (qr:Int) (Sr:Sl w (.slice br kr dr) rt) (Vr:val rt=qr) (Mr:rt.length≤Br) (Bu:Nat) (nu:Bool) (au:Option Addr) (mu cu:Nat) (us:List Int) (pu:Int) (Au:Ag w nu au mu cu us pu) (Lu:us.length≤Bu) (bu:Option Addr) (ku du:Nat) (ut:List Int) (qu:Int) (Su:Sl w (.slice bu ku du) ut) (Vu:val ut=qu) (Mu:ut.length≤Bu) (hL:3*(Br+Bu+4)+1≤100000) :
  Calls Tryz.prog 73 #[.agg #[.bool nr,.slice ar mr cr,.slice br kr dr],.agg #[.bool nu,.slice au mu cu,.slice bu ku du]] w fun e w'=>∃ v,e=.returned v∧(OutR (nm (tp pr qr*tq qu+tp pu qu*tq qr) (tq qr*tq qu)) (dn (tp pr qr*tq qu+tp pu qu*tq qr) (tq qr*tq qu)) (3*(Br+Bu+4)+1)) v w'∧Below w.heap.size w w' := by
 go_enter Tryz.func73,Tryz.ntmps73
 generalize hA:(Act.mk _ _)=aa
 have hn:aa.tmps.size=8:=by rw [←hA];rfl
 have hd:aa.defers = []:=by rw [←hA]
 have f0:aa.eval (.tmp 0)=.agg #[.bool nr,.slice ar mr cr,.slice br kr dr]:=by rw [←hA];rfl
 have f1:aa.eval (.tmp 1)=.agg #[.bool nu,.slice au mu cu,.slice bu ku du]:=by rw [←hA];rfl
 clear hA
 have HB:Below w.heap.size w w:=Below.refl _ _
 have Dr:Ag w false br kr dr rt qr:=⟨Sr,Vr⟩
 have Du:Ag w false bu ku du ut qu:=⟨Su,Vu⟩
 refine wp_seq ?_
 refine region4 [some 2,some 3,some 4] [Tt,Tt,Tt] [⟨R3,some 0,0,2,.agg #[.bool nr,.slice ar mr cr,.slice br kr dr],none,[]⟩,⟨R3,some 1,0,3,.agg #[.bool nu,.slice au mu cu,.slice bu ku du],none,[]⟩,⟨R3,some 2,0,4,.agg #[.bool false,.slice none 0 0,.slice none 0 0],none,[]⟩] [] (by kernel_rfl) hn rfl (by kernel_rfl) (by kernel_rfl) (by kernel_rfl) (by kernel_rfl) (by kernel_rfl) (by kernel_rfl) ⟨True.mono4,True.mono4,True.mono4,trivial⟩ (ok_cons R3ok (ok_cons R3ok (ok_cons R3ok ok_nil))) (IsOld.all (bx:=[⟨R3,some 0,0,2,.agg #[.bool nr,.slice ar mr cr,.slice br kr dr],none,[]⟩,⟨R3,some 1,0,3,.agg #[.bool nu,.slice au mu cu,.slice bu ku du],none,[]⟩,⟨R3,some 2,0,4,.agg #[.bool false,.slice none 0 0,.slice none 0 0],none,[]⟩]) ⟨someNe,someNe,someNe,trivial⟩) (DisOld.all (bx:=[⟨R3,some 0,0,2,.agg #[.bool nr,.slice ar mr cr,.slice br kr dr],none,[]⟩,⟨R3,some 1,0,3,.agg #[.bool nu,.slice au mu cu,.slice bu ku du],none,[]⟩,⟨R3,some 2,0,4,.agg #[.bool false,.slice none 0 0,.slice none 0 0],none,[]⟩]) ⟨someNe,someNe,someNe,trivial⟩) ?_ ?_
 ·exact ⟨.alloc 0 _ rfl rfl (.inr ⟨_,rfl,r3_cs,fun a_ hR=>(hR 0 rfl).trans f0⟩) rfl rfl rfl rfl rfl,.alloc 1 _ rfl rfl (.inr ⟨_,rfl,r3_cs,fun a_ hR=>(hR 1 rfl).trans f1⟩) rfl rfl rfl rfl rfl,.alloc 2 _ rfl rfl (.inl ⟨rfl,rfl⟩) rfl rfl rfl rfl rfl,trivial⟩
 ·intro a1 w1 gs1 hn1 hd1 hBt hr hR hP hX hU
  replace hn:=hn1;replace hd:=hd1.trans hd
  have ne2_4:gs1 0≠gs1 2:=hU 0 2 (by simp) (by simp) (by decide)
  have ne3_4:gs1 1≠gs1 2:=hU 1 2 (by simp) (by simp) (by decide)
  have b2:BoxV R3 w1 (gs1 0) (.agg #[.bool nr,.slice ar mr cr,.slice br kr dr]):=(hX 0 _ rfl).2.2.2
  have f2:=(hX 0 _ rfl).1
  have u2:w.heap.size≤gs1 0:=Nat.le_trans HB.size ((hX 0 _ rfl).2.2.1 (by simp))
  have b3:BoxV R3 w1 (gs1 1) (.agg #[.bool nu,.slice au mu cu,.slice bu ku du]):=(hX 1 _ rfl).2.2.2
  have f3:=(hX 1 _ rfl).1
  have u3:w.heap.size≤gs1 1:=Nat.le_trans HB.size ((hX 1 _ rfl).2.2.1 (by simp))
  have b4:BoxV R3 w1 (gs1 2) (.agg #[.bool false,.slice none 0 0,.slice none 0 0]):=(hX 2 _ rfl).2.2.2
  have f4:=(hX 2 _ rfl).1
  have u4:w.heap.size≤gs1 2:=Nat.le_trans HB.size ((hX 2 _ rfl).2.2.1 (by simp))
  replace Ar:=Ar.rl hr
  replace Sr:=Sr.rl hr
  replace Dr:=Dr.rl hr
  replace Au:=Au.rl hr
  replace Su:=Su.rl hr
  replace Du:=Du.rl hr
  replace HB:=HB.trans (hBt.below HB.size (UpOld.all (bx:=[⟨R3,some 0,0,2,.agg #[.bool nr,.slice ar mr cr,.slice br kr dr],none,[]⟩,⟨R3,some 1,0,3,.agg #[.bool nu,.slice au mu cu,.slice bu ku du],none,[]⟩,⟨R3,some 2,0,4,.agg #[.bool false,.slice none 0 0,.slice none 0 0],none,[]⟩]) ⟨someNe,someNe,someNe,trivial⟩))
  clear hBt hr hR hP hX hU
  refine wp_seq ?_
  refine region4 [some 5,some 6,some 7,none] [Eqs (.agg #[.bool nr,.slice ar mr cr,.slice br kr dr]),Eqs (.agg #[.bool nu,.slice au mu cu,.slice bu ku du]),OutR ((nm (tp pr qr*tq qu+tp pu qu*tq qr) (tq qr*tq qu))) ((dn (tp pr qr*tq qu+tp pu qu*tq qr) (tq qr*tq qu))) (3*((Br)+(Bu)+4)+1),Tt] [⟨R3,none,(gs1 2),4,.agg #[.bool false,.slice none 0 0,.slice none 0 0],some (3,7,2),[]⟩] [] (by kernel_rfl) hn rfl (by kernel_rfl) (by kernel_rfl) (by kernel_rfl) (by kernel_rfl) (by kernel_rfl) (by kernel_rfl) ⟨Eqs.mono4 _,Eqs.mono4 _,OutR.mono4 _ _ _,True.mono4,trivial⟩ (ok_cons R3ok ok_nil) (IsOld.all (bx:=[⟨R3,none,(gs1 2),4,.agg #[.bool false,.slice none 0 0,.slice none 0 0],some (3,7,2),[]⟩]) ⟨fun _=>⟨f4,b4⟩,trivial⟩) (DisOld.all (bx:=[⟨R3,none,(gs1 2),4,.agg #[.bool false,.slice none 0 0,.slice none 0 0],some (3,7,2),[]⟩]) ⟨fun _=>trivial,trivial⟩) ?_ ?_
  ·exact ⟨.norm 5 rfl rfl rfl (fun a_ w_ _ t r R D _ _=>op_loadv R3ok ((R 2 rfl).trans f2) (b2.keep t ⟨fun _=>ne2_4.symm,trivial⟩)),.norm 6 rfl rfl rfl (fun a_ w_ _ t r R D _ _=>op_loadv R3ok ((R 3 rfl).trans f3) (b3.keep t ⟨fun _=>ne3_4.symm,trivial⟩)),.norm 7 rfl rfl rfl (fun a_ w_ _ t r R D _ _=>op_joinadd (isr_eq (show a_.eval (.tmp 5)=.agg #[.bool nr,.slice ar mr cr,.slice br kr dr] from D 0 rfl) (Ar.rl r) (Sr.rl r) Vr Lr Mr) (isr_eq (show a_.eval (.tmp 6)=.agg #[.bool nu,.slice au mu cu,.slice bu ku du] from D 1 rfl) (Au.rl r) (Su.rl r) Vu Lu Mu) (by omega)),.store 0 _ _ _ rfl rfl rfl rfl rfl rfl rfl (fun ia h=>by cases h) rfl rfl rfl OutR.cs,trivial⟩
  ·intro a2 w2 gs2 hn2 hd2 hBt hr hR hP hX hU
   replace hn:=hn2;replace hd:=hd2.trans hd
   obtain ⟨n_3,a_3,c_3,r_3,b_3,d_3,s_3,e7,G3,K3,l3,k3⟩:OutR ((nm (tp pr qr*tq qu+tp pu qu*tq qr) (tq qr*tq qu))) ((dn (tp pr qr*tq qu+tp pu qu*tq qr) (tq qr*tq qu))) (3*((Br)+(Bu)+4)+1) (a2.eval (.tmp 7)) w2:=hP 2 (by decide)
   have A3:=G3.ag;have S3:=K3.sl;have V3:=K3.val
   have b4:BoxV R3 w2 ((gs1 2)) (.agg #[.bool n_3,.slice a_3 r_3.length c_3,.slice b_3 s_3.length d_3]):=boxv_old ((hX 0 _ rfl).2.1 rfl) (hX 0 _ rfl).2.2.2 e7
   replace f4:a2.eval (.tmp 4) = _:=(hR 4 rfl).trans f4
   replace Ar:=Ar.rl hr
   replace Sr:=Sr.rl hr
   replace Dr:=Dr.rl hr
   replace Au:=Au.rl hr
   replace Su:=Su.rl hr
   replace Du:=Du.rl hr
   replace HB:=HB.trans (hBt.below HB.size (UpOld.all (bx:=[⟨R3,none,(gs1 2),4,.agg #[.bool false,.slice none 0 0,.slice none 0 0],some (3,7,2),[]⟩]) ⟨fun _=>u4,trivial⟩))
   clear hBt hr hR hP hX hU
   refine wp_ret ?_
   repeat (first | refine then_ret ?_ | refine scope_ret ?_ | refine block_ret ?_)
   exact bodyPost_ret (v:=.agg #[.bool n_3,.slice a_3 r_3.length c_3,.slice b_3 s_3.length d_3]) (res_c rfl f4 (lv_R3 b4)) hd ⟨_,rfl,OutR.to (outr_eq rfl G3 K3 l3 k3) rfl rfl (by omega),HB⟩
theorem has_radd:Has Tryz.prog 73:=by unfold Has;kernel_rfl
set_option maxRecDepth 20000 in
set_option maxHeartbeats 2000000 in
theorem rof_z (w:World) (Bx:Nat) (nx:Bool) (ax:Option Addr) (mx cx:Nat) (xs:List Int) (zx:Int) (Ax:Ag w nx ax mx cx xs zx) (Lx:xs.length≤Bx) (By:Nat) (ny:Bool) (ay:Option Addr) (my cy:Nat) (ys:List Int) (zy:Int) (Ay:Ag w ny ay my cy ys zy) (Ly:ys.length≤By) (hL:Bx+By≤100000) (hy:zy≠0) :
  Calls Tryz.prog 207 #[.agg #[.bool nx,.slice ax mx cx],.agg #[.bool ny,.slice ay my cy]] w fun e w'=>∃ v,e=.returned v∧(Tup2 (OutR (nm zx zy) (dn zx zy) (Bx+By)) (Eqs (.int .i64 0))) v w'∧Below w.heap.size w w' := by
 go_enter Tryz.func207,Tryz.ntmps207
 generalize hA:(Act.mk _ _)=aa
 have hn:aa.tmps.size=13:=by rw [←hA];rfl
 have hd:aa.defers = []:=by rw [←hA]
 have f0:aa.eval (.tmp 0)=.agg #[.bool nx,.slice ax mx cx]:=by rw [←hA];rfl
 have f1:aa.eval (.tmp 1)=.agg #[.bool ny,.slice ay my cy]:=by rw [←hA];rfl
 clear hA
 have HB:Below w.heap.size w w:=Below.refl _ _
 have Tx:=Ax.sl
 have Ty:=Ay.sl
 refine wp_seq ?_
 refine region4 [some 2,some 3,some 4,some 5] [Tt,Tt,Tt,Eqs ((.int .i64 0))] [⟨W2,some 0,0,2,.agg #[.bool nx,.slice ax mx cx],none,[]⟩,⟨W2,some 1,0,3,.agg #[.bool ny,.slice ay my cy],none,[]⟩,⟨R3,some 2,0,4,.agg #[.bool false,.slice none 0 0,.slice none 0 0],none,[]⟩] [] (by kernel_rfl) hn rfl (by kernel_rfl) (by kernel_rfl) (by kernel_rfl) (by kernel_rfl) (by kernel_rfl) (by kernel_rfl) ⟨True.mono4,True.mono4,True.mono4,Eqs.mono4 _,trivial⟩ (ok_cons W2ok (ok_cons W2ok (ok_cons R3ok ok_nil))) (IsOld.all (bx:=[⟨W2,some 0,0,2,.agg #[.bool nx,.slice ax mx cx],none,[]⟩,⟨W2,some 1,0,3,.agg #[.bool ny,.slice ay my cy],none,[]⟩,⟨R3,some 2,0,4,.agg #[.bool false,.slice none 0 0,.slice none 0 0],none,[]⟩]) ⟨someNe,someNe,someNe,trivial⟩) (DisOld.all (bx:=[⟨W2,some 0,0,2,.agg #[.bool nx,.slice ax mx cx],none,[]⟩,⟨W2,some 1,0,3,.agg #[.bool ny,.slice ay my cy],none,[]⟩,⟨R3,some 2,0,4,.agg #[.bool false,.slice none 0 0,.slice none 0 0],none,[]⟩]) ⟨someNe,someNe,someNe,trivial⟩) ?_ ?_
 ·exact ⟨.alloc 0 _ rfl rfl (.inr ⟨_,rfl,w2_cs,fun a_ hR=>(hR 0 rfl).trans f0⟩) rfl rfl rfl rfl rfl,.alloc 1 _ rfl rfl (.inr ⟨_,rfl,w2_cs,fun a_ hR=>(hR 1 rfl).trans f1⟩) rfl rfl rfl rfl rfl,.alloc 2 _ rfl rfl (.inl ⟨rfl,rfl⟩) rfl rfl rfl rfl rfl,.norm 5 rfl rfl rfl (fun a_ w_ _ t r R D _ _=>op_assign rfl),trivial⟩
 ·intro a1 w1 gs1 hn1 hd1 hBt hr hR hP hX hU
  replace hn:=hn1;replace hd:=hd1.trans hd
  have ne2_4:gs1 0≠gs1 2:=hU 0 2 (by simp) (by simp) (by decide)
  have ne3_4:gs1 1≠gs1 2:=hU 1 2 (by simp) (by simp) (by decide)
  have b2:BoxV W2 w1 (gs1 0) (.agg #[.bool nx,.slice ax mx cx]):=(hX 0 _ rfl).2.2.2
  have f2:=(hX 0 _ rfl).1
  have u2:w.heap.size≤gs1 0:=Nat.le_trans HB.size ((hX 0 _ rfl).2.2.1 (by simp))
  have b3:BoxV W2 w1 (gs1 1) (.agg #[.bool ny,.slice ay my cy]):=(hX 1 _ rfl).2.2.2
  have f3:=(hX 1 _ rfl).1
  have u3:w.heap.size≤gs1 1:=Nat.le_trans HB.size ((hX 1 _ rfl).2.2.1 (by simp))
  have b4:BoxV R3 w1 (gs1 2) (.agg #[.bool false,.slice none 0 0,.slice none 0 0]):=(hX 2 _ rfl).2.2.2
  have f4:=(hX 2 _ rfl).1
  have u4:w.heap.size≤gs1 2:=Nat.le_trans HB.size ((hX 2 _ rfl).2.2.1 (by simp))
  have e5:a1.eval (.tmp 5)=(.int .i64 0):=hP 3 (by decide)
  have f5:=e5
  replace Ax:=Ax.rl hr
  replace Tx:=Tx.rl hr
  replace Ay:=Ay.rl hr
  replace Ty:=Ty.rl hr
  replace HB:=HB.trans (hBt.below HB.size (UpOld.all (bx:=[⟨W2,some 0,0,2,.agg #[.bool nx,.slice ax mx cx],none,[]⟩,⟨W2,some 1,0,3,.agg #[.bool ny,.slice ay my cy],none,[]⟩,⟨R3,some 2,0,4,.agg #[.bool false,.slice none 0 0,.slice none 0 0],none,[]⟩]) ⟨someNe,someNe,someNe,trivial⟩))
  clear hBt hr hR hP hX hU
  refine wp_seq ?_
  refine wp_seq ?_
  refine region4 [some 6,some 7,some 8] [Eqs (.agg #[.bool ny,.slice ay my cy]),Eqs (.int .i64 (Int.sign zy)),Eqs (.bool (decide ((Int.sign zy)=0)))] [] [] (by kernel_rfl) hn rfl (by kernel_rfl) (by kernel_rfl) (by kernel_rfl) (by kernel_rfl) (by kernel_rfl) (by kernel_rfl) ⟨Eqs.mono4 _,Eqs.mono4 _,Eqs.mono4 _,trivial⟩ ok_nil (IsOld.all (bx:=[]) trivial) (DisOld.all (bx:=[]) trivial) ?_ ?_
  ·exact ⟨.norm 6 rfl rfl rfl (fun a_ w_ _ t r R D _ _=>op_loadv W2ok ((R 3 rfl).trans f3) (b3.keep t trivial)),.norm 7 rfl rfl rfl (fun a_ w_ _ t r R D _ _=>op_sign (isw_eq (show a_.eval (.tmp 6)=.agg #[.bool ny,.slice ay my cy] from D 0 rfl) (Ay.rl r) Ly) (by omega)),.norm 8 rfl rfl rfl (fun a_ w_ _ t r R D _ _=>op_eqlk (show a_.eval (.tmp 7)=.int .i64 (Int.sign zy) from D 1 rfl)),trivial⟩
  ·intro a2 w2 gs2 hn2 hd2 hBt hr hR hP hX hU
   replace hn:=hn2;replace hd:=hd2.trans hd
   replace b2:=b2.keep hBt trivial
   replace b3:=b3.keep hBt trivial
   replace b4:=b4.keep hBt trivial
   replace f2:=(hR 2 rfl).trans f2
   replace f3:=(hR 3 rfl).trans f3
   replace f4:=(hR 4 rfl).trans f4
   replace f5:=(hR 5 rfl).trans f5
   have e8:a2.eval (.tmp 8)=.bool (decide ((Int.sign zy)=0)):=hP 2 (by decide)
   have f8:=e8
   replace Ax:=Ax.rl hr
   replace Tx:=Tx.rl hr
   replace Ay:=Ay.rl hr
   replace Ty:=Ty.rl hr
   replace HB:=HB.trans (hBt.below HB.size (UpOld.all (bx:=[]) trivial))
   clear hBt hr hR hP hX hU
   refine wp_cond_split f8 (fun hc8=>?_) (fun hc8=>?_)
   ·skip
    exact absurd (sign_zero_iff.1 (of_decide_eq_true hc8)) hy
   ·skip
    refine wp_skip ?_
    refine wp_seq ?_
    refine region4 [some 10,some 11,some 12,none,some 5] [Eqs (.agg #[.bool nx,.slice ax mx cx]),Eqs (.agg #[.bool ny,.slice ay my cy]),OutR ((nm zx zy)) ((dn zx zy)) ((Bx)+(By)),Tt,Eqs ((.int .i64 0))] [⟨R3,none,(gs1 2),4,.agg #[.bool false,.slice none 0 0,.slice none 0 0],some (3,12,2),[]⟩] [] (by kernel_rfl) hn rfl (by kernel_rfl) (by kernel_rfl) (by kernel_rfl) (by kernel_rfl) (by kernel_rfl) (by kernel_rfl) ⟨Eqs.mono4 _,Eqs.mono4 _,OutR.mono4 _ _ _,True.mono4,Eqs.mono4 _,trivial⟩ (ok_cons R3ok ok_nil) (IsOld.all (bx:=[⟨R3,none,(gs1 2),4,.agg #[.bool false,.slice none 0 0,.slice none 0 0],some (3,12,2),[]⟩]) ⟨fun _=>⟨f4,b4⟩,trivial⟩) (DisOld.all (bx:=[⟨R3,none,(gs1 2),4,.agg #[.bool false,.slice none 0 0,.slice none 0 0],some (3,12,2),[]⟩]) ⟨fun _=>trivial,trivial⟩) ?_ ?_
    ·exact ⟨.norm 10 rfl rfl rfl (fun a_ w_ _ t r R D _ _=>op_loadv W2ok ((R 2 rfl).trans f2) (b2.keep t ⟨fun _=>ne2_4.symm,trivial⟩)),.norm 11 rfl rfl rfl (fun a_ w_ _ t r R D _ _=>op_loadv W2ok ((R 3 rfl).trans f3) (b3.keep t ⟨fun _=>ne3_4.symm,trivial⟩)),.norm 12 rfl rfl rfl (fun a_ w_ _ t r R D _ _=>op_lowest (isw_eq (show a_.eval (.tmp 10)=.agg #[.bool nx,.slice ax mx cx] from D 0 rfl) (Ax.rl r) Lx) (isw_eq (show a_.eval (.tmp 11)=.agg #[.bool ny,.slice ay my cy] from D 1 rfl) (Ay.rl r) Ly) (by omega) hy),.store 0 _ _ _ rfl rfl rfl rfl rfl rfl rfl (fun ia h=>by cases h) rfl rfl rfl OutR.cs,.norm 5 rfl rfl rfl (fun a_ w_ _ t r R D _ _=>op_assign rfl),trivial⟩
    ·intro a3 w3 gs3 hn3 hd3 hBt hr hR hP hX hU
     replace hn:=hn3;replace hd:=hd3.trans hd
     obtain ⟨n_4,a_4,c_4,r_4,b_4,d_4,s_4,e12,G4,K4,l4,k4⟩:OutR ((nm zx zy)) ((dn zx zy)) ((Bx)+(By)) (a3.eval (.tmp 12)) w3:=hP 2 (by decide)
     have A4:=G4.ag;have S4:=K4.sl;have V4:=K4.val
     have b4:BoxV R3 w3 ((gs1 2)) (.agg #[.bool n_4,.slice a_4 r_4.length c_4,.slice b_4 s_4.length d_4]):=boxv_old ((hX 0 _ rfl).2.1 rfl) (hX 0 _ rfl).2.2.2 e12
     replace f4:a3.eval (.tmp 4) = _:=(hR 4 rfl).trans f4
     have e5:a3.eval (.tmp 5)=(.int .i64 0):=hP 4 (by decide)
     have f5:=e5
     replace Ax:=Ax.rl hr
     replace Tx:=Tx.rl hr
     replace Ay:=Ay.rl hr
     replace Ty:=Ty.rl hr
     replace HB:=HB.trans (hBt.below HB.size (UpOld.all (bx:=[⟨R3,none,(gs1 2),4,.agg #[.bool false,.slice none 0 0,.slice none 0 0],some (3,12,2),[]⟩]) ⟨fun _=>u4,trivial⟩))
     clear hBt hr hR hP hX hU
     refine wp_ret ?_
     repeat (first | refine then_ret ?_ | refine scope_ret ?_ | refine block_ret ?_)
     exact bodyPost_ret (v:=.tuple #[.agg #[.bool n_4,.slice a_4 r_4.length c_4,.slice b_4 s_4.length d_4],(.int .i64 0)]) (res_ct rfl f4 (lv_R3 b4) f5) hd ⟨_,rfl,⟨_,_,rfl,OutR.to (outr_eq rfl G4 K4 l4 k4) rfl rfl (by omega),rfl⟩,HB⟩
theorem has_rof:Has Tryz.prog 207:=by unfold Has;kernel_rfl
set_option maxRecDepth 20000 in
set_option maxHeartbeats 2000000 in
theorem rof0_z (w:World) (Bx:Nat) (nx:Bool) (ax:Option Addr) (mx cx:Nat) (xs:List Int) (zx:Int) (Ax:Ag w nx ax mx cx xs zx) (Lx:xs.length≤Bx) (By:Nat) (ny:Bool) (ay:Option Addr) (my cy:Nat) (ys:List Int) (zy:Int) (Ay:Ag w ny ay my cy ys zy) (Ly:ys.length≤By) (hL:Bx+By≤100000) (hy:zy=0) :
  Calls Tryz.prog 207 #[.agg #[.bool nx,.slice ax mx cx],.agg #[.bool ny,.slice ay my cy]] w fun e w'=>∃ v,e=.returned v∧(Tup2 (Eqs (.agg #[.bool false,.slice none 0 0,.slice none 0 0])) (Eqs (.int .i64 20))) v w'∧Below w.heap.size w w' := by
 go_enter Tryz.func207,Tryz.ntmps207
 generalize hA:(Act.mk _ _)=aa
 have hn:aa.tmps.size=13:=by rw [←hA];rfl
 have hd:aa.defers = []:=by rw [←hA]
 have f0:aa.eval (.tmp 0)=.agg #[.bool nx,.slice ax mx cx]:=by rw [←hA];rfl
 have f1:aa.eval (.tmp 1)=.agg #[.bool ny,.slice ay my cy]:=by rw [←hA];rfl
 clear hA
 have HB:Below w.heap.size w w:=Below.refl _ _
 have Tx:=Ax.sl
 have Ty:=Ay.sl
 refine wp_seq ?_
 refine region4 [some 2,some 3,some 4,some 5] [Tt,Tt,Tt,Eqs ((.int .i64 0))] [⟨W2,some 0,0,2,.agg #[.bool nx,.slice ax mx cx],none,[]⟩,⟨W2,some 1,0,3,.agg #[.bool ny,.slice ay my cy],none,[]⟩,⟨R3,some 2,0,4,.agg #[.bool false,.slice none 0 0,.slice none 0 0],none,[]⟩] [] (by kernel_rfl) hn rfl (by kernel_rfl) (by kernel_rfl) (by kernel_rfl) (by kernel_rfl) (by kernel_rfl) (by kernel_rfl) ⟨True.mono4,True.mono4,True.mono4,Eqs.mono4 _,trivial⟩ (ok_cons W2ok (ok_cons W2ok (ok_cons R3ok ok_nil))) (IsOld.all (bx:=[⟨W2,some 0,0,2,.agg #[.bool nx,.slice ax mx cx],none,[]⟩,⟨W2,some 1,0,3,.agg #[.bool ny,.slice ay my cy],none,[]⟩,⟨R3,some 2,0,4,.agg #[.bool false,.slice none 0 0,.slice none 0 0],none,[]⟩]) ⟨someNe,someNe,someNe,trivial⟩) (DisOld.all (bx:=[⟨W2,some 0,0,2,.agg #[.bool nx,.slice ax mx cx],none,[]⟩,⟨W2,some 1,0,3,.agg #[.bool ny,.slice ay my cy],none,[]⟩,⟨R3,some 2,0,4,.agg #[.bool false,.slice none 0 0,.slice none 0 0],none,[]⟩]) ⟨someNe,someNe,someNe,trivial⟩) ?_ ?_
 ·exact ⟨.alloc 0 _ rfl rfl (.inr ⟨_,rfl,w2_cs,fun a_ hR=>(hR 0 rfl).trans f0⟩) rfl rfl rfl rfl rfl,.alloc 1 _ rfl rfl (.inr ⟨_,rfl,w2_cs,fun a_ hR=>(hR 1 rfl).trans f1⟩) rfl rfl rfl rfl rfl,.alloc 2 _ rfl rfl (.inl ⟨rfl,rfl⟩) rfl rfl rfl rfl rfl,.norm 5 rfl rfl rfl (fun a_ w_ _ t r R D _ _=>op_assign rfl),trivial⟩
 ·intro a1 w1 gs1 hn1 hd1 hBt hr hR hP hX hU
  replace hn:=hn1;replace hd:=hd1.trans hd
  have ne2_4:gs1 0≠gs1 2:=hU 0 2 (by simp) (by simp) (by decide)
  have ne3_4:gs1 1≠gs1 2:=hU 1 2 (by simp) (by simp) (by decide)
  have b2:BoxV W2 w1 (gs1 0) (.agg #[.bool nx,.slice ax mx cx]):=(hX 0 _ rfl).2.2.2
  have f2:=(hX 0 _ rfl).1
  have u2:w.heap.size≤gs1 0:=Nat.le_trans HB.size ((hX 0 _ rfl).2.2.1 (by simp))
  have b3:BoxV W2 w1 (gs1 1) (.agg #[.bool ny,.slice ay my cy]):=(hX 1 _ rfl).2.2.2
  have f3:=(hX 1 _ rfl).1
  have u3:w.heap.size≤gs1 1:=Nat.le_trans HB.size ((hX 1 _ rfl).2.2.1 (by simp))
  have b4:BoxV R3 w1 (gs1 2) (.agg #[.bool false,.slice none 0 0,.slice none 0 0]):=(hX 2 _ rfl).2.2.2
  have f4:=(hX 2 _ rfl).1
  have u4:w.heap.size≤gs1 2:=Nat.le_trans HB.size ((hX 2 _ rfl).2.2.1 (by simp))
  have e5:a1.eval (.tmp 5)=(.int .i64 0):=hP 3 (by decide)
  have f5:=e5
  replace Ax:=Ax.rl hr
  replace Tx:=Tx.rl hr
  replace Ay:=Ay.rl hr
  replace Ty:=Ty.rl hr
  replace HB:=HB.trans (hBt.below HB.size (UpOld.all (bx:=[⟨W2,some 0,0,2,.agg #[.bool nx,.slice ax mx cx],none,[]⟩,⟨W2,some 1,0,3,.agg #[.bool ny,.slice ay my cy],none,[]⟩,⟨R3,some 2,0,4,.agg #[.bool false,.slice none 0 0,.slice none 0 0],none,[]⟩]) ⟨someNe,someNe,someNe,trivial⟩))
  clear hBt hr hR hP hX hU
  refine wp_seq ?_
  refine wp_seq ?_
  refine region4 [some 6,some 7,some 8] [Eqs (.agg #[.bool ny,.slice ay my cy]),Eqs (.int .i64 (Int.sign zy)),Eqs (.bool (decide ((Int.sign zy)=0)))] [] [] (by kernel_rfl) hn rfl (by kernel_rfl) (by kernel_rfl) (by kernel_rfl) (by kernel_rfl) (by kernel_rfl) (by kernel_rfl) ⟨Eqs.mono4 _,Eqs.mono4 _,Eqs.mono4 _,trivial⟩ ok_nil (IsOld.all (bx:=[]) trivial) (DisOld.all (bx:=[]) trivial) ?_ ?_
  ·exact ⟨.norm 6 rfl rfl rfl (fun a_ w_ _ t r R D _ _=>op_loadv W2ok ((R 3 rfl).trans f3) (b3.keep t trivial)),.norm 7 rfl rfl rfl (fun a_ w_ _ t r R D _ _=>op_sign (isw_eq (show a_.eval (.tmp 6)=.agg #[.bool ny,.slice ay my cy] from D 0 rfl) (Ay.rl r) Ly) (by omega)),.norm 8 rfl rfl rfl (fun a_ w_ _ t r R D _ _=>op_eqlk (show a_.eval (.tmp 7)=.int .i64 (Int.sign zy) from D 1 rfl)),trivial⟩
  ·intro a2 w2 gs2 hn2 hd2 hBt hr hR hP hX hU
   replace hn:=hn2;replace hd:=hd2.trans hd
   replace b2:=b2.keep hBt trivial
   replace b3:=b3.keep hBt trivial
   replace b4:=b4.keep hBt trivial
   replace f2:=(hR 2 rfl).trans f2
   replace f3:=(hR 3 rfl).trans f3
   replace f4:=(hR 4 rfl).trans f4
   replace f5:=(hR 5 rfl).trans f5
   have e8:a2.eval (.tmp 8)=.bool (decide ((Int.sign zy)=0)):=hP 2 (by decide)
   have f8:=e8
   replace Ax:=Ax.rl hr
   replace Tx:=Tx.rl hr
   replace Ay:=Ay.rl hr
   replace Ty:=Ty.rl hr
   replace HB:=HB.trans (hBt.below HB.size (UpOld.all (bx:=[]) trivial))
   clear hBt hr hR hP hX hU
   refine wp_cond_split f8 (fun hc8=>?_) (fun hc8=>?_)
   ·skip
    refine wp_seq ?_
    refine region4 [some 9,none,some 5] [Eqs (.agg #[.bool false,.slice none 0 0,.slice none 0 0]),Tt,Eqs ((.int .i64 20))] [⟨R3,none,(gs1 2),4,.agg #[.bool false,.slice none 0 0,.slice none 0 0],some (1,9,0),[]⟩] [] (by kernel_rfl) hn rfl (by kernel_rfl) (by kernel_rfl) (by kernel_rfl) (by kernel_rfl) (by kernel_rfl) (by kernel_rfl) ⟨Eqs.mono4 _,True.mono4,Eqs.mono4 _,trivial⟩ (ok_cons R3ok ok_nil) (IsOld.all (bx:=[⟨R3,none,(gs1 2),4,.agg #[.bool false,.slice none 0 0,.slice none 0 0],some (1,9,0),[]⟩]) ⟨fun _=>⟨f4,b4⟩,trivial⟩) (DisOld.all (bx:=[⟨R3,none,(gs1 2),4,.agg #[.bool false,.slice none 0 0,.slice none 0 0],some (1,9,0),[]⟩]) ⟨fun _=>trivial,trivial⟩) ?_ ?_
    ·exact ⟨.norm 9 rfl rfl rfl (fun a_ w_ _ t r R D _ _=>op_bR0),.store 0 _ _ _ rfl rfl rfl rfl rfl rfl rfl (fun ia h=>by cases h) rfl rfl rfl (eqs_cs r3_cs),.norm 5 rfl rfl rfl (fun a_ w_ _ t r R D _ _=>op_assign rfl),trivial⟩
    ·intro a3 w3 gs3 hn3 hd3 hBt hr hR hP hX hU
     replace hn:=hn3;replace hd:=hd3.trans hd
     replace b2:=b2.keep hBt ⟨fun _=>ne2_4.symm,trivial⟩
     replace b3:=b3.keep hBt ⟨fun _=>ne3_4.symm,trivial⟩
     have e9:a3.eval (.tmp 9)=.agg #[.bool false,.slice none 0 0,.slice none 0 0]:=hP 0 (by decide)
     have b4:BoxV R3 w3 ((gs1 2)) (.agg #[.bool false,.slice none 0 0,.slice none 0 0]):=boxv_old ((hX 0 _ rfl).2.1 rfl) (hX 0 _ rfl).2.2.2 e9
     replace f4:a3.eval (.tmp 4) = _:=(hR 4 rfl).trans f4
     replace f2:=(hR 2 rfl).trans f2
     replace f3:=(hR 3 rfl).trans f3
     have e5:a3.eval (.tmp 5)=(.int .i64 20):=hP 2 (by decide)
     have f5:=e5
     replace Ax:=Ax.rl hr
     replace Tx:=Tx.rl hr
     replace Ay:=Ay.rl hr
     replace Ty:=Ty.rl hr
     replace HB:=HB.trans (hBt.below HB.size (UpOld.all (bx:=[⟨R3,none,(gs1 2),4,.agg #[.bool false,.slice none 0 0,.slice none 0 0],some (1,9,0),[]⟩]) ⟨fun _=>u4,trivial⟩))
     clear hBt hr hR hP hX hU
     refine wp_ret ?_
     repeat (first | refine then_ret ?_ | refine scope_ret ?_ | refine block_ret ?_)
     exact bodyPost_ret (v:=.tuple #[.agg #[.bool false,.slice none 0 0,.slice none 0 0],(.int .i64 20)]) (res_ct rfl f4 (lv_R3 b4) f5) hd ⟨_,rfl,⟨_,_,rfl,rfl,rfl⟩,HB⟩
   ·skip
    exact absurd (sign_zero_iff.2 hy) (of_decide_eq_false hc8)
end Lm
end Go.Proofs.YtaofpigilgapgaaGreatDoor

namespace Go.Proofs.YtaofpigilgapgaaGreatDoor
namespace Lm
open Go.RowKit
def bmk (i:Nat):Value:=.int .u32 (1358954496+(i:Int))
def bmks (n:Nat):List Value:=(List.range n).map bmk
theorem bmks_succ (n:Nat):bmks (n+1)=bmks n ++ [bmk n]:=by simp [bmks,List.range_succ]
theorem bmks_get {n i:Nat} (h:i<n):(bmks n)[i]? = some (bmk i):=by simp [bmks,h]
def RoomOk (w:World) (bs:List Nat) (lv mv:Value) (i:Nat) (u:Value):Prop :=
 ∃ ao n cap,u=.slice ao n cap∧n≤cap∧n≤4096∧cap≤9223372036854775807∧(n=0∨∃ g off,ao=some ⟨g,off,none⟩∧g ∈ bs∧lv.ownBlock≠some g∧mv.ownBlock≠some g∧∀ k,k<n→w.cell? ⟨g,off+k,none⟩ = some (bmk i))
structure Bk (w:World) (p Q:Nat) (bs:List Nat) (rv:List Value) (m:Nat) (lv mv:Value):Prop where
 here:w.heap[p]? = some (.cells #[lv,mv] 40 (0,0))
 lists:w.ownsRow Q 38 1 lv rv.length rv
 marks:w.ownsRow Q 103 1 mv m (bmks m)
 lvb:∀ j,lv.ownBlock=some j→j ∈ bs
 mvb:∀ j,mv.ownBlock=some j→j ∈ bs
 two:∀ j,lv.ownBlock=some j→mv.ownBlock≠some j
 rooms:∀ i u,rv[i]? = some u→RoomOk w bs lv mv i u
 low:∀ j,j ∈ bs→Q≤j∧j<w.heap.size
 pQ:p ∉ bs
theorem owns_kept {Q e n:Nat} {w w' : World} {v:Value} {xs:List Value} (h:w.ownsRow Q e 1 v n xs) (hb:∀ j,v.ownBlock=some j→w'.heap[j]? = w.heap[j]?):w'.ownsRow Q e 1 v n xs:=by
 obtain ⟨h1,h2⟩:=h
 refine ⟨h1,?_⟩
 rcases h2 with h2 | ⟨g,cap,cur,rfl,hg,hh,r⟩
 ·exact .inl h2
 ·exact .inr ⟨g,cap,cur,rfl,hg,by rw [hb g rfl];exact hh,r⟩
theorem RoomOk.kept {w w' : World} {bs bs' : List Nat} {lv mv lv' mv' : Value} {i:Nat} {u:Value} (h:RoomOk w bs lv mv i u)
  (hb:∀ j,j ∈ bs→j ∈ bs') (hl:∀ j,j ∈ bs→lv.ownBlock≠some j→mv.ownBlock≠some j→lv'.ownBlock≠some j∧mv'.ownBlock≠some j∧w'.heap[j]? = w.heap[j]?):RoomOk w' bs' lv' mv' i u:=by
 obtain ⟨ao,n,cap,rfl,h1,h2,h3,h4⟩:=h
 refine ⟨ao,n,cap,rfl,h1,h2,h3,?_⟩
 rcases h4 with h4 | ⟨g,off,rfl,hg,e1,e2,hc⟩
 ·exact .inl h4
 ·obtain ⟨f1,f2,f3⟩:=hl g hg e1 e2
  exact .inr ⟨g,off,rfl,hb g hg,f1,f2,fun k hk=>by rw [World.cell?_of_block (w:=w) f3];exact hc k hk⟩
theorem Bk.kept {w w' : World} {p Q m:Nat} {bs:List Nat} {rv:List Value} {lv mv:Value} (h:Bk w p Q bs rv m lv mv) (hp:w'.heap[p]? = w.heap[p]?) (hb:∀ j,j ∈ bs→w'.heap[j]? = w.heap[j]?) (hs:w.heap.size≤w'.heap.size):Bk w' p Q bs rv m lv mv :=
  ⟨hp.trans h.here,owns_kept h.lists fun j hj=>hb j (h.lvb j hj),owns_kept h.marks fun j hj=>hb j (h.mvb j hj),h.lvb,h.mvb,h.two,
   fun i u hu=>(h.rooms i u hu).kept (fun _ hj=>hj) fun j hj e1 e2=>⟨e1,e2,hb j hj⟩,fun j hj=>⟨(h.low j hj).1,Nat.lt_of_lt_of_le (h.low j hj).2 hs⟩,h.pQ⟩
theorem Bk.lt {w:World} {p Q m:Nat} {bs:List Nat} {rv:List Value} {lv mv:Value} (h:Bk w p Q bs rv m lv mv):p<w.heap.size:=lt_of_heap h.here
theorem Bk.below {w w' : World} {p Q m:Nat} {bs:List Nat} {rv:List Value} {lv mv:Value} (h:Bk w p Q bs rv m lv mv) (hb:Below w.heap.size w w'):Bk w' p Q bs rv m lv mv :=
 h.kept (hb.block p h.lt) (fun j hj=>hb.block j (h.low j hj).2) hb.size
theorem Bk.more {w:World} {p Q m:Nat} {bs gs:List Nat} {rv:List Value} {lv mv:Value} (h:Bk w p Q bs rv m lv mv) (hg:∀ j,j ∈ gs→Q≤j∧j<w.heap.size) (hp:p ∉ gs):Bk w p Q (gs ++ bs) rv m lv mv :=
  ⟨h.here,h.lists,h.marks,fun j hj=>List.mem_append_right _ (h.lvb j hj),fun j hj=>List.mem_append_right _ (h.mvb j hj),h.two,
   fun i u hu=>(h.rooms i u hu).kept (fun _ hj=>List.mem_append_right _ hj) fun _ _ e1 e2=>⟨e1,e2,rfl⟩,
   fun j hj=>(List.mem_append.1 hj).elim (hg j) (h.low j),fun hj=>(List.mem_append.1 hj).elim hp h.pQ⟩
theorem setCell_block {w:World} {p i k:Nat} {u:Value} (h:k≠p):(w.setCell ⟨p,i,none⟩ u).heap[k]? = w.heap[k]? := heap_setCell_other w ⟨p,i,none⟩ k u h
theorem own_of {a:Addr} {n c j:Nat} (h:(Value.slice (some a) n c).ownBlock=some j):a.block=j:=by simpa [Value.ownBlock] using h
theorem Bk.list_step {w w1:World} {p Q m:Nat} {bs:List Nat} {rv:List Value} {lv mv u:Value} {o:Obj} {g1 c1:Nat} (h:Bk w p Q bs rv m lv mv) (hg:(w.alloc o).grownBy w1 lv.ownBlock)
  (hown:w1.ownsRow Q 38 1 (.slice (some ⟨g1,0,none⟩) (rv.length+1) c1) (rv.length+1) (rv ++ [u])) (hat:lv.ownBlock=some g1∨g1=w.heap.size+1) (hlt:g1<w1.heap.size) (hQ:Q≤w.heap.size)
  (hu:RoomOk w bs lv mv rv.length u):Bk (w1.setCell ⟨p,0,none⟩ (.slice (some ⟨g1,0,none⟩) (rv.length+1) c1)) p Q (g1 :: bs) (rv ++ [u]) m (.slice (some ⟨g1,0,none⟩) (rv.length+1) c1) mv:=by
 have hp:=h.lt
 have al:∀ j,j<w.heap.size→(w.alloc o).heap[j]? = w.heap[j]? := fun j hj=>Below.heap_alloc _ _ _ hj
 have hsz:w.heap.size+1≤w1.heap.size:=by have:=hg.size;simpa using this
 have pl:lv.ownBlock≠some p:=fun e=>h.pQ (h.lvb p e)
 have gp:g1≠p:=by
  rcases hat with e | e
  ·intro e';rw [e'] at e;exact pl e
  ·omega
 have keep:∀ j,j<w.heap.size→lv.ownBlock≠some j→w1.heap[j]? = w.heap[j]? := fun j hj hn=>(hg.block j (by simp;omega) (fun e=>hn e.symm)).trans (al j hj)
 have here1:w1.heap[p]? = some (.cells #[lv,mv] 40 (0,0)):=(keep p hp pl).trans h.here
 have nogo:∀ j,j<w.heap.size→lv.ownBlock≠some j→g1≠j:=by
  intro j hj hn e
  rcases hat with e' | e'
  ·rw [e] at e';exact hn e'
  ·omega
 have keep2:∀ j,j<w.heap.size→lv.ownBlock≠some j→j≠p→(w1.setCell ⟨p,0,none⟩ (.slice (some ⟨g1,0,none⟩) (rv.length+1) c1)).heap[j]? = w.heap[j]? := fun j hj hn hne=>(setCell_block hne).trans (keep j hj hn)
 refine ⟨?_,?_,?_,?_,?_,?_,?_,?_,fun hj=>(List.mem_cons.1 hj).elim (fun e=>gp e.symm) h.pQ⟩
 ·exact heap_setCell_same w1 p 0 _ _ _ here1
 ·have e:(rv ++ [u]).length=rv.length+1:=by simp
  rw [e]
  exact owns_kept hown fun j hj=>setCell_block (by have:=own_of hj;simp at this;omega)
 ·exact owns_kept h.marks fun j hj=>by
   have hjb:=h.low j (h.mvb j hj)
   exact keep2 j hjb.2 (fun e=>h.two j e hj) (fun e=>h.pQ (e ▸ h.mvb j hj))
 ·intro j hj
  have:=own_of hj
  simp at this
  simp [this]
 ·exact fun j hj=>List.mem_cons_of_mem _ (h.mvb j hj)
 ·intro j hj e
  have e1:=own_of hj
  simp at e1
  subst e1
  have hjb:=h.low _ (h.mvb _ e)
  rcases hat with e' | e'
  ·exact h.two _ e' e
  ·omega
 ·intro i v hv
  have step:∀ {i v},RoomOk w bs lv mv i v→RoomOk (w1.setCell ⟨p,0,none⟩ (.slice (some ⟨g1,0,none⟩) (rv.length+1) c1)) (g1 :: bs) (.slice (some ⟨g1,0,none⟩) (rv.length+1) c1) mv i v:=fun hr =>
   hr.kept (fun _ hj=>List.mem_cons_of_mem _ hj) fun j hj e1 e2=>by
    have hjb:=h.low j hj
    have hpq:=h.pQ
    refine ⟨?_,e2,keep2 j hjb.2 e1 (fun e=>hpq (e ▸ hj))⟩
    intro e
    have:=own_of e
    exact nogo j hjb.2 e1 (by simpa using this)
  by_cases hi:i<rv.length
  ·rw [List.getElem?_append_left hi] at hv
   exact step (h.rooms i v hv)
  ·have hi2:i=rv.length:=by
    apply Classical.byContradiction
    intro hn
    rw [List.getElem?_eq_none (by simp;omega)] at hv
    cases hv
   subst hi2
   rw [List.getElem?_append_right (Nat.le_refl _)] at hv
   simp at hv
   subst hv
   exact step hu
 ·intro j hj
  have hss:(w1.setCell ⟨p,0,none⟩ (.slice (some ⟨g1,0,none⟩) (rv.length+1) c1)).heap.size=w1.heap.size:=by simp [World.setCell]
  rw [hss]
  rcases List.mem_cons.1 hj with e | e
  ·subst e
   refine ⟨?_,hlt⟩
   rcases hat with e' | e'
   ·exact (h.low _ (h.lvb _ e')).1
   ·omega
  ·have:=h.low j e
   omega
theorem Bk.mark_step {w w1:World} {p Q m:Nat} {bs:List Nat} {rv:List Value} {lv mv:Value} {o:Obj} {g1 c1:Nat} (h:Bk w p Q bs rv m lv mv) (hg:(w.alloc o).grownBy w1 mv.ownBlock)
  (hown:w1.ownsRow Q 103 1 (.slice (some ⟨g1,0,none⟩) (m+1) c1) (m+1) (bmks m ++ [bmk m])) (hat:mv.ownBlock=some g1∨g1=w.heap.size+1) (hlt:g1<w1.heap.size) (hQ:Q≤w.heap.size) :
  Bk (w1.setCell ⟨p,1,none⟩ (.slice (some ⟨g1,0,none⟩) (m+1) c1)) p Q (g1 :: bs) rv (m+1) lv (.slice (some ⟨g1,0,none⟩) (m+1) c1):=by
 have hp:=h.lt
 have al:∀ j,j<w.heap.size→(w.alloc o).heap[j]? = w.heap[j]? := fun j hj=>Below.heap_alloc _ _ _ hj
 have hsz:w.heap.size+1≤w1.heap.size:=by have:=hg.size;simpa using this
 have pl:mv.ownBlock≠some p:=fun e=>h.pQ (h.mvb p e)
 have gp:g1≠p:=by
  rcases hat with e | e
  ·intro e';rw [e'] at e;exact pl e
  ·omega
 have keep:∀ j,j<w.heap.size→mv.ownBlock≠some j→w1.heap[j]? = w.heap[j]? := fun j hj hn=>(hg.block j (by simp;omega) (fun e=>hn e.symm)).trans (al j hj)
 have here1:w1.heap[p]? = some (.cells #[lv,mv] 40 (0,0)):=(keep p hp pl).trans h.here
 have nogo:∀ j,j<w.heap.size→mv.ownBlock≠some j→g1≠j:=by
  intro j hj hn e
  rcases hat with e' | e'
  ·rw [e] at e';exact hn e'
  ·omega
 have keep2:∀ j,j<w.heap.size→mv.ownBlock≠some j→j≠p→(w1.setCell ⟨p,1,none⟩ (.slice (some ⟨g1,0,none⟩) (m+1) c1)).heap[j]? = w.heap[j]? := fun j hj hn hne=>(setCell_block hne).trans (keep j hj hn)
 refine ⟨?_,?_,?_,?_,?_,?_,?_,?_,fun hj=>(List.mem_cons.1 hj).elim (fun e=>gp e.symm) h.pQ⟩
 ·exact heap_setCell_same w1 p 1 _ _ _ here1
 ·exact owns_kept h.lists fun j hj=>by
   have hjb:=h.low j (h.lvb j hj)
   exact keep2 j hjb.2 (h.two j hj) (fun e=>h.pQ (e ▸ h.lvb j hj))
 ·rw [bmks_succ]
  exact owns_kept hown fun j hj=>setCell_block (by have:=own_of hj;simp at this;omega)
 ·exact fun j hj=>List.mem_cons_of_mem _ (h.lvb j hj)
 ·intro j hj
  have:=own_of hj
  simp at this
  simp [this]
 ·intro j hj e
  have e1:=own_of e
  simp at e1
  subst e1
  have hjb:=h.low _ (h.lvb _ hj)
  rcases hat with e' | e'
  ·exact h.two _ hj e'
  ·omega
 ·intro i v hv
  refine (h.rooms i v hv).kept (fun _ hj=>List.mem_cons_of_mem _ hj) fun j hj e1 e2=>?_
  have hjb:=h.low j hj
  have hpq:=h.pQ
  refine ⟨e1,?_,keep2 j hjb.2 e2 (fun e=>hpq (e ▸ hj))⟩
  intro e
  have:=own_of e
  exact nogo j hjb.2 e2 (by simpa using this)
 ·intro j hj
  have hss:(w1.setCell ⟨p,1,none⟩ (.slice (some ⟨g1,0,none⟩) (m+1) c1)).heap.size=w1.heap.size:=by simp [World.setCell]
  rw [hss]
  rcases List.mem_cons.1 hj with e | e
  ·subst e
   refine ⟨?_,hlt⟩
   rcases hat with e' | e'
   ·exact (h.low _ (h.mvb _ e')).1
   ·omega
  ·have:=h.low j e
   omega
structure Kp (w w' : World) (p:Nat) (bs:List Nat):Prop where
 os:w'.os=w.os
 tape:w'.tape=w.tape
 output:w'.output=w.output
 size:w.heap.size≤w'.heap.size
 other:∀ k,k<w.heap.size→k≠p→k ∉ bs→w'.heap[k]? = w.heap[k]?
theorem Kp.trans {w w' w'' : World} {p:Nat} {bs bs' : List Nat} (h:Kp w w' p bs) (h' : Kp w' w'' p bs') (hb:∀ j,j ∈ bs→j ∈ bs'):Kp w w'' p bs' :=
 ⟨h'.os.trans h.os,h'.tape.trans h.tape,h'.output.trans h.output,Nat.le_trans h.size h'.size,fun k hk hp hn=>(h'.other k (Nat.lt_of_lt_of_le hk h.size) hp hn).trans (h.other k hk hp (fun hj=>hn (hb k hj)))⟩
theorem Kp.of_wr {w w' : World} {p g:Nat} {bs:List Nat} {cur:Array Value} {e:TypeId} (h:Wr w w' g cur e) (hg:g ∈ bs):Kp w w' p bs :=
 ⟨h.os,h.tape,h.output,by rw [h.size];exact Nat.le_refl _,fun k _ _ hn=>h.other k (fun e=>hn (e ▸ hg))⟩
theorem Kp.refl (w:World) (p:Nat) (bs:List Nat):Kp w w p bs:=⟨rfl,rfl,rfl,Nat.le_refl _,fun _ _ _ _=>rfl⟩
theorem Kp.step {w w1:World} {p i:Nat} {bs:List Nat} {v u:Value} {o:Obj} (hg:(w.alloc o).grownBy w1 v.ownBlock) (hv:∀ j,v.ownBlock=some j→j ∈ bs):Kp w (w1.setCell ⟨p,i,none⟩ u) p bs :=
 ⟨hg.os,hg.tape,hg.output,by have:=hg.size;simp [World.setCell] at this ⊢;omega,fun k hk hp hn=>(setCell_block hp).trans ((hg.block k (by simp;omega) (fun e=>hn (hv k e.symm))).trans (Below.heap_alloc _ _ _ hk))⟩
theorem Kp.below {w w' : World} {p B:Nat} {bs:List Nat} (h:Kp w w' p bs) (hp:B≤p) (hb:∀ j,j ∈ bs→B≤j) (hs:B≤w.heap.size):Below B w w' :=
 ⟨h.os,h.tape,h.output,h.size,fun k hk=>h.other k (by omega) (by omega) (fun hj=>by have:=hb k hj;omega)⟩
end Lm
end Go.Proofs.YtaofpigilgapgaaGreatDoor

