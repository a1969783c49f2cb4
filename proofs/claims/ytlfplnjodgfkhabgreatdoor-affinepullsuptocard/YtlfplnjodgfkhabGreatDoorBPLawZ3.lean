/-
  Rows of whole numbers held against one another. LimbsNumbers answers true, whatever number and list of limbs it is handed. A whole number copied as it lies. Rows of whole numbers copied. The bytes of a code decode to it. No program is named here. What is handed back: two slots.
-/
import Derived.OpenShut
import Derived.Test.YtlfplnjodgfkhabGreatDoorBPLawZ2
namespace Go.Proofs.YtlfplnjodgfkhabGreatDoor
namespace Lm
open Go Go.RowKit
section
variable {dst:Option Tmp} {ty:TypeId} {pos:String} {after:Array Edge} {guard:Option (Nat × Bool)} {a:Act} {w:World} {ats:Array TypeId} {i j:Nat}
theorem has_samel0:Has Tryz.prog 51:=by unfold Has;kernel_rfl
theorem op_samelraw {ax ay:Option Addr} {mx cx my cy:Nat} {zs:List Int} (h1:a.eval (.tmp i)=.slice ax mx cx) (h2:a.eval (.tmp j)=.slice ay my cy) (S1:Sl w (.slice ax mx cx) zs) (S2:Sl w (.slice ay my cy) zs) :
    Does Tryz.prog { dst,op:=.call { callee:=.value (.func 51),args:=#[.tmp i,.tmp j],argTypes:=ats },type:=ty,pos,after,guard } a.eval w fun v w'=>Below w.heap.size w w'∧Eqs (.bool true) v w' := by
  refine does_call has_samel0 _ (by simp only [List.map_toArray,List.map_cons,List.map_nil,h1,h2]) ((same_any w _ _ _ _ _ _ zs zs S1 S2).mono ?_)
  rintro e w' ⟨rfl,hb⟩
  exact ⟨_,rfl,hb,by rw [sameB_self];rfl⟩
end
set_option maxRecDepth 20000 in
set_option maxHeartbeats 1000000 in
theorem sameraw_z (w:World) (nx:Bool) (ax ay:Option Addr) (mx cx my cy:Nat) (zs:List Int) (Tx:Sl w (.slice ax mx cx) zs) (Ty:Sl w (.slice ay my cy) zs) :
    Calls Tryz.prog 26 #[.agg #[.bool nx,.slice ax mx cx],.agg #[.bool nx,.slice ay my cy]] w fun e w'=>e=.returned (.bool true)∧Below w.heap.size w w' := by
  go_enter Tryz.func26,Tryz.ntmps26
  generalize hA:(Act.mk _ _)=aa
  have hn:aa.tmps.size=17:=by rw [←hA];rfl
  have hd:aa.defers = []:=by rw [←hA]
  have f0:aa.eval (.tmp 0)=.agg #[.bool nx,.slice ax mx cx]:=by rw [←hA];rfl
  have f1:aa.eval (.tmp 1)=.agg #[.bool nx,.slice ay my cy]:=by rw [←hA];rfl
  clear hA
  have HB:Below w.heap.size w w:=Below.refl _ _
  refine wp_seq ?_
  refine region4 [some 2,some 3,some 4] [(fun _ _=>True),(fun _ _=>True),Eqs ((.bool false))] [⟨W2,some 0,0,2,.agg #[.bool nx,.slice ax mx cx],none,[]⟩,⟨W2,some 1,0,3,.agg #[.bool nx,.slice ay my cy],none,[]⟩] [] (by kernel_rfl) hn rfl (by kernel_rfl) (by kernel_rfl) (by kernel_rfl) (by kernel_rfl) (by kernel_rfl) (by kernel_rfl) ⟨True.mono4,True.mono4,Eqs.mono4 _,trivial⟩ (ok_cons W2ok (ok_cons W2ok ok_nil)) (IsOld.all (bx:=[⟨W2,some 0,0,2,.agg #[.bool nx,.slice ax mx cx],none,[]⟩,⟨W2,some 1,0,3,.agg #[.bool nx,.slice ay my cy],none,[]⟩]) ⟨someNe,someNe,trivial⟩) (DisOld.all (bx:=[⟨W2,some 0,0,2,.agg #[.bool nx,.slice ax mx cx],none,[]⟩,⟨W2,some 1,0,3,.agg #[.bool nx,.slice ay my cy],none,[]⟩]) ⟨someNe,someNe,trivial⟩) ?_ ?_
  · exact ⟨.alloc 0 _ rfl rfl (.inr ⟨_,rfl,w2_cs,fun a_ hR=>(hR 0 rfl).trans f0⟩) rfl rfl rfl rfl rfl,
      .alloc 1 _ rfl rfl (.inr ⟨_,rfl,w2_cs,fun a_ hR=>(hR 1 rfl).trans f1⟩) rfl rfl rfl rfl rfl,
      .norm 4 rfl rfl rfl (fun a_ w_ hn_ hBt hr hR hD hO hS=>op_assign rfl),
      trivial⟩
  intro a1 w1 gs1 hn1 hd1 hBt hr hR hP hX hU
  replace hn:=hn1;replace hd:=hd1.trans hd
  have b2:BoxV W2 w1 (gs1 0) (.agg #[.bool nx,.slice ax mx cx]):=(hX 0 _ rfl).2.2.2
  have f2:=(hX 0 _ rfl).1
  have u2:w.heap.size≤gs1 0:=Nat.le_trans HB.size ((hX 0 _ rfl).2.2.1 (by simp))
  have b3:BoxV W2 w1 (gs1 1) (.agg #[.bool nx,.slice ay my cy]):=(hX 1 _ rfl).2.2.2
  have f3:=(hX 1 _ rfl).1
  have u3:w.heap.size≤gs1 1:=Nat.le_trans HB.size ((hX 1 _ rfl).2.2.1 (by simp))
  have e4:a1.eval (.tmp 4)=(.bool false):=hP 2 (by decide)
  have f4:=e4
  replace Tx:=Tx.rl hr
  replace Ty:=Ty.rl hr
  replace HB:=HB.trans (hBt.below HB.size (UpOld.all (bx:=[⟨W2,some 0,0,2,.agg #[.bool nx,.slice ax mx cx],none,[]⟩,⟨W2,some 1,0,3,.agg #[.bool nx,.slice ay my cy],none,[]⟩]) ⟨someNe,someNe,trivial⟩))
  clear hBt hr hR hP hX hU
  refine wp_seq ?_
  refine region4 [some 5,some 6,some 7,some 8,some 9,some 10,some 11,some 12,some 13,some 14,some 15,some 16,some 4] [Eqs (.pointer (some ⟨gs1 0,0,none⟩)),Eqs (.bool nx),Eqs (.pointer (some ⟨gs1 1,0,none⟩)),Eqs (.bool nx),Eqs (.bool true),Eqs (.bool true),Eqs (.pointer (some ⟨gs1 0,1,none⟩)),Eqs (.slice ax mx cx),Eqs (.pointer (some ⟨gs1 1,1,none⟩)),Eqs (.slice ay my cy),Eqs (.bool true),Eqs (.bool true),Eqs (.bool true)] [] [] (by kernel_rfl) hn rfl (by kernel_rfl) (by kernel_rfl) (by kernel_rfl) (by kernel_rfl) (by kernel_rfl) (by kernel_rfl) ⟨Eqs.mono4 _,Eqs.mono4 _,Eqs.mono4 _,Eqs.mono4 _,Eqs.mono4 _,Eqs.mono4 _,Eqs.mono4 _,Eqs.mono4 _,Eqs.mono4 _,Eqs.mono4 _,Eqs.mono4 _,Eqs.mono4 _,Eqs.mono4 _,trivial⟩ ok_nil (IsOld.all (bx:=[]) trivial) (DisOld.all (bx:=[]) trivial) ?_ ?_
  · exact ⟨.norm 5 rfl rfl rfl (fun a_ w_ hn_ hBt hr hR hD hO hS=>op_fa fa_neg ((hR 2 rfl).trans f2)),
      .norm 6 rfl rfl rfl (fun a_ w_ hn_ hBt hr hR hD hO hS=>op_ldneg (show a_.eval (.tmp 5)=.pointer (some ⟨gs1 0,0,none⟩) from hD 0 rfl) (b2.keep hBt trivial)),
      .norm 7 rfl rfl rfl (fun a_ w_ hn_ hBt hr hR hD hO hS=>op_fa fa_neg ((hR 3 rfl).trans f3)),
      .norm 8 rfl rfl rfl (fun a_ w_ hn_ hBt hr hR hD hO hS=>op_ldneg (show a_.eval (.tmp 7)=.pointer (some ⟨gs1 1,0,none⟩) from hD 2 rfl) (b3.keep hBt trivial)),
      .norm 9 rfl rfl rfl (fun a_ w_ hn_ hBt hr hR hD hO hS=>op_eqlbs (show a_.eval (.tmp 6)=.bool nx from hD 1 rfl) (show a_.eval (.tmp 8)=.bool nx from hD 3 rfl)),
      .norm 10 rfl rfl rfl (fun a_ w_ hn_ hBt hr hR hD hO hS=>op_mv (show a_.eval (.tmp 9)=.bool true from hD 4 rfl)),
      .norm 11 rfl rfl rfl (fun a_ w_ hn_ hBt hr hR hD hO hS=>⟨⟨_,rfl⟩,fun _=>op_fa fa_mag ((hR 2 rfl).trans f2),fun hne=>absurd (hD 5 rfl) hne⟩),
      .norm 12 rfl rfl rfl (fun a_ w_ hn_ hBt hr hR hD hO hS=>⟨⟨_,rfl⟩,fun _=>op_ldmag (show a_.eval (.tmp 11)=.pointer (some ⟨gs1 0,1,none⟩) from hD 6 rfl) (b2.keep hBt trivial),fun hne=>absurd (hD 5 rfl) hne⟩),
      .norm 13 rfl rfl rfl (fun a_ w_ hn_ hBt hr hR hD hO hS=>⟨⟨_,rfl⟩,fun _=>op_fa fa_mag ((hR 3 rfl).trans f3),fun hne=>absurd (hD 5 rfl) hne⟩),
      .norm 14 rfl rfl rfl (fun a_ w_ hn_ hBt hr hR hD hO hS=>⟨⟨_,rfl⟩,fun _=>op_ldmag (show a_.eval (.tmp 13)=.pointer (some ⟨gs1 1,1,none⟩) from hD 8 rfl) (b3.keep hBt trivial),fun hne=>absurd (hD 5 rfl) hne⟩),
      .norm 15 rfl rfl rfl (fun a_ w_ hn_ hBt hr hR hD hO hS=>⟨⟨_,rfl⟩,fun _=>op_samelraw (show a_.eval (.tmp 12)=.slice ax mx cx from hD 7 rfl) (show a_.eval (.tmp 14)=.slice ay my cy from hD 9 rfl) (Tx.rl hr) (Ty.rl hr),fun hne=>absurd (hD 5 rfl) hne⟩),
      .norm 16 rfl rfl rfl (fun a_ w_ hn_ hBt hr hR hD hO hS=>op_pickb (show a_.eval (.tmp 10)=.bool true from hD 5 rfl) (show a_.eval (.tmp 15)=.bool true from hD 10 rfl)),
      .norm 4 rfl rfl rfl (fun a_ w_ hn_ hBt hr hR hD hO hS=>op_assign (show a_.eval (.tmp 16)=.bool true from hD 11 rfl)),
      trivial⟩
  intro a2 w2 gs2 hn2 hd2 hBt hr hR hP hX hU
  replace hn:=hn2;replace hd:=hd2.trans hd
  have e4:a2.eval (.tmp 4)=.bool true:=hP 12 (by decide)
  have f4:=e4
  replace Tx:=Tx.rl hr
  replace Ty:=Ty.rl hr
  replace HB:=HB.trans (hBt.below HB.size (UpOld.all (bx:=[]) trivial))
  clear hBt hr hR hP hX hU
  refine wp_ret ?_
  repeat (first | refine then_ret ?_ | refine scope_ret ?_ | refine block_ret ?_)
  exact bodyPost_ret (v:=.bool true) (res_t rfl f4) hd ⟨rfl,HB⟩
section
variable {dst:Option Tmp} {ty:TypeId} {pos:String} {after:Array Edge} {guard:Option (Nat × Bool)} {a:Act} {w:World} {ats:Array TypeId} {i j:Nat}
theorem op_sameraw {nx ny:Bool} {ax ay:Option Addr} {mx cx my cy:Nat} {xs ys:List Int} (h1:a.eval (.tmp i)=.agg #[.bool nx,.slice ax mx cx]) (h2:a.eval (.tmp j)=.agg #[.bool ny,.slice ay my cy]) (S1:Sl w (.slice ax mx cx) xs) (S2:Sl w (.slice ay my cy) ys) (hn:nx=ny) (hz:xs=ys) :
    Does Tryz.prog { dst,op:=.call { callee:=.value (.func 26),args:=#[.tmp i,.tmp j],argTypes:=ats },type:=ty,pos,after,guard } a.eval w fun v w'=>Below w.heap.size w w'∧Eqs (.bool true) v w' := by
  subst hn hz
  refine does_call has_same _ (by simp only [List.map_toArray,List.map_cons,List.map_nil,h1,h2]) ((sameraw_z w nx _ _ _ _ _ _ xs S1 S2).mono ?_)
  rintro e w' ⟨rfl,hb⟩
  exact ⟨_,rfl,hb,rfl⟩
end
def WE.raw (e:WE):Bool × List Int:=(e.ng,e.zs)
def SameR (es fs:List WE):Prop:=es.map WE.raw=fs.map WE.raw
theorem SameR.len {es fs:List WE} (h:SameR es fs):es.length=fs.length:=by simpa using congrArg List.length h
theorem SameR.at {es fs:List WE} (h:SameR es fs) {k:Nat} {e f:WE} (he:es[k]? = some e) (hf:fs[k]? = some f):e.ng=f.ng∧e.zs=f.zs:=by
  have h1:=congrArg (fun l=>l[k]?) h
  simp only [List.getElem?_map,he,hf,Option.map_some,Option.some.injEq,WE.raw,Prod.mk.injEq] at h1
  exact h1
set_option maxRecDepth 20000 in
set_option maxHeartbeats 1000000 in
theorem samerow_z (w:World) (ax:Option Addr) (mx cx:Nat) (xs:List WE) (Rx0:Rw w (.slice ax mx cx) xs) (ay:Option Addr) (my cy:Nat) (ys:List WE) (Ry0:Rw w (.slice ay my cy) ys) (hS:SameR xs ys) :
    Calls Tryz.prog 17 #[.slice ax mx cx,.slice ay my cy] w fun e w'=>e=.returned (.bool true)∧Below w.heap.size w w' := by
  go_enter Tryz.func17,Tryz.ntmps17
  generalize hA:(Act.mk _ _)=aa
  have hn:aa.tmps.size=27:=by rw [←hA];rfl
  have hd:aa.defers = []:=by rw [←hA]
  have f0:aa.eval (.tmp 0)=.slice ax mx cx:=by rw [←hA];rfl
  have f1:aa.eval (.tmp 1)=.slice ay my cy:=by rw [←hA];rfl
  clear hA
  have HB:Below w.heap.size w w:=Below.refl _ _
  have px:=Rx0.parts;have py:=Ry0.parts;have hSl:=hS.len
  refine wp_seq ?_
  refine region4 [some 4] [Eqs ((.bool false))] [] [] (by kernel_rfl) hn rfl (by kernel_rfl) (by kernel_rfl) (by kernel_rfl) (by kernel_rfl) (by kernel_rfl) (by kernel_rfl) ⟨Eqs.mono4 _,trivial⟩ ok_nil (IsOld.all (bx:=[]) trivial) (DisOld.all (bx:=[]) trivial) ?_ ?_
  · exact ⟨.norm 4 rfl rfl rfl (fun a_ w_ hn_ hBt hr hR hD hO hS=>op_assign rfl),
      trivial⟩
  intro a1 w1 gs1 hn1 hd1 hBt hr hR hP hX hU
  replace hn:=hn1;replace hd:=hd1.trans hd
  replace f0:=(hR 0 rfl).trans f0
  replace f1:=(hR 1 rfl).trans f1
  have e4:a1.eval (.tmp 4)=(.bool false):=hP 0 (by decide)
  have f4:=e4
  replace HB:=HB.trans (hBt.below HB.size (UpOld.all (bx:=[]) trivial))
  clear hBt hr hR hP hX hU
  refine wp_seq ?_
  refine wp_seq ?_
  refine region4 [some 6,some 7,some 8,some 9,some 10] [Eqs (.slice ax mx cx),Eqs (.int .i64 (mx:Int)),Eqs (.slice ay my cy),Eqs (.int .i64 (my:Int)),Eqs (.bool false)] [] [] (by kernel_rfl) hn rfl (by kernel_rfl) (by kernel_rfl) (by kernel_rfl) (by kernel_rfl) (by kernel_rfl) (by kernel_rfl) ⟨Eqs.mono4 _,Eqs.mono4 _,Eqs.mono4 _,Eqs.mono4 _,Eqs.mono4 _,trivial⟩ ok_nil (IsOld.all (bx:=[]) trivial) (DisOld.all (bx:=[]) trivial) ?_ ?_
  · exact ⟨.norm 6 rfl rfl rfl (fun a_ w_ hn_ hBt hr hR hD hO hS=>op_mv ((hR 0 rfl).trans f0)),
      .norm 7 rfl rfl rfl (fun a_ w_ hn_ hBt hr hR hD hO hS=>op_lenr (show a_.eval (.tmp 6)=.slice ax mx cx from hD 0 rfl)),
      .norm 8 rfl rfl rfl (fun a_ w_ hn_ hBt hr hR hD hO hS=>op_mv ((hR 1 rfl).trans f1)),
      .norm 9 rfl rfl rfl (fun a_ w_ hn_ hBt hr hR hD hO hS=>op_lenr (show a_.eval (.tmp 8)=.slice ay my cy from hD 2 rfl)),
      .norm 10 rfl rfl rfl (fun a_ w_ hn_ hBt hr hR hD hO hS=>op_neqf (show a_.eval (.tmp 7)=.int .i64 (mx:Int) from hD 1 rfl) (show a_.eval (.tmp 9)=.int .i64 (my:Int) from hD 3 rfl) (by omega)),
      trivial⟩
  intro a2 w2 gs2 hn2 hd2 hBt hr hR hP hX hU
  replace hn:=hn2;replace hd:=hd2.trans hd
  replace f0:=(hR 0 rfl).trans f0
  replace f1:=(hR 1 rfl).trans f1
  replace f4:=(hR 4 rfl).trans f4
  have e10:a2.eval (.tmp 10)=.bool false:=hP 4 (by decide)
  have f10:=e10
  replace HB:=HB.trans (hBt.below HB.size (UpOld.all (bx:=[]) trivial))
  clear hBt hr hR hP hX hU
  refine wp_cond_false f10 ?_
  refine wp_skip ?_
  refine wp_seq ?_
  refine wp_seq ?_
  refine region4 [some 5] [Eqs ((.int .i64 0))] [] [] (by kernel_rfl) hn rfl (by kernel_rfl) (by kernel_rfl) (by kernel_rfl) (by kernel_rfl) (by kernel_rfl) (by kernel_rfl) ⟨Eqs.mono4 _,trivial⟩ ok_nil (IsOld.all (bx:=[]) trivial) (DisOld.all (bx:=[]) trivial) ?_ ?_
  · exact ⟨.norm 5 rfl rfl rfl (fun a_ w_ hn_ hBt hr hR hD hO hS=>op_assign rfl),
      trivial⟩
  intro a3 w3 gs3 hn3 hd3 hBt hr hR hP hX hU
  replace hn:=hn3;replace hd:=hd3.trans hd
  replace f0:=(hR 0 rfl).trans f0
  replace f1:=(hR 1 rfl).trans f1
  replace f4:=(hR 4 rfl).trans f4
  have e5:a3.eval (.tmp 5)=(.int .i64 0):=hP 0 (by decide)
  have f5:=e5
  replace HB:=HB.trans (hBt.below HB.size (UpOld.all (bx:=[]) trivial))
  clear hBt hr hR hP hX hU
  refine wp_block ?_
  refine wp_loop_ghost (fun n a w'=>a.tmps.size=27∧a.defers = []∧a.eval (.tmp 0)=.slice ax mx cx∧a.eval (.tmp 1)=.slice ay my cy∧Below w.heap.size w w'∧∃ k:Nat,k+n=xs.length∧a.eval (.tmp 5)=.int .i64 (k:Int)) xs.length ⟨hn,hd,f0,f1,HB,0,by omega,f5⟩ ?_
  clear hn hd HB f0 f1 f4 f5
  rintro nL aL wL ⟨hn,hd,f0,f1,HB,kL,hk,f5⟩
  refine wp_seq ?_
  refine wp_seq ?_
  refine region4 [some 11,some 12,some 13,some 14] [Eqs (.int .i64 (kL:Int)),Eqs (.slice ax mx cx),Eqs (.int .i64 (mx:Int)),Eqs (.bool (decide ((kL:Int)<(mx:Int))))] [] [] (by kernel_rfl) hn rfl (by kernel_rfl) (by kernel_rfl) (by kernel_rfl) (by kernel_rfl) (by kernel_rfl) (by kernel_rfl) ⟨Eqs.mono4 _,Eqs.mono4 _,Eqs.mono4 _,Eqs.mono4 _,trivial⟩ ok_nil (IsOld.all (bx:=[]) trivial) (DisOld.all (bx:=[]) trivial) ?_ ?_
  · exact ⟨.norm 11 rfl rfl rfl (fun a_ w_ hn_ hBt hr hR hD hO hS=>op_mv ((hR 5 rfl).trans f5)),
      .norm 12 rfl rfl rfl (fun a_ w_ hn_ hBt hr hR hD hO hS=>op_mv ((hR 0 rfl).trans f0)),
      .norm 13 rfl rfl rfl (fun a_ w_ hn_ hBt hr hR hD hO hS=>op_lenr (show a_.eval (.tmp 12)=.slice ax mx cx from hD 1 rfl)),
      .norm 14 rfl rfl rfl (fun a_ w_ hn_ hBt hr hR hD hO hS=>op_lssr (show a_.eval (.tmp 11)=.int .i64 (kL:Int) from hD 0 rfl) (show a_.eval (.tmp 13)=.int .i64 (mx:Int) from hD 2 rfl)),
      trivial⟩
  intro a4 w4 gs4 hn4 hd4 hBt hr hR hP hX hU
  replace hn:=hn4;replace hd:=hd4.trans hd
  replace f0:=(hR 0 rfl).trans f0
  replace f1:=(hR 1 rfl).trans f1
  replace f5:=(hR 5 rfl).trans f5
  have e14:a4.eval (.tmp 14)=.bool (decide ((kL:Int)<(mx:Int))):=hP 3 (by decide)
  have f14:=e14
  replace HB:=HB.trans (hBt.below HB.size (UpOld.all (bx:=[]) trivial))
  clear hBt hr hR hP hX hU
  refine wp_cond_split f14 (fun hc14=>?_) (fun hc14=>?_)
  · skip
    have hlt:=of_decide_eq_true hc14
    obtain ⟨bx_,ox_,hax,_,_⟩:=Rx0.cells (by omega)
    obtain ⟨ex,hex⟩:∃ e,xs[kL]? = some e:=⟨_,List.getElem?_eq_getElem (by omega)⟩
    have Ax0:=Rx0.ag (List.mem_of_getElem? hex)
    have Ax:=Ax0.below HB
    have lx:=Ax.sl.parts.1
    obtain ⟨by_,oy_,hay,_,_⟩:=Ry0.cells (by omega)
    obtain ⟨ey,hey⟩:∃ e,ys[kL]? = some e:=⟨_,List.getElem?_eq_getElem (by omega)⟩
    have Ay0:=Ry0.ag (List.mem_of_getElem? hey)
    have Ay:=Ay0.below HB
    have ly:=Ay.sl.parts.1
    have hsm:=hS.at hex hey
    refine wp_skip ?_
    refine wp_seq ?_
    refine wp_block ?_
    refine wp_seq ?_
    refine region4 [some 17,some 18,some 19,some 20,some 21,some 22,some 23,some 24,some 25,some 26] [Eqs (.slice ax mx cx),Eqs (.int .i64 (kL:Int)),Eqs (.pointer (some ⟨bx_,ox_+kL*2,none⟩)),Eqs (.agg #[.bool ex.ng,.slice ex.a ex.m ex.c]),Eqs (.slice ay my cy),Eqs (.int .i64 (kL:Int)),Eqs (.pointer (some ⟨by_,oy_+kL*2,none⟩)),Eqs (.agg #[.bool ey.ng,.slice ey.a ey.m ey.c]),Eqs (.bool true),Eqs (.bool false)] [] [] (by kernel_rfl) hn rfl (by kernel_rfl) (by kernel_rfl) (by kernel_rfl) (by kernel_rfl) (by kernel_rfl) (by kernel_rfl) ⟨Eqs.mono4 _,Eqs.mono4 _,Eqs.mono4 _,Eqs.mono4 _,Eqs.mono4 _,Eqs.mono4 _,Eqs.mono4 _,Eqs.mono4 _,Eqs.mono4 _,Eqs.mono4 _,trivial⟩ ok_nil (IsOld.all (bx:=[]) trivial) (DisOld.all (bx:=[]) trivial) ?_ ?_
    · exact ⟨.norm 17 rfl rfl rfl (fun a_ w_ hn_ hBt hr hR hD hO hS=>op_mv ((hR 0 rfl).trans f0)),
        .norm 18 rfl rfl rfl (fun a_ w_ hn_ hBt hr hR hD hO hS=>op_mv ((hR 5 rfl).trans f5)),
        .norm 19 rfl rfl rfl (fun a_ w_ hn_ hBt hr hR hD hO hS=>op_idxr (show a_.eval (.tmp 17)=.slice ax mx cx from hD 0 rfl) hax (show a_.eval (.tmp 18)=.int .i64 (kL:Int) from hD 1 rfl) (by omega)),
        .norm 20 rfl rfl rfl (fun a_ w_ hn_ hBt hr hR hD hO hS=>op_ldr (show a_.eval (.tmp 19)=.pointer (some ⟨bx_,ox_+kL*2,none⟩) from hD 2 rfl) hax (Rx0.below (HB.trans (hBt.below HB.size (UpOld.all (bx:=[]) trivial)))) hex),
        .norm 21 rfl rfl rfl (fun a_ w_ hn_ hBt hr hR hD hO hS=>op_mv ((hR 1 rfl).trans f1)),
        .norm 22 rfl rfl rfl (fun a_ w_ hn_ hBt hr hR hD hO hS=>op_mv ((hR 5 rfl).trans f5)),
        .norm 23 rfl rfl rfl (fun a_ w_ hn_ hBt hr hR hD hO hS=>op_idxr (show a_.eval (.tmp 21)=.slice ay my cy from hD 4 rfl) hay (show a_.eval (.tmp 22)=.int .i64 (kL:Int) from hD 5 rfl) (by omega)),
        .norm 24 rfl rfl rfl (fun a_ w_ hn_ hBt hr hR hD hO hS=>op_ldr (show a_.eval (.tmp 23)=.pointer (some ⟨by_,oy_+kL*2,none⟩) from hD 6 rfl) hay (Ry0.below (HB.trans (hBt.below HB.size (UpOld.all (bx:=[]) trivial)))) hey),
        .norm 25 rfl rfl rfl (fun a_ w_ hn_ hBt hr hR hD hO hS=>op_sameraw (show a_.eval (.tmp 20)=.agg #[.bool ex.ng,.slice ex.a ex.m ex.c] from hD 3 rfl) (show a_.eval (.tmp 24)=.agg #[.bool ey.ng,.slice ey.a ey.m ey.c] from hD 7 rfl) (Ax.rl hr).sl (Ay.rl hr).sl hsm.1 hsm.2),
        .norm 26 rfl rfl rfl (fun a_ w_ hn_ hBt hr hR hD hO hS=>op_not (show a_.eval (.tmp 25)=.bool true from hD 8 rfl)),
        trivial⟩
    intro a5 w5 gs5 hn5 hd5 hBt hr hR hP hX hU
    replace hn:=hn5;replace hd:=hd5.trans hd
    replace f0:=(hR 0 rfl).trans f0
    replace f1:=(hR 1 rfl).trans f1
    replace f5:=(hR 5 rfl).trans f5
    have e26:a5.eval (.tmp 26)=.bool false:=hP 9 (by decide)
    have f26:=e26
    replace Ax:=Ax.rl hr
    replace Ay:=Ay.rl hr
    replace HB:=HB.trans (hBt.below HB.size (UpOld.all (bx:=[]) trivial))
    clear hBt hr hR hP hX hU
    refine wp_cond_false f26 ?_
    refine wp_skip ?_
    refine block_normal ?_
    refine region4 [some 15,some 16,some 5] [Eqs (.int .i64 (kL:Int)),Eqs (.int .i64 ((kL+1:Nat):Int)),Eqs (.int .i64 ((kL+1:Nat):Int))] [] [(2,0)] (by kernel_rfl) hn rfl (by kernel_rfl) (by kernel_rfl) (by kernel_rfl) (by kernel_rfl) (by kernel_rfl) (by kernel_rfl) ⟨Eqs.mono4 _,Eqs.mono4 _,Eqs.mono4 _,trivial⟩ ok_nil (IsOld.all (bx:=[]) trivial) (DisOld.all (bx:=[]) trivial) ?_ ?_
    · exact ⟨.norm 15 rfl rfl rfl (fun a_ w_ hn_ hBt hr hR hD hO hS=>op_mv ((hS 2 5 rfl rfl).trans f5)),
        .norm 16 rfl rfl rfl (fun a_ w_ hn_ hBt hr hR hD hO hS=>op_inck (show a_.eval (.tmp 15)=.int .i64 (kL:Int) from hD 0 rfl) (by omega)),
        .norm 5 rfl rfl rfl (fun a_ w_ hn_ hBt hr hR hD hO hS=>op_assign (show a_.eval (.tmp 16)=.int .i64 ((kL+1:Nat):Int) from hD 1 rfl)),
        trivial⟩
    intro a6 w6 gs6 hn6 hd6 hBt hr hR hP hX hU
    replace hn:=hn6;replace hd:=hd6.trans hd
    replace f0:=(hR 0 rfl).trans f0
    replace f1:=(hR 1 rfl).trans f1
    have e5:a6.eval (.tmp 5)=.int .i64 ((kL+1:Nat):Int):=hP 2 (by decide)
    have f5:=e5
    replace Ax:=Ax.rl hr
    replace Ay:=Ay.rl hr
    replace HB:=HB.trans (hBt.below HB.size (UpOld.all (bx:=[]) trivial))
    clear hBt hr hR hP hX hU
    exact ⟨nL - 1,by omega,hn,hd,f0,f1,HB,kL+1,by omega,f5⟩
  · skip
    have hlt:=of_decide_eq_false hc14
    refine wp_exit ?_
    repeat (first | refine then_exit ?_ | refine scope_exit ?_ | refine block_pass (by decide) ?_)
    refine block_exit ?_
    refine wp_seq ?_
    refine region4 [some 4] [Eqs ((.bool true))] [] [] (by kernel_rfl) hn rfl (by kernel_rfl) (by kernel_rfl) (by kernel_rfl) (by kernel_rfl) (by kernel_rfl) (by kernel_rfl) ⟨Eqs.mono4 _,trivial⟩ ok_nil (IsOld.all (bx:=[]) trivial) (DisOld.all (bx:=[]) trivial) ?_ ?_
    · exact ⟨.norm 4 rfl rfl rfl (fun a_ w_ hn_ hBt hr hR hD hO hS=>op_assign rfl),
        trivial⟩
    intro a7 w7 gs7 hn7 hd7 hBt hr hR hP hX hU
    replace hn:=hn7;replace hd:=hd7.trans hd
    have e4:a7.eval (.tmp 4)=(.bool true):=hP 0 (by decide)
    have f4:=e4
    replace HB:=HB.trans (hBt.below HB.size (UpOld.all (bx:=[]) trivial))
    clear hBt hr hR hP hX hU
    refine wp_ret ?_
    repeat (first | refine then_ret ?_ | refine scope_ret ?_ | refine block_ret ?_)
    exact bodyPost_ret (v:=.bool true) (res_t rfl f4) hd ⟨rfl,HB⟩
end Lm
end Go.Proofs.YtlfplnjodgfkhabGreatDoor

namespace Go.Proofs.YtlfplnjodgfkhabGreatDoor
namespace Lm
open Go.RowKit
theorem row_cells {w:World} {b off:Nat} {zs:List Int} (hc:∀ i,i<zs.length→w.cell? ⟨b,off+i,none⟩ = some (.int .u32 (zs.getD i 0))):∀ j u,(zs.map (Value.int .u32))[j]? = some u→w.cell? ((⟨b,off,none⟩:Addr).add j)=some u:=by
  intro j u hu
  rw [List.getElem?_map] at hu
  have hj:j<zs.length:=by
    apply Classical.byContradiction
    intro hn
    rw [List.getElem?_eq_none (by omega)] at hu
    cases hu
  rw [List.getElem?_eq_getElem hj] at hu
  have hcj:=hc j hj
  rw [List.getD_eq_getElem?_getD,List.getElem?_eq_getElem hj] at hcj
  rw [show ((⟨b,off,none⟩:Addr).add j)=⟨b,off+j,none⟩ from by simp [Addr.add],hcj]
  exact hu
theorem row_one (zs:List Int):∀ u ∈ zs.map (Value.int .u32),u.oneCell' = true:=by
  intro u hu
  obtain ⟨z,_,rfl⟩:=List.mem_map.1 hu
  rfl
set_option maxRecDepth 20000 in
set_option maxHeartbeats 400000 in
theorem copy_any (w:World) (ao:Option Addr) (n cap:Nat) (xs:List Int) (hx:Sl w (.slice ao n cap) xs) (hl:xs.length≤1000000) :
    Calls Tryz.prog 77 #[.slice ao n cap] w fun e w'=>∃ v,e=.returned v∧Ow w.heap.size w' v xs∧Below w.heap.size w w' := by
  obtain ⟨rfl,h1,h2,h3⟩:=hx.parts
  obtain ⟨i0,hi,hz0,hz1,hz2⟩:=info_parts info32
  by_cases h0:0<xs.length
  · obtain ⟨b,off,rfl,hc⟩:=hx.cells h0
    have hcells:=row_cells hc
    have H3:=hide h3
    clear hc h3 hx
    go_enter Tryz.func77,Tryz.ntmps77
    go_wp2_with (at_builtin;refine wpList_append_own _ rfl (.const (.slice none 0 0)) (.tmp 3) 36 rfl w.heap.size 59 i0 (.int .u32 0) 1 4 Tryz.underlying36 hi hz0 hz1 hz2 rfl (by decide) _ _ _ rfl (World.ownsRow_nil _ _ _ _) ⟨b,off,none⟩ xs.length cap (xs.map (Value.int .u32)) rfl (by simp) hcells (row_one xs) (by unfold maxLen;omega) (by omega) (by simp) ?_)
    intro v' w1 hown hgrow _
    have hb1:Below w.heap.size w w1:=(Below.refl w.heap.size w).grown hgrow (by simp) (by intro k hk;simp [Value.ownBlock] at hk)
    have how:=ow_of_row (zs:=xs) (by simpa using hown) H3.out
    clear hown hgrow
    go_wp2
    go_ret
    exact ⟨_,rfl,how,hb1⟩
  · have e:xs = []:=List.eq_nil_of_length_eq_zero (by omega)
    subst e
    cases ao with
    | none =>
      go_enter Tryz.func77,Tryz.ntmps77
      go_wp2
      go_ret
      exact ⟨_,rfl,⟨none,0,rfl,Nat.le_refl _,by simp [maxLen],limb_nil,.inl rfl⟩,Below.refl _ _⟩
    | some ad =>
      go_enter Tryz.func77,Tryz.ntmps77
      go_wp2
      go_ret
      exact ⟨_,rfl,⟨none,0,rfl,Nat.le_refl _,by simp [maxLen],limb_nil,.inl rfl⟩,Below.refl _ _⟩
end Lm
end Go.Proofs.YtlfplnjodgfkhabGreatDoor

namespace Go.Proofs.YtlfplnjodgfkhabGreatDoor
namespace Lm
open Go Go.RowKit
def OwL (K:Nat) (zs:List Int):Says:=fun v w=>∃ ao cap,v=.slice ao zs.length cap∧Ow K w v zs
theorem OwL.mono5 (K:Nat) (zs:List Int):Mono5 (OwL K zs):=fun _ _ _ hr ⟨ao,cap,e,h⟩=>⟨ao,cap,e,h.ru hr⟩
theorem OwL.mono4 (K:Nat) (zs:List Int):Mono4 (OwL K zs):=fun v w w' hr h=>OwL.mono5 K zs v w w' (Ru.of_rl hr) h
def OwW (K:Nat) (ng:Bool) (zs:List Int):Says:=fun v w=>∃ ao cap,v=.agg #[.bool ng,.slice ao zs.length cap]∧Ow K w (.slice ao zs.length cap) zs
theorem OwW.mono5 (K:Nat) (ng:Bool) (zs:List Int):Mono5 (OwW K ng zs):=fun _ _ _ hr ⟨ao,cap,e,h⟩=>⟨ao,cap,e,h.ru hr⟩
theorem OwW.mono4 (K:Nat) (ng:Bool) (zs:List Int):Mono4 (OwW K ng zs):=fun v w w' hr h=>OwW.mono5 K ng zs v w w' (Ru.of_rl hr) h
theorem OwW.cs {K:Nat} {ng:Bool} {zs:List Int} (v:Value) (w:World) (h:OwW K ng zs v w):∃ cs,W2.Cs v cs:=by
  obtain ⟨ao,cap,rfl,_⟩:=h
  exact ⟨_,_,_,_,_,rfl,rfl⟩
section
variable {dst:Option Tmp} {ty:TypeId} {pos:String} {after:Array Edge} {guard:Option (Nat × Bool)} {a:Act} {w:World} {ats:Array TypeId} {i j:Nat}
theorem has_lcopy0:Has Tryz.prog 77:=by unfold Has;kernel_rfl
theorem op_lcopyO {K:Nat} {ao:Option Addr} {n c:Nat} {zs:List Int} (h:a.eval (.tmp i)=.slice ao n c) (S:Sl w (.slice ao n c) zs) (hl:zs.length≤1000000) (hK:K≤w.heap.size) :
    Does Tryz.prog { dst,op:=.call { callee:=.value (.func 77),args:=#[.tmp i],argTypes:=ats },type:=ty,pos,after,guard } a.eval w fun v w'=>Below w.heap.size w w'∧OwL K zs v w' := by
  refine does_call has_lcopy0 _ (by simp only [List.map_toArray,List.map_cons,List.map_nil,h]) ((copy_any w _ _ _ zs S hl).mono ?_)
  rintro e w' ⟨v,rfl,ho,hb⟩
  refine ⟨_,rfl,hb,?_⟩
  obtain ⟨ao',cap',hv,_⟩:=id ho
  exact ⟨ao',cap',hv,ho.mono hK⟩
theorem op_bWO {K:Nat} {ng:Bool} {zs:List Int} (h1:a.eval (.tmp i)=.bool ng) (h2:OwL K zs (a.eval (.tmp j)) w) :
    Does Tryz.prog { dst,op:=.build 38 #[(0,.tmp i),(1,.tmp j)],type:=ty,pos,after,guard } a.eval w fun v w'=>Below w.heap.size w w'∧OwW K ng zs v w' := by
  obtain ⟨ao,cap,e,ho⟩:=h2
  refine (op_bW2 h1 e).mono ?_
  rintro v w' ⟨hb,e'⟩
  exact ⟨hb,ao,cap,e',by rw [←e];exact ho.below hb⟩
end
set_option maxRecDepth 20000 in
set_option maxHeartbeats 1000000 in
theorem copywO_z (w:World) (nx:Bool) (ax:Option Addr) (mx cx:Nat) (xs:List Int) (Tx:Sl w (.slice ax mx cx) xs) (hl:xs.length≤1000000) :
    Calls Tryz.prog 50 #[.agg #[.bool nx,.slice ax mx cx]] w fun e w'=>∃ v,e=.returned v∧OwW w.heap.size nx xs v w'∧Below w.heap.size w w' := by
  go_enter Tryz.func50,Tryz.ntmps50
  generalize hA:(Act.mk _ _)=aa
  have hn:aa.tmps.size=9:=by rw [←hA];rfl
  have hd:aa.defers = []:=by rw [←hA]
  have f0:aa.eval (.tmp 0)=.agg #[.bool nx,.slice ax mx cx]:=by rw [←hA];rfl
  clear hA
  have HB:Below w.heap.size w w:=Below.refl _ _
  refine wp_seq ?_
  refine region4 [some 1,some 2] [(fun _ _=>True),(fun _ _=>True)] [⟨W2,some 0,0,1,.agg #[.bool nx,.slice ax mx cx],none,[]⟩,⟨W2,some 1,0,2,.agg #[.bool false,.slice none 0 0],none,[]⟩] [] (by kernel_rfl) hn rfl (by kernel_rfl) (by kernel_rfl) (by kernel_rfl) (by kernel_rfl) (by kernel_rfl) (by kernel_rfl) ⟨True.mono4,True.mono4,trivial⟩ (ok_cons W2ok (ok_cons W2ok ok_nil)) (IsOld.all (bx:=[⟨W2,some 0,0,1,.agg #[.bool nx,.slice ax mx cx],none,[]⟩,⟨W2,some 1,0,2,.agg #[.bool false,.slice none 0 0],none,[]⟩]) ⟨someNe,someNe,trivial⟩) (DisOld.all (bx:=[⟨W2,some 0,0,1,.agg #[.bool nx,.slice ax mx cx],none,[]⟩,⟨W2,some 1,0,2,.agg #[.bool false,.slice none 0 0],none,[]⟩]) ⟨someNe,someNe,trivial⟩) ?_ ?_
  · exact ⟨.alloc 0 _ rfl rfl (.inr ⟨_,rfl,w2_cs,fun a_ hR=>(hR 0 rfl).trans f0⟩) rfl rfl rfl rfl rfl,
      .alloc 1 _ rfl rfl (.inl ⟨rfl,rfl⟩) rfl rfl rfl rfl rfl,
      trivial⟩
  intro a1 w1 gs1 hn1 hd1 hBt hr hR hP hX hU
  replace hn:=hn1;replace hd:=hd1.trans hd
  have ne1_2:gs1 0≠gs1 1:=hU 0 1 (by simp) (by simp) (by decide)
  have b1:BoxV W2 w1 (gs1 0) (.agg #[.bool nx,.slice ax mx cx]):=(hX 0 _ rfl).2.2.2
  have f1:=(hX 0 _ rfl).1
  have u1:w.heap.size≤gs1 0:=Nat.le_trans HB.size ((hX 0 _ rfl).2.2.1 (by simp))
  have b2:BoxV W2 w1 (gs1 1) (.agg #[.bool false,.slice none 0 0]):=(hX 1 _ rfl).2.2.2
  have f2:=(hX 1 _ rfl).1
  have u2:w.heap.size≤gs1 1:=Nat.le_trans HB.size ((hX 1 _ rfl).2.2.1 (by simp))
  replace Tx:=Tx.rl hr
  replace HB:=HB.trans (hBt.below HB.size (UpOld.all (bx:=[⟨W2,some 0,0,1,.agg #[.bool nx,.slice ax mx cx],none,[]⟩,⟨W2,some 1,0,2,.agg #[.bool false,.slice none 0 0],none,[]⟩]) ⟨someNe,someNe,trivial⟩))
  clear hBt hr hR hP hX hU
  refine wp_seq ?_
  refine region4 [some 3,some 4,some 5,some 6,some 7,some 8,none] [Eqs (.pointer (some ⟨gs1 0,0,none⟩)),Eqs (.bool nx),Eqs (.pointer (some ⟨gs1 0,1,none⟩)),Eqs (.slice ax mx cx),OwL (w.heap.size) (xs),OwW (w.heap.size) (nx) (xs),(fun _ _=>True)] [⟨W2,none,(gs1 1),2,.agg #[.bool false,.slice none 0 0],some (6,8,5),[]⟩] [] (by kernel_rfl) hn rfl (by kernel_rfl) (by kernel_rfl) (by kernel_rfl) (by kernel_rfl) (by kernel_rfl) (by kernel_rfl) ⟨Eqs.mono4 _,Eqs.mono4 _,Eqs.mono4 _,Eqs.mono4 _,OwL.mono4 _ _,OwW.mono4 _ _ _,True.mono4,trivial⟩ (ok_cons W2ok ok_nil) (IsOld.all (bx:=[⟨W2,none,(gs1 1),2,.agg #[.bool false,.slice none 0 0],some (6,8,5),[]⟩]) ⟨fun _=>⟨f2,b2⟩,trivial⟩) (DisOld.all (bx:=[⟨W2,none,(gs1 1),2,.agg #[.bool false,.slice none 0 0],some (6,8,5),[]⟩]) ⟨fun _=>trivial,trivial⟩) ?_ ?_
  · exact ⟨.norm 3 rfl rfl rfl (fun a_ w_ hn_ hBt hr hR hD hO hS=>op_fa fa_neg ((hR 1 rfl).trans f1)),
      .norm 4 rfl rfl rfl (fun a_ w_ hn_ hBt hr hR hD hO hS=>op_ldneg (show a_.eval (.tmp 3)=.pointer (some ⟨gs1 0,0,none⟩) from hD 0 rfl) (b1.keep hBt ⟨fun _=>ne1_2.symm,trivial⟩)),
      .norm 5 rfl rfl rfl (fun a_ w_ hn_ hBt hr hR hD hO hS=>op_fa fa_mag ((hR 1 rfl).trans f1)),
      .norm 6 rfl rfl rfl (fun a_ w_ hn_ hBt hr hR hD hO hS=>op_ldmag (show a_.eval (.tmp 5)=.pointer (some ⟨gs1 0,1,none⟩) from hD 2 rfl) (b1.keep hBt ⟨fun _=>ne1_2.symm,trivial⟩)),
      .norm 7 rfl rfl rfl (fun a_ w_ hn_ hBt hr hR hD hO hS=>op_lcopyO (show a_.eval (.tmp 6)=.slice ax mx cx from hD 3 rfl) (Tx.rl hr) (by omega) (Nat.le_trans HB.size hr.size)),
      .norm 8 rfl rfl rfl (fun a_ w_ hn_ hBt hr hR hD hO hS=>op_bWO (show a_.eval (.tmp 4)=.bool nx from hD 1 rfl) (show OwL (w.heap.size) (xs) (a_.eval (.tmp 7)) w_ from hD 4 rfl)),
      .store 0 _ _ _ rfl rfl rfl rfl rfl rfl rfl (fun ia h=>by cases h) rfl rfl rfl OwW.cs,
      trivial⟩
  intro a2 w2 gs2 hn2 hd2 hBt hr hR hP hX hU
  replace hn:=hn2;replace hd:=hd2.trans hd
  obtain ⟨a_3,c_3,e8,O3⟩:OwW (w.heap.size) (nx) (xs) (a2.eval (.tmp 8)) w2:=hP 5 (by decide)
  have b2:BoxV W2 w2 ((gs1 1)) (.agg #[.bool nx,.slice a_3 xs.length c_3]):=boxv_old ((hX 0 _ rfl).2.1 rfl) (hX 0 _ rfl).2.2.2 e8
  replace f2:a2.eval (.tmp 2) = _:=(hR 2 rfl).trans f2
  replace Tx:=Tx.rl hr
  replace HB:=HB.trans (hBt.below HB.size (UpOld.all (bx:=[⟨W2,none,(gs1 1),2,.agg #[.bool false,.slice none 0 0],some (6,8,5),[]⟩]) ⟨fun _=>u2,trivial⟩))
  clear hBt hr hR hP hX hU
  refine wp_ret ?_
  repeat (first | refine then_ret ?_ | refine scope_ret ?_ | refine block_ret ?_)
  exact bodyPost_ret (v:=.agg #[.bool nx,.slice a_3 xs.length c_3]) (res_c rfl f2 (lv_W2 b2)) hd ⟨_,rfl,⟨_,_,rfl,O3⟩,HB⟩
section
variable {dst:Option Tmp} {ty:TypeId} {pos:String} {after:Array Edge} {guard:Option (Nat × Bool)} {a:Act} {w:World} {ats:Array TypeId} {i j:Nat}
theorem has_copyw0:Has Tryz.prog 50:=by unfold Has;kernel_rfl
theorem op_copywO {K:Nat} {ng:Bool} {ao:Option Addr} {n c:Nat} {zs:List Int} (h:a.eval (.tmp i)=.agg #[.bool ng,.slice ao n c]) (S:Sl w (.slice ao n c) zs) (hl:zs.length≤1000000) (hK:K≤w.heap.size) :
    Does Tryz.prog { dst,op:=.call { callee:=.value (.func 50),args:=#[.tmp i],argTypes:=ats },type:=ty,pos,after,guard } a.eval w fun v w'=>Below w.heap.size w w'∧OwW K ng zs v w' := by
  refine does_call has_copyw0 _ (by simp only [List.map_toArray,List.map_cons,List.map_nil,h]) ((copywO_z w ng _ _ _ zs S hl).mono ?_)
  rintro e w' ⟨v,rfl,⟨ao',cap',hv,ho⟩,hb⟩
  exact ⟨_,rfl,hb,ao',cap',hv,ho.mono hK⟩
end
end Lm
end Go.Proofs.YtlfplnjodgfkhabGreatDoor

namespace Go.Proofs.YtlfplnjodgfkhabGreatDoor
namespace Lm
open Go Go.RowKit
theorem Ow.grown {B:Nat} {w w' : World} {v:Value} {zs:List Int} {row:Option Nat} {cur:Nat→Array Value} (h:Ow B w v zs) (hg:w.grownBy w' row) (hr:∀ k,row=some k→w.heap[k]? = some (.cells (cur k) 38 (0,0))):Ow B w' v zs:=by
  obtain ⟨ao,cap,rfl,h1,h2,h3,h4⟩:=h
  refine ⟨ao,cap,rfl,h1,h2,h3,?_⟩
  rcases h4 with h4 | ⟨g,off,c,rfl,hB,hh,h5,h6⟩
  · exact .inl h4
  · refine .inr ⟨g,off,c,rfl,hB,(hg.block g (lt_of_heap hh) (fun e=>?_)).trans hh,h5,h6⟩
    have:=hr g e.symm
    rw [hh] at this
    injection this with this
    injection this with _ this
    exact absurd this (by decide)
structure RwO (B:Nat) (w:World) (v:Value) (es:List WE):Prop where
  own:w.ownsRow B 38 2 v es.length (flat es)
  ow:∀ e ∈ es,Ow B w (.slice e.a e.m e.c) e.zs
theorem RwO.below {B:Nat} {w w' : World} {v:Value} {es:List WE} (h:RwO B w v es) (hb:Below w.heap.size w w'):RwO B w' v es :=
  ⟨h.own.kept (row:=none) ⟨hb.os,hb.tape,hb.output,hb.size,fun k hk _=>hb.block k hk⟩ (by cases hv:v.ownBlock <;> simp),fun e he=>(h.ow e he).below hb⟩
theorem RwO.rw {B:Nat} {w:World} {v:Value} {es:List WE} (h:RwO B w v es):Rw w v es:=⟨Cl.own h.own,fun e he=>(h.ow e he).sl⟩
theorem rwo_nil (B:Nat) (w:World):RwO B w (.slice none 0 0) []:=⟨World.ownsRow_nil w B _ 2,fun e he=>by cases he⟩
def One (w:World) (g:Nat) (ng:Bool) (ao:Option Addr) (n c:Nat):Prop:=w.heap[g]? = some (.cells #[.bool ng,.slice ao n c] 38 (0,0))
theorem One.below {w w' : World} {g:Nat} {ng:Bool} {ao:Option Addr} {n c:Nat} (h:One w g ng ao n c) (hb:Below w.heap.size w w'):One w' g ng ao n c:=(hb.block g (lt_of_heap h)).trans h
section
variable {dst:Option Tmp} {ty:TypeId} {pos:String} {after:Array Edge} {guard:Option (Nat × Bool)} {a:Act} {w:World} {ats:Array TypeId} {i j:Nat}
theorem op_bsl {ng:Bool} {ao:Option Addr} {n c:Nat} (h:a.eval (.tmp i)=.agg #[.bool ng,.slice ao n c]) :
    Does Tryz.prog { dst,op:=.buildSlice 22 1 #[(0,.tmp i)],type:=ty,pos,after,guard } a.eval w fun v w'=>v=.slice (some ⟨w.heap.size,0,none⟩) 1 1∧One w' w.heap.size ng ao n c∧Below w.heap.size w w' := by
  refine does_buildSlice (v:=.slice (some ⟨w.heap.size,0,none⟩) 1 1) (w' := w.alloc (.cells #[.bool ng,.slice ao n c] 38)) ?_ ⟨rfl,heap_alloc_new _ _,(Below.refl _ _).alloc (Nat.le_refl _) _⟩
  simp only [List.map_toArray,List.map_cons,List.map_nil,h]
  go_simp
theorem infoW:(Tryz.prog.info? 38).map (fun i=>(i.zero,i.size,i.bytes))=some (some (.agg #[.bool false,.slice none 0 0]),2,32):=by kernel_rfl
theorem op_appr {B g:Nat} {v:Value} {es:List WE} {ng:Bool} {ao:Option Addr} {n c:Nat} {zs:List Int} (h1:a.eval (.tmp i)=v) (h2:a.eval (.tmp j)=.slice (some ⟨g,0,none⟩) 1 1) (R:RwO B w v es) (O:One w g ng ao n c) (S:Ow B w (.slice ao n c) zs) (hn:es.length≤1000000) (hB:B≤w.heap.size) :
    Does Tryz.prog { dst,op:=.call { callee:=.builtin .append,args:=#[.tmp i,.tmp j],argTypes:=#[22,22] },type:=ty,pos,after,guard } a.eval w fun v' w'=>RwO B w' v' (es ++ [⟨ng,ao,n,c,zs⟩])∧Below B w w' := by
  obtain ⟨i0,hi,hz0,hz1,hz2⟩:=info_parts infoW
  have hfl:flat (es ++ [⟨ng,ao,n,c,zs⟩])=flat es ++ [.bool ng,.slice ao n c]:=by rw [flat_append];rfl
  obtain ⟨v',w',hr,ho,hgr,_⟩:=run_append_own (P:=Tryz.prog) w B 22 ty 38 i0 _ 2 32 Tryz.underlying22 hi hz0 hz1 hz2 rfl (by decide) v es.length (flat es) R.own ⟨g,0,none⟩ 1 1 [.bool ng,.slice ao n c] rfl (fun k u hu=>by
    have hc:∀ k,w.cell? ⟨g,k,none⟩ = #[Value.bool ng,.slice ao n c][k]? := fun k=>cell_of_row w g k _ _ (0,0) O
    have ha:(⟨g,0,none⟩:Addr).add k=⟨g,k,none⟩:=by unfold Addr.add;split <;> simp_all
    rw [ha,hc]
    simpa using hu) (by simp [Value.oneCell']) (by simp [maxLen];omega) (by omega) hB
  have e:(execOp a.eval { dst,op:=.call { callee:=.builtin .append,args:=#[.tmp i,.tmp j],argTypes:=#[22,22] },type:=ty,pos,after,guard }).run Tryz.prog w=.ok (.value v') w' := by
    simp only [execOp,resolve,invoke,builtin,Sem.run_bind,Sem.run_pure,Result.andThen_ok,List.map_toArray,List.map_cons,List.map_nil,h1,h2,hr]
  refine ⟨?_⟩
  unfold Turns
  rw [e]
  have hrow:∃ cur:Nat→Array Value,∀ k,v.ownBlock=some k→w.heap[k]? = some (.cells (cur k) 38 (0,0)):=by
    rcases R.own.2 with ⟨rfl,_⟩ | ⟨g',cap,cur,rfl,_,hh,_⟩
    · exact ⟨fun _=>#[],fun k hk=>by simp [Value.ownBlock] at hk⟩
    · refine ⟨fun _=>cur,fun k hk=>?_⟩
      simp only [Value.ownBlock,Option.some.injEq] at hk
      subst hk
      exact hh
  obtain ⟨cur,hcur⟩:=hrow
  refine ⟨⟨by rw [hfl,List.length_append];exact ho,fun e he=>?_⟩,⟨hgr.os,hgr.tape,hgr.output,hgr.size,fun k hk=>hgr.block k (by omega) (fun e=>?_)⟩⟩
  · rcases List.mem_append.1 he with he | he
    · exact (R.ow e he).grown hgr hcur
    · obtain rfl:=List.mem_singleton.1 he
      exact S.grown hgr hcur
  · have:=R.own.lt k e.symm
    omega
end
theorem sameR_snoc {es xs:List WE} {k:Nat} {e f:WE} (h:SameR es (xs.take k)) (he:xs[k]? = some e) (hf:f.raw=e.raw):SameR (es ++ [f]) (xs.take (k+1)):=by
  unfold SameR at *
  rw [List.take_add_one,he,List.map_append,List.map_append,h]
  simp [hf]
set_option maxRecDepth 20000 in
set_option maxHeartbeats 1000000 in
theorem copyrow_z (w:World) (ax:Option Addr) (mx cx:Nat) (xs:List WE) (Rx0:Rw w (.slice ax mx cx) xs) (hl:lenW xs≤100000) :
    Calls Tryz.prog 24 #[.slice ax mx cx] w fun e w'=>∃ v es,e=.returned v∧RwO w.heap.size w' v es∧SameR es xs∧Below w.heap.size w w' := by
  go_enter Tryz.func24,Tryz.ntmps24
  generalize hA:(Act.mk _ _)=aa
  have hn:aa.tmps.size=20:=by rw [←hA];rfl
  have hd:aa.defers = []:=by rw [←hA]
  have f0:aa.eval (.tmp 0)=.slice ax mx cx:=by rw [←hA];rfl
  clear hA
  have HB:Below w.heap.size w w:=Below.refl _ _
  have px:=Rx0.parts
  refine wp_seq ?_
  refine region4 [some 2] [Eqs ((.slice none 0 0))] [] [] (by kernel_rfl) hn rfl (by kernel_rfl) (by kernel_rfl) (by kernel_rfl) (by kernel_rfl) (by kernel_rfl) (by kernel_rfl) ⟨Eqs.mono4 _,trivial⟩ ok_nil (IsOld.all (bx:=[]) trivial) (DisOld.all (bx:=[]) trivial) ?_ ?_
  · exact ⟨.norm 2 rfl rfl rfl (fun a_ w_ hn_ hBt hr hR hD hO hS=>op_assign rfl),
      trivial⟩
  intro a1 w1 gs1 hn1 hd1 hBt hr hR hP hX hU
  replace hn:=hn1;replace hd:=hd1.trans hd
  replace f0:=(hR 0 rfl).trans f0
  have e2:a1.eval (.tmp 2)=(.slice none 0 0):=hP 0 (by decide)
  have f2:=e2
  replace HB:=HB.trans (hBt.below HB.size (UpOld.all (bx:=[]) trivial))
  clear hBt hr hR hP hX hU
  refine wp_seq ?_
  refine region4 [some 3] [Eqs ((.slice none 0 0))] [] [] (by kernel_rfl) hn rfl (by kernel_rfl) (by kernel_rfl) (by kernel_rfl) (by kernel_rfl) (by kernel_rfl) (by kernel_rfl) ⟨Eqs.mono4 _,trivial⟩ ok_nil (IsOld.all (bx:=[]) trivial) (DisOld.all (bx:=[]) trivial) ?_ ?_
  · exact ⟨.norm 3 rfl rfl rfl (fun a_ w_ hn_ hBt hr hR hD hO hS=>op_assign rfl),
      trivial⟩
  intro a2 w2 gs2 hn2 hd2 hBt hr hR hP hX hU
  replace hn:=hn2;replace hd:=hd2.trans hd
  replace f0:=(hR 0 rfl).trans f0
  replace f2:=(hR 2 rfl).trans f2
  have e3:a2.eval (.tmp 3)=(.slice none 0 0):=hP 0 (by decide)
  have f3:=e3
  replace HB:=HB.trans (hBt.below HB.size (UpOld.all (bx:=[]) trivial))
  clear hBt hr hR hP hX hU
  refine wp_seq ?_
  refine wp_seq ?_
  refine region4 [some 4] [Eqs ((.int .i64 0))] [] [] (by kernel_rfl) hn rfl (by kernel_rfl) (by kernel_rfl) (by kernel_rfl) (by kernel_rfl) (by kernel_rfl) (by kernel_rfl) ⟨Eqs.mono4 _,trivial⟩ ok_nil (IsOld.all (bx:=[]) trivial) (DisOld.all (bx:=[]) trivial) ?_ ?_
  · exact ⟨.norm 4 rfl rfl rfl (fun a_ w_ hn_ hBt hr hR hD hO hS=>op_assign rfl),
      trivial⟩
  intro a3 w3 gs3 hn3 hd3 hBt hr hR hP hX hU
  replace hn:=hn3;replace hd:=hd3.trans hd
  replace f0:=(hR 0 rfl).trans f0
  replace f2:=(hR 2 rfl).trans f2
  replace f3:=(hR 3 rfl).trans f3
  have e4:a3.eval (.tmp 4)=(.int .i64 0):=hP 0 (by decide)
  have f4:=e4
  replace HB:=HB.trans (hBt.below HB.size (UpOld.all (bx:=[]) trivial))
  clear hBt hr hR hP hX hU
  refine wp_block ?_
  refine wp_loop_ghost (fun n a w'=>a.tmps.size=20∧a.defers = []∧a.eval (.tmp 0)=.slice ax mx cx∧Below w.heap.size w w'∧∃ (k:Nat) (v:Value) (es:List WE),k+n=xs.length∧a.eval (.tmp 4)=.int .i64 (k:Int)∧a.eval (.tmp 3)=v∧RwO w.heap.size w' v es∧SameR es (xs.take k)) xs.length ⟨hn,hd,f0,HB,0,_,[],by omega,f4,f3,rwo_nil _ _,rfl⟩ ?_
  clear hn hd HB f0 f2 f3 f4
  rintro nL aL wL ⟨hn,hd,f0,HB,kL,vL,es,hk,f4,f3,RO,hS⟩
  have hkl:es.length=kL:=by have h_:=hS.len;rw [List.length_take] at h_;omega
  refine wp_seq ?_
  refine wp_seq ?_
  refine region4 [some 5,some 6,some 7,some 8] [Eqs (.int .i64 (kL:Int)),Eqs (.slice ax mx cx),Eqs (.int .i64 (mx:Int)),Eqs (.bool (decide ((kL:Int)<(mx:Int))))] [] [] (by kernel_rfl) hn rfl (by kernel_rfl) (by kernel_rfl) (by kernel_rfl) (by kernel_rfl) (by kernel_rfl) (by kernel_rfl) ⟨Eqs.mono4 _,Eqs.mono4 _,Eqs.mono4 _,Eqs.mono4 _,trivial⟩ ok_nil (IsOld.all (bx:=[]) trivial) (DisOld.all (bx:=[]) trivial) ?_ ?_
  · exact ⟨.norm 5 rfl rfl rfl (fun a_ w_ hn_ hBt hr hR hD hO hS=>op_mv ((hR 4 rfl).trans f4)),
      .norm 6 rfl rfl rfl (fun a_ w_ hn_ hBt hr hR hD hO hS=>op_mv ((hR 0 rfl).trans f0)),
      .norm 7 rfl rfl rfl (fun a_ w_ hn_ hBt hr hR hD hO hS=>op_lenr (show a_.eval (.tmp 6)=.slice ax mx cx from hD 1 rfl)),
      .norm 8 rfl rfl rfl (fun a_ w_ hn_ hBt hr hR hD hO hS=>op_lssr (show a_.eval (.tmp 5)=.int .i64 (kL:Int) from hD 0 rfl) (show a_.eval (.tmp 7)=.int .i64 (mx:Int) from hD 2 rfl)),
      trivial⟩
  intro a4 w4 gs4 hn4 hd4 hBt hr hR hP hX hU
  replace hn:=hn4;replace hd:=hd4.trans hd
  replace f0:=(hR 0 rfl).trans f0
  replace f3:=(hR 3 rfl).trans f3
  replace f4:=(hR 4 rfl).trans f4
  have e8:a4.eval (.tmp 8)=.bool (decide ((kL:Int)<(mx:Int))):=hP 3 (by decide)
  have f8:=e8
  replace HB:=HB.trans (hBt.below HB.size (UpOld.all (bx:=[]) trivial))
  have hBl_:=hBt.below (Nat.le_refl _) (UpOld.all (bx:=[]) trivial)
  replace RO:=RO.below hBl_
  clear hBt hr hR hP hX hU
  refine wp_cond_split f8 (fun hc8=>?_) (fun hc8=>?_)
  · skip
    have hlt:=of_decide_eq_true hc8
    obtain ⟨bx_,ox_,hax,_,_⟩:=Rx0.cells (by omega)
    obtain ⟨ex,hex⟩:∃ e,xs[kL]? = some e:=⟨_,List.getElem?_eq_getElem (by omega)⟩
    have Ax0:=Rx0.ag (List.mem_of_getElem? hex)
    have Ax:=Ax0.below HB
    have lx:=Ax.sl.parts.1
    have hem:=lenW_mem (List.mem_of_getElem? hex)
    have hln:=lenW_length xs
    refine wp_skip ?_
    refine wp_seq ?_
    refine wp_block ?_
    refine wp_of_good (by kernel_rfl) (by kernel_rfl) (fun w_0 hb_0=>?_)
    replace RO:=RO.below hb_0
    replace Ax:=Ax.below hb_0
    replace HB:=HB.trans (hb_0.mono HB.size);clear hb_0
    refine good6 0 6 (some 6) [some 11,some 12,some 13,some 14,some 15,some 16,some 17,some 18,some 3] [Eqs (vL),Eqs (.slice ax mx cx),Eqs (.int .i64 (kL:Int)),Eqs (.pointer (some ⟨bx_,ox_+kL*2,none⟩)),Eqs (.agg #[.bool ex.ng,.slice ex.a ex.m ex.c]),OwW (w.heap.size) (ex.ng) (ex.zs),(fun _ _=>True),(fun _ _=>True),(fun _ _=>True)] [] [] [] [] [(8,0)] (by kernel_rfl) hn rfl (by kernel_rfl) (by kernel_rfl) (by kernel_rfl) (by kernel_rfl) (by kernel_rfl) (by kernel_rfl) (by kernel_rfl) (by kernel_rfl) (by kernel_rfl) (by decide) ⟨Eqs.mono5 _,Eqs.mono5 _,Eqs.mono5 _,Eqs.mono5 _,Eqs.mono5 _,OwW.mono5 _ _ _,True.mono5,True.mono5,True.mono5,trivial⟩ trivial xok_nil ok_nil (IsOld.all (bx:=[]) trivial) (DisOld.all (bx:=[]) trivial) trivial ?_ ?_ ?_
    · exact ⟨.inr (.norm 11 rfl rfl (nxt rfl) rfl (fun a_ w_ hn_ hBt hr hR hD hO hS=>d6 rfl (op_mv ((hS 8 3 rfl rfl).trans f3)))),
        .inr (.norm 12 rfl rfl (nxt rfl) rfl (fun a_ w_ hn_ hBt hr hR hD hO hS=>d6 rfl (op_mv ((hR 0 rfl).trans f0)))),
        .inr (.norm 13 rfl rfl (nxt rfl) rfl (fun a_ w_ hn_ hBt hr hR hD hO hS=>d6 rfl (op_mv ((hR 4 rfl).trans f4)))),
        .inr (.norm 14 rfl rfl (nxt rfl) rfl (fun a_ w_ hn_ hBt hr hR hD hO hS=>d6 rfl (op_idxr (show a_.eval (.tmp 12)=.slice ax mx cx from hD 1 rfl) hax (show a_.eval (.tmp 13)=.int .i64 (kL:Int) from hD 2 rfl) (by omega)))),
        .inr (.norm 15 rfl rfl (nxt rfl) rfl (fun a_ w_ hn_ hBt hr hR hD hO hS=>d6 rfl (op_ldr (show a_.eval (.tmp 14)=.pointer (some ⟨bx_,ox_+kL*2,none⟩) from hD 3 rfl) hax (Rx0.below (HB.trans (hBt.below HB.size (UpOld.all (bx:=[]) trivial) (UpX.all (bx:=[]) trivial)))) hex))),
        .inr (.norm 16 rfl rfl (nxt rfl) rfl (fun a_ w_ hn_ hBt hr hR hD hO hS=>d6 rfl (op_copywO (show a_.eval (.tmp 15)=.agg #[.bool ex.ng,.slice ex.a ex.m ex.c] from hD 4 rfl) (Ax.ru hr).sl (by omega) (Nat.le_trans HB.size hr.size)))),
        .inl rfl,
        .inl rfl,
        .inl rfl,
        trivial⟩
    rotate_left
    · exact fun h=>by cases h
    intro t_ o_ ht_ ho_ a5 w5 gs5 B5 T5 F_
    obtain rfl:=Option.some.inj ht_;obtain rfl:=Option.some.inj ho_;clear ht_ ho_
    obtain ⟨hn5,hd5,hBt,hr,hR,hP,hTs,hLi,hX,hU,hRel,hSl⟩:=F_
    replace hn:=hn5;replace hd:=hd5.trans hd
    replace f0:=(hR 0 rfl).trans f0
    replace f3:=(hSl 8 3 (by decide) rfl).trans f3
    replace f4:=(hR 4 rfl).trans f4
    have e11:a5.eval (.tmp 11)=vL:=hP 0 (by decide)
    have f11:=e11
    obtain ⟨a_C,c_C,e16,OC⟩:OwW (w.heap.size) (ex.ng) (ex.zs) (a5.eval (.tmp 16)) w5:=hP 5 (by decide)
    have f16:=e16
    have hBl_:=hBt.below (Nat.le_refl _) (UpOld.all (bx:=[]) trivial) (UpX.all (bx:=[]) trivial)
    replace RO:=RO.below hBl_
    replace Ax:=Ax.ru hr
    replace HB:=HB.trans (hBt.below HB.size (UpOld.all (bx:=[]) trivial) (UpX.all (bx:=[]) trivial))
    clear hBt hr hR hP hTs hLi hX hU hRel hSl
    refine ⟨trivial,(op_bsl f16).mono ?_⟩
    rintro v_ w7 ⟨rfl,ON,hbN⟩
    obtain ⟨gN,hgN⟩:∃ g,g=w5.heap.size:=⟨_,rfl⟩
    rw [←hgN] at ON ⊢
    replace RO:=RO.below hbN
    replace Ax:=Ax.below hbN
    replace OC:=OC.below hbN
    replace HB:=HB.trans (hbN.mono HB.size);clear hbN hgN
    change Good _ _ _ _ _ (Act.put a5 (some 17) (.slice (some ⟨gN,0,none⟩) 1 1)) _
    have q_:17<a5.tmps.size:=by rw [hn];decide
    generalize hA_:Act.put a5 (some 17) (.slice (some ⟨gN,0,none⟩) 1 1)=a8
    replace hn:a8.tmps.size=20:=by rw [←hA_,put_tmps];simp [hn]
    replace hd:a8.defers = []:=by rw [←hA_];exact hd
    replace f0:a8.eval (.tmp 0)=.slice ax mx cx:=by rw [←hA_];exact (eval_put_ne (by decide)).trans f0
    replace f3:a8.eval (.tmp 3)=vL:=by rw [←hA_];exact (eval_put_ne (by decide)).trans f3
    replace f4:a8.eval (.tmp 4)=.int .i64 (kL:Int):=by rw [←hA_];exact (eval_put_ne (by decide)).trans f4
    replace f11:a8.eval (.tmp 11)=vL:=by rw [←hA_];exact (eval_put_ne (by decide)).trans f11
    replace f16:a8.eval (.tmp 16)=.agg #[.bool ex.ng,.slice a_C ex.zs.length c_C]:=by rw [←hA_];exact (eval_put_ne (by decide)).trans f16
    have f17:a8.eval (.tmp 17)=.slice (some ⟨gN,0,none⟩) 1 1:=by rw [←hA_];exact eval_put_same q_
    clear q_
    clear hA_
    refine good6 7 7 (some 7) [some 11,some 12,some 13,some 14,some 15,some 16,some 17,some 18,some 3] [Eqs (vL),(fun _ _=>True),(fun _ _=>True),(fun _ _=>True),(fun _ _=>True),(fun _ _=>True),Eqs (.slice (some ⟨gN,0,none⟩) 1 1),(fun _ _=>True),(fun _ _=>True)] [] [] [] [] [] (by kernel_rfl) hn rfl (by kernel_rfl) (by kernel_rfl) (by kernel_rfl) (by kernel_rfl) (by kernel_rfl) (by kernel_rfl) (by kernel_rfl) (by kernel_rfl) (by kernel_rfl) (by decide) ⟨Eqs.mono5 _,True.mono5,True.mono5,True.mono5,True.mono5,True.mono5,Eqs.mono5 _,True.mono5,True.mono5,trivial⟩ trivial xok_nil ok_nil (IsOld.all (bx:=[]) trivial) (DisOld.all (bx:=[]) trivial) ⟨⟨⟨⟨⟨⟨⟨trivial,f11⟩,trivial⟩,trivial⟩,trivial⟩,trivial⟩,trivial⟩,f17⟩ ?_ ?_ ?_
    · exact ⟨.inl rfl,
        .inl rfl,
        .inl rfl,
        .inl rfl,
        .inl rfl,
        .inl rfl,
        .inl rfl,
        .inl rfl,
        .inl rfl,
        trivial⟩
    rotate_left
    · exact fun h=>by cases h
    intro t_ o_ ht_ ho_ a9 w9 gs9 B9 T9 F_
    obtain rfl:=Option.some.inj ht_;obtain rfl:=Option.some.inj ho_;clear ht_ ho_
    obtain ⟨hn9,hd9,hBt,hr,hR,hP,hTs,hLi,hX,hU,hRel,hSl⟩:=F_
    replace hn:=hn9;replace hd:=hd9.trans hd
    replace f0:=(hR 0 rfl).trans f0
    replace f3:=(hSl 8 3 (by decide) rfl).trans f3
    replace f4:=(hR 4 rfl).trans f4
    have e11:a9.eval (.tmp 11)=vL:=hP 0 (by decide)
    have f11:=e11
    have e17:a9.eval (.tmp 17)=.slice (some ⟨gN,0,none⟩) 1 1:=hP 6 (by decide)
    have f17:=e17
    have hBl_:=hBt.below (Nat.le_refl _) (UpOld.all (bx:=[]) trivial) (UpX.all (bx:=[]) trivial)
    replace RO:=RO.below hBl_
    replace Ax:=Ax.ru hr
    replace OC:=OC.ru hr
    replace ON:=ON.below hBl_
    replace HB:=HB.trans (hBt.below HB.size (UpOld.all (bx:=[]) trivial) (UpX.all (bx:=[]) trivial))
    clear hBt hr hR hP hTs hLi hX hU hRel hSl
    refine ⟨trivial,(op_appr f11 f17 RO ON OC (by omega) HB.size).mono ?_⟩
    rintro v_ w10 ⟨RO_,hbN⟩
    replace HB:=HB.trans hbN;replace RO:=RO_;clear hbN RO_ ON OC Ax
    replace hS:=sameR_snoc hS hex (f:=⟨ex.ng,a_C,ex.zs.length,c_C,ex.zs⟩) rfl
    change Good _ _ _ _ _ (Act.put a9 (some 18) (v_)) _
    have q_:18<a9.tmps.size:=by rw [hn];decide
    generalize hA_:Act.put a9 (some 18) (v_)=a11
    replace hn:a11.tmps.size=20:=by rw [←hA_,put_tmps];simp [hn]
    replace hd:a11.defers = []:=by rw [←hA_];exact hd
    replace f0:a11.eval (.tmp 0)=.slice ax mx cx:=by rw [←hA_];exact (eval_put_ne (by decide)).trans f0
    replace f3:a11.eval (.tmp 3)=vL:=by rw [←hA_];exact (eval_put_ne (by decide)).trans f3
    replace f4:a11.eval (.tmp 4)=.int .i64 (kL:Int):=by rw [←hA_];exact (eval_put_ne (by decide)).trans f4
    replace f11:a11.eval (.tmp 11)=vL:=by rw [←hA_];exact (eval_put_ne (by decide)).trans f11
    replace f17:a11.eval (.tmp 17)=.slice (some ⟨gN,0,none⟩) 1 1:=by rw [←hA_];exact (eval_put_ne (by decide)).trans f17
    have f18:a11.eval (.tmp 18)=v_:=by rw [←hA_];exact eval_put_same q_
    clear q_
    clear hA_
    refine good6 8 9 none [some 11,some 12,some 13,some 14,some 15,some 16,some 17,some 18,some 3] [Eqs (vL),(fun _ _=>True),(fun _ _=>True),(fun _ _=>True),(fun _ _=>True),(fun _ _=>True),Eqs (.slice (some ⟨gN,0,none⟩) 1 1),Eqs (v_),Eqs (v_)] [] [] [] [] [] (by kernel_rfl) hn rfl (by kernel_rfl) (by kernel_rfl) (by kernel_rfl) (by kernel_rfl) (by kernel_rfl) (by kernel_rfl) (by kernel_rfl) (by kernel_rfl) (by kernel_rfl) (by decide) ⟨Eqs.mono5 _,True.mono5,True.mono5,True.mono5,True.mono5,True.mono5,Eqs.mono5 _,Eqs.mono5 _,Eqs.mono5 _,trivial⟩ trivial xok_nil ok_nil (IsOld.all (bx:=[]) trivial) (DisOld.all (bx:=[]) trivial) ⟨⟨⟨⟨⟨⟨⟨⟨trivial,f11⟩,trivial⟩,trivial⟩,trivial⟩,trivial⟩,trivial⟩,f17⟩,f18⟩ ?_ ?_ ?_
    · exact ⟨.inl rfl,
        .inl rfl,
        .inl rfl,
        .inl rfl,
        .inl rfl,
        .inl rfl,
        .inl rfl,
        .inl rfl,
        .inr (.norm 3 rfl rfl (nxt rfl) rfl (fun a_ w_ hn_ hBt hr hR hD hO hS=>d6 rfl (op_assign (show a_.eval (.tmp 18)=v_ from hD 7 rfl)))),
        trivial⟩
    · exact fun _ _ h=>by cases h
    intro _ a12 w12 gs12 B12 T12 F_
    obtain ⟨hn12,hd12,hBt,hr,hR,hP,hTs,hLi,hX,hU,hRel,hSl⟩:=F_
    replace hn:=hn12;replace hd:=hd12.trans hd
    replace f0:=(hR 0 rfl).trans f0
    replace f4:=(hR 4 rfl).trans f4
    have e3:a12.eval (.tmp 3)=v_:=hP 8 (by decide)
    have f3:=e3
    have hBl_:=hBt.below (Nat.le_refl _) (UpOld.all (bx:=[]) trivial) (UpX.all (bx:=[]) trivial)
    replace RO:=RO.below hBl_
    replace HB:=HB.trans (hBt.below HB.size (UpOld.all (bx:=[]) trivial) (UpX.all (bx:=[]) trivial))
    clear hBt hr hR hP hTs hLi hX hU hRel hSl
    refine block_normal ?_
    refine region4 [some 9,some 10,some 4] [Eqs (.int .i64 (kL:Int)),Eqs (.int .i64 ((kL+1:Nat):Int)),Eqs (.int .i64 ((kL+1:Nat):Int))] [] [(2,0)] (by kernel_rfl) hn rfl (by kernel_rfl) (by kernel_rfl) (by kernel_rfl) (by kernel_rfl) (by kernel_rfl) (by kernel_rfl) ⟨Eqs.mono4 _,Eqs.mono4 _,Eqs.mono4 _,trivial⟩ ok_nil (IsOld.all (bx:=[]) trivial) (DisOld.all (bx:=[]) trivial) ?_ ?_
    · exact ⟨.norm 9 rfl rfl rfl (fun a_ w_ hn_ hBt hr hR hD hO hS=>op_mv ((hS 2 4 rfl rfl).trans f4)),
        .norm 10 rfl rfl rfl (fun a_ w_ hn_ hBt hr hR hD hO hS=>op_inck (show a_.eval (.tmp 9)=.int .i64 (kL:Int) from hD 0 rfl) (by omega)),
        .norm 4 rfl rfl rfl (fun a_ w_ hn_ hBt hr hR hD hO hS=>op_assign (show a_.eval (.tmp 10)=.int .i64 ((kL+1:Nat):Int) from hD 1 rfl)),
        trivial⟩
    intro a13 w13 gs13 hn13 hd13 hBt hr hR hP hX hU
    replace hn:=hn13;replace hd:=hd13.trans hd
    replace f0:=(hR 0 rfl).trans f0
    replace f3:=(hR 3 rfl).trans f3
    have e4:a13.eval (.tmp 4)=.int .i64 ((kL+1:Nat):Int):=hP 2 (by decide)
    have f4:=e4
    replace HB:=HB.trans (hBt.below HB.size (UpOld.all (bx:=[]) trivial))
    have hBl_:=hBt.below (Nat.le_refl _) (UpOld.all (bx:=[]) trivial)
    replace RO:=RO.below hBl_
    clear hBt hr hR hP hX hU
    exact ⟨nL - 1,by omega,hn,hd,f0,HB,kL+1,_,_,by omega,f4,f3,RO,hS⟩
  · skip
    have hlt:=of_decide_eq_false hc8
    refine wp_exit ?_
    repeat (first | refine then_exit ?_ | refine scope_exit ?_ | refine block_pass (by decide) ?_)
    refine block_exit ?_
    refine wp_seq ?_
    refine region4 [some 19,some 2] [Eqs (vL),Eqs (vL)] [] [] (by kernel_rfl) hn rfl (by kernel_rfl) (by kernel_rfl) (by kernel_rfl) (by kernel_rfl) (by kernel_rfl) (by kernel_rfl) ⟨Eqs.mono4 _,Eqs.mono4 _,trivial⟩ ok_nil (IsOld.all (bx:=[]) trivial) (DisOld.all (bx:=[]) trivial) ?_ ?_
    · exact ⟨.norm 19 rfl rfl rfl (fun a_ w_ hn_ hBt hr hR hD hO hS=>op_mv ((hR 3 rfl).trans f3)),
        .norm 2 rfl rfl rfl (fun a_ w_ hn_ hBt hr hR hD hO hS=>op_assign (show a_.eval (.tmp 19)=vL from hD 0 rfl)),
        trivial⟩
    intro a14 w14 gs14 hn14 hd14 hBt hr hR hP hX hU
    replace hn:=hn14;replace hd:=hd14.trans hd
    have e2:a14.eval (.tmp 2)=vL:=hP 1 (by decide)
    have f2:=e2
    replace HB:=HB.trans (hBt.below HB.size (UpOld.all (bx:=[]) trivial))
    have hBl_:=hBt.below (Nat.le_refl _) (UpOld.all (bx:=[]) trivial)
    replace RO:=RO.below hBl_
    clear hBt hr hR hP hX hU
    refine wp_ret ?_
    repeat (first | refine then_ret ?_ | refine scope_ret ?_ | refine block_ret ?_)
    exact bodyPost_ret (v:=vL) (res_t rfl f2) hd ⟨_,_,rfl,RO,by rw [show kL=xs.length by omega,List.take_length] at hS;exact hS,HB⟩
end Lm
end Go.Proofs.YtlfplnjodgfkhabGreatDoor

namespace Go.Proofs.YtlfplnjodgfkhabGreatDoor
namespace Lm
open Go Go.RowKit
def encL (c:Nat):List UInt8 :=
  if c<128 then [c.toUInt8] else if c<2048 then [(192+c / 64).toUInt8,(128+c % 64).toUInt8]
  else if c<65536 then [(224+c / 4096).toUInt8,(128+c / 64 % 64).toUInt8,(128+c % 64).toUInt8]
  else [(240+c / 262144).toUInt8,(128+c / 4096 % 64).toUInt8,(128+c / 64 % 64).toUInt8,(128+c % 64).toUInt8]
theorem encL_len (c:Nat):(encL c).length=if c<128 then 1 else if c<2048 then 2 else if c<65536 then 3 else 4:=by
  unfold encL;repeat' split
  all_goals simp
def encs:List Nat→List UInt8
  | []=>[]
  | c :: cs=>encL c ++ encs cs
def Cod (c:Nat):Prop:=c≤1114111∧(c<55296∨57343<c)
theorem encL_pos (c:Nat):1≤(encL c).length∧(encL c).length≤4:=by
  rw [encL_len];repeat' split
  all_goals omega
def adv (p:Pl):List Nat→Pl
  | []=>p
  | c :: cs=>adv (p.past c (encL c).length) cs
def glf (p:Pl):List Nat→List Gl
  | []=>[]
  | c :: cs=>⟨c,p⟩ :: glf (p.past c (encL c).length) cs
theorem glf_len (p:Pl) (cs:List Nat):(glf p cs).length=cs.length:=by
  induction cs generalizing p with
  | nil=>rfl
  | cons c cs ih=>simp [glf,ih]
theorem adv_b (p:Pl) (cs:List Nat):(adv p cs).b=p.b+(encs cs).length:=by
  induction cs generalizing p with
  | nil=>simp [adv,encs]
  | cons c cs ih=>simp only [adv,encs,ih,List.length_append,Pl.past];omega
end Lm
end Go.Proofs.YtlfplnjodgfkhabGreatDoor

namespace Go.Proofs.YtlfplnjodgfkhabGreatDoor
namespace Lm
open Go Go.RowKit
theorem res_tt2 {P:Program} {fn:Func} {a:Act} {w:World} {k k' : Nat} {v v' : Value} (hr:fn.results = #[.tmp k,.tmp k']) (hp:a.eval (.tmp k)=v) (hp' : a.eval (.tmp k')=v'):(results fn a.tmps).run P w=.ok (.tuple #[v,v']) w:=by
  rw [←hp,←hp']
  simp [results,hr,go_sem,Act.eval]
end Lm
end Go.Proofs.YtlfplnjodgfkhabGreatDoor

