/-
  The calls on fractions. What the laws on fractions lean on. What a Book holds: the lists that it took, each filled with a mark of its own; what an append to its two rows does to it. The contract of Book's Own. Answers of one call, and of several, that have nothing in common. Whole numbers: Trim, Neg, Add, Sub, Mul; each answer in memory of its own. The contract of Lender's Back. Plain facts on numbers written in digits to the base 10000: what a list of limbs is worth, its form without limbs 0 on top, and that this form is one. No program is named here. What the contracts say of slices of digits in memory: that a slice reads as a list of digits, that a slice lies in memory that the call itself made, and what a store does to it. The contracts of the calls that only read: the reference's cut. The contract of the reference's small: a magnitude times a number, and one added. The contracts of the reference's cutBy, made, FromLimbs. The contract of the reference's Limbs. The contract of the reference's Trim. The contracts of the reference's Sign, Size and Cmp. The contracts of the reference's plus: two magnitudes together. The contract of the reference's less: a magnitude less one that is not above it. The reference's numbers with signs: what a sign and digits are worth; the contract of made. The contract of the reference's Add. The contract of the reference's Minus and Abs.
-/
import Derived.Deep.AppendLies
import Derived.Deep.QuietTactic
import Derived.BigQuiet
import Derived.Test.YtpofkigboedliaaGreatProg
import Derived.WalkKit
import Derived.WalkSpells
import Derived.WalkLawsBesides
import Derived.Deep.RegionWith
import Derived.Deep.RegionHeld3
import Derived.Test.YtpofkigboedliaaGreatRSmLawZ1
namespace Go.Proofs.YtpofkigboedliaaGreat
namespace Lm
open Go Go.RowKit
section
variable {dst:Option Tmp} {ty:TypeId} {pos:String} {after:Array Edge} {guard:Option (Nat × Bool)} {a:Act} {w:World} {ats:Array TypeId} {i j:Nat} {x y:Int} {L L1 L2:Nat}
theorem has_cmp:Has Tryz.prog 38:=by unfold Has;kernel_rfl
theorem op_cmp (hx:IsW x L1 (a.eval (.tmp i)) w) (hy:IsW y L2 (a.eval (.tmp j)) w) (h1:L1≤400000) (h2:L2≤400000) :
  Does Tryz.prog { dst,op:=.call { callee:=.value (.func 38),args:=#[.tmp i,.tmp j],argTypes:=ats },type:=ty,pos,after,guard } a.eval w fun v w'=>Below w.heap.size w w'∧Eqs (.int .i64 (cmpI x y)) v w' := by
 obtain ⟨n1,a1,m1,c1,xs,e1,A1,l1⟩:=hx
 obtain ⟨n2,a2,m2,c2,ys,e2,A2,l2⟩:=hy
 refine does_call has_cmp _ (by simp only [List.map_toArray,List.map_cons,List.map_nil,e1,e2]) ((cmp_z _ _ _ _ _ _ _ A1 _ _ _ _ _ _ A2 (by omega) (by omega) _ rfl).mono ?_)
 rintro e w' ⟨rfl,hb⟩
 exact ⟨_,rfl,hb,rfl⟩
end
set_option maxRecDepth 20000 in
set_option maxHeartbeats 2000000 in
theorem rtrim_z (w:World) (Br:Nat) (nr:Bool) (ar:Option Addr) (mr cr:Nat) (rs:List Int) (pr:Int) (Ar:Ag w nr ar mr cr rs pr) (Lr:rs.length≤Br) (br:Option Addr) (kr dr:Nat) (rt:List Int) (qr:Int) (Sr:Sl w (.slice br kr dr) rt) (Vr:val rt=qr) (Mr:rt.length≤Br) (hL:2*(Br+2)≤100000) :
  Calls Tryz.prog 47 #[.agg #[.bool nr,.slice ar mr cr,.slice br kr dr]] w fun e w'=>∃ v,e=.returned v∧(OutR (nm (tp pr qr) (tq qr)) (dn (tp pr qr) (tq qr)) (2*(Br+2))) v w'∧Below w.heap.size w w' := by
 go_enter Tryz.func47,Tryz.ntmps47
 generalize hA:(Act.mk _ _)=aa
 have hn:aa.tmps.size=8:=by rw [←hA];rfl
 have hd:aa.defers = []:=by rw [←hA]
 have f0:aa.eval (.tmp 0)=.agg #[.bool nr,.slice ar mr cr,.slice br kr dr]:=by rw [←hA];rfl
 clear hA
 have HB:Below w.heap.size w w:=Below.refl _ _
 have Dr:Ag w false br kr dr rt qr:=⟨Sr,Vr⟩
 refine wp_seq ?_
 refine region4 [some 1,some 2] [Tt,Tt] [⟨R3,some 0,0,1,.agg #[.bool nr,.slice ar mr cr,.slice br kr dr],none,[]⟩,⟨R3,some 1,0,2,.agg #[.bool false,.slice none 0 0,.slice none 0 0],none,[]⟩] [] (by kernel_rfl) hn rfl (by kernel_rfl) (by kernel_rfl) (by kernel_rfl) (by kernel_rfl) (by kernel_rfl) (by kernel_rfl) ⟨True.mono4,True.mono4,trivial⟩ (ok_cons R3ok (ok_cons R3ok ok_nil)) (IsOld.all (bx:=[⟨R3,some 0,0,1,.agg #[.bool nr,.slice ar mr cr,.slice br kr dr],none,[]⟩,⟨R3,some 1,0,2,.agg #[.bool false,.slice none 0 0,.slice none 0 0],none,[]⟩]) ⟨someNe,someNe,trivial⟩) (DisOld.all (bx:=[⟨R3,some 0,0,1,.agg #[.bool nr,.slice ar mr cr,.slice br kr dr],none,[]⟩,⟨R3,some 1,0,2,.agg #[.bool false,.slice none 0 0,.slice none 0 0],none,[]⟩]) ⟨someNe,someNe,trivial⟩) ?_ ?_
 ·exact ⟨.alloc 0 _ rfl rfl (.inr ⟨_,rfl,r3_cs,fun a_ hR=>(hR 0 rfl).trans f0⟩) rfl rfl rfl rfl rfl,.alloc 1 _ rfl rfl (.inl ⟨rfl,rfl⟩) rfl rfl rfl rfl rfl,trivial⟩
 ·intro a1 w1 gs1 hn1 hd1 hBt hr hR hP hX hU
  replace hn:=hn1;replace hd:=hd1.trans hd
  have ne1_2:gs1 0≠gs1 1:=hU 0 1 (by simp) (by simp) (by decide)
  have b1:BoxV R3 w1 (gs1 0) (.agg #[.bool nr,.slice ar mr cr,.slice br kr dr]):=(hX 0 _ rfl).2.2.2
  have f1:=(hX 0 _ rfl).1
  have u1:w.heap.size≤gs1 0:=Nat.le_trans HB.size ((hX 0 _ rfl).2.2.1 (by simp))
  have b2:BoxV R3 w1 (gs1 1) (.agg #[.bool false,.slice none 0 0,.slice none 0 0]):=(hX 1 _ rfl).2.2.2
  have f2:=(hX 1 _ rfl).1
  have u2:w.heap.size≤gs1 1:=Nat.le_trans HB.size ((hX 1 _ rfl).2.2.1 (by simp))
  replace Ar:=Ar.rl hr
  replace Sr:=Sr.rl hr
  replace Dr:=Dr.rl hr
  replace HB:=HB.trans (hBt.below HB.size (UpOld.all (bx:=[⟨R3,some 0,0,1,.agg #[.bool nr,.slice ar mr cr,.slice br kr dr],none,[]⟩,⟨R3,some 1,0,2,.agg #[.bool false,.slice none 0 0,.slice none 0 0],none,[]⟩]) ⟨someNe,someNe,trivial⟩))
  clear hBt hr hR hP hX hU
  refine wp_seq ?_
  refine region4 [some 3,some 4,some 5,some 6,some 7,none] [Eqs (.agg #[.bool nr,.slice ar mr cr,.slice br kr dr]),Tup2 (IsW ((tp pr qr)) ((Br)+2)) (IsW ((tq qr)) ((Br)+2)),IsW ((tp pr qr)) ((Br)+2),IsW ((tq qr)) ((Br)+2),OutR ((nm (tp pr qr) (tq qr))) ((dn (tp pr qr) (tq qr))) (((Br)+2)+((Br)+2)),Tt] [⟨R3,none,(gs1 1),2,.agg #[.bool false,.slice none 0 0,.slice none 0 0],some (5,7,4),[]⟩] [] (by kernel_rfl) hn rfl (by kernel_rfl) (by kernel_rfl) (by kernel_rfl) (by kernel_rfl) (by kernel_rfl) (by kernel_rfl) ⟨Eqs.mono4 _,Tup2.mono4 (IsW.mono4 _ _) (IsW.mono4 _ _),IsW.mono4 _ _,IsW.mono4 _ _,OutR.mono4 _ _ _,True.mono4,trivial⟩ (ok_cons R3ok ok_nil) (IsOld.all (bx:=[⟨R3,none,(gs1 1),2,.agg #[.bool false,.slice none 0 0,.slice none 0 0],some (5,7,4),[]⟩]) ⟨fun _=>⟨f2,b2⟩,trivial⟩) (DisOld.all (bx:=[⟨R3,none,(gs1 1),2,.agg #[.bool false,.slice none 0 0,.slice none 0 0],some (5,7,4),[]⟩]) ⟨fun _=>trivial,trivial⟩) ?_ ?_
  ·exact ⟨.norm 3 rfl rfl rfl (fun a_ w_ _ t r R D _ _=>op_loadv R3ok ((R 1 rfl).trans f1) (b1.keep t ⟨fun _=>ne1_2.symm,trivial⟩)),.norm 4 rfl rfl rfl (fun a_ w_ _ t r R D _ _=>op_terms (isr_eq (show a_.eval (.tmp 3)=.agg #[.bool nr,.slice ar mr cr,.slice br kr dr] from D 0 rfl) (Ar.rl r) (Sr.rl r) Vr Lr Mr) (by omega)),.norm 5 rfl rfl rfl (fun a_ w_ _ t r R D _ _=>op_ex20 (show Tup2 (IsW ((tp pr qr)) ((Br)+2)) (IsW ((tq qr)) ((Br)+2)) (a_.eval (.tmp 4)) w_ from D 1 rfl)),.norm 6 rfl rfl rfl (fun a_ w_ _ t r R D _ _=>op_ex21 (show Tup2 (IsW ((tp pr qr)) ((Br)+2)) (IsW ((tq qr)) ((Br)+2)) (a_.eval (.tmp 4)) w_ from D 1 rfl)),.norm 7 rfl rfl rfl (fun a_ w_ _ t r R D _ _=>op_lowest (show IsW ((tp pr qr)) ((Br)+2) (a_.eval (.tmp 5)) w_ from D 2 rfl) (show IsW ((tq qr)) ((Br)+2) (a_.eval (.tmp 6)) w_ from D 3 rfl) (by omega) (tq_ne _)),.store 0 _ _ _ rfl rfl rfl rfl rfl rfl rfl (fun ia h=>by cases h) rfl rfl rfl OutR.cs,trivial⟩
  ·intro a2 w2 gs2 hn2 hd2 hBt hr hR hP hX hU
   replace hn:=hn2;replace hd:=hd2.trans hd
   obtain ⟨n_3,a_3,c_3,r_3,b_3,d_3,s_3,e7,G3,K3,l3,k3⟩:OutR ((nm (tp pr qr) (tq qr))) ((dn (tp pr qr) (tq qr))) (((Br)+2)+((Br)+2)) (a2.eval (.tmp 7)) w2:=hP 4 (by decide)
   have A3:=G3.ag;have S3:=K3.sl;have V3:=K3.val
   have b2:BoxV R3 w2 ((gs1 1)) (.agg #[.bool n_3,.slice a_3 r_3.length c_3,.slice b_3 s_3.length d_3]):=boxv_old ((hX 0 _ rfl).2.1 rfl) (hX 0 _ rfl).2.2.2 e7
   replace f2:a2.eval (.tmp 2) = _:=(hR 2 rfl).trans f2
   replace Ar:=Ar.rl hr
   replace Sr:=Sr.rl hr
   replace Dr:=Dr.rl hr
   replace HB:=HB.trans (hBt.below HB.size (UpOld.all (bx:=[⟨R3,none,(gs1 1),2,.agg #[.bool false,.slice none 0 0,.slice none 0 0],some (5,7,4),[]⟩]) ⟨fun _=>u2,trivial⟩))
   clear hBt hr hR hP hX hU
   refine wp_ret ?_
   repeat (first | refine then_ret ?_ | refine scope_ret ?_ | refine block_ret ?_)
   exact bodyPost_ret (v:=.agg #[.bool n_3,.slice a_3 r_3.length c_3,.slice b_3 s_3.length d_3]) (res_c rfl f2 (lv_R3 b2)) hd ⟨_,rfl,OutR.to (outr_eq rfl G3 K3 l3 k3) rfl rfl (by omega),HB⟩
theorem has_rtrim:Has Tryz.prog 47:=by unfold Has;kernel_rfl
theorem op_rtrim {dst:Option Tmp} {ty:TypeId} {pos:String} {after:Array Edge} {guard:Option (Nat × Bool)} {a:Act} {w:World} {ats:Array TypeId} {i:Nat} {Br:Nat} {pr qr:Int} (Hr:IsR pr qr Br (a.eval (.tmp i)) w) (hL:2*(Br+2)≤100000) :
  Does Tryz.prog { dst,op:=.call { callee:=.value (.func 47),args:=#[.tmp i],argTypes:=ats },type:=ty,pos,after,guard } a.eval w fun v w'=>Below w.heap.size w w'∧(OutR (nm (tp pr qr) (tq qr)) (dn (tp pr qr) (tq qr)) (2*(Br+2))) v w' := by
 obtain ⟨nr,ar,mr,cr,rs,br,kr,dr,rt,er,Ar,Sr,Vr,Lr,Mr⟩:=Hr
 refine does_call has_rtrim _ (by simp only [List.map_toArray,List.map_cons,List.map_nil,er]) ((rtrim_z w Br _ _ _ _ _ _ Ar Lr _ _ _ _ _ Sr Vr Mr hL).mono ?_)
 rintro e w' ⟨v,rfl,h1,hb⟩
 exact ⟨_,rfl,hb,h1⟩
set_option maxRecDepth 20000 in
set_option maxHeartbeats 2000000 in
theorem rof_z (w:World) (Bx:Nat) (nx:Bool) (ax:Option Addr) (mx cx:Nat) (xs:List Int) (zx:Int) (Ax:Ag w nx ax mx cx xs zx) (Lx:xs.length≤Bx) (By:Nat) (ny:Bool) (ay:Option Addr) (my cy:Nat) (ys:List Int) (zy:Int) (Ay:Ag w ny ay my cy ys zy) (Ly:ys.length≤By) (hL:Bx+By≤100000) (hy:zy≠0) :
  Calls Tryz.prog 22 #[.agg #[.bool nx,.slice ax mx cx],.agg #[.bool ny,.slice ay my cy]] w fun e w'=>∃ v,e=.returned v∧(Tup2 (OutR (nm zx zy) (dn zx zy) (Bx+By)) (Eqs (.int .i64 0))) v w'∧Below w.heap.size w w' := by
 go_enter Tryz.func22,Tryz.ntmps22
 generalize hA:(Act.mk _ _)=aa
 have hn:aa.tmps.size=13:=by rw [←hA];rfl
 have hd:aa.defers = []:=by rw [←hA]
 have f0:aa.eval (.tmp 0)=.agg #[.bool nx,.slice ax mx cx]:=by rw [←hA];rfl
 have f1:aa.eval (.tmp 1)=.agg #[.bool ny,.slice ay my cy]:=by rw [←hA];rfl
 clear hA
 have HB:Below w.heap.size w w:=Below.refl _ _
 have Tx:=Ax.sl
 have Ty:=Ay.sl
 refine wp_seq ?_
 refine region4 [some 2,some 3,some 4,some 5] [Tt,Tt,Tt,Eqs ((.int .i64 0))] [⟨W2,some 0,0,2,.agg #[.bool nx,.slice ax mx cx],none,[]⟩,⟨W2,some 1,0,3,.agg #[.bool ny,.slice ay my cy],none,[]⟩,⟨R3,some 2,0,4,.agg #[.bool false,.slice none 0 0,.slice none 0 0],none,[]⟩] [] (by kernel_rfl) hn rfl (by kernel_rfl) (by kernel_rfl) (by kernel_rfl) (by kernel_rfl) (by kernel_rfl) (by kernel_rfl) ⟨True.mono4,True.mono4,True.mono4,Eqs.mono4 _,trivial⟩ (ok_cons W2ok (ok_cons W2ok (ok_cons R3ok ok_nil))) (IsOld.all (bx:=[⟨W2,some 0,0,2,.agg #[.bool nx,.slice ax mx cx],none,[]⟩,⟨W2,some 1,0,3,.agg #[.bool ny,.slice ay my cy],none,[]⟩,⟨R3,some 2,0,4,.agg #[.bool false,.slice none 0 0,.slice none 0 0],none,[]⟩]) ⟨someNe,someNe,someNe,trivial⟩) (DisOld.all (bx:=[⟨W2,some 0,0,2,.agg #[.bool nx,.slice ax mx cx],none,[]⟩,⟨W2,some 1,0,3,.agg #[.bool ny,.slice ay my cy],none,[]⟩,⟨R3,some 2,0,4,.agg #[.bool false,.slice none 0 0,.slice none 0 0],none,[]⟩]) ⟨someNe,someNe,someNe,trivial⟩) ?_ ?_
 ·exact ⟨.alloc 0 _ rfl rfl (.inr ⟨_,rfl,w2_cs,fun a_ hR=>(hR 0 rfl).trans f0⟩) rfl rfl rfl rfl rfl,.alloc 1 _ rfl rfl (.inr ⟨_,rfl,w2_cs,fun a_ hR=>(hR 1 rfl).trans f1⟩) rfl rfl rfl rfl rfl,.alloc 2 _ rfl rfl (.inl ⟨rfl,rfl⟩) rfl rfl rfl rfl rfl,.norm 5 rfl rfl rfl (fun a_ w_ _ t r R D _ _=>op_assign rfl),trivial⟩
 ·intro a1 w1 gs1 hn1 hd1 hBt hr hR hP hX hU
  replace hn:=hn1;replace hd:=hd1.trans hd
  have ne2_4:gs1 0≠gs1 2:=hU 0 2 (by simp) (by simp) (by decide)
  have ne3_4:gs1 1≠gs1 2:=hU 1 2 (by simp) (by simp) (by decide)
  have b2:BoxV W2 w1 (gs1 0) (.agg #[.bool nx,.slice ax mx cx]):=(hX 0 _ rfl).2.2.2
  have f2:=(hX 0 _ rfl).1
  have u2:w.heap.size≤gs1 0:=Nat.le_trans HB.size ((hX 0 _ rfl).2.2.1 (by simp))
  have b3:BoxV W2 w1 (gs1 1) (.agg #[.bool ny,.slice ay my cy]):=(hX 1 _ rfl).2.2.2
  have f3:=(hX 1 _ rfl).1
  have u3:w.heap.size≤gs1 1:=Nat.le_trans HB.size ((hX 1 _ rfl).2.2.1 (by simp))
  have b4:BoxV R3 w1 (gs1 2) (.agg #[.bool false,.slice none 0 0,.slice none 0 0]):=(hX 2 _ rfl).2.2.2
  have f4:=(hX 2 _ rfl).1
  have u4:w.heap.size≤gs1 2:=Nat.le_trans HB.size ((hX 2 _ rfl).2.2.1 (by simp))
  have e5:a1.eval (.tmp 5)=(.int .i64 0):=hP 3 (by decide)
  have f5:=e5
  replace Ax:=Ax.rl hr
  replace Tx:=Tx.rl hr
  replace Ay:=Ay.rl hr
  replace Ty:=Ty.rl hr
  replace HB:=HB.trans (hBt.below HB.size (UpOld.all (bx:=[⟨W2,some 0,0,2,.agg #[.bool nx,.slice ax mx cx],none,[]⟩,⟨W2,some 1,0,3,.agg #[.bool ny,.slice ay my cy],none,[]⟩,⟨R3,some 2,0,4,.agg #[.bool false,.slice none 0 0,.slice none 0 0],none,[]⟩]) ⟨someNe,someNe,someNe,trivial⟩))
  clear hBt hr hR hP hX hU
  refine wp_seq ?_
  refine wp_seq ?_
  refine region4 [some 6,some 7,some 8] [Eqs (.agg #[.bool ny,.slice ay my cy]),Eqs (.int .i64 (Int.sign zy)),Eqs (.bool (decide ((Int.sign zy)=0)))] [] [] (by kernel_rfl) hn rfl (by kernel_rfl) (by kernel_rfl) (by kernel_rfl) (by kernel_rfl) (by kernel_rfl) (by kernel_rfl) ⟨Eqs.mono4 _,Eqs.mono4 _,Eqs.mono4 _,trivial⟩ ok_nil (IsOld.all (bx:=[]) trivial) (DisOld.all (bx:=[]) trivial) ?_ ?_
  ·exact ⟨.norm 6 rfl rfl rfl (fun a_ w_ _ t r R D _ _=>op_loadv W2ok ((R 3 rfl).trans f3) (b3.keep t trivial)),.norm 7 rfl rfl rfl (fun a_ w_ _ t r R D _ _=>op_sign (isw_eq (show a_.eval (.tmp 6)=.agg #[.bool ny,.slice ay my cy] from D 0 rfl) (Ay.rl r) Ly) (by omega)),.norm 8 rfl rfl rfl (fun a_ w_ _ t r R D _ _=>op_eqlk (show a_.eval (.tmp 7)=.int .i64 (Int.sign zy) from D 1 rfl)),trivial⟩
  ·intro a2 w2 gs2 hn2 hd2 hBt hr hR hP hX hU
   replace hn:=hn2;replace hd:=hd2.trans hd
   replace b2:=b2.keep hBt trivial
   replace b3:=b3.keep hBt trivial
   replace b4:=b4.keep hBt trivial
   replace f2:=(hR 2 rfl).trans f2
   replace f3:=(hR 3 rfl).trans f3
   replace f4:=(hR 4 rfl).trans f4
   replace f5:=(hR 5 rfl).trans f5
   have e8:a2.eval (.tmp 8)=.bool (decide ((Int.sign zy)=0)):=hP 2 (by decide)
   have f8:=e8
   replace Ax:=Ax.rl hr
   replace Tx:=Tx.rl hr
   replace Ay:=Ay.rl hr
   replace Ty:=Ty.rl hr
   replace HB:=HB.trans (hBt.below HB.size (UpOld.all (bx:=[]) trivial))
   clear hBt hr hR hP hX hU
   refine wp_cond_split f8 (fun hc8=>?_) (fun hc8=>?_)
   ·skip
    exact absurd (sign_zero_iff.1 (of_decide_eq_true hc8)) hy
   ·skip
    refine wp_skip ?_
    refine wp_seq ?_
    refine region4 [some 10,some 11,some 12,none,some 5] [Eqs (.agg #[.bool nx,.slice ax mx cx]),Eqs (.agg #[.bool ny,.slice ay my cy]),OutR ((nm zx zy)) ((dn zx zy)) ((Bx)+(By)),Tt,Eqs ((.int .i64 0))] [⟨R3,none,(gs1 2),4,.agg #[.bool false,.slice none 0 0,.slice none 0 0],some (3,12,2),[]⟩] [] (by kernel_rfl) hn rfl (by kernel_rfl) (by kernel_rfl) (by kernel_rfl) (by kernel_rfl) (by kernel_rfl) (by kernel_rfl) ⟨Eqs.mono4 _,Eqs.mono4 _,OutR.mono4 _ _ _,True.mono4,Eqs.mono4 _,trivial⟩ (ok_cons R3ok ok_nil) (IsOld.all (bx:=[⟨R3,none,(gs1 2),4,.agg #[.bool false,.slice none 0 0,.slice none 0 0],some (3,12,2),[]⟩]) ⟨fun _=>⟨f4,b4⟩,trivial⟩) (DisOld.all (bx:=[⟨R3,none,(gs1 2),4,.agg #[.bool false,.slice none 0 0,.slice none 0 0],some (3,12,2),[]⟩]) ⟨fun _=>trivial,trivial⟩) ?_ ?_
    ·exact ⟨.norm 10 rfl rfl rfl (fun a_ w_ _ t r R D _ _=>op_loadv W2ok ((R 2 rfl).trans f2) (b2.keep t ⟨fun _=>ne2_4.symm,trivial⟩)),.norm 11 rfl rfl rfl (fun a_ w_ _ t r R D _ _=>op_loadv W2ok ((R 3 rfl).trans f3) (b3.keep t ⟨fun _=>ne3_4.symm,trivial⟩)),.norm 12 rfl rfl rfl (fun a_ w_ _ t r R D _ _=>op_lowest (isw_eq (show a_.eval (.tmp 10)=.agg #[.bool nx,.slice ax mx cx] from D 0 rfl) (Ax.rl r) Lx) (isw_eq (show a_.eval (.tmp 11)=.agg #[.bool ny,.slice ay my cy] from D 1 rfl) (Ay.rl r) Ly) (by omega) hy),.store 0 _ _ _ rfl rfl rfl rfl rfl rfl rfl (fun ia h=>by cases h) rfl rfl rfl OutR.cs,.norm 5 rfl rfl rfl (fun a_ w_ _ t r R D _ _=>op_assign rfl),trivial⟩
    ·intro a3 w3 gs3 hn3 hd3 hBt hr hR hP hX hU
     replace hn:=hn3;replace hd:=hd3.trans hd
     obtain ⟨n_4,a_4,c_4,r_4,b_4,d_4,s_4,e12,G4,K4,l4,k4⟩:OutR ((nm zx zy)) ((dn zx zy)) ((Bx)+(By)) (a3.eval (.tmp 12)) w3:=hP 2 (by decide)
     have A4:=G4.ag;have S4:=K4.sl;have V4:=K4.val
     have b4:BoxV R3 w3 ((gs1 2)) (.agg #[.bool n_4,.slice a_4 r_4.length c_4,.slice b_4 s_4.length d_4]):=boxv_old ((hX 0 _ rfl).2.1 rfl) (hX 0 _ rfl).2.2.2 e12
     replace f4:a3.eval (.tmp 4) = _:=(hR 4 rfl).trans f4
     have e5:a3.eval (.tmp 5)=(.int .i64 0):=hP 4 (by decide)
     have f5:=e5
     replace Ax:=Ax.rl hr
     replace Tx:=Tx.rl hr
     replace Ay:=Ay.rl hr
     replace Ty:=Ty.rl hr
     replace HB:=HB.trans (hBt.below HB.size (UpOld.all (bx:=[⟨R3,none,(gs1 2),4,.agg #[.bool false,.slice none 0 0,.slice none 0 0],some (3,12,2),[]⟩]) ⟨fun _=>u4,trivial⟩))
     clear hBt hr hR hP hX hU
     refine wp_ret ?_
     repeat (first | refine then_ret ?_ | refine scope_ret ?_ | refine block_ret ?_)
     exact bodyPost_ret (v:=.tuple #[.agg #[.bool n_4,.slice a_4 r_4.length c_4,.slice b_4 s_4.length d_4],(.int .i64 0)]) (res_ct rfl f4 (lv_R3 b4) f5) hd ⟨_,rfl,⟨_,_,rfl,OutR.to (outr_eq rfl G4 K4 l4 k4) rfl rfl (by omega),rfl⟩,HB⟩
theorem has_rof:Has Tryz.prog 22:=by unfold Has;kernel_rfl
theorem op_rof {dst:Option Tmp} {ty:TypeId} {pos:String} {after:Array Edge} {guard:Option (Nat × Bool)} {a:Act} {w:World} {ats:Array TypeId} {i j:Nat} {Bx:Nat} {zx:Int} (Hx:IsW zx Bx (a.eval (.tmp i)) w) {By:Nat} {zy:Int} (Hy:IsW zy By (a.eval (.tmp j)) w) (hL:Bx+By≤100000) (hy:zy≠0) :
  Does Tryz.prog { dst,op:=.call { callee:=.value (.func 22),args:=#[.tmp i,.tmp j],argTypes:=ats },type:=ty,pos,after,guard } a.eval w fun v w'=>Below w.heap.size w w'∧(Tup2 (OutR (nm zx zy) (dn zx zy) (Bx+By)) (Eqs (.int .i64 0))) v w' := by
 obtain ⟨nx,ax,mx,cx,xs,ex,Ax,Lx⟩:=Hx
 obtain ⟨ny,ay,my,cy,ys,ey,Ay,Ly⟩:=Hy
 refine does_call has_rof _ (by simp only [List.map_toArray,List.map_cons,List.map_nil,ex,ey]) ((rof_z w Bx _ _ _ _ _ _ Ax Lx By _ _ _ _ _ _ Ay Ly hL hy).mono ?_)
 rintro e w' ⟨v,rfl,h1,hb⟩
 exact ⟨_,rfl,hb,h1⟩
set_option maxRecDepth 20000 in
set_option maxHeartbeats 2000000 in
theorem rof0_z (w:World) (Bx:Nat) (nx:Bool) (ax:Option Addr) (mx cx:Nat) (xs:List Int) (zx:Int) (Ax:Ag w nx ax mx cx xs zx) (Lx:xs.length≤Bx) (By:Nat) (ny:Bool) (ay:Option Addr) (my cy:Nat) (ys:List Int) (zy:Int) (Ay:Ag w ny ay my cy ys zy) (Ly:ys.length≤By) (hL:Bx+By≤100000) (hy:zy=0) :
  Calls Tryz.prog 22 #[.agg #[.bool nx,.slice ax mx cx],.agg #[.bool ny,.slice ay my cy]] w fun e w'=>∃ v,e=.returned v∧(Tup2 (Eqs (.agg #[.bool false,.slice none 0 0,.slice none 0 0])) (Eqs (.int .i64 20))) v w'∧Below w.heap.size w w' := by
 go_enter Tryz.func22,Tryz.ntmps22
 generalize hA:(Act.mk _ _)=aa
 have hn:aa.tmps.size=13:=by rw [←hA];rfl
 have hd:aa.defers = []:=by rw [←hA]
 have f0:aa.eval (.tmp 0)=.agg #[.bool nx,.slice ax mx cx]:=by rw [←hA];rfl
 have f1:aa.eval (.tmp 1)=.agg #[.bool ny,.slice ay my cy]:=by rw [←hA];rfl
 clear hA
 have HB:Below w.heap.size w w:=Below.refl _ _
 have Tx:=Ax.sl
 have Ty:=Ay.sl
 refine wp_seq ?_
 refine region4 [some 2,some 3,some 4,some 5] [Tt,Tt,Tt,Eqs ((.int .i64 0))] [⟨W2,some 0,0,2,.agg #[.bool nx,.slice ax mx cx],none,[]⟩,⟨W2,some 1,0,3,.agg #[.bool ny,.slice ay my cy],none,[]⟩,⟨R3,some 2,0,4,.agg #[.bool false,.slice none 0 0,.slice none 0 0],none,[]⟩] [] (by kernel_rfl) hn rfl (by kernel_rfl) (by kernel_rfl) (by kernel_rfl) (by kernel_rfl) (by kernel_rfl) (by kernel_rfl) ⟨True.mono4,True.mono4,True.mono4,Eqs.mono4 _,trivial⟩ (ok_cons W2ok (ok_cons W2ok (ok_cons R3ok ok_nil))) (IsOld.all (bx:=[⟨W2,some 0,0,2,.agg #[.bool nx,.slice ax mx cx],none,[]⟩,⟨W2,some 1,0,3,.agg #[.bool ny,.slice ay my cy],none,[]⟩,⟨R3,some 2,0,4,.agg #[.bool false,.slice none 0 0,.slice none 0 0],none,[]⟩]) ⟨someNe,someNe,someNe,trivial⟩) (DisOld.all (bx:=[⟨W2,some 0,0,2,.agg #[.bool nx,.slice ax mx cx],none,[]⟩,⟨W2,some 1,0,3,.agg #[.bool ny,.slice ay my cy],none,[]⟩,⟨R3,some 2,0,4,.agg #[.bool false,.slice none 0 0,.slice none 0 0],none,[]⟩]) ⟨someNe,someNe,someNe,trivial⟩) ?_ ?_
 ·exact ⟨.alloc 0 _ rfl rfl (.inr ⟨_,rfl,w2_cs,fun a_ hR=>(hR 0 rfl).trans f0⟩) rfl rfl rfl rfl rfl,.alloc 1 _ rfl rfl (.inr ⟨_,rfl,w2_cs,fun a_ hR=>(hR 1 rfl).trans f1⟩) rfl rfl rfl rfl rfl,.alloc 2 _ rfl rfl (.inl ⟨rfl,rfl⟩) rfl rfl rfl rfl rfl,.norm 5 rfl rfl rfl (fun a_ w_ _ t r R D _ _=>op_assign rfl),trivial⟩
 ·intro a1 w1 gs1 hn1 hd1 hBt hr hR hP hX hU
  replace hn:=hn1;replace hd:=hd1.trans hd
  have ne2_4:gs1 0≠gs1 2:=hU 0 2 (by simp) (by simp) (by decide)
  have ne3_4:gs1 1≠gs1 2:=hU 1 2 (by simp) (by simp) (by decide)
  have b2:BoxV W2 w1 (gs1 0) (.agg #[.bool nx,.slice ax mx cx]):=(hX 0 _ rfl).2.2.2
  have f2:=(hX 0 _ rfl).1
  have u2:w.heap.size≤gs1 0:=Nat.le_trans HB.size ((hX 0 _ rfl).2.2.1 (by simp))
  have b3:BoxV W2 w1 (gs1 1) (.agg #[.bool ny,.slice ay my cy]):=(hX 1 _ rfl).2.2.2
  have f3:=(hX 1 _ rfl).1
  have u3:w.heap.size≤gs1 1:=Nat.le_trans HB.size ((hX 1 _ rfl).2.2.1 (by simp))
  have b4:BoxV R3 w1 (gs1 2) (.agg #[.bool false,.slice none 0 0,.slice none 0 0]):=(hX 2 _ rfl).2.2.2
  have f4:=(hX 2 _ rfl).1
  have u4:w.heap.size≤gs1 2:=Nat.le_trans HB.size ((hX 2 _ rfl).2.2.1 (by simp))
  have e5:a1.eval (.tmp 5)=(.int .i64 0):=hP 3 (by decide)
  have f5:=e5
  replace Ax:=Ax.rl hr
  replace Tx:=Tx.rl hr
  replace Ay:=Ay.rl hr
  replace Ty:=Ty.rl hr
  replace HB:=HB.trans (hBt.below HB.size (UpOld.all (bx:=[⟨W2,some 0,0,2,.agg #[.bool nx,.slice ax mx cx],none,[]⟩,⟨W2,some 1,0,3,.agg #[.bool ny,.slice ay my cy],none,[]⟩,⟨R3,some 2,0,4,.agg #[.bool false,.slice none 0 0,.slice none 0 0],none,[]⟩]) ⟨someNe,someNe,someNe,trivial⟩))
  clear hBt hr hR hP hX hU
  refine wp_seq ?_
  refine wp_seq ?_
  refine region4 [some 6,some 7,some 8] [Eqs (.agg #[.bool ny,.slice ay my cy]),Eqs (.int .i64 (Int.sign zy)),Eqs (.bool (decide ((Int.sign zy)=0)))] [] [] (by kernel_rfl) hn rfl (by kernel_rfl) (by kernel_rfl) (by kernel_rfl) (by kernel_rfl) (by kernel_rfl) (by kernel_rfl) ⟨Eqs.mono4 _,Eqs.mono4 _,Eqs.mono4 _,trivial⟩ ok_nil (IsOld.all (bx:=[]) trivial) (DisOld.all (bx:=[]) trivial) ?_ ?_
  ·exact ⟨.norm 6 rfl rfl rfl (fun a_ w_ _ t r R D _ _=>op_loadv W2ok ((R 3 rfl).trans f3) (b3.keep t trivial)),.norm 7 rfl rfl rfl (fun a_ w_ _ t r R D _ _=>op_sign (isw_eq (show a_.eval (.tmp 6)=.agg #[.bool ny,.slice ay my cy] from D 0 rfl) (Ay.rl r) Ly) (by omega)),.norm 8 rfl rfl rfl (fun a_ w_ _ t r R D _ _=>op_eqlk (show a_.eval (.tmp 7)=.int .i64 (Int.sign zy) from D 1 rfl)),trivial⟩
  ·intro a2 w2 gs2 hn2 hd2 hBt hr hR hP hX hU
   replace hn:=hn2;replace hd:=hd2.trans hd
   replace b2:=b2.keep hBt trivial
   replace b3:=b3.keep hBt trivial
   replace b4:=b4.keep hBt trivial
   replace f2:=(hR 2 rfl).trans f2
   replace f3:=(hR 3 rfl).trans f3
   replace f4:=(hR 4 rfl).trans f4
   replace f5:=(hR 5 rfl).trans f5
   have e8:a2.eval (.tmp 8)=.bool (decide ((Int.sign zy)=0)):=hP 2 (by decide)
   have f8:=e8
   replace Ax:=Ax.rl hr
   replace Tx:=Tx.rl hr
   replace Ay:=Ay.rl hr
   replace Ty:=Ty.rl hr
   replace HB:=HB.trans (hBt.below HB.size (UpOld.all (bx:=[]) trivial))
   clear hBt hr hR hP hX hU
   refine wp_cond_split f8 (fun hc8=>?_) (fun hc8=>?_)
   ·skip
    refine wp_seq ?_
    refine region4 [some 9,none,some 5] [Eqs (.agg #[.bool false,.slice none 0 0,.slice none 0 0]),Tt,Eqs ((.int .i64 20))] [⟨R3,none,(gs1 2),4,.agg #[.bool false,.slice none 0 0,.slice none 0 0],some (1,9,0),[]⟩] [] (by kernel_rfl) hn rfl (by kernel_rfl) (by kernel_rfl) (by kernel_rfl) (by kernel_rfl) (by kernel_rfl) (by kernel_rfl) ⟨Eqs.mono4 _,True.mono4,Eqs.mono4 _,trivial⟩ (ok_cons R3ok ok_nil) (IsOld.all (bx:=[⟨R3,none,(gs1 2),4,.agg #[.bool false,.slice none 0 0,.slice none 0 0],some (1,9,0),[]⟩]) ⟨fun _=>⟨f4,b4⟩,trivial⟩) (DisOld.all (bx:=[⟨R3,none,(gs1 2),4,.agg #[.bool false,.slice none 0 0,.slice none 0 0],some (1,9,0),[]⟩]) ⟨fun _=>trivial,trivial⟩) ?_ ?_
    ·exact ⟨.norm 9 rfl rfl rfl (fun a_ w_ _ t r R D _ _=>op_bR0),.store 0 _ _ _ rfl rfl rfl rfl rfl rfl rfl (fun ia h=>by cases h) rfl rfl rfl (eqs_cs r3_cs),.norm 5 rfl rfl rfl (fun a_ w_ _ t r R D _ _=>op_assign rfl),trivial⟩
    ·intro a3 w3 gs3 hn3 hd3 hBt hr hR hP hX hU
     replace hn:=hn3;replace hd:=hd3.trans hd
     replace b2:=b2.keep hBt ⟨fun _=>ne2_4.symm,trivial⟩
     replace b3:=b3.keep hBt ⟨fun _=>ne3_4.symm,trivial⟩
     have e9:a3.eval (.tmp 9)=.agg #[.bool false,.slice none 0 0,.slice none 0 0]:=hP 0 (by decide)
     have b4:BoxV R3 w3 ((gs1 2)) (.agg #[.bool false,.slice none 0 0,.slice none 0 0]):=boxv_old ((hX 0 _ rfl).2.1 rfl) (hX 0 _ rfl).2.2.2 e9
     replace f4:a3.eval (.tmp 4) = _:=(hR 4 rfl).trans f4
     replace f2:=(hR 2 rfl).trans f2
     replace f3:=(hR 3 rfl).trans f3
     have e5:a3.eval (.tmp 5)=(.int .i64 20):=hP 2 (by decide)
     have f5:=e5
     replace Ax:=Ax.rl hr
     replace Tx:=Tx.rl hr
     replace Ay:=Ay.rl hr
     replace Ty:=Ty.rl hr
     replace HB:=HB.trans (hBt.below HB.size (UpOld.all (bx:=[⟨R3,none,(gs1 2),4,.agg #[.bool false,.slice none 0 0,.slice none 0 0],some (1,9,0),[]⟩]) ⟨fun _=>u4,trivial⟩))
     clear hBt hr hR hP hX hU
     refine wp_ret ?_
     repeat (first | refine then_ret ?_ | refine scope_ret ?_ | refine block_ret ?_)
     exact bodyPost_ret (v:=.tuple #[.agg #[.bool false,.slice none 0 0,.slice none 0 0],(.int .i64 20)]) (res_ct rfl f4 (lv_R3 b4) f5) hd ⟨_,rfl,⟨_,_,rfl,rfl,rfl⟩,HB⟩
   ·skip
    exact absurd (sign_zero_iff.2 hy) (of_decide_eq_false hc8)
theorem has_rof0:Has Tryz.prog 22:=by unfold Has;kernel_rfl
theorem op_rof0 {dst:Option Tmp} {ty:TypeId} {pos:String} {after:Array Edge} {guard:Option (Nat × Bool)} {a:Act} {w:World} {ats:Array TypeId} {i j:Nat} {Bx:Nat} {zx:Int} (Hx:IsW zx Bx (a.eval (.tmp i)) w) {By:Nat} {zy:Int} (Hy:IsW zy By (a.eval (.tmp j)) w) (hL:Bx+By≤100000) (hy:zy=0) :
  Does Tryz.prog { dst,op:=.call { callee:=.value (.func 22),args:=#[.tmp i,.tmp j],argTypes:=ats },type:=ty,pos,after,guard } a.eval w fun v w'=>Below w.heap.size w w'∧(Tup2 (Eqs (.agg #[.bool false,.slice none 0 0,.slice none 0 0])) (Eqs (.int .i64 20))) v w' := by
 obtain ⟨nx,ax,mx,cx,xs,ex,Ax,Lx⟩:=Hx
 obtain ⟨ny,ay,my,cy,ys,ey,Ay,Ly⟩:=Hy
 refine does_call has_rof0 _ (by simp only [List.map_toArray,List.map_cons,List.map_nil,ex,ey]) ((rof0_z w Bx _ _ _ _ _ _ Ax Lx By _ _ _ _ _ _ Ay Ly hL hy).mono ?_)
 rintro e w' ⟨v,rfl,h1,hb⟩
 exact ⟨_,rfl,hb,h1⟩
set_option maxRecDepth 20000 in
set_option maxHeartbeats 2000000 in
theorem rdiv0_z (w:World) (Br:Nat) (nr:Bool) (ar:Option Addr) (mr cr:Nat) (rs:List Int) (pr:Int) (Ar:Ag w nr ar mr cr rs pr) (Lr:rs.length≤Br) (br:Option Addr) (kr dr:Nat) (rt:List Int) (qr:Int) (Sr:Sl w (.slice br kr dr) rt) (Vr:val rt=qr) (Mr:rt.length≤Br) (Bu:Nat) (nu:Bool) (au:Option Addr) (mu cu:Nat) (us:List Int) (pu:Int) (Au:Ag w nu au mu cu us pu) (Lu:us.length≤Bu) (bu:Option Addr) (ku du:Nat) (ut:List Int) (qu:Int) (Su:Sl w (.slice bu ku du) ut) (Vu:val ut=qu) (Mu:ut.length≤Bu) (hL:2*(Br+Bu+4)≤100000) (hu0:tp pu qu=0) :
  Calls Tryz.prog 11 #[.agg #[.bool nr,.slice ar mr cr,.slice br kr dr],.agg #[.bool nu,.slice au mu cu,.slice bu ku du]] w fun e w'=>∃ v,e=.returned v∧(Tup2 (Eqs (.agg #[.bool false,.slice none 0 0,.slice none 0 0])) (Eqs (.int .i64 20))) v w'∧Below w.heap.size w w' := by
 go_enter Tryz.func11,Tryz.ntmps11
 generalize hA:(Act.mk _ _)=aa
 have hn:aa.tmps.size=29:=by rw [←hA];rfl
 have hd:aa.defers = []:=by rw [←hA]
 have f0:aa.eval (.tmp 0)=.agg #[.bool nr,.slice ar mr cr,.slice br kr dr]:=by rw [←hA];rfl
 have f1:aa.eval (.tmp 1)=.agg #[.bool nu,.slice au mu cu,.slice bu ku du]:=by rw [←hA];rfl
 clear hA
 have HB:Below w.heap.size w w:=Below.refl _ _
 have Dr:Ag w false br kr dr rt qr:=⟨Sr,Vr⟩
 have Du:Ag w false bu ku du ut qu:=⟨Su,Vu⟩
 refine wp_seq ?_
 refine region4 [some 2,some 3,some 4,some 5] [Tt,Tt,Tt,Eqs ((.int .i64 0))] [⟨R3,some 0,0,2,.agg #[.bool nr,.slice ar mr cr,.slice br kr dr],none,[]⟩,⟨R3,some 1,0,3,.agg #[.bool nu,.slice au mu cu,.slice bu ku du],none,[]⟩,⟨R3,some 2,0,4,.agg #[.bool false,.slice none 0 0,.slice none 0 0],none,[]⟩] [] (by kernel_rfl) hn rfl (by kernel_rfl) (by kernel_rfl) (by kernel_rfl) (by kernel_rfl) (by kernel_rfl) (by kernel_rfl) ⟨True.mono4,True.mono4,True.mono4,Eqs.mono4 _,trivial⟩ (ok_cons R3ok (ok_cons R3ok (ok_cons R3ok ok_nil))) (IsOld.all (bx:=[⟨R3,some 0,0,2,.agg #[.bool nr,.slice ar mr cr,.slice br kr dr],none,[]⟩,⟨R3,some 1,0,3,.agg #[.bool nu,.slice au mu cu,.slice bu ku du],none,[]⟩,⟨R3,some 2,0,4,.agg #[.bool false,.slice none 0 0,.slice none 0 0],none,[]⟩]) ⟨someNe,someNe,someNe,trivial⟩) (DisOld.all (bx:=[⟨R3,some 0,0,2,.agg #[.bool nr,.slice ar mr cr,.slice br kr dr],none,[]⟩,⟨R3,some 1,0,3,.agg #[.bool nu,.slice au mu cu,.slice bu ku du],none,[]⟩,⟨R3,some 2,0,4,.agg #[.bool false,.slice none 0 0,.slice none 0 0],none,[]⟩]) ⟨someNe,someNe,someNe,trivial⟩) ?_ ?_
 ·exact ⟨.alloc 0 _ rfl rfl (.inr ⟨_,rfl,r3_cs,fun a_ hR=>(hR 0 rfl).trans f0⟩) rfl rfl rfl rfl rfl,.alloc 1 _ rfl rfl (.inr ⟨_,rfl,r3_cs,fun a_ hR=>(hR 1 rfl).trans f1⟩) rfl rfl rfl rfl rfl,.alloc 2 _ rfl rfl (.inl ⟨rfl,rfl⟩) rfl rfl rfl rfl rfl,.norm 5 rfl rfl rfl (fun a_ w_ _ t r R D _ _=>op_assign rfl),trivial⟩
 ·intro a1 w1 gs1 hn1 hd1 hBt hr hR hP hX hU
  replace hn:=hn1;replace hd:=hd1.trans hd
  have ne2_4:gs1 0≠gs1 2:=hU 0 2 (by simp) (by simp) (by decide)
  have ne3_4:gs1 1≠gs1 2:=hU 1 2 (by simp) (by simp) (by decide)
  have b2:BoxV R3 w1 (gs1 0) (.agg #[.bool nr,.slice ar mr cr,.slice br kr dr]):=(hX 0 _ rfl).2.2.2
  have f2:=(hX 0 _ rfl).1
  have u2:w.heap.size≤gs1 0:=Nat.le_trans HB.size ((hX 0 _ rfl).2.2.1 (by simp))
  have b3:BoxV R3 w1 (gs1 1) (.agg #[.bool nu,.slice au mu cu,.slice bu ku du]):=(hX 1 _ rfl).2.2.2
  have f3:=(hX 1 _ rfl).1
  have u3:w.heap.size≤gs1 1:=Nat.le_trans HB.size ((hX 1 _ rfl).2.2.1 (by simp))
  have b4:BoxV R3 w1 (gs1 2) (.agg #[.bool false,.slice none 0 0,.slice none 0 0]):=(hX 2 _ rfl).2.2.2
  have f4:=(hX 2 _ rfl).1
  have u4:w.heap.size≤gs1 2:=Nat.le_trans HB.size ((hX 2 _ rfl).2.2.1 (by simp))
  have e5:a1.eval (.tmp 5)=(.int .i64 0):=hP 3 (by decide)
  have f5:=e5
  replace Ar:=Ar.rl hr
  replace Sr:=Sr.rl hr
  replace Dr:=Dr.rl hr
  replace Au:=Au.rl hr
  replace Su:=Su.rl hr
  replace Du:=Du.rl hr
  replace HB:=HB.trans (hBt.below HB.size (UpOld.all (bx:=[⟨R3,some 0,0,2,.agg #[.bool nr,.slice ar mr cr,.slice br kr dr],none,[]⟩,⟨R3,some 1,0,3,.agg #[.bool nu,.slice au mu cu,.slice bu ku du],none,[]⟩,⟨R3,some 2,0,4,.agg #[.bool false,.slice none 0 0,.slice none 0 0],none,[]⟩]) ⟨someNe,someNe,someNe,trivial⟩))
  clear hBt hr hR hP hX hU
  refine wp_seq ?_
  refine region4 [some 11,some 12,some 10,some 13,some 14,some 6,some 7,none,none] [Eqs (.agg #[.bool nr,.slice ar mr cr,.slice br kr dr]),Tup2 (IsW ((tp pr qr)) ((Br)+2)) (IsW ((tq qr)) ((Br)+2)),Tup2 (IsW ((tp pr qr)) ((Br)+2)) (IsW ((tq qr)) ((Br)+2)),IsW ((tp pr qr)) ((Br)+2),IsW ((tq qr)) ((Br)+2),Tt,Tt,Tt,Tt] [⟨W2,some 5,0,6,.agg #[.bool false,.slice none 0 0],some (7,13,3),[]⟩,⟨W2,some 6,0,7,.agg #[.bool false,.slice none 0 0],some (8,14,4),[]⟩] [] (by kernel_rfl) hn rfl (by kernel_rfl) (by kernel_rfl) (by kernel_rfl) (by kernel_rfl) (by kernel_rfl) (by kernel_rfl) ⟨Eqs.mono4 _,Tup2.mono4 (IsW.mono4 _ _) (IsW.mono4 _ _),Tup2.mono4 (IsW.mono4 _ _) (IsW.mono4 _ _),IsW.mono4 _ _,IsW.mono4 _ _,True.mono4,True.mono4,True.mono4,True.mono4,trivial⟩ (ok_cons W2ok (ok_cons W2ok ok_nil)) (IsOld.all (bx:=[⟨W2,some 5,0,6,.agg #[.bool false,.slice none 0 0],some (7,13,3),[]⟩,⟨W2,some 6,0,7,.agg #[.bool false,.slice none 0 0],some (8,14,4),[]⟩]) ⟨someNe,someNe,trivial⟩) (DisOld.all (bx:=[⟨W2,some 5,0,6,.agg #[.bool false,.slice none 0 0],some (7,13,3),[]⟩,⟨W2,some 6,0,7,.agg #[.bool false,.slice none 0 0],some (8,14,4),[]⟩]) ⟨someNe,someNe,trivial⟩) ?_ ?_
  ·exact ⟨.norm 11 rfl rfl rfl (fun a_ w_ _ t r R D _ _=>op_loadv R3ok ((R 2 rfl).trans f2) (b2.keep t ⟨someNe,someNe,trivial⟩)),.norm 12 rfl rfl rfl (fun a_ w_ _ t r R D _ _=>op_terms (isr_eq (show a_.eval (.tmp 11)=.agg #[.bool nr,.slice ar mr cr,.slice br kr dr] from D 0 rfl) (Ar.rl r) (Sr.rl r) Vr Lr Mr) (by omega)),.norm 10 rfl rfl rfl (fun a_ w_ _ t r R D _ _=>op_mvp (p:=Tup2 (IsW ((tp pr qr)) ((Br)+2)) (IsW ((tq qr)) ((Br)+2))) (show Tup2 (IsW ((tp pr qr)) ((Br)+2)) (IsW ((tq qr)) ((Br)+2)) (a_.eval (.tmp 12)) w_ from D 1 rfl)),.norm 13 rfl rfl rfl (fun a_ w_ _ t r R D _ _=>op_ex20 (show Tup2 (IsW ((tp pr qr)) ((Br)+2)) (IsW ((tq qr)) ((Br)+2)) (a_.eval (.tmp 10)) w_ from D 2 rfl)),.norm 14 rfl rfl rfl (fun a_ w_ _ t r R D _ _=>op_ex21 (show Tup2 (IsW ((tp pr qr)) ((Br)+2)) (IsW ((tq qr)) ((Br)+2)) (a_.eval (.tmp 10)) w_ from D 2 rfl)),.alloc 0 _ rfl rfl (.inl ⟨rfl,rfl⟩) rfl rfl rfl rfl rfl,.alloc 1 _ rfl rfl (.inl ⟨rfl,rfl⟩) rfl rfl rfl rfl rfl,.store 0 _ _ _ rfl rfl rfl rfl rfl rfl rfl (fun ia h=>by cases h;rfl) rfl rfl rfl IsW.cs,.store 1 _ _ _ rfl rfl rfl rfl rfl rfl rfl (fun ia h=>by cases h;rfl) rfl rfl rfl IsW.cs,trivial⟩
  ·intro a2 w2 gs2 hn2 hd2 hBt hr hR hP hX hU
   replace hn:=hn2;replace hd:=hd2.trans hd
   have ne4_6:(gs1 2)≠gs2 0:=by have h1:=b4.lt;have h2:=(hX 0 _ rfl).2.2.1 (by simp);omega
   have ne4_7:(gs1 2)≠gs2 1:=by have h1:=b4.lt;have h2:=(hX 1 _ rfl).2.2.1 (by simp);omega
   replace b3:=b3.keep hBt ⟨someNe,someNe,trivial⟩
   replace b4:=b4.keep hBt ⟨someNe,someNe,trivial⟩
   obtain ⟨n_3,a_3,m_3,c_3,r_3,e13,A3,l3⟩:IsW ((tp pr qr)) ((Br)+2) (a2.eval (.tmp 13)) w2:=hP 3 (by decide)
   have b6:BoxV W2 w2 (gs2 0) (.agg #[.bool n_3,.slice a_3 m_3 c_3]):=boxv_of (hX 0 _ rfl).2.2.2 e13
   have f6:=(hX 0 _ rfl).1
   have u6:w.heap.size≤gs2 0:=Nat.le_trans HB.size ((hX 0 _ rfl).2.2.1 (by simp))
   obtain ⟨n_4,a_4,m_4,c_4,r_4,e14,A4,l4⟩:IsW ((tq qr)) ((Br)+2) (a2.eval (.tmp 14)) w2:=hP 4 (by decide)
   have b7:BoxV W2 w2 (gs2 1) (.agg #[.bool n_4,.slice a_4 m_4 c_4]):=boxv_of (hX 1 _ rfl).2.2.2 e14
   have f7:=(hX 1 _ rfl).1
   have u7:w.heap.size≤gs2 1:=Nat.le_trans HB.size ((hX 1 _ rfl).2.2.1 (by simp))
   replace f3:=(hR 3 rfl).trans f3
   replace f4:=(hR 4 rfl).trans f4
   replace f5:=(hR 5 rfl).trans f5
   replace Ar:=Ar.rl hr
   replace Sr:=Sr.rl hr
   replace Dr:=Dr.rl hr
   replace Au:=Au.rl hr
   replace Su:=Su.rl hr
   replace Du:=Du.rl hr
   replace HB:=HB.trans (hBt.below HB.size (UpOld.all (bx:=[⟨W2,some 5,0,6,.agg #[.bool false,.slice none 0 0],some (7,13,3),[]⟩,⟨W2,some 6,0,7,.agg #[.bool false,.slice none 0 0],some (8,14,4),[]⟩]) ⟨someNe,someNe,trivial⟩))
   clear hBt hr hR hP hX hU
   refine wp_seq ?_
   refine region4 [some 16,some 17,some 15,some 18,some 19,some 8,some 9,none,none] [Eqs (.agg #[.bool nu,.slice au mu cu,.slice bu ku du]),Tup2 (IsW ((tp pu qu)) ((Bu)+2)) (IsW ((tq qu)) ((Bu)+2)),Tup2 (IsW ((tp pu qu)) ((Bu)+2)) (IsW ((tq qu)) ((Bu)+2)),IsW ((tp pu qu)) ((Bu)+2),IsW ((tq qu)) ((Bu)+2),Tt,Tt,Tt,Tt] [⟨W2,some 5,0,8,.agg #[.bool false,.slice none 0 0],some (7,18,3),[]⟩,⟨W2,some 6,0,9,.agg #[.bool false,.slice none 0 0],some (8,19,4),[]⟩] [] (by kernel_rfl) hn rfl (by kernel_rfl) (by kernel_rfl) (by kernel_rfl) (by kernel_rfl) (by kernel_rfl) (by kernel_rfl) ⟨Eqs.mono4 _,Tup2.mono4 (IsW.mono4 _ _) (IsW.mono4 _ _),Tup2.mono4 (IsW.mono4 _ _) (IsW.mono4 _ _),IsW.mono4 _ _,IsW.mono4 _ _,True.mono4,True.mono4,True.mono4,True.mono4,trivial⟩ (ok_cons W2ok (ok_cons W2ok ok_nil)) (IsOld.all (bx:=[⟨W2,some 5,0,8,.agg #[.bool false,.slice none 0 0],some (7,18,3),[]⟩,⟨W2,some 6,0,9,.agg #[.bool false,.slice none 0 0],some (8,19,4),[]⟩]) ⟨someNe,someNe,trivial⟩) (DisOld.all (bx:=[⟨W2,some 5,0,8,.agg #[.bool false,.slice none 0 0],some (7,18,3),[]⟩,⟨W2,some 6,0,9,.agg #[.bool false,.slice none 0 0],some (8,19,4),[]⟩]) ⟨someNe,someNe,trivial⟩) ?_ ?_
   ·exact ⟨.norm 16 rfl rfl rfl (fun a_ w_ _ t r R D _ _=>op_loadv R3ok ((R 3 rfl).trans f3) (b3.keep t ⟨someNe,someNe,trivial⟩)),.norm 17 rfl rfl rfl (fun a_ w_ _ t r R D _ _=>op_terms (isr_eq (show a_.eval (.tmp 16)=.agg #[.bool nu,.slice au mu cu,.slice bu ku du] from D 0 rfl) (Au.rl r) (Su.rl r) Vu Lu Mu) (by omega)),.norm 15 rfl rfl rfl (fun a_ w_ _ t r R D _ _=>op_mvp (p:=Tup2 (IsW ((tp pu qu)) ((Bu)+2)) (IsW ((tq qu)) ((Bu)+2))) (show Tup2 (IsW ((tp pu qu)) ((Bu)+2)) (IsW ((tq qu)) ((Bu)+2)) (a_.eval (.tmp 17)) w_ from D 1 rfl)),.norm 18 rfl rfl rfl (fun a_ w_ _ t r R D _ _=>op_ex20 (show Tup2 (IsW ((tp pu qu)) ((Bu)+2)) (IsW ((tq qu)) ((Bu)+2)) (a_.eval (.tmp 15)) w_ from D 2 rfl)),.norm 19 rfl rfl rfl (fun a_ w_ _ t r R D _ _=>op_ex21 (show Tup2 (IsW ((tp pu qu)) ((Bu)+2)) (IsW ((tq qu)) ((Bu)+2)) (a_.eval (.tmp 15)) w_ from D 2 rfl)),.alloc 0 _ rfl rfl (.inl ⟨rfl,rfl⟩) rfl rfl rfl rfl rfl,.alloc 1 _ rfl rfl (.inl ⟨rfl,rfl⟩) rfl rfl rfl rfl rfl,.store 0 _ _ _ rfl rfl rfl rfl rfl rfl rfl (fun ia h=>by cases h;rfl) rfl rfl rfl IsW.cs,.store 1 _ _ _ rfl rfl rfl rfl rfl rfl rfl (fun ia h=>by cases h;rfl) rfl rfl rfl IsW.cs,trivial⟩
   ·intro a5 w5 gs5 hn5 hd5 hBt hr hR hP hX hU
    replace hn:=hn5;replace hd:=hd5.trans hd
    have ne4_8:(gs1 2)≠gs5 0:=by have h1:=b4.lt;have h2:=(hX 0 _ rfl).2.2.1 (by simp);omega
    have ne4_9:(gs1 2)≠gs5 1:=by have h1:=b4.lt;have h2:=(hX 1 _ rfl).2.2.1 (by simp);omega
    replace b4:=b4.keep hBt ⟨someNe,someNe,trivial⟩
    replace b6:=b6.keep hBt ⟨someNe,someNe,trivial⟩
    replace b7:=b7.keep hBt ⟨someNe,someNe,trivial⟩
    obtain ⟨n_6,a_6,m_6,c_6,r_6,e18,A6,l6⟩:IsW ((tp pu qu)) ((Bu)+2) (a5.eval (.tmp 18)) w5:=hP 3 (by decide)
    have b8:BoxV W2 w5 (gs5 0) (.agg #[.bool n_6,.slice a_6 m_6 c_6]):=boxv_of (hX 0 _ rfl).2.2.2 e18
    have f8:=(hX 0 _ rfl).1
    have u8:w.heap.size≤gs5 0:=Nat.le_trans HB.size ((hX 0 _ rfl).2.2.1 (by simp))
    obtain ⟨n_7,a_7,m_7,c_7,r_7,e19,A7,l7⟩:IsW ((tq qu)) ((Bu)+2) (a5.eval (.tmp 19)) w5:=hP 4 (by decide)
    have b9:BoxV W2 w5 (gs5 1) (.agg #[.bool n_7,.slice a_7 m_7 c_7]):=boxv_of (hX 1 _ rfl).2.2.2 e19
    have f9:=(hX 1 _ rfl).1
    have u9:w.heap.size≤gs5 1:=Nat.le_trans HB.size ((hX 1 _ rfl).2.2.1 (by simp))
    replace f4:=(hR 4 rfl).trans f4
    replace f5:=(hR 5 rfl).trans f5
    replace f6:=(hR 6 rfl).trans f6
    replace f7:=(hR 7 rfl).trans f7
    replace Ar:=Ar.rl hr
    replace Sr:=Sr.rl hr
    replace Dr:=Dr.rl hr
    replace Au:=Au.rl hr
    replace Su:=Su.rl hr
    replace Du:=Du.rl hr
    replace A3:=A3.rl hr
    replace A4:=A4.rl hr
    replace HB:=HB.trans (hBt.below HB.size (UpOld.all (bx:=[⟨W2,some 5,0,8,.agg #[.bool false,.slice none 0 0],some (7,18,3),[]⟩,⟨W2,some 6,0,9,.agg #[.bool false,.slice none 0 0],some (8,19,4),[]⟩]) ⟨someNe,someNe,trivial⟩))
    clear hBt hr hR hP hX hU
    refine wp_seq ?_
    refine region4 [some 20,some 21,some 22,some 23,some 24,some 25,some 26,some 27,some 28,none,some 5] [Eqs (.agg #[.bool n_3,.slice a_3 m_3 c_3]),Eqs (.agg #[.bool n_7,.slice a_7 m_7 c_7]),OutW (((tp pr qr)*(tq qu))) (((Br)+2)+((Bu)+2)),Eqs (.agg #[.bool n_4,.slice a_4 m_4 c_4]),Eqs (.agg #[.bool n_6,.slice a_6 m_6 c_6]),OutW (((tq qr)*(tp pu qu))) (((Br)+2)+((Bu)+2)),Tup2 (Eqs (.agg #[.bool false,.slice none 0 0,.slice none 0 0])) (Eqs (.int .i64 20)),Eqs (.agg #[.bool false,.slice none 0 0,.slice none 0 0]),Eqs (.int .i64 20),Tt,Eqs (.int .i64 20)] [⟨R3,none,(gs1 2),4,.agg #[.bool false,.slice none 0 0,.slice none 0 0],some (9,27,7),[]⟩] [] (by kernel_rfl) hn rfl (by kernel_rfl) (by kernel_rfl) (by kernel_rfl) (by kernel_rfl) (by kernel_rfl) (by kernel_rfl) ⟨Eqs.mono4 _,Eqs.mono4 _,OutW.mono4 _ _,Eqs.mono4 _,Eqs.mono4 _,OutW.mono4 _ _,Tup2.mono4 (Eqs.mono4 _) (Eqs.mono4 _),Eqs.mono4 _,Eqs.mono4 _,True.mono4,Eqs.mono4 _,trivial⟩ (ok_cons R3ok ok_nil) (IsOld.all (bx:=[⟨R3,none,(gs1 2),4,.agg #[.bool false,.slice none 0 0,.slice none 0 0],some (9,27,7),[]⟩]) ⟨fun _=>⟨f4,b4⟩,trivial⟩) (DisOld.all (bx:=[⟨R3,none,(gs1 2),4,.agg #[.bool false,.slice none 0 0,.slice none 0 0],some (9,27,7),[]⟩]) ⟨fun _=>trivial,trivial⟩) ?_ ?_
    ·exact ⟨.norm 20 rfl rfl rfl (fun a_ w_ _ t r R D _ _=>op_loadv W2ok ((R 6 rfl).trans f6) (b6.keep t ⟨fun _=>ne4_6,trivial⟩)),.norm 21 rfl rfl rfl (fun a_ w_ _ t r R D _ _=>op_loadv W2ok ((R 9 rfl).trans f9) (b9.keep t ⟨fun _=>ne4_9,trivial⟩)),.norm 22 rfl rfl rfl (fun a_ w_ _ t r R D _ _=>op_mul (isw_eq (show a_.eval (.tmp 20)=.agg #[.bool n_3,.slice a_3 m_3 c_3] from D 0 rfl) (A3.rl r) l3) (isw_eq (show a_.eval (.tmp 21)=.agg #[.bool n_7,.slice a_7 m_7 c_7] from D 1 rfl) (A7.rl r) l7) (by omega) (by omega)),.norm 23 rfl rfl rfl (fun a_ w_ _ t r R D _ _=>op_loadv W2ok ((R 7 rfl).trans f7) (b7.keep t ⟨fun _=>ne4_7,trivial⟩)),.norm 24 rfl rfl rfl (fun a_ w_ _ t r R D _ _=>op_loadv W2ok ((R 8 rfl).trans f8) (b8.keep t ⟨fun _=>ne4_8,trivial⟩)),.norm 25 rfl rfl rfl (fun a_ w_ _ t r R D _ _=>op_mul (isw_eq (show a_.eval (.tmp 23)=.agg #[.bool n_4,.slice a_4 m_4 c_4] from D 3 rfl) (A4.rl r) l4) (isw_eq (show a_.eval (.tmp 24)=.agg #[.bool n_6,.slice a_6 m_6 c_6] from D 4 rfl) (A6.rl r) l6) (by omega) (by omega)),.norm 26 rfl rfl rfl (fun a_ w_ _ t r R D _ _=>op_rof0 (show OutW (((tp pr qr)*(tq qu))) (((Br)+2)+((Bu)+2)) (a_.eval (.tmp 22)) w_ from D 2 rfl).is (show OutW (((tq qr)*(tp pu qu))) (((Br)+2)+((Bu)+2)) (a_.eval (.tmp 25)) w_ from D 5 rfl).is (by omega) (by rw [hu0,Int.mul_zero])),.norm 27 rfl rfl rfl (fun a_ w_ _ t r R D _ _=>op_ex20 (show Tup2 (Eqs (.agg #[.bool false,.slice none 0 0,.slice none 0 0])) (Eqs (.int .i64 20)) (a_.eval (.tmp 26)) w_ from D 6 rfl)),.norm 28 rfl rfl rfl (fun a_ w_ _ t r R D _ _=>op_ex21 (show Tup2 (Eqs (.agg #[.bool false,.slice none 0 0,.slice none 0 0])) (Eqs (.int .i64 20)) (a_.eval (.tmp 26)) w_ from D 6 rfl)),.store 0 _ _ _ rfl rfl rfl rfl rfl rfl rfl (fun ia h=>by cases h) rfl rfl rfl (eqs_cs r3_cs),.norm 5 rfl rfl rfl (fun a_ w_ _ t r R D _ _=>op_assign (show a_.eval (.tmp 28)=.int .i64 20 from D 8 rfl)),trivial⟩
    ·intro a8 w8 gs8 hn8 hd8 hBt hr hR hP hX hU
     replace hn:=hn8;replace hd:=hd8.trans hd
     have e27:a8.eval (.tmp 27)=.agg #[.bool false,.slice none 0 0,.slice none 0 0]:=hP 7 (by decide)
     have b4:BoxV R3 w8 ((gs1 2)) (.agg #[.bool false,.slice none 0 0,.slice none 0 0]):=boxv_old ((hX 0 _ rfl).2.1 rfl) (hX 0 _ rfl).2.2.2 e27
     replace f4:a8.eval (.tmp 4) = _:=(hR 4 rfl).trans f4
     have e5:a8.eval (.tmp 5)=.int .i64 20:=hP 10 (by decide)
     have f5:=e5
     replace Ar:=Ar.rl hr
     replace Sr:=Sr.rl hr
     replace Dr:=Dr.rl hr
     replace Au:=Au.rl hr
     replace Su:=Su.rl hr
     replace Du:=Du.rl hr
     replace A3:=A3.rl hr
     replace A4:=A4.rl hr
     replace A6:=A6.rl hr
     replace A7:=A7.rl hr
     replace HB:=HB.trans (hBt.below HB.size (UpOld.all (bx:=[⟨R3,none,(gs1 2),4,.agg #[.bool false,.slice none 0 0,.slice none 0 0],some (9,27,7),[]⟩]) ⟨fun _=>u4,trivial⟩))
     clear hBt hr hR hP hX hU
     refine wp_ret ?_
     repeat (first | refine then_ret ?_ | refine scope_ret ?_ | refine block_ret ?_)
     exact bodyPost_ret (v:=.tuple #[.agg #[.bool false,.slice none 0 0,.slice none 0 0],.int .i64 20]) (res_ct rfl f4 (lv_R3 b4) f5) hd ⟨_,rfl,⟨_,_,rfl,rfl,rfl⟩,HB⟩
theorem has_rdiv0:Has Tryz.prog 11:=by unfold Has;kernel_rfl
theorem op_rdiv0 {dst:Option Tmp} {ty:TypeId} {pos:String} {after:Array Edge} {guard:Option (Nat × Bool)} {a:Act} {w:World} {ats:Array TypeId} {i j:Nat} {Br:Nat} {pr qr:Int} (Hr:IsR pr qr Br (a.eval (.tmp i)) w) {Bu:Nat} {pu qu:Int} (Hu:IsR pu qu Bu (a.eval (.tmp j)) w) (hL:2*(Br+Bu+4)≤100000) (hu0:tp pu qu=0) :
  Does Tryz.prog { dst,op:=.call { callee:=.value (.func 11),args:=#[.tmp i,.tmp j],argTypes:=ats },type:=ty,pos,after,guard } a.eval w fun v w'=>Below w.heap.size w w'∧(Tup2 (Eqs (.agg #[.bool false,.slice none 0 0,.slice none 0 0])) (Eqs (.int .i64 20))) v w' := by
 obtain ⟨nr,ar,mr,cr,rs,br,kr,dr,rt,er,Ar,Sr,Vr,Lr,Mr⟩:=Hr
 obtain ⟨nu,au,mu,cu,us,bu,ku,du,ut,eu,Au,Su,Vu,Lu,Mu⟩:=Hu
 refine does_call has_rdiv0 _ (by simp only [List.map_toArray,List.map_cons,List.map_nil,er,eu]) ((rdiv0_z w Br _ _ _ _ _ _ Ar Lr _ _ _ _ _ Sr Vr Mr Bu _ _ _ _ _ _ Au Lu _ _ _ _ _ Su Vu Mu hL hu0).mono ?_)
 rintro e w' ⟨v,rfl,h1,hb⟩
 exact ⟨_,rfl,hb,h1⟩
end Lm
end Go.Proofs.YtpofkigboedliaaGreat

namespace Go.Proofs.YtpofkigboedliaaGreat
namespace Lm
open Go Go.RowKit
section
variable {dst:Option Tmp} {ty:TypeId} {pos:String} {after:Array Edge} {guard:Option (Nat × Bool)} {a:Act} {w:World} {ats:Array TypeId} {i j:Nat} {x y:Int} {L L1 L2:Nat}
theorem has_lenw:Has Tryz.prog 25:=by unfold Has;kernel_rfl
theorem op_lenw {ng:Bool} {ao:Option Addr} {n c:Nat} (h:a.eval (.tmp i)=.agg #[.bool ng,.slice ao n c]) (hn:n≤35184372088832) :
  Does Tryz.prog { dst,op:=.call { callee:=.value (.func 25),args:=#[.tmp i],argTypes:=ats },type:=ty,pos,after,guard } a.eval w fun v w'=>Below w.heap.size w w'∧Eqs (.int .i64 (1+(n:Int))) v w' := by
 refine does_call has_lenw _ (by simp only [List.map_toArray,List.map_cons,List.map_nil,h]) ((wlen_any w ng ao n c hn).mono ?_)
 rintro e w' ⟨rfl,hb⟩
 exact ⟨_,rfl,hb,rfl⟩
theorem op_samef (hx:OutW x L1 (a.eval (.tmp i)) w) (hy:OutW y L2 (a.eval (.tmp j)) w) (h:x≠y) :
  Does Tryz.prog { dst,op:=.call { callee:=.value (.func 40),args:=#[.tmp i,.tmp j],argTypes:=ats },type:=ty,pos,after,guard } a.eval w fun v w'=>Below w.heap.size w w'∧Eqs (.bool false) v w' := by
 obtain ⟨n1,a1,c1,xs,e1,A1,l1⟩:=hx
 obtain ⟨n2,a2,c2,ys,e2,A2,l2⟩:=hy
 refine does_call has_same _ (by simp only [List.map_toArray,List.map_cons,List.map_nil,e1,e2]) ((same_z _ _ _ _ _ _ _ _ _ _ _ A1 A2 false (decide_eq_false h)).mono ?_)
 rintro e w' ⟨rfl,hb⟩
 exact ⟨_,rfl,hb,rfl⟩
theorem has_samel:Has Tryz.prog 41:=by unfold Has;kernel_rfl
theorem op_samel (hx:OutL x L1 (a.eval (.tmp i)) w) (hy:OutL y L2 (a.eval (.tmp j)) w) :
  Does Tryz.prog { dst,op:=.call { callee:=.value (.func 41),args:=#[.tmp i,.tmp j],argTypes:=ats },type:=ty,pos,after,guard } a.eval w fun v w'=>Below w.heap.size w w'∧Eqs (.bool (decide (x=y))) v w' := by
 obtain ⟨a1,c1,xs,e1,G1,l1⟩:=hx
 obtain ⟨a2,c2,ys,e2,G2,l2⟩:=hy
 refine does_call has_samel _ (by simp only [List.map_toArray,List.map_cons,List.map_nil,e1,e2]) ((same_any w _ _ _ _ _ _ xs ys G1.sl G2.sl).mono ?_)
 rintro e w' ⟨rfl,hb⟩
 refine ⟨_,rfl,hb,?_⟩
 have v1:=G1.val
 have v2:=G2.val
 show Value.bool (sameB xs ys)=Value.bool (decide (x=y))
 by_cases h:x=y
 ·rw [sameB_of (canon_one G1.canon G2.canon (by rw [v1,v2,h])),decide_eq_true h]
 ·have:xs≠ys:=fun e=>h (by rw [←v1,←v2,e])
  simp [sameB,h,this]
theorem dec3:IsDec [51] 3:=by
 refine ⟨?_,by decide,.inr ⟨51,_,rfl,by decide⟩⟩
 intro c hc
 simp at hc
 omega
theorem dec2:IsDec [50] 2:=by
 refine ⟨?_,by decide,.inr ⟨50,_,rfl,by decide⟩⟩
 intro c hc
 simp at hc
 omega
theorem has_wtext:Has Tryz.prog 48:=by unfold Has;kernel_rfl
theorem op_text3 (hx:OutW x L (a.eval (.tmp i)) w) (h:x = -3) (hl:L≤100000) :
  Does Tryz.prog { dst,op:=.call { callee:=.value (.func 48),args:=#[.tmp i],argTypes:=ats },type:=ty,pos,after,guard } a.eval w fun v w'=>Below w.heap.size w w'∧Eqs (.string ⟨#[45,51]⟩) v w' := by
 subst h
 obtain ⟨n1,a1,c1,xs,e1,A1,l1⟩:=hx
 refine does_call has_wtext _ (by simp only [List.map_toArray,List.map_cons,List.map_nil,e1]) ((wtext_neg w n1 a1 _ c1 xs A1.sl (by omega) (by rw [A1.worth];decide)).mono ?_)
 rintro e w' ⟨ds,rfl,hd,hb⟩
 have e2:=isDec_one hd (show IsDec [51] (val xs) by rw [A1.1.val];exact dec3)
 subst e2
 exact ⟨_,rfl,hb,rfl⟩
theorem has_ltext:Has Tryz.prog 50:=by unfold Has;kernel_rfl
theorem op_text2 (hx:IsL x L (a.eval (.tmp i)) w) (h:x=2) (hl:L≤100000) :
  Does Tryz.prog { dst,op:=.call { callee:=.value (.func 50),args:=#[.tmp i],argTypes:=ats },type:=ty,pos,after,guard } a.eval w fun v w'=>Below w.heap.size w w'∧Eqs (.string ⟨#[50]⟩) v w' := by
 subst h
 obtain ⟨a1,n1,c1,xs,e1,S1,V1,l1⟩:=hx
 refine does_call has_ltext _ (by simp only [List.map_toArray,List.map_cons,List.map_nil,e1]) ((text_any w a1 n1 c1 xs S1 (by omega)).mono ?_)
 rintro e w' ⟨ds,rfl,hd,hb⟩
 have e2:=isDec_one hd (show IsDec [50] (val xs) by rw [V1];exact dec2)
 subst e2
 exact ⟨_,rfl,hb,rfl⟩
theorem op_cat {x y:Operand} {s t r:ByteArray} (h1:a.eval x=.string s) (h2:a.eval y=.string t) (hs:s.size+t.size≤9223372036854775807) (h:s ++ t=r) :
  Does Tryz.prog { dst,op:=.binOp .add 9 x y 9,type:=ty,pos,after,guard } a.eval w fun v w'=>Below w.heap.size w w'∧Eqs (.string r) v w' := by
 subst h
 refine does_bin (v:=.string (s ++ t)) ?_ ?_ ⟨Below.refl _ _,rfl⟩
 ·rw [h1,h2];simp [go_sem]
 ·rw [h1,h2];simp [go_sem];exact hs
theorem op_eqls {s t:ByteArray} (h1:a.eval (.tmp i)=.string s) (h:s=t) :
  Does Tryz.prog { dst,op:=.binOp .eql 9 (.tmp i) (.const (.string t)) 9,type:=ty,pos,after,guard } a.eval w fun v w'=>Below w.heap.size w w'∧Eqs (.bool true) v w' := by
 subst h
 refine does_bin (v:=.bool true) ?_ ?_ ⟨Below.refl _ _,rfl⟩
 ·rw [h1];simp [go_sem,Act.eval]
 ·rw [h1];simp [go_sem,Act.eval]
theorem op_bits1 (h:BitsOf x (a.eval (.tmp i)) w) (hx:0<x) :
  Does Tryz.prog { dst,op:=.binOp .eql 3 (.tmp i) (.const (.int .i64 1)) 3,type:=ty,pos,after,guard } a.eval w fun v w'=>Below w.heap.size w w'∧Eqs (.bool (decide (x=1))) v w' := by
 obtain ⟨k,e,hb⟩:=h
 refine (op_eqlk e).mono (fun v w' ⟨h1,h2⟩=>⟨h1,?_⟩)
 show v = _
 rw [show v = _ from h2]
 congr 1
 exact decide_eq_decide.2 (bits_is_one hb hx)
theorem op_eqle {u:Int} (h1:a.eval (.tmp i)=.int .i64 u) :
  Does Tryz.prog { dst,op:=.binOp .eql 40 (.tmp i) (.const (.int .i64 u)) 40,type:=ty,pos,after,guard } a.eval w fun v w'=>Below w.heap.size w w'∧Eqs (.bool true) v w' := by
 refine does_bin (v:=.bool true) ?_ ?_ ⟨Below.refl _ _,rfl⟩
 ·rw [h1];simp [go_sem,Act.eval]
 ·rw [h1];simp [go_sem,Act.eval]
theorem has_lsmall:Has Tryz.prog 23:=by unfold Has;kernel_rfl
theorem op_lsmall {v:Int} (h1 : -9223372036854775808≤v) (h2:v≤9223372036854775807) :
  Does Tryz.prog { dst,op:=.call { callee:=.value (.func 23),args:=#[.const (.int .i64 v)],argTypes:=ats },type:=ty,pos,after,guard } a.eval w fun v' w'=>Below w.heap.size w w'∧OutW v 2 v' w' := by
 refine does_call has_lsmall _ (by simp only [List.map_toArray,List.map_cons,List.map_nil,Act.eval]) ((lsmall_g _ v h1 h2).mono ?_)
 rintro e w' ⟨ng,ao,cap,rs,rfl,G,l,hb⟩
 exact ⟨_,rfl,hb,_,_,_,_,rfl,G,by omega⟩
end
set_option maxRecDepth 20000 in
set_option maxHeartbeats 1000000 in
theorem rlen_z (w:World) (nr:Bool) (ar:Option Addr) (mr cr:Nat) (br:Option Addr) (kr dr:Nat) (hm:mr≤35184372088832) (hk:kr≤35184372088832) :
  Calls Tryz.prog 5 #[.agg #[.bool nr,.slice ar mr cr,.slice br kr dr]] w fun e w'=>∃ v,e=.returned v∧(Eqs (.int .i64 (1+(mr:Int)+(kr:Int)))) v w'∧Below w.heap.size w w' := by
 go_enter Tryz.func5,Tryz.ntmps5
 generalize hA:(Act.mk _ _)=aa
 have hn:aa.tmps.size=10:=by rw [←hA];rfl
 have hd:aa.defers = []:=by rw [←hA]
 have f0:aa.eval (.tmp 0)=.agg #[.bool nr,.slice ar mr cr,.slice br kr dr]:=by rw [←hA];rfl
 clear hA
 have HB:Below w.heap.size w w:=Below.refl _ _
 refine wp_seq ?_
 refine region4 [some 1,some 2] [Tt,Eqs ((.int .i64 0))] [⟨R3,some 0,0,1,.agg #[.bool nr,.slice ar mr cr,.slice br kr dr],none,[]⟩] [] (by kernel_rfl) hn rfl (by kernel_rfl) (by kernel_rfl) (by kernel_rfl) (by kernel_rfl) (by kernel_rfl) (by kernel_rfl) ⟨True.mono4,Eqs.mono4 _,trivial⟩ (ok_cons R3ok ok_nil) (IsOld.all (bx:=[⟨R3,some 0,0,1,.agg #[.bool nr,.slice ar mr cr,.slice br kr dr],none,[]⟩]) ⟨someNe,trivial⟩) (DisOld.all (bx:=[⟨R3,some 0,0,1,.agg #[.bool nr,.slice ar mr cr,.slice br kr dr],none,[]⟩]) ⟨someNe,trivial⟩) ?_ ?_
 ·exact ⟨.alloc 0 _ rfl rfl (.inr ⟨_,rfl,r3_cs,fun a_ hR=>(hR 0 rfl).trans f0⟩) rfl rfl rfl rfl rfl,.norm 2 rfl rfl rfl (fun a_ w_ _ t r R D _ _=>op_assign rfl),trivial⟩
 ·intro a1 w1 gs1 hn1 hd1 hBt hr hR hP hX hU
  replace hn:=hn1;replace hd:=hd1.trans hd
  have b1:BoxV R3 w1 (gs1 0) (.agg #[.bool nr,.slice ar mr cr,.slice br kr dr]):=(hX 0 _ rfl).2.2.2
  have f1:=(hX 0 _ rfl).1
  have u1:w.heap.size≤gs1 0:=Nat.le_trans HB.size ((hX 0 _ rfl).2.2.1 (by simp))
  have e2:a1.eval (.tmp 2)=(.int .i64 0):=hP 1 (by decide)
  have f2:=e2
  replace HB:=HB.trans (hBt.below HB.size (UpOld.all (bx:=[⟨R3,some 0,0,1,.agg #[.bool nr,.slice ar mr cr,.slice br kr dr],none,[]⟩]) ⟨someNe,trivial⟩))
  clear hBt hr hR hP hX hU
  refine wp_seq ?_
  refine region4 [some 3,some 4,some 5,some 6,some 7,some 8,some 9,some 2] [Eqs (.pointer (some ⟨gs1 0,0,none⟩)),Eqs (.agg #[.bool nr,.slice ar mr cr]),Eqs (.int .i64 (1+(mr:Int))),Eqs (.pointer (some ⟨gs1 0,2,none⟩)),Eqs (.slice br kr dr),Eqs (.int .i64 (kr:Int)),Eqs (.int .i64 ((1+(mr:Int))+(kr:Int))),Eqs (.int .i64 ((1+(mr:Int))+(kr:Int)))] [] [] (by kernel_rfl) hn rfl (by kernel_rfl) (by kernel_rfl) (by kernel_rfl) (by kernel_rfl) (by kernel_rfl) (by kernel_rfl) ⟨Eqs.mono4 _,Eqs.mono4 _,Eqs.mono4 _,Eqs.mono4 _,Eqs.mono4 _,Eqs.mono4 _,Eqs.mono4 _,Eqs.mono4 _,trivial⟩ ok_nil (IsOld.all (bx:=[]) trivial) (DisOld.all (bx:=[]) trivial) ?_ ?_
  ·exact ⟨.norm 3 rfl rfl rfl (fun a_ w_ _ t r R D _ _=>op_faR fa_num ((R 1 rfl).trans f1)),.norm 4 rfl rfl rfl (fun a_ w_ _ t r R D _ _=>op_ldnum (show a_.eval (.tmp 3)=.pointer (some ⟨gs1 0,0,none⟩) from D 0 rfl) (b1.keep t trivial)),.norm 5 rfl rfl rfl (fun a_ w_ _ t r R D _ _=>op_lenw (show a_.eval (.tmp 4)=.agg #[.bool nr,.slice ar mr cr] from D 1 rfl) (by omega)),.norm 6 rfl rfl rfl (fun a_ w_ _ t r R D _ _=>op_faR fa_den ((R 1 rfl).trans f1)),.norm 7 rfl rfl rfl (fun a_ w_ _ t r R D _ _=>op_ldden (show a_.eval (.tmp 6)=.pointer (some ⟨gs1 0,2,none⟩) from D 3 rfl) (b1.keep t trivial)),.norm 8 rfl rfl rfl (fun a_ w_ _ t r R D _ _=>op_len (show a_.eval (.tmp 7)=.slice br kr dr from D 4 rfl)),.norm 9 rfl rfl rfl (fun a_ w_ _ t r R D _ _=>op_plus (show a_.eval (.tmp 5)=.int .i64 (1+(mr:Int)) from D 2 rfl) (show a_.eval (.tmp 8)=.int .i64 (kr:Int) from D 5 rfl) (by omega)),.norm 2 rfl rfl rfl (fun a_ w_ _ t r R D _ _=>op_assign (show a_.eval (.tmp 9)=.int .i64 ((1+(mr:Int))+(kr:Int)) from D 6 rfl)),trivial⟩
  ·intro a2 w2 gs2 hn2 hd2 hBt hr hR hP hX hU
   replace hn:=hn2;replace hd:=hd2.trans hd
   have e2:a2.eval (.tmp 2)=.int .i64 ((1+(mr:Int))+(kr:Int)):=hP 7 (by decide)
   have f2:=e2
   replace HB:=HB.trans (hBt.below HB.size (UpOld.all (bx:=[]) trivial))
   clear hBt hr hR hP hX hU
   refine wp_ret ?_
   repeat (first | refine then_ret ?_ | refine scope_ret ?_ | refine block_ret ?_)
   exact bodyPost_ret (v:=.int .i64 ((1+(mr:Int))+(kr:Int))) (res_t rfl f2) hd ⟨_,rfl,rfl,HB⟩
theorem has_rlen:Has Tryz.prog 5:=by unfold Has;kernel_rfl
theorem op_rlen {dst:Option Tmp} {ty:TypeId} {pos:String} {after:Array Edge} {guard:Option (Nat × Bool)} {a:Act} {w:World} {ats:Array TypeId} {i:Nat} {nr:Bool} {ar br:Option Addr} {mr cr kr dr:Nat} (h:a.eval (.tmp i)=.agg #[.bool nr,.slice ar mr cr,.slice br kr dr]) (hm:mr≤35184372088832) (hk:kr≤35184372088832) :
  Does Tryz.prog { dst,op:=.call { callee:=.value (.func 5),args:=#[.tmp i],argTypes:=ats },type:=ty,pos,after,guard } a.eval w fun v w'=>Below w.heap.size w w'∧Eqs (.int .i64 (1+(mr:Int)+(kr:Int))) v w' := by
 refine does_call has_rlen _ (by simp only [List.map_toArray,List.map_cons,List.map_nil,h]) ((rlen_z w nr ar mr cr br kr dr hm hk).mono ?_)
 rintro e w' ⟨v,rfl,h1,hb⟩
 exact ⟨_,rfl,hb,h1⟩
set_option maxRecDepth 20000 in
set_option maxHeartbeats 1000000 in
theorem samer_z (w:World) (nr:Bool) (ar:Option Addr) (cr:Nat) (rs:List Int) (pr:Int) (Gr:Wh w nr ar cr rs pr) (br:Option Addr) (dr:Nat) (rt:List Int) (qr:Int) (Kr:Got w br dr rt qr) (nu:Bool) (au:Option Addr) (cu:Nat) (us:List Int) (pu:Int) (Gu:Wh w nu au cu us pu) (bu:Option Addr) (du:Nat) (ut:List Int) (qu:Int) (Ku:Got w bu du ut qu) (hp:pr=pu) :
  Calls Tryz.prog 16 #[.agg #[.bool nr,.slice ar rs.length cr,.slice br rt.length dr],.agg #[.bool nu,.slice au us.length cu,.slice bu ut.length du]] w fun e w'=>∃ v,e=.returned v∧(Eqs (.bool (decide (qr=qu)))) v w'∧Below w.heap.size w w' := by
 go_enter Tryz.func16,Tryz.ntmps16
 generalize hA:(Act.mk _ _)=aa
 have hn:aa.tmps.size=17:=by rw [←hA];rfl
 have hd:aa.defers = []:=by rw [←hA]
 have f0:aa.eval (.tmp 0)=.agg #[.bool nr,.slice ar rs.length cr,.slice br rt.length dr]:=by rw [←hA];rfl
 have f1:aa.eval (.tmp 1)=.agg #[.bool nu,.slice au us.length cu,.slice bu ut.length du]:=by rw [←hA];rfl
 clear hA
 have HB:Below w.heap.size w w:=Below.refl _ _
 refine wp_seq ?_
 refine region4 [some 2,some 3,some 4] [Tt,Tt,Eqs ((.bool false))] [⟨R3,some 0,0,2,.agg #[.bool nr,.slice ar rs.length cr,.slice br rt.length dr],none,[]⟩,⟨R3,some 1,0,3,.agg #[.bool nu,.slice au us.length cu,.slice bu ut.length du],none,[]⟩] [] (by kernel_rfl) hn rfl (by kernel_rfl) (by kernel_rfl) (by kernel_rfl) (by kernel_rfl) (by kernel_rfl) (by kernel_rfl) ⟨True.mono4,True.mono4,Eqs.mono4 _,trivial⟩ (ok_cons R3ok (ok_cons R3ok ok_nil)) (IsOld.all (bx:=[⟨R3,some 0,0,2,.agg #[.bool nr,.slice ar rs.length cr,.slice br rt.length dr],none,[]⟩,⟨R3,some 1,0,3,.agg #[.bool nu,.slice au us.length cu,.slice bu ut.length du],none,[]⟩]) ⟨someNe,someNe,trivial⟩) (DisOld.all (bx:=[⟨R3,some 0,0,2,.agg #[.bool nr,.slice ar rs.length cr,.slice br rt.length dr],none,[]⟩,⟨R3,some 1,0,3,.agg #[.bool nu,.slice au us.length cu,.slice bu ut.length du],none,[]⟩]) ⟨someNe,someNe,trivial⟩) ?_ ?_
 ·exact ⟨.alloc 0 _ rfl rfl (.inr ⟨_,rfl,r3_cs,fun a_ hR=>(hR 0 rfl).trans f0⟩) rfl rfl rfl rfl rfl,.alloc 1 _ rfl rfl (.inr ⟨_,rfl,r3_cs,fun a_ hR=>(hR 1 rfl).trans f1⟩) rfl rfl rfl rfl rfl,.norm 4 rfl rfl rfl (fun a_ w_ _ t r R D _ _=>op_assign rfl),trivial⟩
 ·intro a1 w1 gs1 hn1 hd1 hBt hr hR hP hX hU
  replace hn:=hn1;replace hd:=hd1.trans hd
  have b2:BoxV R3 w1 (gs1 0) (.agg #[.bool nr,.slice ar rs.length cr,.slice br rt.length dr]):=(hX 0 _ rfl).2.2.2
  have f2:=(hX 0 _ rfl).1
  have u2:w.heap.size≤gs1 0:=Nat.le_trans HB.size ((hX 0 _ rfl).2.2.1 (by simp))
  have b3:BoxV R3 w1 (gs1 1) (.agg #[.bool nu,.slice au us.length cu,.slice bu ut.length du]):=(hX 1 _ rfl).2.2.2
  have f3:=(hX 1 _ rfl).1
  have u3:w.heap.size≤gs1 1:=Nat.le_trans HB.size ((hX 1 _ rfl).2.2.1 (by simp))
  have e4:a1.eval (.tmp 4)=(.bool false):=hP 2 (by decide)
  have f4:=e4
  replace Gr:=Gr.rl hr
  replace Kr:=Kr.rl hr
  replace Gu:=Gu.rl hr
  replace Ku:=Ku.rl hr
  replace HB:=HB.trans (hBt.below HB.size (UpOld.all (bx:=[⟨R3,some 0,0,2,.agg #[.bool nr,.slice ar rs.length cr,.slice br rt.length dr],none,[]⟩,⟨R3,some 1,0,3,.agg #[.bool nu,.slice au us.length cu,.slice bu ut.length du],none,[]⟩]) ⟨someNe,someNe,trivial⟩))
  clear hBt hr hR hP hX hU
  refine wp_seq ?_
  refine region4 [some 5,some 6,some 7,some 8,some 9,some 10,some 11,some 12,some 13,some 14,some 15,some 16,some 4] [Eqs (.pointer (some ⟨gs1 0,0,none⟩)),Eqs (.agg #[.bool nr,.slice ar rs.length cr]),Eqs (.pointer (some ⟨gs1 1,0,none⟩)),Eqs (.agg #[.bool nu,.slice au us.length cu]),Eqs (.bool true),Eqs (.bool true),Eqs (.pointer (some ⟨gs1 0,2,none⟩)),Eqs (.slice br rt.length dr),Eqs (.pointer (some ⟨gs1 1,2,none⟩)),Eqs (.slice bu ut.length du),Eqs (.bool (decide (qr=qu))),Eqs (.bool (decide (qr=qu))),Eqs (.bool (decide (qr=qu)))] [] [] (by kernel_rfl) hn rfl (by kernel_rfl) (by kernel_rfl) (by kernel_rfl) (by kernel_rfl) (by kernel_rfl) (by kernel_rfl) ⟨Eqs.mono4 _,Eqs.mono4 _,Eqs.mono4 _,Eqs.mono4 _,Eqs.mono4 _,Eqs.mono4 _,Eqs.mono4 _,Eqs.mono4 _,Eqs.mono4 _,Eqs.mono4 _,Eqs.mono4 _,Eqs.mono4 _,Eqs.mono4 _,trivial⟩ ok_nil (IsOld.all (bx:=[]) trivial) (DisOld.all (bx:=[]) trivial) ?_ ?_
  ·exact ⟨.norm 5 rfl rfl rfl (fun a_ w_ _ t r R D _ _=>op_faR fa_num ((R 2 rfl).trans f2)),.norm 6 rfl rfl rfl (fun a_ w_ _ t r R D _ _=>op_ldnum (show a_.eval (.tmp 5)=.pointer (some ⟨gs1 0,0,none⟩) from D 0 rfl) (b2.keep t trivial)),.norm 7 rfl rfl rfl (fun a_ w_ _ t r R D _ _=>op_faR fa_num ((R 3 rfl).trans f3)),.norm 8 rfl rfl rfl (fun a_ w_ _ t r R D _ _=>op_ldnum (show a_.eval (.tmp 7)=.pointer (some ⟨gs1 1,0,none⟩) from D 2 rfl) (b3.keep t trivial)),.norm 9 rfl rfl rfl (fun a_ w_ _ t r R D _ _=>op_same (outw_eq (show a_.eval (.tmp 6)=.agg #[.bool nr,.slice ar rs.length cr] from D 1 rfl) (Gr.rl r) (Nat.le_refl _)) (outw_eq (show a_.eval (.tmp 8)=.agg #[.bool nu,.slice au us.length cu] from D 3 rfl) (Gu.rl r) (Nat.le_refl _)) hp),.norm 10 rfl rfl rfl (fun a_ w_ _ t r R D _ _=>op_mv (show a_.eval (.tmp 9)=.bool true from D 4 rfl)),.norm 11 rfl rfl rfl (fun a_ w_ _ t r R D _ _=>⟨⟨_,rfl⟩,fun _=>op_faR fa_den ((R 2 rfl).trans f2),fun hne=>absurd (D 5 rfl) hne⟩),.norm 12 rfl rfl rfl (fun a_ w_ _ t r R D _ _=>⟨⟨_,rfl⟩,fun _=>op_ldden (show a_.eval (.tmp 11)=.pointer (some ⟨gs1 0,2,none⟩) from D 6 rfl) (b2.keep t trivial),fun hne=>absurd (D 5 rfl) hne⟩),.norm 13 rfl rfl rfl (fun a_ w_ _ t r R D _ _=>⟨⟨_,rfl⟩,fun _=>op_faR fa_den ((R 3 rfl).trans f3),fun hne=>absurd (D 5 rfl) hne⟩),.norm 14 rfl rfl rfl (fun a_ w_ _ t r R D _ _=>⟨⟨_,rfl⟩,fun _=>op_ldden (show a_.eval (.tmp 13)=.pointer (some ⟨gs1 1,2,none⟩) from D 8 rfl) (b3.keep t trivial),fun hne=>absurd (D 5 rfl) hne⟩),.norm 15 rfl rfl rfl (fun a_ w_ _ t r R D _ _=>⟨⟨_,rfl⟩,fun _=>op_samel (outl_eq (show a_.eval (.tmp 12)=.slice br rt.length dr from D 7 rfl) (Kr.rl r) (Nat.le_refl _)) (outl_eq (show a_.eval (.tmp 14)=.slice bu ut.length du from D 9 rfl) (Ku.rl r) (Nat.le_refl _)),fun hne=>absurd (D 5 rfl) hne⟩),.norm 16 rfl rfl rfl (fun a_ w_ _ t r R D _ _=>op_pickb (show a_.eval (.tmp 10)=.bool true from D 5 rfl) (show a_.eval (.tmp 15)=.bool (decide (qr=qu)) from D 10 rfl)),.norm 4 rfl rfl rfl (fun a_ w_ _ t r R D _ _=>op_assign (show a_.eval (.tmp 16)=.bool (decide (qr=qu)) from D 11 rfl)),trivial⟩
  ·intro a2 w2 gs2 hn2 hd2 hBt hr hR hP hX hU
   replace hn:=hn2;replace hd:=hd2.trans hd
   have e4:a2.eval (.tmp 4)=.bool (decide (qr=qu)):=hP 12 (by decide)
   have f4:=e4
   replace Gr:=Gr.rl hr
   replace Kr:=Kr.rl hr
   replace Gu:=Gu.rl hr
   replace Ku:=Ku.rl hr
   replace HB:=HB.trans (hBt.below HB.size (UpOld.all (bx:=[]) trivial))
   clear hBt hr hR hP hX hU
   refine wp_ret ?_
   repeat (first | refine then_ret ?_ | refine scope_ret ?_ | refine block_ret ?_)
   exact bodyPost_ret (v:=.bool (decide (qr=qu))) (res_t rfl f4) hd ⟨_,rfl,rfl,HB⟩
set_option maxRecDepth 20000 in
set_option maxHeartbeats 1000000 in
theorem samerf_z (w:World) (nr:Bool) (ar:Option Addr) (cr:Nat) (rs:List Int) (pr:Int) (Gr:Wh w nr ar cr rs pr) (br:Option Addr) (dr:Nat) (rt:List Int) (qr:Int) (Kr:Got w br dr rt qr) (nu:Bool) (au:Option Addr) (cu:Nat) (us:List Int) (pu:Int) (Gu:Wh w nu au cu us pu) (bu:Option Addr) (du:Nat) (ut:List Int) (qu:Int) (Ku:Got w bu du ut qu) (hp:pr≠pu) :
  Calls Tryz.prog 16 #[.agg #[.bool nr,.slice ar rs.length cr,.slice br rt.length dr],.agg #[.bool nu,.slice au us.length cu,.slice bu ut.length du]] w fun e w'=>∃ v,e=.returned v∧(Eqs (.bool false)) v w'∧Below w.heap.size w w' := by
 go_enter Tryz.func16,Tryz.ntmps16
 generalize hA:(Act.mk _ _)=aa
 have hn:aa.tmps.size=17:=by rw [←hA];rfl
 have hd:aa.defers = []:=by rw [←hA]
 have f0:aa.eval (.tmp 0)=.agg #[.bool nr,.slice ar rs.length cr,.slice br rt.length dr]:=by rw [←hA];rfl
 have f1:aa.eval (.tmp 1)=.agg #[.bool nu,.slice au us.length cu,.slice bu ut.length du]:=by rw [←hA];rfl
 clear hA
 have HB:Below w.heap.size w w:=Below.refl _ _
 refine wp_seq ?_
 refine region4 [some 2,some 3,some 4] [Tt,Tt,Eqs ((.bool false))] [⟨R3,some 0,0,2,.agg #[.bool nr,.slice ar rs.length cr,.slice br rt.length dr],none,[]⟩,⟨R3,some 1,0,3,.agg #[.bool nu,.slice au us.length cu,.slice bu ut.length du],none,[]⟩] [] (by kernel_rfl) hn rfl (by kernel_rfl) (by kernel_rfl) (by kernel_rfl) (by kernel_rfl) (by kernel_rfl) (by kernel_rfl) ⟨True.mono4,True.mono4,Eqs.mono4 _,trivial⟩ (ok_cons R3ok (ok_cons R3ok ok_nil)) (IsOld.all (bx:=[⟨R3,some 0,0,2,.agg #[.bool nr,.slice ar rs.length cr,.slice br rt.length dr],none,[]⟩,⟨R3,some 1,0,3,.agg #[.bool nu,.slice au us.length cu,.slice bu ut.length du],none,[]⟩]) ⟨someNe,someNe,trivial⟩) (DisOld.all (bx:=[⟨R3,some 0,0,2,.agg #[.bool nr,.slice ar rs.length cr,.slice br rt.length dr],none,[]⟩,⟨R3,some 1,0,3,.agg #[.bool nu,.slice au us.length cu,.slice bu ut.length du],none,[]⟩]) ⟨someNe,someNe,trivial⟩) ?_ ?_
 ·exact ⟨.alloc 0 _ rfl rfl (.inr ⟨_,rfl,r3_cs,fun a_ hR=>(hR 0 rfl).trans f0⟩) rfl rfl rfl rfl rfl,.alloc 1 _ rfl rfl (.inr ⟨_,rfl,r3_cs,fun a_ hR=>(hR 1 rfl).trans f1⟩) rfl rfl rfl rfl rfl,.norm 4 rfl rfl rfl (fun a_ w_ _ t r R D _ _=>op_assign rfl),trivial⟩
 ·intro a1 w1 gs1 hn1 hd1 hBt hr hR hP hX hU
  replace hn:=hn1;replace hd:=hd1.trans hd
  have b2:BoxV R3 w1 (gs1 0) (.agg #[.bool nr,.slice ar rs.length cr,.slice br rt.length dr]):=(hX 0 _ rfl).2.2.2
  have f2:=(hX 0 _ rfl).1
  have u2:w.heap.size≤gs1 0:=Nat.le_trans HB.size ((hX 0 _ rfl).2.2.1 (by simp))
  have b3:BoxV R3 w1 (gs1 1) (.agg #[.bool nu,.slice au us.length cu,.slice bu ut.length du]):=(hX 1 _ rfl).2.2.2
  have f3:=(hX 1 _ rfl).1
  have u3:w.heap.size≤gs1 1:=Nat.le_trans HB.size ((hX 1 _ rfl).2.2.1 (by simp))
  have e4:a1.eval (.tmp 4)=(.bool false):=hP 2 (by decide)
  have f4:=e4
  replace Gr:=Gr.rl hr
  replace Kr:=Kr.rl hr
  replace Gu:=Gu.rl hr
  replace Ku:=Ku.rl hr
  replace HB:=HB.trans (hBt.below HB.size (UpOld.all (bx:=[⟨R3,some 0,0,2,.agg #[.bool nr,.slice ar rs.length cr,.slice br rt.length dr],none,[]⟩,⟨R3,some 1,0,3,.agg #[.bool nu,.slice au us.length cu,.slice bu ut.length du],none,[]⟩]) ⟨someNe,someNe,trivial⟩))
  clear hBt hr hR hP hX hU
  refine wp_seq ?_
  refine region4 [some 5,some 6,some 7,some 8,some 9,some 10,some 11,some 12,some 13,some 14,some 15,some 16,some 4] [Eqs (.pointer (some ⟨gs1 0,0,none⟩)),Eqs (.agg #[.bool nr,.slice ar rs.length cr]),Eqs (.pointer (some ⟨gs1 1,0,none⟩)),Eqs (.agg #[.bool nu,.slice au us.length cu]),Eqs (.bool false),Eqs (.bool false),Tt,Tt,Tt,Tt,Tt,Eqs (.bool false),Eqs (.bool false)] [] [] (by kernel_rfl) hn rfl (by kernel_rfl) (by kernel_rfl) (by kernel_rfl) (by kernel_rfl) (by kernel_rfl) (by kernel_rfl) ⟨Eqs.mono4 _,Eqs.mono4 _,Eqs.mono4 _,Eqs.mono4 _,Eqs.mono4 _,Eqs.mono4 _,True.mono4,True.mono4,True.mono4,True.mono4,True.mono4,Eqs.mono4 _,Eqs.mono4 _,trivial⟩ ok_nil (IsOld.all (bx:=[]) trivial) (DisOld.all (bx:=[]) trivial) ?_ ?_
  ·exact ⟨.norm 5 rfl rfl rfl (fun a_ w_ _ t r R D _ _=>op_faR fa_num ((R 2 rfl).trans f2)),.norm 6 rfl rfl rfl (fun a_ w_ _ t r R D _ _=>op_ldnum (show a_.eval (.tmp 5)=.pointer (some ⟨gs1 0,0,none⟩) from D 0 rfl) (b2.keep t trivial)),.norm 7 rfl rfl rfl (fun a_ w_ _ t r R D _ _=>op_faR fa_num ((R 3 rfl).trans f3)),.norm 8 rfl rfl rfl (fun a_ w_ _ t r R D _ _=>op_ldnum (show a_.eval (.tmp 7)=.pointer (some ⟨gs1 1,0,none⟩) from D 2 rfl) (b3.keep t trivial)),.norm 9 rfl rfl rfl (fun a_ w_ _ t r R D _ _=>op_samef (outw_eq (show a_.eval (.tmp 6)=.agg #[.bool nr,.slice ar rs.length cr] from D 1 rfl) (Gr.rl r) (Nat.le_refl _)) (outw_eq (show a_.eval (.tmp 8)=.agg #[.bool nu,.slice au us.length cu] from D 3 rfl) (Gu.rl r) (Nat.le_refl _)) hp),.norm 10 rfl rfl rfl (fun a_ w_ _ t r R D _ _=>op_mv (show a_.eval (.tmp 9)=.bool false from D 4 rfl)),.norm 11 rfl rfl rfl (fun a_ w_ _ t r R D _ _=>⟨⟨_,rfl⟩,fun h=>absurd ((show _=Value.bool false from D 5 rfl).symm.trans h) (by simp),fun _=>trivial⟩),.norm 12 rfl rfl rfl (fun a_ w_ _ t r R D _ _=>⟨⟨_,rfl⟩,fun h=>absurd ((show _=Value.bool false from D 5 rfl).symm.trans h) (by simp),fun _=>trivial⟩),.norm 13 rfl rfl rfl (fun a_ w_ _ t r R D _ _=>⟨⟨_,rfl⟩,fun h=>absurd ((show _=Value.bool false from D 5 rfl).symm.trans h) (by simp),fun _=>trivial⟩),.norm 14 rfl rfl rfl (fun a_ w_ _ t r R D _ _=>⟨⟨_,rfl⟩,fun h=>absurd ((show _=Value.bool false from D 5 rfl).symm.trans h) (by simp),fun _=>trivial⟩),.norm 15 rfl rfl rfl (fun a_ w_ _ t r R D _ _=>⟨⟨_,rfl⟩,fun h=>absurd ((show _=Value.bool false from D 5 rfl).symm.trans h) (by simp),fun _=>trivial⟩),.norm 16 rfl rfl rfl (fun a_ w_ _ t r R D _ _=>op_pickb (show a_.eval (.tmp 10)=.bool false from D 5 rfl) rfl),.norm 4 rfl rfl rfl (fun a_ w_ _ t r R D _ _=>op_assign (show a_.eval (.tmp 16)=.bool false from D 11 rfl)),trivial⟩
  ·intro a2 w2 gs2 hn2 hd2 hBt hr hR hP hX hU
   replace hn:=hn2;replace hd:=hd2.trans hd
   have e4:a2.eval (.tmp 4)=.bool false:=hP 12 (by decide)
   have f4:=e4
   replace Gr:=Gr.rl hr
   replace Kr:=Kr.rl hr
   replace Gu:=Gu.rl hr
   replace Ku:=Ku.rl hr
   replace HB:=HB.trans (hBt.below HB.size (UpOld.all (bx:=[]) trivial))
   clear hBt hr hR hP hX hU
   refine wp_ret ?_
   repeat (first | refine then_ret ?_ | refine scope_ret ?_ | refine block_ret ?_)
   exact bodyPost_ret (v:=.bool false) (res_t rfl f4) hd ⟨_,rfl,rfl,HB⟩
theorem has_samer:Has Tryz.prog 16:=by unfold Has;kernel_rfl
theorem op_samerb {dst:Option Tmp} {ty:TypeId} {pos:String} {after:Array Edge} {guard:Option (Nat × Bool)} {a:Act} {w:World} {ats:Array TypeId} {i j:Nat} {pr qr pu qu:Int} {Lr Lu:Nat} (h1:OutR pr qr Lr (a.eval (.tmp i)) w) (h2:OutR pu qu Lu (a.eval (.tmp j)) w) :
  Does Tryz.prog { dst,op:=.call { callee:=.value (.func 16),args:=#[.tmp i,.tmp j],argTypes:=ats },type:=ty,pos,after,guard } a.eval w fun v w'=>Below w.heap.size w w'∧Eqs (.bool (decide (pr=pu∧qr=qu))) v w' := by
 obtain ⟨ng,ao,cap,rs,bo,dap,ss,e1,G1,K1,_,_⟩:=h1
 obtain ⟨ng2,ao2,cap2,rs2,bo2,dap2,ss2,e2,G2,K2,_,_⟩:=h2
 by_cases hp:pr=pu
 ·refine does_call has_samer _ (by simp only [List.map_toArray,List.map_cons,List.map_nil,e1,e2]) ((samer_z w _ _ _ _ _ G1 _ _ _ _ K1 _ _ _ _ _ G2 _ _ _ _ K2 hp).mono ?_)
  rintro e w' ⟨v,rfl,h1,hb⟩
  exact ⟨_,rfl,hb,by simpa [hp] using h1⟩
 ·refine does_call has_samer _ (by simp only [List.map_toArray,List.map_cons,List.map_nil,e1,e2]) ((samerf_z w _ _ _ _ _ G1 _ _ _ _ K1 _ _ _ _ _ G2 _ _ _ _ K2 hp).mono ?_)
  rintro e w' ⟨v,rfl,h1,hb⟩
  exact ⟨_,rfl,hb,by simpa [hp] using h1⟩
theorem op_samer {dst:Option Tmp} {ty:TypeId} {pos:String} {after:Array Edge} {guard:Option (Nat × Bool)} {a:Act} {w:World} {ats:Array TypeId} {i j:Nat} {pr qr pu qu:Int} {Lr Lu:Nat} (h1:OutR pr qr Lr (a.eval (.tmp i)) w) (h2:OutR pu qu Lu (a.eval (.tmp j)) w) (h:pr=pu∧qr=qu) :
  Does Tryz.prog { dst,op:=.call { callee:=.value (.func 16),args:=#[.tmp i,.tmp j],argTypes:=ats },type:=ty,pos,after,guard } a.eval w fun v w'=>Below w.heap.size w w'∧Eqs (.bool true) v w' :=
 (op_samerb h1 h2).mono (fun v w' ⟨hb,e⟩=>⟨hb,by rw [Eqs,e,decide_eq_true h]⟩)
set_option maxRecDepth 20000 in
set_option maxHeartbeats 2000000 in
theorem rtext32_z (w:World) (Br:Nat) (nr:Bool) (ar:Option Addr) (mr cr:Nat) (rs:List Int) (pr:Int) (Ar:Ag w nr ar mr cr rs pr) (Lr:rs.length≤Br) (br:Option Addr) (kr dr:Nat) (rt:List Int) (qr:Int) (Sr:Sl w (.slice br kr dr) rt) (Vr:val rt=qr) (Mr:rt.length≤Br) (hL:Br≤1000) (hp:nm (tp pr qr) (tq qr) = -3) (hq:dn (tp pr qr) (tq qr)=2) :
  Calls Tryz.prog 24 #[.agg #[.bool nr,.slice ar mr cr,.slice br kr dr]] w fun e w'=>∃ v,e=.returned v∧(Eqs (.string ⟨#[45,51,47,50]⟩)) v w'∧Below w.heap.size w w' := by
 go_enter Tryz.func24,Tryz.ntmps24
 generalize hA:(Act.mk _ _)=aa
 have hn:aa.tmps.size=21:=by rw [←hA];rfl
 have hd:aa.defers = []:=by rw [←hA]
 have f0:aa.eval (.tmp 0)=.agg #[.bool nr,.slice ar mr cr,.slice br kr dr]:=by rw [←hA];rfl
 clear hA
 have HB:Below w.heap.size w w:=Below.refl _ _
 have Dr:Ag w false br kr dr rt qr:=⟨Sr,Vr⟩
 refine wp_seq ?_
 refine region4 [some 1,some 2] [Tt,Eqs ((.string ⟨#[]⟩))] [⟨R3,some 0,0,1,.agg #[.bool nr,.slice ar mr cr,.slice br kr dr],none,[]⟩] [] (by kernel_rfl) hn rfl (by kernel_rfl) (by kernel_rfl) (by kernel_rfl) (by kernel_rfl) (by kernel_rfl) (by kernel_rfl) ⟨True.mono4,Eqs.mono4 _,trivial⟩ (ok_cons R3ok ok_nil) (IsOld.all (bx:=[⟨R3,some 0,0,1,.agg #[.bool nr,.slice ar mr cr,.slice br kr dr],none,[]⟩]) ⟨someNe,trivial⟩) (DisOld.all (bx:=[⟨R3,some 0,0,1,.agg #[.bool nr,.slice ar mr cr,.slice br kr dr],none,[]⟩]) ⟨someNe,trivial⟩) ?_ ?_
 ·exact ⟨.alloc 0 _ rfl rfl (.inr ⟨_,rfl,r3_cs,fun a_ hR=>(hR 0 rfl).trans f0⟩) rfl rfl rfl rfl rfl,.norm 2 rfl rfl rfl (fun a_ w_ _ t r R D _ _=>op_assign rfl),trivial⟩
 ·intro a1 w1 gs1 hn1 hd1 hBt hr hR hP hX hU
  replace hn:=hn1;replace hd:=hd1.trans hd
  have b1:BoxV R3 w1 (gs1 0) (.agg #[.bool nr,.slice ar mr cr,.slice br kr dr]):=(hX 0 _ rfl).2.2.2
  have f1:=(hX 0 _ rfl).1
  have u1:w.heap.size≤gs1 0:=Nat.le_trans HB.size ((hX 0 _ rfl).2.2.1 (by simp))
  have e2:a1.eval (.tmp 2)=(.string ⟨#[]⟩):=hP 1 (by decide)
  have f2:=e2
  replace Ar:=Ar.rl hr
  replace Sr:=Sr.rl hr
  replace Dr:=Dr.rl hr
  replace HB:=HB.trans (hBt.below HB.size (UpOld.all (bx:=[⟨R3,some 0,0,1,.agg #[.bool nr,.slice ar mr cr,.slice br kr dr],none,[]⟩]) ⟨someNe,trivial⟩))
  clear hBt hr hR hP hX hU
  refine wp_seq ?_
  refine region4 [some 5,some 6,some 3,none] [Eqs (.agg #[.bool nr,.slice ar mr cr,.slice br kr dr]),OutR ((nm (tp pr qr) (tq qr))) ((dn (tp pr qr) (tq qr))) (2*((Br)+2)),Tt,Tt] [⟨R3,some 2,0,3,.agg #[.bool false,.slice none 0 0,.slice none 0 0],some (3,6,1),[]⟩] [] (by kernel_rfl) hn rfl (by kernel_rfl) (by kernel_rfl) (by kernel_rfl) (by kernel_rfl) (by kernel_rfl) (by kernel_rfl) ⟨Eqs.mono4 _,OutR.mono4 _ _ _,True.mono4,True.mono4,trivial⟩ (ok_cons R3ok ok_nil) (IsOld.all (bx:=[⟨R3,some 2,0,3,.agg #[.bool false,.slice none 0 0,.slice none 0 0],some (3,6,1),[]⟩]) ⟨someNe,trivial⟩) (DisOld.all (bx:=[⟨R3,some 2,0,3,.agg #[.bool false,.slice none 0 0,.slice none 0 0],some (3,6,1),[]⟩]) ⟨someNe,trivial⟩) ?_ ?_
  ·exact ⟨.norm 5 rfl rfl rfl (fun a_ w_ _ t r R D _ _=>op_loadv R3ok ((R 1 rfl).trans f1) (b1.keep t ⟨someNe,trivial⟩)),.norm 6 rfl rfl rfl (fun a_ w_ _ t r R D _ _=>op_rtrim (isr_eq (show a_.eval (.tmp 5)=.agg #[.bool nr,.slice ar mr cr,.slice br kr dr] from D 0 rfl) (Ar.rl r) (Sr.rl r) Vr Lr Mr) (by omega)),.alloc 0 _ rfl rfl (.inl ⟨rfl,rfl⟩) rfl rfl rfl rfl rfl,.store 0 _ _ _ rfl rfl rfl rfl rfl rfl rfl (fun ia h=>by cases h;rfl) rfl rfl rfl OutR.cs,trivial⟩
  ·intro a2 w2 gs2 hn2 hd2 hBt hr hR hP hX hU
   replace hn:=hn2;replace hd:=hd2.trans hd
   obtain ⟨n_3,a_3,c_3,r_3,b_3,d_3,s_3,e6,G3,K3,l3,k3⟩:OutR ((nm (tp pr qr) (tq qr))) ((dn (tp pr qr) (tq qr))) (2*((Br)+2)) (a2.eval (.tmp 6)) w2:=hP 1 (by decide)
   have A3:=G3.ag;have S3:=K3.sl;have V3:=K3.val
   have b3:BoxV R3 w2 (gs2 0) (.agg #[.bool n_3,.slice a_3 r_3.length c_3,.slice b_3 s_3.length d_3]):=boxv_of (hX 0 _ rfl).2.2.2 e6
   have f3:=(hX 0 _ rfl).1
   have u3:w.heap.size≤gs2 0:=Nat.le_trans HB.size ((hX 0 _ rfl).2.2.1 (by simp))
   replace f2:=(hR 2 rfl).trans f2
   replace Ar:=Ar.rl hr
   replace Sr:=Sr.rl hr
   replace Dr:=Dr.rl hr
   replace HB:=HB.trans (hBt.below HB.size (UpOld.all (bx:=[⟨R3,some 2,0,3,.agg #[.bool false,.slice none 0 0,.slice none 0 0],some (3,6,1),[]⟩]) ⟨someNe,trivial⟩))
   clear hBt hr hR hP hX hU
   refine wp_seq ?_
   refine region4 [some 7,some 8,some 9,some 4] [Eqs (.pointer (some ⟨gs2 0,0,none⟩)),Eqs (.agg #[.bool n_3,.slice a_3 r_3.length c_3]),Eqs (.string ⟨#[45,51]⟩),Eqs (.string ⟨#[45,51]⟩)] [] [] (by kernel_rfl) hn rfl (by kernel_rfl) (by kernel_rfl) (by kernel_rfl) (by kernel_rfl) (by kernel_rfl) (by kernel_rfl) ⟨Eqs.mono4 _,Eqs.mono4 _,Eqs.mono4 _,Eqs.mono4 _,trivial⟩ ok_nil (IsOld.all (bx:=[]) trivial) (DisOld.all (bx:=[]) trivial) ?_ ?_
   ·exact ⟨.norm 7 rfl rfl rfl (fun a_ w_ _ t r R D _ _=>op_faR fa_num ((R 3 rfl).trans f3)),.norm 8 rfl rfl rfl (fun a_ w_ _ t r R D _ _=>op_ldnum (show a_.eval (.tmp 7)=.pointer (some ⟨gs2 0,0,none⟩) from D 0 rfl) (b3.keep t trivial)),.norm 9 rfl rfl rfl (fun a_ w_ _ t r R D _ _=>op_text3 (outw_eq (show a_.eval (.tmp 8)=.agg #[.bool n_3,.slice a_3 r_3.length c_3] from D 1 rfl) (G3.rl r) l3) hp (by omega)),.norm 4 rfl rfl rfl (fun a_ w_ _ t r R D _ _=>op_assign (show a_.eval (.tmp 9)=.string ⟨#[45,51]⟩ from D 2 rfl)),trivial⟩
   ·intro a4 w4 gs4 hn4 hd4 hBt hr hR hP hX hU
    replace hn:=hn4;replace hd:=hd4.trans hd
    replace b3:=b3.keep hBt trivial
    replace f2:=(hR 2 rfl).trans f2
    replace f3:=(hR 3 rfl).trans f3
    have e4:a4.eval (.tmp 4)=.string ⟨#[45,51]⟩:=hP 3 (by decide)
    have f4:=e4
    replace Ar:=Ar.rl hr
    replace Sr:=Sr.rl hr
    replace Dr:=Dr.rl hr
    replace G3:=G3.rl hr
    replace A3:=A3.rl hr
    replace K3:=K3.rl hr
    replace S3:=S3.rl hr
    replace HB:=HB.trans (hBt.below HB.size (UpOld.all (bx:=[]) trivial))
    clear hBt hr hR hP hX hU
    refine wp_seq ?_
    refine wp_seq ?_
    refine region4 [some 10,some 11,some 12,some 13] [Eqs (.pointer (some ⟨gs2 0,2,none⟩)),Eqs (.slice b_3 s_3.length d_3),BitsOf ((dn (tp pr qr) (tq qr))),Eqs (.bool (decide ((dn (tp pr qr) (tq qr))=1)))] [] [] (by kernel_rfl) hn rfl (by kernel_rfl) (by kernel_rfl) (by kernel_rfl) (by kernel_rfl) (by kernel_rfl) (by kernel_rfl) ⟨Eqs.mono4 _,Eqs.mono4 _,BitsOf.mono4 _,Eqs.mono4 _,trivial⟩ ok_nil (IsOld.all (bx:=[]) trivial) (DisOld.all (bx:=[]) trivial) ?_ ?_
    ·exact ⟨.norm 10 rfl rfl rfl (fun a_ w_ _ t r R D _ _=>op_faR fa_den ((R 3 rfl).trans f3)),.norm 11 rfl rfl rfl (fun a_ w_ _ t r R D _ _=>op_ldden (show a_.eval (.tmp 10)=.pointer (some ⟨gs2 0,2,none⟩) from D 0 rfl) (b3.keep t trivial)),.norm 12 rfl rfl rfl (fun a_ w_ _ t r R D _ _=>op_lbits (isl_eq (show a_.eval (.tmp 11)=.slice b_3 s_3.length d_3 from D 1 rfl) (S3.rl r) V3 k3) (by omega)),.norm 13 rfl rfl rfl (fun a_ w_ _ t r R D _ _=>op_bits1 (show BitsOf ((dn (tp pr qr) (tq qr))) (a_.eval (.tmp 12)) w_ from D 2 rfl) (by rw [hq];omega)),trivial⟩
    ·intro a5 w5 gs5 hn5 hd5 hBt hr hR hP hX hU
     replace hn:=hn5;replace hd:=hd5.trans hd
     replace b3:=b3.keep hBt trivial
     replace f2:=(hR 2 rfl).trans f2
     replace f3:=(hR 3 rfl).trans f3
     replace f4:=(hR 4 rfl).trans f4
     have e13:a5.eval (.tmp 13)=.bool (decide ((dn (tp pr qr) (tq qr))=1)):=hP 3 (by decide)
     have f13:=e13
     replace Ar:=Ar.rl hr
     replace Sr:=Sr.rl hr
     replace Dr:=Dr.rl hr
     replace G3:=G3.rl hr
     replace A3:=A3.rl hr
     replace K3:=K3.rl hr
     replace S3:=S3.rl hr
     replace HB:=HB.trans (hBt.below HB.size (UpOld.all (bx:=[]) trivial))
     clear hBt hr hR hP hX hU
     refine wp_cond_split f13 (fun hc13=>?_) (fun hc13=>?_)
     ·skip
      exact absurd (of_decide_eq_true hc13) (by rw [hq];omega)
     ·skip
      refine wp_skip ?_
      refine wp_seq ?_
      refine region4 [some 15,some 16,some 17,some 18,some 19,some 20,some 2] [Eqs (.string ⟨#[45,51]⟩),Eqs (.string ⟨#[45,51,47]⟩),Eqs (.pointer (some ⟨gs2 0,2,none⟩)),Eqs (.slice b_3 s_3.length d_3),Eqs (.string ⟨#[50]⟩),Eqs (.string ⟨#[45,51,47,50]⟩),Eqs (.string ⟨#[45,51,47,50]⟩)] [] [] (by kernel_rfl) hn rfl (by kernel_rfl) (by kernel_rfl) (by kernel_rfl) (by kernel_rfl) (by kernel_rfl) (by kernel_rfl) ⟨Eqs.mono4 _,Eqs.mono4 _,Eqs.mono4 _,Eqs.mono4 _,Eqs.mono4 _,Eqs.mono4 _,Eqs.mono4 _,trivial⟩ ok_nil (IsOld.all (bx:=[]) trivial) (DisOld.all (bx:=[]) trivial) ?_ ?_
      ·exact ⟨.norm 15 rfl rfl rfl (fun a_ w_ _ t r R D _ _=>op_mv ((R 4 rfl).trans f4)),.norm 16 rfl rfl rfl (fun a_ w_ _ t r R D _ _=>op_cat (show a_.eval (.tmp 15)=.string ⟨#[45,51]⟩ from D 0 rfl) rfl (by decide) rfl),.norm 17 rfl rfl rfl (fun a_ w_ _ t r R D _ _=>op_faR fa_den ((R 3 rfl).trans f3)),.norm 18 rfl rfl rfl (fun a_ w_ _ t r R D _ _=>op_ldden (show a_.eval (.tmp 17)=.pointer (some ⟨gs2 0,2,none⟩) from D 2 rfl) (b3.keep t trivial)),.norm 19 rfl rfl rfl (fun a_ w_ _ t r R D _ _=>op_text2 (isl_eq (show a_.eval (.tmp 18)=.slice b_3 s_3.length d_3 from D 3 rfl) (S3.rl r) V3 k3) hq (by omega)),.norm 20 rfl rfl rfl (fun a_ w_ _ t r R D _ _=>op_cat (show a_.eval (.tmp 16)=.string ⟨#[45,51,47]⟩ from D 1 rfl) (show a_.eval (.tmp 19)=.string ⟨#[50]⟩ from D 4 rfl) (by decide) rfl),.norm 2 rfl rfl rfl (fun a_ w_ _ t r R D _ _=>op_assign (show a_.eval (.tmp 20)=.string ⟨#[45,51,47,50]⟩ from D 5 rfl)),trivial⟩
      ·intro a6 w6 gs6 hn6 hd6 hBt hr hR hP hX hU
       replace hn:=hn6;replace hd:=hd6.trans hd
       have e2:a6.eval (.tmp 2)=.string ⟨#[45,51,47,50]⟩:=hP 6 (by decide)
       have f2:=e2
       replace Ar:=Ar.rl hr
       replace Sr:=Sr.rl hr
       replace Dr:=Dr.rl hr
       replace G3:=G3.rl hr
       replace A3:=A3.rl hr
       replace K3:=K3.rl hr
       replace S3:=S3.rl hr
       replace HB:=HB.trans (hBt.below HB.size (UpOld.all (bx:=[]) trivial))
       clear hBt hr hR hP hX hU
       refine wp_ret ?_
       repeat (first | refine then_ret ?_ | refine scope_ret ?_ | refine block_ret ?_)
       exact bodyPost_ret (v:=.string ⟨#[45,51,47,50]⟩) (res_t rfl f2) hd ⟨_,rfl,rfl,HB⟩
theorem has_rtext32:Has Tryz.prog 24:=by unfold Has;kernel_rfl
theorem op_rtext32 {dst:Option Tmp} {ty:TypeId} {pos:String} {after:Array Edge} {guard:Option (Nat × Bool)} {a:Act} {w:World} {ats:Array TypeId} {i:Nat} {Br:Nat} {pr qr:Int} (Hr:IsR pr qr Br (a.eval (.tmp i)) w) (hL:Br≤1000) (hp:nm (tp pr qr) (tq qr) = -3) (hq:dn (tp pr qr) (tq qr)=2) :
  Does Tryz.prog { dst,op:=.call { callee:=.value (.func 24),args:=#[.tmp i],argTypes:=ats },type:=ty,pos,after,guard } a.eval w fun v w'=>Below w.heap.size w w'∧(Eqs (.string ⟨#[45,51,47,50]⟩)) v w' := by
 obtain ⟨nr,ar,mr,cr,rs,br,kr,dr,rt,er,Ar,Sr,Vr,Lr,Mr⟩:=Hr
 refine does_call has_rtext32 _ (by simp only [List.map_toArray,List.map_cons,List.map_nil,er]) ((rtext32_z w Br _ _ _ _ _ _ Ar Lr _ _ _ _ _ Sr Vr Mr hL hp hq).mono ?_)
 rintro e w' ⟨v,rfl,h1,hb⟩
 exact ⟨_,rfl,hb,h1⟩
set_option maxRecDepth 20000 in
set_option maxHeartbeats 1000000 in
theorem rawake_z (w:World):Calls Tryz.prog 4 #[] w fun e w'=>∃ v,e=.returned v∧(Eqs (.bool true)) v w'∧Below w.heap.size w w' := by
 go_enter Tryz.func4,Tryz.ntmps4
 generalize hA:(Act.mk _ _)=aa
 have hn:aa.tmps.size=16:=by rw [←hA];rfl
 have hd:aa.defers = []:=by rw [←hA]
 clear hA
 have HB:Below w.heap.size w w:=Below.refl _ _
 refine wp_seq ?_
 refine region4 [some 0] [Eqs ((.bool false))] [] [] (by kernel_rfl) hn rfl (by kernel_rfl) (by kernel_rfl) (by kernel_rfl) (by kernel_rfl) (by kernel_rfl) (by kernel_rfl) ⟨Eqs.mono4 _,trivial⟩ ok_nil (IsOld.all (bx:=[]) trivial) (DisOld.all (bx:=[]) trivial) ?_ ?_
 ·exact ⟨.norm 0 rfl rfl rfl (fun a_ w_ _ t r R D _ _=>op_assign rfl),trivial⟩
 ·intro a1 w1 gs1 hn1 hd1 hBt hr hR hP hX hU
  replace hn:=hn1;replace hd:=hd1.trans hd
  have e0:a1.eval (.tmp 0)=(.bool false):=hP 0 (by decide)
  have f0:=e0
  replace HB:=HB.trans (hBt.below HB.size (UpOld.all (bx:=[]) trivial))
  clear hBt hr hR hP hX hU
  refine wp_seq ?_
  refine region4 [some 4,some 5,some 6,some 3,some 7,some 8,some 1,none,some 2] [OutW (6) (2),OutW ((-4)) (2),Tup2 (OutR ((nm 6 (-4))) ((dn 6 (-4))) ((2)+(2))) (Eqs (.int .i64 0)),Tup2 (OutR ((nm 6 (-4))) ((dn 6 (-4))) ((2)+(2))) (Eqs (.int .i64 0)),OutR ((nm 6 (-4))) ((dn 6 (-4))) ((2)+(2)),Eqs (.int .i64 0),Tt,Tt,Eqs (.int .i64 0)] [⟨R3,some 6,0,1,.agg #[.bool false,.slice none 0 0,.slice none 0 0],some (7,7,4),[]⟩] [] (by kernel_rfl) hn rfl (by kernel_rfl) (by kernel_rfl) (by kernel_rfl) (by kernel_rfl) (by kernel_rfl) (by kernel_rfl) ⟨OutW.mono4 _ _,OutW.mono4 _ _,Tup2.mono4 (OutR.mono4 _ _ _) (Eqs.mono4 _),Tup2.mono4 (OutR.mono4 _ _ _) (Eqs.mono4 _),OutR.mono4 _ _ _,Eqs.mono4 _,True.mono4,True.mono4,Eqs.mono4 _,trivial⟩ (ok_cons R3ok ok_nil) (IsOld.all (bx:=[⟨R3,some 6,0,1,.agg #[.bool false,.slice none 0 0,.slice none 0 0],some (7,7,4),[]⟩]) ⟨someNe,trivial⟩) (DisOld.all (bx:=[⟨R3,some 6,0,1,.agg #[.bool false,.slice none 0 0,.slice none 0 0],some (7,7,4),[]⟩]) ⟨someNe,trivial⟩) ?_ ?_
  ·exact ⟨.norm 4 rfl rfl rfl (fun a_ w_ _ t r R D _ _=>op_lsmall (by omega) (by omega)),.norm 5 rfl rfl rfl (fun a_ w_ _ t r R D _ _=>op_lsmall (by omega) (by omega)),.norm 6 rfl rfl rfl (fun a_ w_ _ t r R D _ _=>op_rof (show OutW (6) (2) (a_.eval (.tmp 4)) w_ from D 0 rfl).is (show OutW ((-4)) (2) (a_.eval (.tmp 5)) w_ from D 1 rfl).is (by omega) (by omega)),.norm 3 rfl rfl rfl (fun a_ w_ _ t r R D _ _=>op_mvp (p:=Tup2 (OutR ((nm 6 (-4))) ((dn 6 (-4))) ((2)+(2))) (Eqs (.int .i64 0))) (show Tup2 (OutR ((nm 6 (-4))) ((dn 6 (-4))) ((2)+(2))) (Eqs (.int .i64 0)) (a_.eval (.tmp 6)) w_ from D 2 rfl)),.norm 7 rfl rfl rfl (fun a_ w_ _ t r R D _ _=>op_ex20 (show Tup2 (OutR ((nm 6 (-4))) ((dn 6 (-4))) ((2)+(2))) (Eqs (.int .i64 0)) (a_.eval (.tmp 3)) w_ from D 3 rfl)),.norm 8 rfl rfl rfl (fun a_ w_ _ t r R D _ _=>op_ex21 (show Tup2 (OutR ((nm 6 (-4))) ((dn 6 (-4))) ((2)+(2))) (Eqs (.int .i64 0)) (a_.eval (.tmp 3)) w_ from D 3 rfl)),.alloc 0 _ rfl rfl (.inl ⟨rfl,rfl⟩) rfl rfl rfl rfl rfl,.store 0 _ _ _ rfl rfl rfl rfl rfl rfl rfl (fun ia h=>by cases h;rfl) rfl rfl rfl OutR.cs,.norm 2 rfl rfl rfl (fun a_ w_ _ t r R D _ _=>op_assign (show a_.eval (.tmp 8)=.int .i64 0 from D 5 rfl)),trivial⟩
  ·intro a2 w2 gs2 hn2 hd2 hBt hr hR hP hX hU
   replace hn:=hn2;replace hd:=hd2.trans hd
   obtain ⟨n_3,a_3,c_3,r_3,b_3,d_3,s_3,e7,G3,K3,l3,k3⟩:OutR ((nm 6 (-4))) ((dn 6 (-4))) ((2)+(2)) (a2.eval (.tmp 7)) w2:=hP 4 (by decide)
   have A3:=G3.ag;have S3:=K3.sl;have V3:=K3.val
   have b1:BoxV R3 w2 (gs2 0) (.agg #[.bool n_3,.slice a_3 r_3.length c_3,.slice b_3 s_3.length d_3]):=boxv_of (hX 0 _ rfl).2.2.2 e7
   have f1:=(hX 0 _ rfl).1
   have u1:w.heap.size≤gs2 0:=Nat.le_trans HB.size ((hX 0 _ rfl).2.2.1 (by simp))
   replace f0:=(hR 0 rfl).trans f0
   have e2:a2.eval (.tmp 2)=.int .i64 0:=hP 8 (by decide)
   have f2:=e2
   replace HB:=HB.trans (hBt.below HB.size (UpOld.all (bx:=[⟨R3,some 6,0,1,.agg #[.bool false,.slice none 0 0,.slice none 0 0],some (7,7,4),[]⟩]) ⟨someNe,trivial⟩))
   clear hBt hr hR hP hX hU
   refine wp_seq ?_
   refine region4 [some 9,some 10,some 11,some 12,some 13,some 14,some 15,some 0] [Eqs (.int .i64 0),Eqs (.bool true),Eqs (.bool true),Eqs (.agg #[.bool n_3,.slice a_3 r_3.length c_3,.slice b_3 s_3.length d_3]),Eqs (.string ⟨#[45,51,47,50]⟩),Eqs (.bool true),Eqs (.bool true),Eqs (.bool true)] [] [] (by kernel_rfl) hn rfl (by kernel_rfl) (by kernel_rfl) (by kernel_rfl) (by kernel_rfl) (by kernel_rfl) (by kernel_rfl) ⟨Eqs.mono4 _,Eqs.mono4 _,Eqs.mono4 _,Eqs.mono4 _,Eqs.mono4 _,Eqs.mono4 _,Eqs.mono4 _,Eqs.mono4 _,trivial⟩ ok_nil (IsOld.all (bx:=[]) trivial) (DisOld.all (bx:=[]) trivial) ?_ ?_
   ·exact ⟨.norm 9 rfl rfl rfl (fun a_ w_ _ t r R D _ _=>op_mv ((R 2 rfl).trans f2)),.norm 10 rfl rfl rfl (fun a_ w_ _ t r R D _ _=>op_eqle (show a_.eval (.tmp 9)=.int .i64 0 from D 0 rfl)),.norm 11 rfl rfl rfl (fun a_ w_ _ t r R D _ _=>op_mv (show a_.eval (.tmp 10)=.bool true from D 1 rfl)),.norm 12 rfl rfl rfl (fun a_ w_ _ t r R D _ _=>⟨⟨_,rfl⟩,fun _=>op_loadv R3ok ((R 1 rfl).trans f1) (b1.keep t trivial),fun hne=>absurd (D 2 rfl) hne⟩),.norm 13 rfl rfl rfl (fun a_ w_ _ t r R D _ _=>⟨⟨_,rfl⟩,fun _=>op_rtext32 (isr_eq (show a_.eval (.tmp 12)=.agg #[.bool n_3,.slice a_3 r_3.length c_3,.slice b_3 s_3.length d_3] from D 3 rfl) (A3.rl r) (S3.rl r) V3 l3 k3) (by omega) (by decide) (by decide),fun hne=>absurd (D 2 rfl) hne⟩),.norm 14 rfl rfl rfl (fun a_ w_ _ t r R D _ _=>⟨⟨_,rfl⟩,fun _=>op_eqls (show a_.eval (.tmp 13)=.string ⟨#[45,51,47,50]⟩ from D 4 rfl) rfl,fun hne=>absurd (D 2 rfl) hne⟩),.norm 15 rfl rfl rfl (fun a_ w_ _ t r R D _ _=>op_pickb (show a_.eval (.tmp 11)=.bool true from D 2 rfl) (show a_.eval (.tmp 14)=.bool true from D 5 rfl)),.norm 0 rfl rfl rfl (fun a_ w_ _ t r R D _ _=>op_assign (show a_.eval (.tmp 15)=.bool true from D 6 rfl)),trivial⟩
   ·intro a4 w4 gs4 hn4 hd4 hBt hr hR hP hX hU
    replace hn:=hn4;replace hd:=hd4.trans hd
    have e0:a4.eval (.tmp 0)=.bool true:=hP 7 (by decide)
    have f0:=e0
    replace G3:=G3.rl hr
    replace A3:=A3.rl hr
    replace K3:=K3.rl hr
    replace S3:=S3.rl hr
    replace HB:=HB.trans (hBt.below HB.size (UpOld.all (bx:=[]) trivial))
    clear hBt hr hR hP hX hU
    refine wp_ret ?_
    repeat (first | refine then_ret ?_ | refine scope_ret ?_ | refine block_ret ?_)
    exact bodyPost_ret (v:=.bool true) (res_t rfl f0) hd ⟨_,rfl,rfl,HB⟩
theorem has_rawake:Has Tryz.prog 4:=by unfold Has;kernel_rfl
theorem op_rawake {dst:Option Tmp} {ty:TypeId} {pos:String} {after:Array Edge} {guard:Option (Nat × Bool)} {a:Act} {w:World} {ats:Array TypeId} : Does Tryz.prog { dst,op:=.call { callee:=.value (.func 4),args:=#[],argTypes:=ats },type:=ty,pos,after,guard } a.eval w fun v w'=>Below w.heap.size w w'∧Eqs (.bool true) v w' := by
 refine does_call has_rawake _ (by simp only [List.map_toArray,List.map_nil]) ((rawake_z w).mono ?_)
 rintro e w' ⟨v,rfl,h1,hb⟩
 exact ⟨_,rfl,hb,h1⟩
end Lm
end Go.Proofs.YtpofkigboedliaaGreat

namespace Go.Proofs.YtpofkigboedliaaGreat
namespace Lm
open Go.RowKit
def bmk (i:Nat):Value:=.int .u32 (1358954496+(i:Int))
def bmks (n:Nat):List Value:=(List.range n).map bmk
theorem bmks_succ (n:Nat):bmks (n+1)=bmks n ++ [bmk n]:=by simp [bmks,List.range_succ]
theorem bmks_get {n i:Nat} (h:i<n):(bmks n)[i]? = some (bmk i):=by simp [bmks,h]
def RoomOk (w:World) (bs:List Nat) (lv mv:Value) (i:Nat) (u:Value):Prop :=
  ∃ ao n cap,u=.slice ao n cap∧n≤cap∧n≤4096∧cap≤9223372036854775807∧(n=0∨∃ g off,ao=some ⟨g,off,none⟩∧g ∈ bs∧lv.ownBlock≠some g∧mv.ownBlock≠some g∧∀ k,k<n→w.cell? ⟨g,off+k,none⟩ = some (bmk i))
structure Bk (w:World) (p Q:Nat) (bs:List Nat) (rv:List Value) (m:Nat) (lv mv:Value):Prop where
  here:w.heap[p]? = some (.cells #[lv,mv] 34 (0,0))
  lists:w.ownsRow Q 22 1 lv rv.length rv
  marks:w.ownsRow Q 69 1 mv m (bmks m)
  lvb:∀ j,lv.ownBlock=some j→j ∈ bs
  mvb:∀ j,mv.ownBlock=some j→j ∈ bs
  two:∀ j,lv.ownBlock=some j→mv.ownBlock≠some j
  rooms:∀ i u,rv[i]? = some u→RoomOk w bs lv mv i u
  low:∀ j,j ∈ bs→Q≤j∧j<w.heap.size
  pQ:p ∉ bs
theorem owns_kept {Q e n:Nat} {w w' : World} {v:Value} {xs:List Value} (h:w.ownsRow Q e 1 v n xs) (hb:∀ j,v.ownBlock=some j→w'.heap[j]? = w.heap[j]?):w'.ownsRow Q e 1 v n xs:=by
  obtain ⟨h1,h2⟩:=h
  refine ⟨h1,?_⟩
  rcases h2 with h2 | ⟨g,cap,cur,rfl,hg,hh,r⟩
  · exact .inl h2
  · exact .inr ⟨g,cap,cur,rfl,hg,by rw [hb g rfl];exact hh,r⟩
theorem RoomOk.kept {w w' : World} {bs bs' : List Nat} {lv mv lv' mv' : Value} {i:Nat} {u:Value} (h:RoomOk w bs lv mv i u)
    (hb:∀ j,j ∈ bs→j ∈ bs') (hl:∀ j,j ∈ bs→lv.ownBlock≠some j→mv.ownBlock≠some j→lv'.ownBlock≠some j∧mv'.ownBlock≠some j∧w'.heap[j]? = w.heap[j]?):RoomOk w' bs' lv' mv' i u:=by
  obtain ⟨ao,n,cap,rfl,h1,h2,h3,h4⟩:=h
  refine ⟨ao,n,cap,rfl,h1,h2,h3,?_⟩
  rcases h4 with h4 | ⟨g,off,rfl,hg,e1,e2,hc⟩
  · exact .inl h4
  · obtain ⟨f1,f2,f3⟩:=hl g hg e1 e2
    exact .inr ⟨g,off,rfl,hb g hg,f1,f2,fun k hk=>by rw [World.cell?_of_block (w:=w) f3];exact hc k hk⟩
theorem Bk.kept {w w' : World} {p Q m:Nat} {bs:List Nat} {rv:List Value} {lv mv:Value} (h:Bk w p Q bs rv m lv mv) (hp:w'.heap[p]? = w.heap[p]?) (hb:∀ j,j ∈ bs→w'.heap[j]? = w.heap[j]?) (hs:w.heap.size≤w'.heap.size):Bk w' p Q bs rv m lv mv :=
  ⟨hp.trans h.here,owns_kept h.lists fun j hj=>hb j (h.lvb j hj),owns_kept h.marks fun j hj=>hb j (h.mvb j hj),h.lvb,h.mvb,h.two,
   fun i u hu=>(h.rooms i u hu).kept (fun _ hj=>hj) fun j hj e1 e2=>⟨e1,e2,hb j hj⟩,fun j hj=>⟨(h.low j hj).1,Nat.lt_of_lt_of_le (h.low j hj).2 hs⟩,h.pQ⟩
theorem Bk.lt {w:World} {p Q m:Nat} {bs:List Nat} {rv:List Value} {lv mv:Value} (h:Bk w p Q bs rv m lv mv):p<w.heap.size:=lt_of_heap h.here
theorem Bk.below {w w' : World} {p Q m:Nat} {bs:List Nat} {rv:List Value} {lv mv:Value} (h:Bk w p Q bs rv m lv mv) (hb:Below w.heap.size w w'):Bk w' p Q bs rv m lv mv :=
  h.kept (hb.block p h.lt) (fun j hj=>hb.block j (h.low j hj).2) hb.size
theorem Bk.touch {w w' : World} {p Q m L:Nat} {bs:List Nat} {rv:List Value} {lv mv:Value} (h:Bk w p Q bs rv m lv mv) (t:Touch w w' L) (h1:p≠L) (h2:L ∉ bs):Bk w' p Q bs rv m lv mv :=
  h.kept (t.other p h.lt h1) (fun j hj=>t.other j (h.low j hj).2 (fun e=>h2 (e ▸ hj))) t.size
theorem Bk.more {w:World} {p Q m:Nat} {bs gs:List Nat} {rv:List Value} {lv mv:Value} (h:Bk w p Q bs rv m lv mv) (hg:∀ j,j ∈ gs→Q≤j∧j<w.heap.size) (hp:p ∉ gs):Bk w p Q (gs ++ bs) rv m lv mv :=
  ⟨h.here,h.lists,h.marks,fun j hj=>List.mem_append_right _ (h.lvb j hj),fun j hj=>List.mem_append_right _ (h.mvb j hj),h.two,
   fun i u hu=>(h.rooms i u hu).kept (fun _ hj=>List.mem_append_right _ hj) fun _ _ e1 e2=>⟨e1,e2,rfl⟩,
   fun j hj=>(List.mem_append.1 hj).elim (hg j) (h.low j),fun hj=>(List.mem_append.1 hj).elim hp h.pQ⟩
theorem setCell_block {w:World} {p i k:Nat} {u:Value} (h:k≠p):(w.setCell ⟨p,i,none⟩ u).heap[k]? = w.heap[k]? := heap_setCell_other w ⟨p,i,none⟩ k u h
theorem own_of {a:Addr} {n c j:Nat} (h:(Value.slice (some a) n c).ownBlock=some j):a.block=j:=by simpa [Value.ownBlock] using h
theorem Bk.list_step {w w1:World} {p Q m:Nat} {bs:List Nat} {rv:List Value} {lv mv u:Value} {o:Obj} {g1 c1:Nat} (h:Bk w p Q bs rv m lv mv) (hg:(w.alloc o).grownBy w1 lv.ownBlock)
    (hown:w1.ownsRow Q 22 1 (.slice (some ⟨g1,0,none⟩) (rv.length+1) c1) (rv.length+1) (rv ++ [u])) (hat:lv.ownBlock=some g1∨g1=w.heap.size+1) (hlt:g1<w1.heap.size) (hQ:Q≤w.heap.size)
    (hu:RoomOk w bs lv mv rv.length u):Bk (w1.setCell ⟨p,0,none⟩ (.slice (some ⟨g1,0,none⟩) (rv.length+1) c1)) p Q (g1 :: bs) (rv ++ [u]) m (.slice (some ⟨g1,0,none⟩) (rv.length+1) c1) mv:=by
  have hp:=h.lt
  have al:∀ j,j<w.heap.size→(w.alloc o).heap[j]? = w.heap[j]? := fun j hj=>Below.heap_alloc _ _ _ hj
  have hsz:w.heap.size+1≤w1.heap.size:=by have:=hg.size;simpa using this
  have pl:lv.ownBlock≠some p:=fun e=>h.pQ (h.lvb p e)
  have gp:g1≠p:=by
    rcases hat with e | e
    · intro e';rw [e'] at e;exact pl e
    · omega
  have keep:∀ j,j<w.heap.size→lv.ownBlock≠some j→w1.heap[j]? = w.heap[j]? := fun j hj hn=>(hg.block j (by simp;omega) (fun e=>hn e.symm)).trans (al j hj)
  have here1:w1.heap[p]? = some (.cells #[lv,mv] 34 (0,0)):=(keep p hp pl).trans h.here
  have nogo:∀ j,j<w.heap.size→lv.ownBlock≠some j→g1≠j:=by
    intro j hj hn e
    rcases hat with e' | e'
    · rw [e] at e';exact hn e'
    · omega
  have keep2:∀ j,j<w.heap.size→lv.ownBlock≠some j→j≠p→(w1.setCell ⟨p,0,none⟩ (.slice (some ⟨g1,0,none⟩) (rv.length+1) c1)).heap[j]? = w.heap[j]? := fun j hj hn hne=>(setCell_block hne).trans (keep j hj hn)
  refine ⟨?_,?_,?_,?_,?_,?_,?_,?_,fun hj=>(List.mem_cons.1 hj).elim (fun e=>gp e.symm) h.pQ⟩
  · exact heap_setCell_same w1 p 0 _ _ _ here1
  · have e:(rv ++ [u]).length=rv.length+1:=by simp
    rw [e]
    exact owns_kept hown fun j hj=>setCell_block (by have:=own_of hj;simp at this;omega)
  · exact owns_kept h.marks fun j hj=>by
      have hjb:=h.low j (h.mvb j hj)
      exact keep2 j hjb.2 (fun e=>h.two j e hj) (fun e=>h.pQ (e ▸ h.mvb j hj))
  · intro j hj
    have:=own_of hj
    simp at this
    simp [this]
  · exact fun j hj=>List.mem_cons_of_mem _ (h.mvb j hj)
  · intro j hj e
    have e1:=own_of hj
    simp at e1
    subst e1
    have hjb:=h.low _ (h.mvb _ e)
    rcases hat with e' | e'
    · exact h.two _ e' e
    · omega
  · intro i v hv
    have step:∀ {i v},RoomOk w bs lv mv i v→RoomOk (w1.setCell ⟨p,0,none⟩ (.slice (some ⟨g1,0,none⟩) (rv.length+1) c1)) (g1 :: bs) (.slice (some ⟨g1,0,none⟩) (rv.length+1) c1) mv i v:=fun hr =>
      hr.kept (fun _ hj=>List.mem_cons_of_mem _ hj) fun j hj e1 e2=>by
        have hjb:=h.low j hj
        have hpq:=h.pQ
        refine ⟨?_,e2,keep2 j hjb.2 e1 (fun e=>hpq (e ▸ hj))⟩
        intro e
        have:=own_of e
        exact nogo j hjb.2 e1 (by simpa using this)
    by_cases hi:i<rv.length
    · rw [List.getElem?_append_left hi] at hv
      exact step (h.rooms i v hv)
    · have hi2:i=rv.length:=by
        apply Classical.byContradiction
        intro hn
        rw [List.getElem?_eq_none (by simp;omega)] at hv
        cases hv
      subst hi2
      rw [List.getElem?_append_right (Nat.le_refl _)] at hv
      simp at hv
      subst hv
      exact step hu
  · intro j hj
    have hss:(w1.setCell ⟨p,0,none⟩ (.slice (some ⟨g1,0,none⟩) (rv.length+1) c1)).heap.size=w1.heap.size:=by simp [World.setCell]
    rw [hss]
    rcases List.mem_cons.1 hj with e | e
    · subst e
      refine ⟨?_,hlt⟩
      rcases hat with e' | e'
      · exact (h.low _ (h.lvb _ e')).1
      · omega
    · have:=h.low j e
      omega
theorem Bk.mark_step {w w1:World} {p Q m:Nat} {bs:List Nat} {rv:List Value} {lv mv:Value} {o:Obj} {g1 c1:Nat} (h:Bk w p Q bs rv m lv mv) (hg:(w.alloc o).grownBy w1 mv.ownBlock)
    (hown:w1.ownsRow Q 69 1 (.slice (some ⟨g1,0,none⟩) (m+1) c1) (m+1) (bmks m ++ [bmk m])) (hat:mv.ownBlock=some g1∨g1=w.heap.size+1) (hlt:g1<w1.heap.size) (hQ:Q≤w.heap.size) :
    Bk (w1.setCell ⟨p,1,none⟩ (.slice (some ⟨g1,0,none⟩) (m+1) c1)) p Q (g1 :: bs) rv (m+1) lv (.slice (some ⟨g1,0,none⟩) (m+1) c1):=by
  have hp:=h.lt
  have al:∀ j,j<w.heap.size→(w.alloc o).heap[j]? = w.heap[j]? := fun j hj=>Below.heap_alloc _ _ _ hj
  have hsz:w.heap.size+1≤w1.heap.size:=by have:=hg.size;simpa using this
  have pl:mv.ownBlock≠some p:=fun e=>h.pQ (h.mvb p e)
  have gp:g1≠p:=by
    rcases hat with e | e
    · intro e';rw [e'] at e;exact pl e
    · omega
  have keep:∀ j,j<w.heap.size→mv.ownBlock≠some j→w1.heap[j]? = w.heap[j]? := fun j hj hn=>(hg.block j (by simp;omega) (fun e=>hn e.symm)).trans (al j hj)
  have here1:w1.heap[p]? = some (.cells #[lv,mv] 34 (0,0)):=(keep p hp pl).trans h.here
  have nogo:∀ j,j<w.heap.size→mv.ownBlock≠some j→g1≠j:=by
    intro j hj hn e
    rcases hat with e' | e'
    · rw [e] at e';exact hn e'
    · omega
  have keep2:∀ j,j<w.heap.size→mv.ownBlock≠some j→j≠p→(w1.setCell ⟨p,1,none⟩ (.slice (some ⟨g1,0,none⟩) (m+1) c1)).heap[j]? = w.heap[j]? := fun j hj hn hne=>(setCell_block hne).trans (keep j hj hn)
  refine ⟨?_,?_,?_,?_,?_,?_,?_,?_,fun hj=>(List.mem_cons.1 hj).elim (fun e=>gp e.symm) h.pQ⟩
  · exact heap_setCell_same w1 p 1 _ _ _ here1
  · exact owns_kept h.lists fun j hj=>by
      have hjb:=h.low j (h.lvb j hj)
      exact keep2 j hjb.2 (h.two j hj) (fun e=>h.pQ (e ▸ h.lvb j hj))
  · rw [bmks_succ]
    exact owns_kept hown fun j hj=>setCell_block (by have:=own_of hj;simp at this;omega)
  · exact fun j hj=>List.mem_cons_of_mem _ (h.lvb j hj)
  · intro j hj
    have:=own_of hj
    simp at this
    simp [this]
  · intro j hj e
    have e1:=own_of e
    simp at e1
    subst e1
    have hjb:=h.low _ (h.lvb _ hj)
    rcases hat with e' | e'
    · exact h.two _ hj e'
    · omega
  · intro i v hv
    refine (h.rooms i v hv).kept (fun _ hj=>List.mem_cons_of_mem _ hj) fun j hj e1 e2=>?_
    have hjb:=h.low j hj
    have hpq:=h.pQ
    refine ⟨e1,?_,keep2 j hjb.2 e2 (fun e=>hpq (e ▸ hj))⟩
    intro e
    have:=own_of e
    exact nogo j hjb.2 e2 (by simpa using this)
  · intro j hj
    have hss:(w1.setCell ⟨p,1,none⟩ (.slice (some ⟨g1,0,none⟩) (m+1) c1)).heap.size=w1.heap.size:=by simp [World.setCell]
    rw [hss]
    rcases List.mem_cons.1 hj with e | e
    · subst e
      refine ⟨?_,hlt⟩
      rcases hat with e' | e'
      · exact (h.low _ (h.mvb _ e')).1
      · omega
    · have:=h.low j e
      omega
structure Kp (w w' : World) (p:Nat) (bs:List Nat):Prop where
  os:w'.os=w.os
  tape:w'.tape=w.tape
  output:w'.output=w.output
  size:w.heap.size≤w'.heap.size
  other:∀ k,k<w.heap.size→k≠p→k ∉ bs→w'.heap[k]? = w.heap[k]?
theorem Kp.trans {w w' w'' : World} {p:Nat} {bs bs' : List Nat} (h:Kp w w' p bs) (h' : Kp w' w'' p bs') (hb:∀ j,j ∈ bs→j ∈ bs'):Kp w w'' p bs' :=
  ⟨h'.os.trans h.os,h'.tape.trans h.tape,h'.output.trans h.output,Nat.le_trans h.size h'.size,fun k hk hp hn=>(h'.other k (Nat.lt_of_lt_of_le hk h.size) hp hn).trans (h.other k hk hp (fun hj=>hn (hb k hj)))⟩
theorem Kp.of_wr {w w' : World} {p g:Nat} {bs:List Nat} {cur:Array Value} {e:TypeId} (h:Wr w w' g cur e) (hg:g ∈ bs):Kp w w' p bs :=
  ⟨h.os,h.tape,h.output,by rw [h.size];exact Nat.le_refl _,fun k _ _ hn=>h.other k (fun e=>hn (e ▸ hg))⟩
theorem Kp.refl (w:World) (p:Nat) (bs:List Nat):Kp w w p bs:=⟨rfl,rfl,rfl,Nat.le_refl _,fun _ _ _ _=>rfl⟩
theorem Kp.step {w w1:World} {p i:Nat} {bs:List Nat} {v u:Value} {o:Obj} (hg:(w.alloc o).grownBy w1 v.ownBlock) (hv:∀ j,v.ownBlock=some j→j ∈ bs):Kp w (w1.setCell ⟨p,i,none⟩ u) p bs :=
  ⟨hg.os,hg.tape,hg.output,by have:=hg.size;simp [World.setCell] at this ⊢;omega,fun k hk hp hn=>(setCell_block hp).trans ((hg.block k (by simp;omega) (fun e=>hn (hv k e.symm))).trans (Below.heap_alloc _ _ _ hk))⟩
theorem Kp.below {w w' : World} {p B:Nat} {bs:List Nat} (h:Kp w w' p bs) (hp:B≤p) (hb:∀ j,j ∈ bs→B≤j) (hs:B≤w.heap.size):Below B w w' :=
  ⟨h.os,h.tape,h.output,h.size,fun k hk=>h.other k (by omega) (by omega) (fun hj=>by have:=hb k hj;omega)⟩
end Lm
end Go.Proofs.YtpofkigboedliaaGreat

namespace Go.Proofs.YtpofkigboedliaaGreat
namespace Lm
open Go.RowKit
theorem infoL:(Tryz.prog.info? 22).map (fun i=>(i.zero,i.size,i.bytes))=some (some (.slice none 0 0),1,24):=by kernel_rfl
theorem owns_shape {w:World} {B e n:Nat} {v:Value} {xs:List Value} (h:w.ownsRow B e 1 v n xs):∃ a c,v=.slice a n c∧n≤c∧c≤9223372036854775807:=by
  rcases h.2 with ⟨rfl,rfl⟩ | ⟨g,cap,cur,rfl,_,_,h1,h2,_⟩
  · exact ⟨none,0,rfl,Nat.le_refl _,by omega⟩
  · exact ⟨_,cap,rfl,h1,h2⟩
theorem Bk.grown {w w1:World} {p Q m:Nat} {bs:List Nat} {rv:List Value} {lv mv v:Value} {o:Obj} (h:Bk w p Q bs rv m lv mv) (hg:(w.alloc o).grownBy w1 v.ownBlock) (hv:∀ j,v.ownBlock=some j→j ∈ bs) :
    w1.cell? ⟨p,0,none⟩ = some lv∧w1.cell? ⟨p,1,none⟩ = some mv∧w1.frozen? ⟨p,0,none⟩ = false∧w1.frozen? ⟨p,1,none⟩ = false:=by
  have hp:=h.lt
  have pl:v.ownBlock≠some p:=fun e=>h.pQ (hv p e)
  have e:w1.heap[p]? = some (.cells #[lv,mv] 34 (0,0)):=((hg.block p (by simp;omega) (fun e=>pl e.symm)).trans (Below.heap_alloc _ _ _ hp)).trans h.here
  exact ⟨by rw [cell_of_row _ _ _ _ _ (0,0) e];rfl,by rw [cell_of_row _ _ _ _ _ (0,0) e];rfl,frozen_of_row _ _ _ _ _ e,frozen_of_row _ _ _ _ _ e⟩
theorem Bk.facts {w:World} {p Q m:Nat} {bs:List Nat} {rv:List Value} {lv mv:Value} (h:Bk w p Q bs rv m lv mv) :
    w.cell? ⟨p,0,none⟩ = some lv∧w.cell? ⟨p,1,none⟩ = some mv∧w.frozen? ⟨p,0,none⟩ = false∧w.frozen? ⟨p,1,none⟩ = false :=
  ⟨by rw [cell_of_row _ _ _ _ _ (0,0) h.here];rfl,by rw [cell_of_row _ _ _ _ _ (0,0) h.here];rfl,frozen_of_row _ _ _ _ _ h.here,frozen_of_row _ _ _ _ _ h.here⟩
theorem cell_new_at {W:World} {H:Nat} (hH:W.heap.size=H) (x:Value) (t:TypeId):∀ j u,[x][j]? = some u→(W.alloc (.cells #[x] t)).cell? ((⟨H,0,none⟩:Addr).add j)=some u:=by
  subst hH
  exact cell_one_new _ _ _
def OwnS (w w' : World) (p Q:Nat) (bs:List Nat) (len:Nat) (ao:Option Addr):Prop :=
  ∃ bs' rv' lv' mv',rv'.length=len+1∧Bk w' p Q bs' rv' rv'.length lv' mv'∧Kp w w' p bs'∧(∀ j,j ∈ bs'→j ∈ bs∨w.heap.size≤j∨∃ off,ao=some ⟨j,off,none⟩)
set_option maxRecDepth 20000 in
set_option maxHeartbeats 1000000 in
theorem own_zero_a (w:World) (p Q:Nat) (bs:List Nat) (rv:List Value) (lv mv:Value) (hk:Bk w p Q bs rv rv.length lv mv) (hr:rv.length≤1000) (hQ:Q≤w.heap.size)  :
    Calls Tryz.prog 45 #[.pointer (some ⟨p,0,none⟩),.slice none 0 0] w fun e w'=>e=.returned (.bool true)∧OwnS w w' p Q bs rv.length none:=by
  obtain ⟨i1,hi1,iz0,iz1,iz2⟩:=info_parts infoL
  obtain ⟨j1,hj1,jz0,jz1,jz2⟩:=info_parts info32
  obtain ⟨al,cl,rfl,al1,al2⟩:=owns_shape hk.lists
  obtain ⟨am,cm,rfl,am1,am2⟩:=owns_shape hk.marks
  obtain ⟨k0,k1,k2,k3⟩:=hk.facts
  have kp0:=hide (Kp.refl w p bs)
  have szr:w.heap.size≤w.heap.size:=Nat.le_refl _
  have hQr:Q≤w.heap.size:=hQ
  have hbs:∀ j,j ∈ bs→j ∈ bs∨w.heap.size≤j∨∃ off',none=some (⟨j,off',none⟩:Addr):=fun j hj=>.inl hj
  go_enter Tryz.func45,Tryz.ntmps45
  go_wp2
  refine wp_loop_rounds 1 ?_
  rw [rounds_succ]
  go_wp2_with (at_builtin;refine wpList_append_lies _ rfl (.tmp 38) (.tmp 40) 32 rfl Q 22 i1 (.slice none 0 0) 1 24 Tryz.underlying32 hi1 iz0 iz1 iz2 rfl (by decide) (.slice al rv.length cl) rv.length rv rfl ((hk).lists.alloc _) ⟨w.heap.size,0,none⟩ 1 1 [.slice none 0 0] rfl rfl (cell_one_new _ _ _) (by intro u hu;simp at hu;subst hu;rfl) (by omega) (by unfold maxLen;omega) (by omega) (by have:=(hk).lt;simp;omega) (w.heap.size+1) (by simp) ?_)
  intro g1 q1 w1 hown1 hgrow1 hat1 hlt1
  have bk2:=(hk).list_step hgrow1 hown1 hat1 hlt1 hQr (⟨none,0,0,rfl,Nat.le_refl _,by omega,by omega,.inl rfl⟩)
  obtain ⟨x0,x1,x2,x3⟩:=(hk).grown hgrow1 (hk).lvb
  have kp1:=hide (Kp.step (p:=p) (i:=0) (u:=.slice (some ⟨g1,0,none⟩) (rv.length+1) q1) hgrow1 (hk).lvb)
  have sz1:=hide (show w.heap.size+1≤w1.heap.size by have:=hgrow1.size;simpa using this)
  have A1:=hide hat1
  have BK2:=hide bk2
  obtain ⟨y0,y1,y2,y3⟩:=bk2.facts
  clear hgrow1 hown1 hat1 bk2 k0 k1 k2 k3
  go_wp2_with (at_builtin;refine wpList_append_lies _ rfl (.tmp 48) (.tmp 50) 22 rfl Q 69 j1 (.int .u32 0) 1 4 Tryz.underlying22 hj1 jz0 jz1 jz2 rfl (by decide) (.slice am rv.length cm) rv.length (bmks rv.length) rfl (BK2.out.marks.alloc _) ⟨w1.heap.size,0,none⟩ 1 1 [bmk rv.length] rfl rfl (cell_new_at (by simp [World.setCell]) (bmk rv.length) _) (by intro u hu;simp at hu;subst hu;rfl) (by omega) (by unfold maxLen;omega) (by omega) (by have:=BK2.out.lt;have:=sz1.out;simp [World.setCell];omega) (w1.heap.size+1) (by simp [World.setCell]) ?_)
  intro g2 q2 w3 hown2 hgrow2 hat2 hlt2
  have hsz2:(w1.setCell ⟨p,0,none⟩ (.slice (some ⟨g1,0,none⟩) (rv.length+1) q1)).heap.size=w1.heap.size:=by simp [World.setCell]
  have bk3:=BK2.out.mark_step hgrow2 hown2 (by rw [hsz2];exact hat2) hlt2 (by rw [hsz2];have:=sz1.out;omega)
  obtain ⟨v0,v1,v2,v3⟩:=BK2.out.grown hgrow2 BK2.out.mvb
  have kp2:=Kp.step (p:=p) (i:=1) (u:=.slice (some ⟨g2,0,none⟩) (rv.length+1) q2) hgrow2 BK2.out.mvb
  have F:Hid (OwnS w (w3.setCell ⟨p,1,none⟩ (.slice (some ⟨g2,0,none⟩) (rv.length+1) q2)) p Q bs rv.length none):=by
    refine ⟨g2 :: g1 :: bs,rv ++ [.slice none 0 0],.slice (some ⟨g1,0,none⟩) (rv.length+1) q1,.slice (some ⟨g2,0,none⟩) (rv.length+1) q2,?_,?_,?_,?_⟩
    · simp
    · rw [show (rv ++ [Value.slice none 0 0]).length=rv.length+1 by simp]
      exact bk3
    · exact (kp0.out.trans (kp1.out.trans kp2 (fun j hj=>List.mem_cons_of_mem _ hj)) (fun j hj=>List.mem_cons_of_mem _ hj)).trans (Kp.refl _ _ _) (fun j hj=>List.mem_cons_of_mem _ hj)
    · intro j hj
      have s1:=sz1.out
      rcases List.mem_cons.1 hj with e | hj
      · subst e
        rcases hat2 with e' | e'
        · exact hbs j ((hk).mvb j e')
        · right;left;have:=szr;omega
      · rcases List.mem_cons.1 hj with e | hj
        · subst e
          rcases A1.out with e' | e'
          · exact hbs j ((hk).lvb j e')
          · right;left;have:=szr;omega
        · exact hbs j hj
  clear hgrow2 hown2 hat2 bk3 kp2 x0 x1 x2 x3 y0 y1 y2 y3
  go_wp2
  go_ret
  exact ⟨rfl,F.out⟩
set_option maxRecDepth 20000 in
set_option maxHeartbeats 1000000 in
theorem own_zero_b (w:World) (p Q:Nat) (bs:List Nat) (rv:List Value) (lv mv:Value) (hk:Bk w p Q bs rv rv.length lv mv) (hr:rv.length≤1000) (hQ:Q≤w.heap.size)  (ad:Addr) :
    Calls Tryz.prog 45 #[.pointer (some ⟨p,0,none⟩),.slice (some ad) 0 0] w fun e w'=>e=.returned (.bool true)∧OwnS w w' p Q bs rv.length none:=by
  obtain ⟨i1,hi1,iz0,iz1,iz2⟩:=info_parts infoL
  obtain ⟨j1,hj1,jz0,jz1,jz2⟩:=info_parts info32
  obtain ⟨al,cl,rfl,al1,al2⟩:=owns_shape hk.lists
  obtain ⟨am,cm,rfl,am1,am2⟩:=owns_shape hk.marks
  obtain ⟨k0,k1,k2,k3⟩:=hk.facts
  have kp0:=hide (Kp.refl w p bs)
  have szr:w.heap.size≤w.heap.size:=Nat.le_refl _
  have hQr:Q≤w.heap.size:=hQ
  have hbs:∀ j,j ∈ bs→j ∈ bs∨w.heap.size≤j∨∃ off',none=some (⟨j,off',none⟩:Addr):=fun j hj=>.inl hj
  go_enter Tryz.func45,Tryz.ntmps45
  go_wp2
  refine wp_loop_rounds 1 ?_
  rw [rounds_succ]
  go_wp2_with (at_builtin;refine wpList_append_lies _ rfl (.tmp 38) (.tmp 40) 32 rfl Q 22 i1 (.slice none 0 0) 1 24 Tryz.underlying32 hi1 iz0 iz1 iz2 rfl (by decide) (.slice al rv.length cl) rv.length rv rfl ((hk).lists.alloc _) ⟨w.heap.size,0,none⟩ 1 1 [.slice (some ad) 0 0] rfl rfl (cell_one_new _ _ _) (by intro u hu;simp at hu;subst hu;rfl) (by omega) (by unfold maxLen;omega) (by omega) (by have:=(hk).lt;simp;omega) (w.heap.size+1) (by simp) ?_)
  intro g1 q1 w1 hown1 hgrow1 hat1 hlt1
  have bk2:=(hk).list_step hgrow1 hown1 hat1 hlt1 hQr (⟨(some ad),0,0,rfl,Nat.le_refl _,by omega,by omega,.inl rfl⟩)
  obtain ⟨x0,x1,x2,x3⟩:=(hk).grown hgrow1 (hk).lvb
  have kp1:=hide (Kp.step (p:=p) (i:=0) (u:=.slice (some ⟨g1,0,none⟩) (rv.length+1) q1) hgrow1 (hk).lvb)
  have sz1:=hide (show w.heap.size+1≤w1.heap.size by have:=hgrow1.size;simpa using this)
  have A1:=hide hat1
  have BK2:=hide bk2
  obtain ⟨y0,y1,y2,y3⟩:=bk2.facts
  clear hgrow1 hown1 hat1 bk2 k0 k1 k2 k3
  go_wp2_with (at_builtin;refine wpList_append_lies _ rfl (.tmp 48) (.tmp 50) 22 rfl Q 69 j1 (.int .u32 0) 1 4 Tryz.underlying22 hj1 jz0 jz1 jz2 rfl (by decide) (.slice am rv.length cm) rv.length (bmks rv.length) rfl (BK2.out.marks.alloc _) ⟨w1.heap.size,0,none⟩ 1 1 [bmk rv.length] rfl rfl (cell_new_at (by simp [World.setCell]) (bmk rv.length) _) (by intro u hu;simp at hu;subst hu;rfl) (by omega) (by unfold maxLen;omega) (by omega) (by have:=BK2.out.lt;have:=sz1.out;simp [World.setCell];omega) (w1.heap.size+1) (by simp [World.setCell]) ?_)
  intro g2 q2 w3 hown2 hgrow2 hat2 hlt2
  have hsz2:(w1.setCell ⟨p,0,none⟩ (.slice (some ⟨g1,0,none⟩) (rv.length+1) q1)).heap.size=w1.heap.size:=by simp [World.setCell]
  have bk3:=BK2.out.mark_step hgrow2 hown2 (by rw [hsz2];exact hat2) hlt2 (by rw [hsz2];have:=sz1.out;omega)
  obtain ⟨v0,v1,v2,v3⟩:=BK2.out.grown hgrow2 BK2.out.mvb
  have kp2:=Kp.step (p:=p) (i:=1) (u:=.slice (some ⟨g2,0,none⟩) (rv.length+1) q2) hgrow2 BK2.out.mvb
  have F:Hid (OwnS w (w3.setCell ⟨p,1,none⟩ (.slice (some ⟨g2,0,none⟩) (rv.length+1) q2)) p Q bs rv.length none):=by
    refine ⟨g2 :: g1 :: bs,rv ++ [.slice (some ad) 0 0],.slice (some ⟨g1,0,none⟩) (rv.length+1) q1,.slice (some ⟨g2,0,none⟩) (rv.length+1) q2,?_,?_,?_,?_⟩
    · simp
    · rw [show (rv ++ [Value.slice (some ad) 0 0]).length=rv.length+1 by simp]
      exact bk3
    · exact (kp0.out.trans (kp1.out.trans kp2 (fun j hj=>List.mem_cons_of_mem _ hj)) (fun j hj=>List.mem_cons_of_mem _ hj)).trans (Kp.refl _ _ _) (fun j hj=>List.mem_cons_of_mem _ hj)
    · intro j hj
      have s1:=sz1.out
      rcases List.mem_cons.1 hj with e | hj
      · subst e
        rcases hat2 with e' | e'
        · exact hbs j ((hk).mvb j e')
        · right;left;have:=szr;omega
      · rcases List.mem_cons.1 hj with e | hj
        · subst e
          rcases A1.out with e' | e'
          · exact hbs j ((hk).lvb j e')
          · right;left;have:=szr;omega
        · exact hbs j hj
  clear hgrow2 hown2 hat2 bk3 kp2 x0 x1 x2 x3 y0 y1 y2 y3
  go_wp2
  go_ret
  exact ⟨rfl,F.out⟩
set_option maxRecDepth 20000 in
set_option maxHeartbeats 1000000 in
theorem own_small (w:World) (p Q:Nat) (bs:List Nat) (rv:List Value) (lv mv:Value) (hk:Bk w p Q bs rv rv.length lv mv) (hr:rv.length≤1000) (hQ:Q≤w.heap.size) (g off n cap:Nat) (cur:Array Value) (hh:w.heap[g]? = some (.cells cur 69 (0,0))) (hsz:off+cap≤cur.size) (hgb:g ∉ bs) (hgQ:Q≤g) (_hn:n≤cap) (hcm:cap≤9223372036854775807) (h4:cap≤4096) :
    Calls Tryz.prog 45 #[.pointer (some ⟨p,0,none⟩),.slice (some ⟨g,off,none⟩) n cap] w fun e w'=>e=.returned (.bool true)∧OwnS w w' p Q bs rv.length (some ⟨g,off,none⟩):=by
  obtain ⟨i1,hi1,iz0,iz1,iz2⟩:=info_parts infoL
  obtain ⟨j1,hj1,jz0,jz1,jz2⟩:=info_parts info32
  obtain ⟨al,cl,rfl,al1,al2⟩:=owns_shape hk.lists
  obtain ⟨am,cm,rfl,am1,am2⟩:=owns_shape hk.marks
  obtain ⟨k0,k1,k2,k3⟩:=hk.facts
  have HH:=hide hh
  have HSZ:=hide hsz
  have hpg:p≠g:=fun e=>by have h1:=hk.here;rw [e,hh] at h1;simp at h1
  clear hh hsz
  go_enter Tryz.func45,Tryz.ntmps45
  go_wp2
  go_loopw [7] (fun iv wr=>∃ (k:Nat) (cur' : Array Value),k≤cap∧iv=.int .i64 k∧Wr w wr g cur' 69∧cur'.size=cur.size∧∀ i,i<k→cur'[off+i]? = some (bmk rv.length)) (fun iv _=>cap - (intOf iv).toNat)
  case atStart=>exact ⟨0,cur,Nat.zero_le _,rfl,Wr.refl HH.out,rfl,fun i hi=>by omega⟩
  case round =>
    obtain ⟨k,cur',hkn,rfl,hwr,hcs,hfill⟩:=hrel
    by_cases hlt:k<cap
    · have hb:off+k<cur'.size:=by have:=HSZ.out;omega
      have old:cur'[off+k]? = some cur'[off+k]:=Array.getElem?_eq_getElem hb
      have co:wr.cell? ⟨g,off+k,none⟩ = some cur'[off+k]:=by rw [cell_of_row wr g (off+k) cur' _ (0,0) hwr.here];exact old
      have fo:=hwr.free (off+k)
      have dA:(k:Int)<((cap:Nat):Int):=by omega
      have dC:(k:Int)<((cap:Nat):Int):=by omega
      have HW' := hide (hwr.set (off+k) (bmk rv.length))
      have HC' : Hid ((cur'.setIfInBounds (off+k) (bmk rv.length)).size=cur.size):=by show _ = _;rw [Array.size_setIfInBounds];exact hcs
      have HF' : Hid (∀ i,i<k+1→(cur'.setIfInBounds (off+k) (bmk rv.length))[off+i]? = some (bmk rv.length)):=by
        intro i hi
        rw [Array.getElem?_setIfInBounds]
        by_cases e:off+k=off+i
        · rw [if_pos e,if_pos (by omega)]
        · rw [if_neg e]
          exact hfill i (by omega)
      clear hwr hcs hfill old
      generalize cur'[off+k]=u9 at co
      go_wp2
      go_roundw
      case rel=>exact ⟨k+1,_,by omega,by go_num,HW'.out,HC'.out,HF'.out⟩
      case measure=>simp [intOf];omega
    · have hkn' : cap=k:=by omega
      subst hkn'
      have dA:¬ ((cap:Nat):Int)<((cap:Nat):Int):=by omega
      have bkr:=(hk.kept (hwr.other p hpg) (fun j hj=>hwr.other j (fun e=>hgb (e ▸ hj))) (by rw [hwr.size];exact Nat.le_refl _)).more (gs:=[g]) (fun j hj=>by simp at hj;subst hj;rw [hwr.size];exact ⟨by omega,lt_of_heap HH.out⟩) (by simpa using hpg)
      have room:RoomOk wr ([g] ++ bs) (.slice al rv.length cl) (.slice am rv.length cm) rv.length (.slice (some ⟨g,off,none⟩) cap cap):=⟨_,_,_,rfl,by omega,by omega,by omega,.inr ⟨g,off,rfl,by simp,fun e=>hgb (hk.lvb _ e),fun e=>hgb (hk.mvb _ e),fun i hi=>by rw [cell_of_row wr g (off+i) cur' _ (0,0) hwr.here];exact hfill i hi⟩⟩
      have kp0:Hid (Kp w wr p ([g] ++ bs)):=Kp.of_wr hwr (by simp)
      have szr:w.heap.size≤wr.heap.size:=by rw [hwr.size];exact Nat.le_refl _
      have hQr:Q≤wr.heap.size:=by omega
      have hbs:∀ j,j ∈ [g] ++ bs→j ∈ bs∨w.heap.size≤j∨∃ off',some (⟨g,off,none⟩:Addr)=some ⟨j,off',none⟩:=by
        intro j hj
        rcases List.mem_append.1 hj with e | e
        · simp at e;subst e;exact .inr (.inr ⟨off,rfl⟩)
        · exact .inl e
      obtain ⟨m0,m1,m2,m3⟩:=bkr.facts
      have BKR:=hide bkr
      have ROOM:=hide room
      have HBS:=hide hbs
      have SZR:=hide szr
      clear hwr hcs hfill bkr room hbs k0 k1 k2 k3
      go_wp2_with (at_builtin;refine wpList_append_lies _ rfl (.tmp 38) (.tmp 40) 32 rfl Q 22 i1 (.slice none 0 0) 1 24 Tryz.underlying32 hi1 iz0 iz1 iz2 rfl (by decide) (.slice al rv.length cl) rv.length rv rfl ((BKR.out).lists.alloc _) ⟨wr.heap.size,0,none⟩ 1 1 [.slice (some ⟨g,off,none⟩) cap cap] rfl rfl (cell_one_new _ _ _) (by intro u hu;simp at hu;subst hu;rfl) (by omega) (by unfold maxLen;omega) (by omega) (by have:=(BKR.out).lt;simp;omega) (wr.heap.size+1) (by simp) ?_)
      intro g1 q1 w1 hown1 hgrow1 hat1 hlt1
      have bk2:=(BKR.out).list_step hgrow1 hown1 hat1 hlt1 hQr (ROOM.out)
      obtain ⟨x0,x1,x2,x3⟩:=(BKR.out).grown hgrow1 (BKR.out).lvb
      have kp1:=hide (Kp.step (p:=p) (i:=0) (u:=.slice (some ⟨g1,0,none⟩) (rv.length+1) q1) hgrow1 (BKR.out).lvb)
      have sz1:=hide (show wr.heap.size+1≤w1.heap.size by have:=hgrow1.size;simpa using this)
      have A1:=hide hat1
      have BK2:=hide bk2
      obtain ⟨y0,y1,y2,y3⟩:=bk2.facts
      clear hgrow1 hown1 hat1 bk2 m0 m1 m2 m3
      go_wp2_with (at_builtin;refine wpList_append_lies _ rfl (.tmp 48) (.tmp 50) 22 rfl Q 69 j1 (.int .u32 0) 1 4 Tryz.underlying22 hj1 jz0 jz1 jz2 rfl (by decide) (.slice am rv.length cm) rv.length (bmks rv.length) rfl (BK2.out.marks.alloc _) ⟨w1.heap.size,0,none⟩ 1 1 [bmk rv.length] rfl rfl (cell_new_at (by simp [World.setCell]) (bmk rv.length) _) (by intro u hu;simp at hu;subst hu;rfl) (by omega) (by unfold maxLen;omega) (by omega) (by have:=BK2.out.lt;have:=sz1.out;simp [World.setCell];omega) (w1.heap.size+1) (by simp [World.setCell]) ?_)
      intro g2 q2 w3 hown2 hgrow2 hat2 hlt2
      have hsz2:(w1.setCell ⟨p,0,none⟩ (.slice (some ⟨g1,0,none⟩) (rv.length+1) q1)).heap.size=w1.heap.size:=by simp [World.setCell]
      have bk3:=BK2.out.mark_step hgrow2 hown2 (by rw [hsz2];exact hat2) hlt2 (by rw [hsz2];have:=sz1.out;omega)
      obtain ⟨v0,v1,v2,v3⟩:=BK2.out.grown hgrow2 BK2.out.mvb
      have kp2:=Kp.step (p:=p) (i:=1) (u:=.slice (some ⟨g2,0,none⟩) (rv.length+1) q2) hgrow2 BK2.out.mvb
      have F:Hid (OwnS w (w3.setCell ⟨p,1,none⟩ (.slice (some ⟨g2,0,none⟩) (rv.length+1) q2)) p Q bs rv.length (some ⟨g,off,none⟩)):=by
        refine ⟨g2 :: g1 :: ([g] ++ bs),rv ++ [.slice (some ⟨g,off,none⟩) cap cap],.slice (some ⟨g1,0,none⟩) (rv.length+1) q1,.slice (some ⟨g2,0,none⟩) (rv.length+1) q2,?_,?_,?_,?_⟩
        · simp
        · rw [show (rv ++ [Value.slice (some ⟨g,off,none⟩) cap cap]).length=rv.length+1 by simp]
          exact bk3
        · exact (kp0.out.trans (kp1.out.trans kp2 (fun j hj=>List.mem_cons_of_mem _ hj)) (fun j hj=>List.mem_cons_of_mem _ hj)).trans (Kp.refl _ _ _) (fun j hj=>List.mem_cons_of_mem _ hj)
        · intro j hj
          have s1:=sz1.out
          rcases List.mem_cons.1 hj with e | hj
          · subst e
            rcases hat2 with e' | e'
            · exact HBS.out j ((BKR.out).mvb j e')
            · right;left;have:=SZR.out;omega
          · rcases List.mem_cons.1 hj with e | hj
            · subst e
              rcases A1.out with e' | e'
              · exact HBS.out j ((BKR.out).lvb j e')
              · right;left;have:=SZR.out;omega
            · exact HBS.out j hj
      clear hgrow2 hown2 hat2 bk3 kp2 x0 x1 x2 x3 y0 y1 y2 y3
      go_wp2
      go_ret
      exact ⟨rfl,F.out⟩
set_option maxRecDepth 20000 in
set_option maxHeartbeats 1000000 in
theorem own_big (w:World) (p Q:Nat) (bs:List Nat) (rv:List Value) (lv mv:Value) (hk:Bk w p Q bs rv rv.length lv mv) (hr:rv.length≤1000) (hQ:Q≤w.heap.size) (g off n cap:Nat) (cur:Array Value) (hh:w.heap[g]? = some (.cells cur 69 (0,0))) (hsz:off+cap≤cur.size) (hgb:g ∉ bs) (hgQ:Q≤g) (_hn:n≤cap) (hcm:cap≤9223372036854775807) (h4:4096<cap) :
    Calls Tryz.prog 45 #[.pointer (some ⟨p,0,none⟩),.slice (some ⟨g,off,none⟩) n cap] w fun e w'=>e=.returned (.bool true)∧OwnS w w' p Q bs rv.length (some ⟨g,off,none⟩):=by
  obtain ⟨i1,hi1,iz0,iz1,iz2⟩:=info_parts infoL
  obtain ⟨j1,hj1,jz0,jz1,jz2⟩:=info_parts info32
  obtain ⟨al,cl,rfl,al1,al2⟩:=owns_shape hk.lists
  obtain ⟨am,cm,rfl,am1,am2⟩:=owns_shape hk.marks
  obtain ⟨k0,k1,k2,k3⟩:=hk.facts
  have HH:=hide hh
  have HSZ:=hide hsz
  have hpg:p≠g:=fun e=>by have h1:=hk.here;rw [e,hh] at h1;simp at h1
  clear hh hsz
  go_enter Tryz.func45,Tryz.ntmps45
  go_wp2
  go_loopw [7] (fun iv wr=>∃ (k:Nat) (cur' : Array Value),k≤4096∧iv=.int .i64 k∧Wr w wr g cur' 69∧cur'.size=cur.size∧∀ i,i<k→cur'[off+i]? = some (bmk rv.length)) (fun iv _=>4096 - (intOf iv).toNat)
  case atStart=>exact ⟨0,cur,Nat.zero_le _,rfl,Wr.refl HH.out,rfl,fun i hi=>by omega⟩
  case round =>
    obtain ⟨k,cur',hkn,rfl,hwr,hcs,hfill⟩:=hrel
    by_cases hlt:k<4096
    · have hb:off+k<cur'.size:=by have:=HSZ.out;omega
      have old:cur'[off+k]? = some cur'[off+k]:=Array.getElem?_eq_getElem hb
      have co:wr.cell? ⟨g,off+k,none⟩ = some cur'[off+k]:=by rw [cell_of_row wr g (off+k) cur' _ (0,0) hwr.here];exact old
      have fo:=hwr.free (off+k)
      have dA:(k:Int)<((4096:Nat):Int):=by omega
      have dC:(k:Int)<((cap:Nat):Int):=by omega
      have HW' := hide (hwr.set (off+k) (bmk rv.length))
      have HC' : Hid ((cur'.setIfInBounds (off+k) (bmk rv.length)).size=cur.size):=by show _ = _;rw [Array.size_setIfInBounds];exact hcs
      have HF' : Hid (∀ i,i<k+1→(cur'.setIfInBounds (off+k) (bmk rv.length))[off+i]? = some (bmk rv.length)):=by
        intro i hi
        rw [Array.getElem?_setIfInBounds]
        by_cases e:off+k=off+i
        · rw [if_pos e,if_pos (by omega)]
        · rw [if_neg e]
          exact hfill i (by omega)
      clear hwr hcs hfill old
      generalize cur'[off+k]=u9 at co
      go_wp2
      go_roundw
      case rel=>exact ⟨k+1,_,by omega,by go_num,HW'.out,HC'.out,HF'.out⟩
      case measure=>simp [intOf];omega
    · have hkn' : 4096=k:=by omega
      subst hkn'
      have dA:¬ ((4096:Nat):Int)<((4096:Nat):Int):=by omega
      have bkr:=(hk.kept (hwr.other p hpg) (fun j hj=>hwr.other j (fun e=>hgb (e ▸ hj))) (by rw [hwr.size];exact Nat.le_refl _)).more (gs:=[g]) (fun j hj=>by simp at hj;subst hj;rw [hwr.size];exact ⟨by omega,lt_of_heap HH.out⟩) (by simpa using hpg)
      have room:RoomOk wr ([g] ++ bs) (.slice al rv.length cl) (.slice am rv.length cm) rv.length (.slice (some ⟨g,off,none⟩) 4096 cap):=⟨_,_,_,rfl,by omega,by omega,by omega,.inr ⟨g,off,rfl,by simp,fun e=>hgb (hk.lvb _ e),fun e=>hgb (hk.mvb _ e),fun i hi=>by rw [cell_of_row wr g (off+i) cur' _ (0,0) hwr.here];exact hfill i hi⟩⟩
      have kp0:Hid (Kp w wr p ([g] ++ bs)):=Kp.of_wr hwr (by simp)
      have szr:w.heap.size≤wr.heap.size:=by rw [hwr.size];exact Nat.le_refl _
      have hQr:Q≤wr.heap.size:=by omega
      have hbs:∀ j,j ∈ [g] ++ bs→j ∈ bs∨w.heap.size≤j∨∃ off',some (⟨g,off,none⟩:Addr)=some ⟨j,off',none⟩:=by
        intro j hj
        rcases List.mem_append.1 hj with e | e
        · simp at e;subst e;exact .inr (.inr ⟨off,rfl⟩)
        · exact .inl e
      obtain ⟨m0,m1,m2,m3⟩:=bkr.facts
      have BKR:=hide bkr
      have ROOM:=hide room
      have HBS:=hide hbs
      have SZR:=hide szr
      clear hwr hcs hfill bkr room hbs k0 k1 k2 k3
      go_wp2_with (at_builtin;refine wpList_append_lies _ rfl (.tmp 38) (.tmp 40) 32 rfl Q 22 i1 (.slice none 0 0) 1 24 Tryz.underlying32 hi1 iz0 iz1 iz2 rfl (by decide) (.slice al rv.length cl) rv.length rv rfl ((BKR.out).lists.alloc _) ⟨wr.heap.size,0,none⟩ 1 1 [.slice (some ⟨g,off,none⟩) 4096 cap] rfl rfl (cell_one_new _ _ _) (by intro u hu;simp at hu;subst hu;rfl) (by omega) (by unfold maxLen;omega) (by omega) (by have:=(BKR.out).lt;simp;omega) (wr.heap.size+1) (by simp) ?_)
      intro g1 q1 w1 hown1 hgrow1 hat1 hlt1
      have bk2:=(BKR.out).list_step hgrow1 hown1 hat1 hlt1 hQr (ROOM.out)
      obtain ⟨x0,x1,x2,x3⟩:=(BKR.out).grown hgrow1 (BKR.out).lvb
      have kp1:=hide (Kp.step (p:=p) (i:=0) (u:=.slice (some ⟨g1,0,none⟩) (rv.length+1) q1) hgrow1 (BKR.out).lvb)
      have sz1:=hide (show wr.heap.size+1≤w1.heap.size by have:=hgrow1.size;simpa using this)
      have A1:=hide hat1
      have BK2:=hide bk2
      obtain ⟨y0,y1,y2,y3⟩:=bk2.facts
      clear hgrow1 hown1 hat1 bk2 m0 m1 m2 m3
      go_wp2_with (at_builtin;refine wpList_append_lies _ rfl (.tmp 48) (.tmp 50) 22 rfl Q 69 j1 (.int .u32 0) 1 4 Tryz.underlying22 hj1 jz0 jz1 jz2 rfl (by decide) (.slice am rv.length cm) rv.length (bmks rv.length) rfl (BK2.out.marks.alloc _) ⟨w1.heap.size,0,none⟩ 1 1 [bmk rv.length] rfl rfl (cell_new_at (by simp [World.setCell]) (bmk rv.length) _) (by intro u hu;simp at hu;subst hu;rfl) (by omega) (by unfold maxLen;omega) (by omega) (by have:=BK2.out.lt;have:=sz1.out;simp [World.setCell];omega) (w1.heap.size+1) (by simp [World.setCell]) ?_)
      intro g2 q2 w3 hown2 hgrow2 hat2 hlt2
      have hsz2:(w1.setCell ⟨p,0,none⟩ (.slice (some ⟨g1,0,none⟩) (rv.length+1) q1)).heap.size=w1.heap.size:=by simp [World.setCell]
      have bk3:=BK2.out.mark_step hgrow2 hown2 (by rw [hsz2];exact hat2) hlt2 (by rw [hsz2];have:=sz1.out;omega)
      obtain ⟨v0,v1,v2,v3⟩:=BK2.out.grown hgrow2 BK2.out.mvb
      have kp2:=Kp.step (p:=p) (i:=1) (u:=.slice (some ⟨g2,0,none⟩) (rv.length+1) q2) hgrow2 BK2.out.mvb
      have F:Hid (OwnS w (w3.setCell ⟨p,1,none⟩ (.slice (some ⟨g2,0,none⟩) (rv.length+1) q2)) p Q bs rv.length (some ⟨g,off,none⟩)):=by
        refine ⟨g2 :: g1 :: ([g] ++ bs),rv ++ [.slice (some ⟨g,off,none⟩) 4096 cap],.slice (some ⟨g1,0,none⟩) (rv.length+1) q1,.slice (some ⟨g2,0,none⟩) (rv.length+1) q2,?_,?_,?_,?_⟩
        · simp
        · rw [show (rv ++ [Value.slice (some ⟨g,off,none⟩) 4096 cap]).length=rv.length+1 by simp]
          exact bk3
        · exact (kp0.out.trans (kp1.out.trans kp2 (fun j hj=>List.mem_cons_of_mem _ hj)) (fun j hj=>List.mem_cons_of_mem _ hj)).trans (Kp.refl _ _ _) (fun j hj=>List.mem_cons_of_mem _ hj)
        · intro j hj
          have s1:=sz1.out
          rcases List.mem_cons.1 hj with e | hj
          · subst e
            rcases hat2 with e' | e'
            · exact HBS.out j ((BKR.out).mvb j e')
            · right;left;have:=SZR.out;omega
          · rcases List.mem_cons.1 hj with e | hj
            · subst e
              rcases A1.out with e' | e'
              · exact HBS.out j ((BKR.out).lvb j e')
              · right;left;have:=SZR.out;omega
            · exact HBS.out j hj
      clear hgrow2 hown2 hat2 bk3 kp2 x0 x1 x2 x3 y0 y1 y2 y3
      go_wp2
      go_ret
      exact ⟨rfl,F.out⟩
structure Fr (B T:Nat) (w:World) (ao:Option Addr) (cap:Nat) (rs:List Int) (x:Int):Prop where
  ow:Ow B w (.slice ao rs.length cap) rs
  canon:Canon rs
  val:val rs=x
  lies:0<cap→∀ g off,ao=some ⟨g,off,none⟩→B≤g∧g<T
theorem Ow.sl' {B:Nat} {w:World} {ao:Option Addr} {n cap:Nat} {zs:List Int} (h:Ow B w (.slice ao n cap) zs):n=zs.length∧zs.length≤cap∧cap≤9223372036854775807∧(cap=0∨∃ g off cur,ao=some ⟨g,off,none⟩∧B≤g∧w.heap[g]? = some (.cells cur 69 (0,0))∧off+cap≤cur.size∧At cur .u32 off zs):=by
  obtain ⟨ao',cap',hv,h1,h2,h3,h4⟩:=h
  obtain ⟨rfl,rfl,rfl⟩:=(Value.slice.injEq .. ▸ hv)
  exact ⟨rfl,h1,h2,h4⟩
theorem Is.fr {B:Nat} {w:World} {v:Value} {x:Int} (h:Is B w v x):∃ ao cap rs,v=.slice ao rs.length cap∧Fr B w.heap.size w ao cap rs x:=by
  obtain ⟨rs,ho,hc,hv⟩:=h
  obtain ⟨ao,cap,rfl,h1,h2,h3,h4⟩:=ho
  refine ⟨ao,cap,rs,rfl,⟨ao,cap,rfl,h1,h2,h3,h4⟩,hc,hv,?_⟩
  intro h0 g off e
  rcases h4 with h4 | ⟨g',off',cur,e',hB,hh,_⟩
  · omega
  · rw [e'] at e
    simp only [Option.some.injEq,Addr.mk.injEq,and_true] at e
    have:=lt_of_heap hh
    omega
theorem Fr.got {B T:Nat} {w:World} {ao:Option Addr} {cap:Nat} {rs:List Int} {x:Int} (h:Fr B T w ao cap rs x):Got w ao cap rs x:=⟨h.ow.sl,h.canon,h.val⟩
theorem Fr.kept {B T:Nat} {w w' : World} {ao:Option Addr} {cap:Nat} {rs:List Int} {x:Int} (h:Fr B T w ao cap rs x) (hk:∀ g,g<w.heap.size→B≤g→g<T→w'.heap[g]? = w.heap[g]?):Fr B T w' ao cap rs x:=by
  obtain ⟨ho,hc,hv,hl⟩:=h
  refine ⟨?_,hc,hv,hl⟩
  obtain ⟨ao',cap',hv',h1,h2,h3,h4⟩:=ho
  obtain ⟨rfl,_,rfl⟩:=(Value.slice.injEq .. ▸ hv')
  refine ⟨ao,cap,rfl,h1,h2,h3,?_⟩
  rcases h4 with h4 | ⟨g,off,cur,rfl,hB,hh,r⟩
  · exact .inl h4
  · by_cases h0:0<cap
    · have:=hl h0 g off rfl
      exact .inr ⟨g,off,cur,rfl,hB,(hk g (lt_of_heap hh) this.1 this.2).trans hh,r⟩
    · exact .inl (by omega)
theorem Fr.below {B T:Nat} {w w' : World} {ao:Option Addr} {cap:Nat} {rs:List Int} {x:Int} (h:Fr B T w ao cap rs x) (hb:Below w.heap.size w w'):Fr B T w' ao cap rs x:=h.kept fun g hg _ _=>hb.block g hg
theorem Fr.touch {B T L:Nat} {w w' : World} {ao:Option Addr} {cap:Nat} {rs:List Int} {x:Int} (h:Fr B T w ao cap rs x) (t:Touch w w' L) (hL:L<B∨T≤L):Fr B T w' ao cap rs x:=h.kept fun g hg h1 h2=>t.other g hg (by omega)
theorem Fr.kp {B T p:Nat} {bs:List Nat} {w w' : World} {ao:Option Addr} {cap:Nat} {rs:List Int} {x:Int} (h:Fr B T w ao cap rs x) (k:Kp w w' p bs) (hp:p<B∨T≤p) (hb:∀ j,j ∈ bs→j<B∨T≤j):Fr B T w' ao cap rs x :=
  h.kept fun g hg h1 h2=>k.other g hg (by omega) (fun hj=>by have:=hb g hj;omega)
def Bs (w:World) (p Q:Nat) (bs:List Nat) (n:Nat):Prop:=∃ rv lv mv,rv.length=n∧Bk w p Q bs rv rv.length lv mv
theorem Bs.below {w w' : World} {p Q n:Nat} {bs:List Nat} (h:Bs w p Q bs n) (hb:Below w.heap.size w w'):Bs w' p Q bs n:=by
  obtain ⟨rv,lv,mv,e,hk⟩:=h
  exact ⟨rv,lv,mv,e,hk.below hb⟩
theorem Bs.touch {w w' : World} {p Q n L:Nat} {bs:List Nat} (h:Bs w p Q bs n) (t:Touch w w' L) (h1:p≠L) (h2:L ∉ bs):Bs w' p Q bs n:=by
  obtain ⟨rv,lv,mv,e,hk⟩:=h
  exact ⟨rv,lv,mv,e,hk.touch t h1 h2⟩
theorem Bs.low {w:World} {p Q n:Nat} {bs:List Nat} (h:Bs w p Q bs n):∀ j,j ∈ bs→Q≤j∧j<w.heap.size:=by
  obtain ⟨rv,lv,mv,e,hk⟩:=h
  exact hk.low
theorem Bs.lt {w:World} {p Q n:Nat} {bs:List Nat} (h:Bs w p Q bs n):p ∉ bs∧p<w.heap.size:=by
  obtain ⟨rv,lv,mv,e,hk⟩:=h
  exact ⟨hk.pQ,hk.lt⟩
theorem Bs.new {w:World} {p Q:Nat} (h:w.heap[p]? = some (.cells #[.slice none 0 0,.slice none 0 0] 34 (0,0))):Bs w p Q [] 0:=by
  refine ⟨[],.slice none 0 0,.slice none 0 0,rfl,h,⟨rfl,.inl ⟨rfl,rfl⟩⟩,⟨rfl,.inl ⟨rfl,rfl⟩⟩,?_,?_,?_,?_,?_,by simp⟩
  · intro j hj;simp [Value.ownBlock] at hj
  · intro j hj;simp [Value.ownBlock] at hj
  · intro j hj;simp [Value.ownBlock] at hj
  · intro i u hu;simp at hu
  · intro j hj;cases hj
theorem own_b (w:World) (p Q n:Nat) (bs:List Nat) (hb:Bs w p Q bs n) (hn:n≤1000) (B T:Nat) (ao:Option Addr) (cap:Nat) (rs:List Int) (x:Int) (h:Fr B T w ao cap rs x) (hQB:Q≤B) (hQ:Q≤w.heap.size) (hd:∀ j,j ∈ bs→j<B∨T≤j) :
    Calls Tryz.prog 45 #[.pointer (some ⟨p,0,none⟩),.slice ao rs.length cap] w fun e w'=>e=.returned (.bool true)∧∃ bs',Bs w' p Q bs' (n+1)∧Kp w w' p bs'∧∀ j,j ∈ bs'→j ∈ bs∨w.heap.size≤j∨(B≤j∧j<T):=by
  obtain ⟨rv,lv,mv,rfl,hk⟩:=hb
  obtain ⟨_,h1,h2,h4⟩:=h.ow.sl'
  have hr:=hn
  by_cases h0:0<cap
  · rcases h4 with h4 | ⟨g,off,cur,rfl,hB,hh,hs,ha⟩
    · omega
    have hl:=h.lies h0 g off rfl
    have hgb:g ∉ bs:=fun hj=>by have:=hd g hj;omega
    have fin:∀ w',OwnS w w' p Q bs rv.length (some ⟨g,off,none⟩)→∃ bs',Bs w' p Q bs' (rv.length+1)∧Kp w w' p bs'∧∀ j,j ∈ bs'→j ∈ bs∨w.heap.size≤j∨(B≤j∧j<T):=by
      rintro w' ⟨bs',rv',lv',mv',e,hk',kp,hj⟩
      refine ⟨bs',⟨rv',lv',mv',e,hk'⟩,kp,fun j hj'=>?_⟩
      rcases hj j hj' with a | a | ⟨off',a⟩
      · exact .inl a
      · exact .inr (.inl a)
      · simp only [Option.some.injEq,Addr.mk.injEq] at a
        obtain ⟨rfl,_⟩:=a
        exact .inr (.inr hl)
    by_cases hc:cap≤4096
    · exact (own_small w p Q bs rv lv mv hk hr hQ g off rs.length cap cur hh hs hgb (by omega) h1 h2 hc).mono fun e w' ⟨a,b⟩=>⟨a,fin w' b⟩
    · exact (own_big w p Q bs rv lv mv hk hr hQ g off rs.length cap cur hh hs hgb (by omega) h1 h2 (by omega)).mono fun e w' ⟨a,b⟩=>⟨a,fin w' b⟩
  · have hc0:cap=0:=by omega
    have hl0:rs.length=0:=by omega
    have fin:∀ w',OwnS w w' p Q bs rv.length none→∃ bs',Bs w' p Q bs' (rv.length+1)∧Kp w w' p bs'∧∀ j,j ∈ bs'→j ∈ bs∨w.heap.size≤j∨(B≤j∧j<T):=by
      rintro w' ⟨bs',rv',lv',mv',e,hk',kp,hj⟩
      refine ⟨bs',⟨rv',lv',mv',e,hk'⟩,kp,fun j hj'=>?_⟩
      rcases hj j hj' with a | a | ⟨off',a⟩
      · exact .inl a
      · exact .inr (.inl a)
      · cases a
    rw [hl0,hc0]
    cases ao with
    | none=>exact (own_zero_a w p Q bs rv lv mv hk hr hQ).mono fun e w' ⟨a,b⟩=>⟨a,fin w' b⟩
    | some ad=>exact (own_zero_b w p Q bs rv lv mv hk hr hQ ad).mono fun e w' ⟨a,b⟩=>⟨a,fin w' b⟩
end Lm
end Go.Proofs.YtpofkigboedliaaGreat

namespace Go.Proofs.YtpofkigboedliaaGreat
namespace Lm
open Go.RowKit
theorem Is.tight {B:Nat} {w:World} {v:Value} {x:Int} (h:Is B w v x) (hB:B≤w.heap.size):∃ ao cap rs B1 T1,v=.slice ao rs.length cap∧Fr B1 T1 w ao cap rs x∧B≤B1∧T1≤w.heap.size∧((cap=0∧T1=B1)∨(0<cap∧T1=B1+1∧∃ off,ao=some ⟨B1,off,none⟩)):=by
  obtain ⟨rs,ho,hc,hv⟩:=h
  obtain ⟨ao,cap,rfl,h1,h2,h3,h4⟩:=ho
  by_cases h0:cap=0
  · exact ⟨ao,cap,rs,B,B,rfl,⟨⟨ao,cap,rfl,h1,h2,h3,.inl h0⟩,hc,hv,fun h=>by omega⟩,Nat.le_refl _,hB,.inl ⟨h0,rfl⟩⟩
  · rcases h4 with h4 | ⟨g,off,cur,rfl,hg,hh,hs,ha⟩
    · exact absurd h4 h0
    · refine ⟨_,cap,rs,g,g+1,rfl,⟨⟨_,cap,rfl,h1,h2,h3,.inr ⟨g,off,cur,rfl,Nat.le_refl _,hh,hs,ha⟩⟩,hc,hv,fun _ g' off' e=>?_⟩,hg,lt_of_heap hh,.inr ⟨by omega,rfl,off,rfl⟩⟩
      simp only [Option.some.injEq,Addr.mk.injEq] at e
      omega
theorem Is.two {B:Nat} {w:World} {v1 v2:Value} {x1 x2:Int} (h1:Is B w v1 x1) (h2:Is B w v2 x2) (hs:Sep v1 v2) (hB:B≤w.heap.size):∃ ao cap rs bo dap ss B1 T1 B2 T2,v1=.slice ao rs.length cap∧v2=.slice bo ss.length dap∧Fr B1 T1 w ao cap rs x1∧Fr B2 T2 w bo dap ss x2∧B≤B1∧T1≤w.heap.size∧B≤B2∧T2≤w.heap.size∧(∀ j,B1≤j→j<T1→j<B2∨T2≤j):=by
  obtain ⟨ao,cap,rs,B1,T1,rfl,f1,b1,t1,c1⟩:=h1.tight hB
  obtain ⟨bo,dap,ss,B2,T2,rfl,f2,b2,t2,c2⟩:=h2.tight hB
  refine ⟨ao,cap,rs,bo,dap,ss,B1,T1,B2,T2,rfl,rfl,f1,f2,b1,t1,b2,t2,fun j hj1 hj2=>?_⟩
  rcases c1 with ⟨_,c1⟩ | ⟨p1,c1,off1,rfl⟩
  · omega
  · rcases c2 with ⟨_,c2⟩ | ⟨p2,c2,off2,rfl⟩
    · omega
    · have:=hs _ _ _ _ _ _ rfl rfl
      simp only at this
      omega
structure Li (B T:Nat) (w:World) (ao:Option Addr) (cap:Nat) (rs:List Int):Prop where
  ow:Ow B w (.slice ao rs.length cap) rs
  lies:0<cap→∀ g off,ao=some ⟨g,off,none⟩→B≤g∧g<T
theorem Fr.li {B T:Nat} {w:World} {ao:Option Addr} {cap:Nat} {rs:List Int} {x:Int} (h:Fr B T w ao cap rs x):Li B T w ao cap rs:=⟨h.ow,h.lies⟩
theorem Li.fr {B T:Nat} {w:World} {ao:Option Addr} {cap:Nat} {rs:List Int} {x:Int} (h:Li B T w ao cap rs) (hg:Got w ao cap rs x):Fr B T w ao cap rs x:=⟨h.ow,hg.canon,hg.val,h.lies⟩
theorem divmod_o (w:World) (a1 a2:Option Addr) (n1 n2 c1 c2:Nat) (xs ys:List Int) (hx:Sl w (.slice a1 n1 c1) xs) (hy:Sl w (.slice a2 n2 c2) ys) (hm1:xs.length≤500000) (h0:val ys≠0) :
    Calls Tryz.prog 64 #[.slice a1 n1 c1,.slice a2 n2 c2] w fun e w'=>∃ ao cap rs bo dap ss B1 T1 B2 T2,e=.returned (.tuple #[.slice ao rs.length cap,.slice bo ss.length dap,.bool true])∧Got w' ao cap rs (val xs / val ys)∧Got w' bo dap ss (val xs % val ys)∧rs.length≤xs.length∧ss.length≤ys.length∧Li B1 T1 w' ao cap rs∧Li B2 T2 w' bo dap ss∧(w.heap.size≤B1∧T1≤w'.heap.size∧w.heap.size≤B2∧T2≤w'.heap.size∧∀ j,B1≤j→j<T1→j<B2∨T2≤j)∧Below w.heap.size w w' := by
  refine (divmod_any w a1 a2 n1 n2 c1 c2 xs ys hx hy hm1 h0).mono ?_
  rintro e w' ⟨v1,v2,rfl,hi1,hi2,hsep,hb⟩
  obtain ⟨ao,cap,rs,bo,dap,ss,B1,T1,B2,T2,rfl,rfl,f1,f2,x1,x2,x3,x4,x5⟩:=hi1.two hi2 hsep hb.size
  have lx:=hx.parts.2.2.2
  have ly:=hy.parts.2.2.2
  have bx:=val_bounds lx
  have bY:=val_bounds ly
  refine ⟨ao,cap,rs,bo,dap,ss,B1,T1,B2,T2,rfl,f1.got,f2.got,le_len lx f1.canon (by rw [f1.val];exact Int.ediv_le_self _ bx.1),le_len ly f2.canon (by rw [f2.val];exact Int.le_of_lt (Int.emod_lt_of_pos _ (by omega))),f1.li,f2.li,⟨x1,x2,x3,x4,x5⟩,hb⟩
end Lm
end Go.Proofs.YtpofkigboedliaaGreat

namespace Go.Proofs.YtpofkigboedliaaGreat
namespace Lm
open Go.RowKit
theorem trim_o (w:World) (ao:Option Addr) (n cap:Nat) (zs:List Int) (h:Sl w (.slice ao n cap) zs) (hz:zs.length≤1000000) :
    Calls Tryz.prog 62 #[.slice ao n cap] w fun e w'=>∃ ao cap rs,e=.returned (.slice ao rs.length cap)∧Got w' ao cap rs (val zs)∧rs.length≤zs.length∧Li w.heap.size w'.heap.size w' ao cap rs∧Below w.heap.size w w' := by
  refine (trim_any w ao n cap zs h hz).mono ?_
  rintro e w' ⟨v,rfl,ho,hb⟩
  have hc:=canon_trim h.parts.2.2.2
  obtain ⟨ao',cap',rs,rfl,f⟩:=(show Is w.heap.size w' v (val zs) from ⟨_,ho,hc,val_take_tl zs⟩).fr
  refine ⟨ao',cap',rs,rfl,f.got,?_,f.li,hb⟩
  exact le_len h.parts.2.2.2 f.canon (by rw [f.val];exact Int.le_refl _)
end Lm
end Go.Proofs.YtpofkigboedliaaGreat

namespace Go.Proofs.YtpofkigboedliaaGreat
namespace Lm
open Go.RowKit
theorem limb_lent {xs:List Int} (hl:Limb xs) (hm:xs.length≤100000) {i:Nat} (hi:i<xs.length+10):0≤(lent xs).getD i 0∧(lent xs).getD i 0<4294967296:=by
  by_cases h1:i<5
  · rw [lent_low h1];omega
  · by_cases h2:i<5+xs.length
    · rw [lent_mid (by omega) h2];exact limb_getD hl _
    · rw [lent_high (by omega) hi];omega
set_option maxRecDepth 20000 in
set_option maxHeartbeats 2000000 in
theorem back_any (w:World) (L g:Nat) (a1:Option Addr) (n c1:Nat) (xs:List Int) (hs:LendS w L g xs) (hLg:L≠g) (hx:Sl w (.slice a1 n c1) xs) (hm:xs.length≤100000)
    (hne:0<xs.length→∀ b off,a1=some ⟨b,off,none⟩→b≠g) :
    Calls Tryz.prog 13 #[.pointer (some ⟨L,0,none⟩),.slice a1 n c1] w fun e w'=>e=.returned (.bool true)∧Touch w w' g:=by
  obtain ⟨rfl,h1,h2,h3⟩:=hx.parts
  obtain ⟨hL,cur,hh,hcs,hat,_⟩:=hs
  have dL:=(cell_of_row w L 1 _ _ (0,0) hL).trans (show (#[.slice (some ⟨g,0,none⟩) (xs.length+10) (xs.length+10),.int .i64 xs.length]:Array Value)[1]? = some _ from rfl)
  have H3:=hide h3
  have HL:=hide hL
  have HH:=hide hh
  have HS:=hide hcs
  have HA:=hide hat
  clear h3 hL hh hcs hat
  go_enter Tryz.func13,Tryz.ntmps13
  go_wp2
  go_loopw [5,6] (fun ok i wr=>∃ (k:Nat) (cur' : Array Value),k≤xs.length+10∧ok=.bool true∧i=.int .i64 k∧Wr w wr g cur' 69∧cur'.size=xs.length+10∧(∀ j,k≤j→j<xs.length+10→cur'[j]? = some (.int .u32 ((lent xs).getD j 0)))) (fun _ i _=>xs.length+10 - (intOf i).toNat)
  case atStart=>exact ⟨0,cur,Nat.zero_le _,rfl,rfl,Wr.refl HH.out,HS.out,fun j _ hj=>by have:=HA.out j (by rw [lent_length];exact hj);rwa [Nat.zero_add] at this⟩
  case round =>
    obtain ⟨k,cur',hk,rfl,rfl,hwr,hcs,hat⟩:=hrel
    have HW:=hide hwr
    have HC:=hide hcs
    have HT:=hide hat
    have hLr:wr.heap[L]? = some (.cells #[.slice (some ⟨g,0,none⟩) (xs.length+10) (xs.length+10),.int .i64 xs.length] 36 (0,0)):=by
      rw [hwr.other L hLg];exact HL.out
    have cLr:=(cell_of_row wr L 0 _ _ (0,0) hLr).trans (show (#[.slice (some ⟨g,0,none⟩) (xs.length+10) (xs.length+10),.int .i64 xs.length]:Array Value)[0]? = some _ from rfl)
    clear hwr hcs hat hLr
    by_cases hlt:k<xs.length+10
    · have hcell:wr.cell? ⟨g,k,none⟩ = some (.int .u32 ((lent xs).getD k 0)):=by
        rw [cell_of_row wr g k cur' _ (0,0) HW.out.here];exact HT.out k (Nat.le_refl _) hlt
      have hbl:=limb_lent H3.out hm hlt
      have hfree:=HW.out.free k
      have HN:Hid (∀ (u:Value) (j:Nat),k+1≤j→j<xs.length+10→(cur'.setIfInBounds k u)[j]? = some (.int .u32 ((lent xs).getD j 0))):=by
        intro u j hj hj2
        rw [Array.getElem?_setIfInBounds,if_neg (by omega)]
        exact HT.out j (by omega) hj2
      by_cases h5:k<5
      · rw [lent_low h5] at hcell
        have d5:decide ((5:Int)≤(k:Int))=false:=by simp;omega
        go_wp2
        go_region
        all_goals go_wp2
        go_roundw
        case rel=>exact ⟨k+1,_,by omega,rfl,by go_num,(HW.out.set k _).drew,by simpa using HC.out,HN.out _⟩
        case measure=>simp [intOf];omega
      · by_cases h6:k<5+xs.length
        · obtain ⟨m,rfl⟩:∃ m,k=m+5:=⟨k - 5,by omega⟩
          rw [lent_mid (by omega) h6,Nat.add_sub_cancel] at hcell
          have sx:=hx.touch HW.out.touch hne
          obtain ⟨b,off,rfl,hcx⟩:=sx.cells (by omega)
          have cx:=hcx m (by omega)
          generalize xs.getD m 0=z at hcell cx
          have hm5:((m+5:Nat):Int)=(m:Int)+5:=by omega
          rw [hm5]
          have d5:decide ((5:Int)≤(m:Int)+5)=true:=decide_eq_true (by omega)
          have d6:decide ((m:Int)+5<5+(xs.length:Int))=true:=by simp;omega
          have d7:(m:Int)+5<5+(xs.length:Int):=by omega
          clear sx hcx hbl hm5
          go_wp2
          go_region
          all_goals go_wp2
          go_roundw
          case rel=>exact ⟨m+5+1,_,by omega,rfl,by go_num,(HW.out.set (m+5) _).drew,by simpa using HC.out,HN.out _⟩
          case measure=>simp [intOf];omega
        · rw [lent_high (by omega) hlt] at hcell
          have d5:decide ((5:Int)≤(k:Int))=true:=by simp;omega
          have d6:decide ((k:Int)<5+(xs.length:Int))=false:=by simp;omega
          have d7:¬ (k:Int)<5+(xs.length:Int):=by omega
          have d8:(5:Int)≤(k:Int):=by omega
          go_wp2
          go_region
          all_goals go_wp2
          go_roundw
          case rel=>exact ⟨k+1,_,by omega,rfl,by go_num,(HW.out.set k _).drew,by simpa using HC.out,HN.out _⟩
          case measure=>simp [intOf];omega
    · have hkn:k=xs.length+10:=by omega
      subst hkn
      go_wp2
      go_ret
      exact ⟨rfl,HW.out.touch⟩
end Lm
end Go.Proofs.YtpofkigboedliaaGreat

namespace Go.Proofs.YtpofkigboedliaaGreat
namespace Dm
def Limb (zs:List Int):Prop:=∀ z ∈ zs,0≤z∧z<10000
def pw:Nat→Int
  | 0=>1
  | n+1=>10000*pw n
def val:List Int→Int
  | []=>0
  | z :: zs=>z+10000*val zs
def tl:List Int→Nat
  | []=>0
  | z :: zs=>if tl zs=0 then (if z=0 then 0 else 1) else tl zs+1
def Canon (zs:List Int):Prop:=Limb zs∧tl zs=zs.length
theorem pw_pos (n:Nat):1≤pw n:=by
  induction n with
  | zero=>simp [pw]
  | succ n ih=>simp only [pw];omega
theorem pw_add (m n:Nat):pw (m+n)=pw m*pw n:=by
  induction m with
  | zero=>simp [pw]
  | succ m ih=>rw [Nat.succ_add];simp only [pw,ih,Int.mul_assoc]
theorem pw_mono {m n:Nat} (h:m≤n):pw m≤pw n:=by
  obtain ⟨k,rfl⟩:=Nat.le.dest h
  rw [pw_add]
  have h1:=pw_pos m
  have h2:=pw_pos k
  have:pw m*1≤pw m*pw k:=Int.mul_le_mul_of_nonneg_left h2 (by omega)
  omega
theorem limb_nil:Limb []:=fun _ h=>by cases h
theorem limb_cons {z:Int} {zs:List Int} : Limb (z :: zs)↔(0≤z∧z<10000)∧Limb zs:=by
  constructor
  · intro h;exact ⟨h z (by simp),fun y hy=>h y (by simp [hy])⟩
  · rintro ⟨h1,h2⟩ y hy
    simp at hy
    rcases hy with rfl | hy
    · exact h1
    · exact h2 y hy
theorem limb_append {xs ys:List Int} : Limb (xs ++ ys)↔Limb xs∧Limb ys:=by
  constructor
  · intro h;exact ⟨fun y hy=>h y (by simp [hy]),fun y hy=>h y (by simp [hy])⟩
  · rintro ⟨h1,h2⟩ y hy
    simp at hy
    rcases hy with hy | hy
    · exact h1 y hy
    · exact h2 y hy
theorem limb_take {zs:List Int} (h:Limb zs) (k:Nat):Limb (zs.take k):=fun y hy=>h y (List.mem_of_mem_take hy)
theorem limb_drop {zs:List Int} (h:Limb zs) (k:Nat):Limb (zs.drop k):=fun y hy=>h y (List.mem_of_mem_drop hy)
theorem limb_getD {zs:List Int} (h:Limb zs) (i:Nat):0≤zs.getD i 0∧zs.getD i 0<10000:=by
  rw [List.getD_eq_getElem?_getD]
  cases hi:zs[i]? with
  | none=>simp
  | some z=>simpa using h z (List.mem_of_getElem? hi)
theorem limb_zeros (n:Nat):Limb (List.replicate n 0):=fun y hy=>by
  have:=List.eq_of_mem_replicate hy
  omega
theorem val_append (xs ys:List Int):val (xs ++ ys)=val xs+pw xs.length*val ys:=by
  induction xs with
  | nil=>simp [val,pw]
  | cons x xs ih =>
    simp only [List.cons_append,val,List.length_cons,pw,ih,Int.mul_add,Int.mul_assoc]
    omega
theorem val_zeros (n:Nat):val (List.replicate n 0)=0:=by
  induction n with
  | zero=>rfl
  | succ n ih=>simp [List.replicate_succ,val,ih]
theorem val_bounds {zs:List Int} (h:Limb zs):0≤val zs∧val zs<pw zs.length:=by
  induction zs with
  | nil=>simp [val,pw]
  | cons z zs ih =>
    have h' := limb_cons.1 h
    have:=ih h'.2
    simp only [val,List.length_cons,pw]
    omega
theorem tl_le (zs:List Int):tl zs≤zs.length:=by
  induction zs with
  | nil=>simp [tl]
  | cons z zs ih =>
    simp only [tl,List.length_cons]
    repeat' split
    all_goals omega
theorem tl_zero {zs:List Int} (h:tl zs=0):val zs=0:=by
  induction zs with
  | nil=>rfl
  | cons z zs ih =>
    simp only [tl] at h
    by_cases h0:tl zs=0
    · rw [if_pos h0] at h
      by_cases hz:z=0
      · simp [val,ih h0,hz]
      · rw [if_neg hz] at h;omega
    · rw [if_neg h0] at h;omega
theorem val_take_tl (zs:List Int):val (zs.take (tl zs))=val zs:=by
  induction zs with
  | nil=>rfl
  | cons z zs ih =>
    simp only [tl]
    by_cases h0:tl zs=0
    · rw [if_pos h0]
      by_cases hz:z=0
      · simp [hz,val,tl_zero h0]
      · simp [hz,val,tl_zero h0]
    · rw [if_neg h0]
      simp [val,ih]
theorem tl_take_tl (zs:List Int):tl (zs.take (tl zs))=tl zs:=by
  induction zs with
  | nil=>rfl
  | cons z zs ih =>
    by_cases h0:tl zs=0
    · by_cases hz:z=0
      · simp [tl,h0,hz]
      · simp [tl,h0,hz]
    · have e:tl (z :: zs)=tl zs+1:=by simp [tl,h0]
      rw [e,List.take_succ_cons]
      simp [tl,ih,h0]
theorem canon_trim {zs:List Int} (h:Limb zs):Canon (zs.take (tl zs)) :=
  ⟨limb_take h _,by rw [tl_take_tl,List.length_take,Nat.min_eq_left (tl_le zs)]⟩
theorem canon_nil:Canon []:=⟨limb_nil,rfl⟩
theorem tl_le_of_zero {zs:List Int} {n:Nat} (h:tl zs≤n+1) (h0:zs.getD n 0=0):tl zs≤n:=by
  induction zs generalizing n with
  | nil=>simp [tl]
  | cons z zs ih =>
    simp only [tl] at h ⊢
    by_cases ht:tl zs=0
    · rw [if_pos ht] at h ⊢
      by_cases hz:z=0
      · rw [if_pos hz];omega
      · rw [if_neg hz]
        cases n with
        | zero=>simp at h0;exact absurd h0 hz
        | succ n=>omega
    · rw [if_neg ht] at h ⊢
      cases n with
      | zero=>omega
      | succ n =>
        have:=ih (n:=n) (by omega) (by simpa using h0)
        omega
theorem tl_gt {zs:List Int} {n:Nat} (h0:zs.getD n 0≠0):n+1≤tl zs:=by
  induction zs generalizing n with
  | nil=>simp at h0
  | cons z zs ih =>
    cases n with
    | zero =>
      simp at h0
      simp only [tl,h0,if_false]
      split <;> omega
    | succ n =>
      have:=ih (n:=n) (by simpa using h0)
      simp only [tl]
      rw [if_neg (by omega)]
      omega
theorem canon_cons {z:Int} {zs:List Int} (h:Canon (z :: zs)):Canon zs∧(zs = []→z≠0):=by
  obtain ⟨h1,h2⟩:=h
  have hl:=tl_le zs
  simp only [tl,List.length_cons] at h2
  refine ⟨⟨(limb_cons.1 h1).2,?_⟩,?_⟩
  · by_cases h0:tl zs=0
    · rw [if_pos h0] at h2
      by_cases hz:z=0
      · rw [if_pos hz] at h2;omega
      · rw [if_neg hz] at h2;omega
    · rw [if_neg h0] at h2;omega
  · rintro rfl hz
    simp [tl,hz] at h2
theorem canon_low {zs:List Int} (h:Canon zs) (h0:zs≠[]):pw (zs.length - 1)≤val zs:=by
  induction zs with
  | nil=>exact absurd rfl h0
  | cons z zs ih =>
    have hc:=canon_cons h
    have hz:=(limb_cons.1 h.1).1
    cases zs with
    | nil =>
      have:=hc.2 rfl
      simp [val,pw]
      omega
    | cons y ys =>
      have:=ih hc.1 (by simp)
      simp only [List.length_cons,Nat.add_sub_cancel,pw] at this ⊢
      rw [val]
      omega
theorem canon_one {xs ys:List Int} (hx:Canon xs) (hy:Canon ys) (h:val xs=val ys):xs=ys:=by
  induction xs generalizing ys with
  | nil =>
    cases ys with
    | nil=>rfl
    | cons y ys =>
      have:=canon_low hy (by simp)
      have:=pw_pos ((y :: ys).length - 1)
      have h0:0=val (y :: ys):=h
      omega
  | cons x xs ih =>
    cases ys with
    | nil =>
      have:=canon_low hx (by simp)
      have:=pw_pos ((x :: xs).length - 1)
      have h0:val (x :: xs)=0:=h
      omega
    | cons y ys =>
      have h1:=(limb_cons.1 hx.1).1
      have h2:=(limb_cons.1 hy.1).1
      simp only [val] at h
      have e:x=y:=by omega
      have e' : val xs=val ys:=by omega
      rw [e,ih (canon_cons hx).1 (canon_cons hy).1 e']
theorem canon_zero {zs:List Int} (h:Canon zs):val zs=0↔zs = []:=by
  constructor
  · intro h0;exact canon_one h canon_nil h0
  · rintro rfl;rfl
theorem canon_lt {xs ys:List Int} (hx:Canon xs) (hy:Canon ys) (h:xs.length<ys.length):val xs<val ys:=by
  have h1:=(val_bounds hx.1).2
  have h2:=canon_low hy (by intro e;subst e;simp at h)
  have h3:=pw_mono (m:=xs.length) (n:=ys.length - 1) (by omega)
  omega
theorem val_pos_tl {zs:List Int} (h:Limb zs) (h0:0<tl zs):0<val zs:=by
  have hl:(zs.take (tl zs)).length=tl zs:=by have:=tl_le zs;rw [List.length_take];omega
  have h1:=canon_low (canon_trim h) (by intro e;rw [e] at hl;simp at hl;omega)
  have h2:=pw_pos ((zs.take (tl zs)).length - 1)
  rw [val_take_tl] at h1
  omega
theorem val_lt_at {xs ys:List Int} {k:Nat} (hx:Limb xs) (hy:Limb ys) (hl:xs.length=ys.length) (hk:k<xs.length) (hd:xs.drop (k+1)=ys.drop (k+1)) (h:xs.getD k 0<ys.getD k 0):val xs<val ys:=by
  induction k generalizing xs ys with
  | zero =>
    cases xs with
    | nil=>simp at hk
    | cons x xs =>
      cases ys with
      | nil=>simp at hl
      | cons y ys =>
        simp at hd h
        subst hd
        simp only [val]
        omega
  | succ k ih =>
    cases xs with
    | nil=>simp at hk
    | cons x xs =>
      cases ys with
      | nil=>simp at hl
      | cons y ys =>
        have h1:=limb_cons.1 hx
        have h2:=limb_cons.1 hy
        have:=ih h1.2 h2.2 (by simpa using hl) (by simpa using hk) (by simpa using hd) (by simpa using h)
        simp only [val]
        omega
theorem take_succ_getD (zs:List Int) (k:Nat) (h:k<zs.length):zs.take (k+1)=zs.take k ++ [zs.getD k 0]:=by
  rw [List.take_succ_eq_append_getElem h,List.getD_eq_getElem?_getD,List.getElem?_eq_getElem h]
  rfl
theorem drop_getD (zs:List Int) (k:Nat) (h:k<zs.length):zs.drop k=zs.getD k 0 :: zs.drop (k+1):=by
  rw [List.drop_eq_getElem_cons h,List.getD_eq_getElem?_getD,List.getElem?_eq_getElem h]
  rfl
def vf (zs:List Int):Nat→Int
  | 0=>0
  | k+1=>vf zs k+pw k*zs.getD k 0
theorem vf_take (zs:List Int) (k:Nat):vf zs k=val (zs.take k):=by
  induction k with
  | zero=>simp [vf,val]
  | succ k ih =>
    by_cases h:k<zs.length
    · rw [take_succ_getD zs k h,val_append,vf,ih,List.length_take,Nat.min_eq_left (by omega)]
      simp [val]
    · rw [vf,ih,List.take_of_length_le (by omega),List.take_of_length_le (by omega)]
      have:zs.getD k 0=0:=by rw [List.getD_eq_getElem?_getD,List.getElem?_eq_none (by omega)];rfl
      rw [this];omega
theorem vf_all (zs:List Int) (k:Nat) (h:zs.length≤k):vf zs k=val zs:=by
  rw [vf_take,List.take_of_length_le h]
theorem val_snoc (ps:List Int) (x:Int):val (ps ++ [x])=val ps+pw ps.length*x:=by
  rw [val_append];simp [val]
theorem set_cons (zs qs:List Int) (k:Nat) (x:Int) (h:k<zs.length):(zs.take (k+1) ++ qs).set k x=zs.take k ++ x :: qs:=by
  rw [take_succ_getD zs k h]
  have:(zs.take k).length=k:=by rw [List.length_take];omega
  rw [List.append_assoc,List.set_append_right _ _ (by omega)]
  simp [this]
end Dm
end Go.Proofs.YtpofkigboedliaaGreat

namespace Go.Proofs.YtpofkigboedliaaGreat
namespace Dm
open Go.RowKit
theorem hide {p:Prop} (h:p):Hid p:=h
def Sl (w:World) (v:Value) (zs:List Int):Prop :=
  ∃ ao cap,v=.slice ao zs.length cap∧zs.length≤cap∧cap≤maxLen∧Limb zs ∧
    (zs = []∨∃ b off,ao=some ⟨b,off,none⟩∧∀ i,i<zs.length→w.cell? ⟨b,off+i,none⟩ = some (.int .i64 (zs.getD i 0)))
def At (cur:Array Value) (k:IntKind) (off:Nat) (zs:List Int):Prop:=∀ i,i<zs.length→cur[off+i]? = some (.int k (zs.getD i 0))
def Ow (B:Nat) (w:World) (v:Value) (zs:List Int):Prop :=
  ∃ ao cap,v=.slice ao zs.length cap∧zs.length≤cap∧cap≤maxLen∧Limb zs ∧
    (cap=0∨∃ g off cur,ao=some ⟨g,off,none⟩∧B≤g∧w.heap[g]? = some (.cells cur 3 (0,0))∧off+cap≤cur.size∧At cur .i64 off zs)
structure Wr (w w' : World) (g:Nat) (cur:Array Value) (e:TypeId):Prop where
  os:w'.os=w.os
  tape:w'.tape=w.tape
  output:w'.output=w.output
  size:w'.heap.size=w.heap.size
  here:w'.heap[g]? = some (.cells cur e (0,0))
  other:∀ k,k≠g→w'.heap[k]? = w.heap[k]?
def Is (B:Nat) (w:World) (v:Value) (x:Int):Prop:=∃ rs,Ow B w v rs∧Canon rs∧val rs=x
theorem lt_of_cell {w:World} {b off:Nat} {v:Value} (h:w.cell? ⟨b,off,none⟩ = some v):b<w.heap.size:=by
  apply Classical.byContradiction
  intro hn
  have:w.heap[b]? = none:=Array.getElem?_eq_none (by omega)
  simp [World.cell?,this] at h
theorem lt_of_heap {w:World} {b:Nat} {o:Obj} (h:w.heap[b]? = some o):b<w.heap.size:=by
  apply Classical.byContradiction
  intro hn
  rw [Array.getElem?_eq_none (by omega)] at h
  cases h
theorem Sl.below {w w' : World} {v:Value} {zs:List Int} (h:Sl w v zs) (hb:Below w.heap.size w w'):Sl w' v zs:=by
  obtain ⟨ao,cap,rfl,h1,h2,h3,h4⟩:=h
  refine ⟨ao,cap,rfl,h1,h2,h3,?_⟩
  rcases h4 with h4 | ⟨b,off,rfl,hc⟩
  · exact .inl h4
  · refine .inr ⟨b,off,rfl,fun i hi=>?_⟩
    have h5:=hc i hi
    rw [hb.cell (p:=⟨b,off+i,none⟩) (lt_of_cell h5)]
    exact h5
theorem Ow.sl {B:Nat} {w:World} {v:Value} {zs:List Int} (h:Ow B w v zs):Sl w v zs:=by
  obtain ⟨ao,cap,rfl,h1,h2,h3,h4⟩:=h
  refine ⟨ao,cap,rfl,h1,h2,h3,?_⟩
  rcases h4 with h4 | ⟨g,off,cur,rfl,_,hh,hs,ha⟩
  · exact .inl (List.eq_nil_of_length_eq_zero (by omega))
  · exact .inr ⟨g,off,rfl,fun i hi=>by rw [cell_of_row w g (off+i) cur _ (0,0) hh];exact ha i hi⟩
theorem Ow.below {B:Nat} {w w' : World} {v:Value} {zs:List Int} (h:Ow B w v zs) (hb:Below w.heap.size w w'):Ow B w' v zs:=by
  obtain ⟨ao,cap,rfl,h1,h2,h3,h4⟩:=h
  refine ⟨ao,cap,rfl,h1,h2,h3,?_⟩
  rcases h4 with h4 | ⟨g,off,cur,rfl,hg,hh,hs,ha⟩
  · exact .inl h4
  · exact .inr ⟨g,off,cur,rfl,hg,by rw [hb.block g (lt_of_heap hh)];exact hh,hs,ha⟩
theorem At.set {cur:Array Value} {k:IntKind} {off:Nat} {zs:List Int} (h:At cur k off zs) (j:Nat) (x:Int):At (cur.setIfInBounds (off+j) (.int k x)) k off (zs.set j x):=by
  intro i hi
  rw [List.length_set] at hi
  have h1:=h i hi
  have hb:off+i<cur.size:=by
    apply Classical.byContradiction
    intro hn
    rw [Array.getElem?_eq_none (by omega)] at h1
    cases h1
  rw [Array.getElem?_setIfInBounds,List.getD_eq_getElem?_getD,List.getElem?_set]
  by_cases hj:j=i
  · subst hj
    simp [hi,hb]
  · rw [if_neg (by omega),if_neg hj,h1,List.getD_eq_getElem?_getD]
theorem At.cell {cur:Array Value} {k:IntKind} {off:Nat} {zs:List Int} (h:At cur k off zs) {w:World} {g:Nat} {e:TypeId} (hh:w.heap[g]? = some (.cells cur e (0,0))) (i:Nat) (hi:i<zs.length):w.cell? ⟨g,off+i,none⟩ = some (.int k (zs.getD i 0)):=by
  rw [cell_of_row w g (off+i) cur _ (0,0) hh];exact h i hi
theorem Wr.refl {w:World} {g:Nat} {cur:Array Value} {e:TypeId} (h:w.heap[g]? = some (.cells cur e (0,0))):Wr w w g cur e:=⟨rfl,rfl,rfl,rfl,h,fun _ _=>rfl⟩
theorem Wr.drew {w w' : World} {g:Nat} {cur:Array Value} {e:TypeId} (h:Wr w w' g cur e):Wr w w'.drew g cur e:=⟨h.os,h.tape,h.output,h.size,h.here,h.other⟩
theorem Wr.drewN {w w' : World} {g:Nat} {cur:Array Value} {e:TypeId} (h:Wr w w' g cur e) (n:Nat):Wr w (w'.drewN n) g cur e:=⟨h.os,h.tape,h.output,h.size,h.here,h.other⟩
theorem Wr.set {w w' : World} {g:Nat} {cur:Array Value} {e:TypeId} (h:Wr w w' g cur e) (i:Nat) (u:Value):Wr w (w'.setCell ⟨g,i,none⟩ u) g (cur.setIfInBounds i u) e :=
  ⟨h.os,h.tape,h.output,by simp [World.setCell,h.size],heap_setCell_same w' g i cur e u h.here,fun k hk=>(heap_setCell_other w' ⟨g,i,none⟩ k u hk).trans (h.other k hk)⟩
theorem Wr.free {w w' : World} {g:Nat} {cur:Array Value} {e:TypeId} (h:Wr w w' g cur e) (i:Nat):w'.frozen? ⟨g,i,none⟩ = false:=frozen_of_row w' g i cur e h.here
theorem Wr.below {w w' : World} {g:Nat} {cur:Array Value} {e:TypeId} (h:Wr w w' g cur e) {B:Nat} (hB:B≤g):Below B w w' :=
  ⟨h.os,h.tape,h.output,by rw [h.size];exact Nat.le_refl _,fun k hk=>h.other k (by omega)⟩
theorem Sl.parts {w:World} {ao:Option Addr} {n cap:Nat} {zs:List Int} (h:Sl w (.slice ao n cap) zs):n=zs.length∧zs.length≤cap∧cap≤9223372036854775807∧Limb zs:=by
  obtain ⟨ao',cap',hv,h1,h2,h3,h4⟩:=h
  obtain ⟨rfl,rfl,rfl⟩:=(Value.slice.injEq .. ▸ hv)
  exact ⟨rfl,h1,h2,h3⟩
theorem Sl.cells {w:World} {ao:Option Addr} {n cap:Nat} {zs:List Int} (h:Sl w (.slice ao n cap) zs) (hp:0<zs.length):∃ b off,ao=some ⟨b,off,none⟩∧∀ i,i<zs.length→w.cell? ⟨b,off+i,none⟩ = some (.int .i64 (zs.getD i 0)):=by
  obtain ⟨ao',cap',hv,h1,h2,h3,h4⟩:=h
  obtain ⟨rfl,rfl,rfl⟩:=(Value.slice.injEq .. ▸ hv)
  rcases h4 with rfl | h4
  · simp at hp
  · exact h4
theorem Sl.take {w:World} {ao:Option Addr} {n cap:Nat} {zs:List Int} (h:Sl w (.slice ao n cap) zs) {k:Nat} (hk:k≤zs.length):Sl w (.slice ao k cap) (zs.take k):=by
  obtain ⟨ao',cap',hv,h1,h2,h3,h4⟩:=h
  obtain ⟨rfl,rfl,rfl⟩:=(Value.slice.injEq .. ▸ hv)
  have hl:(zs.take k).length=k:=by rw [List.length_take];omega
  refine ⟨ao,cap,by rw [hl],by omega,h2,limb_take h3 _,?_⟩
  rcases h4 with rfl | ⟨b,off,rfl,hc⟩
  · exact .inl (by simp)
  · refine .inr ⟨b,off,rfl,fun i hi=>?_⟩
    rw [hc i (by omega),List.getD_eq_getElem?_getD,List.getD_eq_getElem?_getD,List.getElem?_take,if_pos (by omega)]
theorem Ow.take {B:Nat} {w:World} {ao:Option Addr} {n cap:Nat} {zs:List Int} (h:Ow B w (.slice ao n cap) zs) {k:Nat} (hk:k≤zs.length):Ow B w (.slice ao k cap) (zs.take k):=by
  obtain ⟨ao',cap',hv,h1,h2,h3,h4⟩:=h
  obtain ⟨rfl,rfl,rfl⟩:=(Value.slice.injEq .. ▸ hv)
  have hl:(zs.take k).length=k:=by rw [List.length_take];omega
  refine ⟨ao,cap,by rw [hl],by omega,h2,limb_take h3 _,?_⟩
  rcases h4 with h4 | ⟨g,off,cur,rfl,hg,hh,hs,ha⟩
  · exact .inl h4
  · refine .inr ⟨g,off,cur,rfl,hg,hh,hs,fun i hi=>?_⟩
    rw [ha i (by omega),List.getD_eq_getElem?_getD,List.getD_eq_getElem?_getD,List.getElem?_take,if_pos (by omega)]
theorem Wr.sl {w w' : World} {g:Nat} {cur:Array Value} {e:TypeId} (h:Wr w w' g cur e) {B:Nat} {w0:World} (hB:B≤g) (hb:Below B w0 w) (hs:w0.heap.size=B) {v:Value} {zs:List Int} (hv:Sl w0 v zs):Sl w' v zs:=by
  subst hs
  exact hv.below (hb.trans (h.below hB))
end Dm
end Go.Proofs.YtpofkigboedliaaGreat

namespace Go.Proofs.YtpofkigboedliaaGreat
namespace Dm
open Go.RowKit
set_option maxRecDepth 20000 in
set_option maxHeartbeats 400000 in
theorem cut_any (w:World) (ao:Option Addr) (n cap:Nat) (zs:List Int) (h:Sl w (.slice ao n cap) zs) :
    Calls Tryz.prog 78 #[.slice ao n cap] w fun e w'=>e=.returned (.slice ao (tl zs) cap)∧w' = w:=by
  obtain ⟨ao',cap',hv,h1,h2,h3,h4⟩:=h
  obtain ⟨rfl,rfl,rfl⟩:=(Value.slice.injEq .. ▸ hv)
  unfold maxLen at h2
  have ht:=tl_le zs
  go_enter Tryz.func78,Tryz.ntmps78
  go_wp2
  go_loop [3] (fun n=>∃ k:Nat,k≤zs.length∧tl zs≤k∧n=.int .i64 k) (fun n=>(intOf n).toNat)
  case atStart=>exact ⟨zs.length,Nat.le_refl _,ht,rfl⟩
  case round =>
    obtain ⟨k,hk,hk2,rfl⟩:=hrel
    cases k with
    | zero =>
      have hz:tl zs=0:=by omega
      have HZ:Hid (tl zs=0):=hz
      clear hz
      go_wp2
      go_ret
      exact ⟨by rw [HZ.out];rfl,rfl⟩
    | succ k =>
      rcases h4 with h4 | ⟨b,off,rfl,hc⟩
      · subst h4;simp at hk
      have hcell:=hc k (by omega)
      by_cases h0:zs.getD k 0=0
      · have hle:=tl_le_of_zero hk2 h0
        rw [h0] at hcell
        clear h0 hc
        go_wp2
        go_round
        case rel=>exact ⟨k,by omega,hle,by go_num⟩
        case measure=>simp [intOf]
      · have hgt:=tl_gt h0
        have HZ:Hid (tl zs=k+1):=by show _ = _;omega
        have hb:(zs.getD k 0 == 0)=false:=by simpa using h0
        generalize zs.getD k 0=z at hcell hb
        clear h0 hc
        go_wp2
        go_ret
        exact ⟨by rw [HZ.out];rfl,rfl⟩
end Dm
end Go.Proofs.YtpofkigboedliaaGreat

namespace Go.Proofs.YtpofkigboedliaaGreat
namespace Dm
open Go.RowKit
theorem info64:(Tryz.prog.info? 3).map (fun i=>(i.zero,i.size,i.bytes))=some (some (.int .i64 0),1,8):=by kernel_rfl
theorem ow_of_row {w:World} {B:Nat} {v:Value} {n:Nat} {zs:List Int} (h:w.ownsRow B 3 1 v n (zs.map (Value.int .i64))) (hz:Limb zs):Ow B w v zs:=by
  obtain ⟨h1,h2⟩:=h
  have hn:zs.length=n:=by simpa using h1
  subst hn
  rcases h2 with ⟨rfl,h3⟩ | ⟨g,cap,cur,rfl,hg,hh,hc1,hc2,hs,ht⟩
  · exact ⟨none,0,by rw [h3],by omega,by simp [maxLen],hz,.inl rfl⟩
  · refine ⟨_,cap,rfl,hc1,hc2,hz,.inr ⟨g,0,cur,rfl,hg,hh,by omega,fun i hi=>?_⟩⟩
    have e:(cur.toList.take (zs.length*1))[i]? = (zs.map (Value.int .i64))[i]? := by rw [ht]
    rw [List.getElem?_take,if_pos (by omega)] at e
    rw [Nat.zero_add,←Array.getElem?_toList,e,List.getElem?_map,List.getElem?_eq_getElem hi,List.getD_eq_getElem?_getD,List.getElem?_eq_getElem hi]
    rfl
theorem Ow.is_cut {B:Nat} {w:World} {ao:Option Addr} {n cap:Nat} {zs:List Int} {x:Int} (h:Ow B w (.slice ao n cap) zs) (hv:val zs=x):Is B w (.slice ao (tl zs) cap) x:=by
  have hl:=h.sl.parts.2.2.2
  exact ⟨zs.take (tl zs),h.take (tl_le zs),canon_trim hl,by rw [val_take_tl,hv]⟩
theorem small_val {A ds:List Int} {k:Nat} {a c m more s:Int} (hk:ds.length=k) (ha:A.getD k 0=a) (hs:s=c+a*m) (h:val ds+pw k*c=vf A k*m+more) :
    val (ds ++ [s % 10000])+pw (k+1)*(s / 10000)=vf A (k+1)*m+more:=by
  rw [val_snoc,vf,ha,hk,pw,Int.add_mul]
  have e:s=s % 10000+10000*(s / 10000):=by omega
  have e2:pw k*(s % 10000)+10000*pw k*(s / 10000)=pw k*s:=by
    rw [Int.mul_comm 10000 (pw k),Int.mul_assoc,←Int.mul_add,←e]
  have e3:pw k*a*m=pw k*(a*m):=by rw [Int.mul_assoc]
  rw [Int.add_assoc,e2,hs,Int.mul_add,e3]
  omega
theorem small_bound {a m:Int} (ha:0≤a∧a<10000) (hm:0≤m∧m≤4294967296):0≤a*m∧a*m≤42945378000704:=by
  refine ⟨Int.mul_nonneg ha.1 hm.1,?_⟩
  have h1:a*m≤9999*m:=Int.mul_le_mul_of_nonneg_right (by omega) hm.1
  omega
theorem step_own {w wr w1:World} {v v' : Value} {k:Nat} {ds:List Int} {z:Int} {o:Obj} (h:w1.ownsRow w.heap.size 3 1 v' (k+1) (ds.map (Value.int .i64) ++ [.int .i64 z])) (hg:(wr.alloc o).grownBy w1 v.ownBlock) (hb:Below w.heap.size w wr) (hl:∀ j,v.ownBlock=some j→w.heap.size≤j∧j<wr.heap.size) :
    w1.ownsRow w.heap.size 3 1 v' (k+1) ((ds ++ [z]).map (Value.int .i64))∧Below w.heap.size w w1:=by
  refine ⟨by simpa using h,((hb.alloc hb.size o).grown hg ?_ (fun j hj=>(hl j hj).1))⟩
  have:=hb.size
  simp
  omega
set_option maxRecDepth 20000 in
set_option maxHeartbeats 1000000 in
theorem small_any (w:World) (ao:Option Addr) (n cap:Nat) (A:List Int) (hA:Sl w (.slice ao n cap) A) (m more:Int) (hm:0≤m∧m≤4294967296) (hmo:0≤more∧more≤4294967296) (hl:A.length≤1000000) :
    Calls Tryz.prog 73 #[.slice ao n cap,.int .i64 m,.int .i64 more] w fun e w'=>∃ v,e=.returned v∧Is w.heap.size w' v (val A*m+more)∧Below w.heap.size w w' := by
  obtain ⟨rfl,h1,h2,h3⟩:=hA.parts
  obtain ⟨i0,hi,hz0,hz1,hz2⟩:=info_parts info64
  have H3:=hide h3
  clear h3
  go_enter Tryz.func73,Tryz.ntmps73
  go_wp2
  go_loopw [7,8,9] (fun dv cv iv wr=>∃ (k:Nat) (c:Int) (ds:List Int),cv=.int .i64 c∧iv=.int .i64 k∧(0≤c∧c≤4294967296)∧(k:Int)+c≤(A.length:Int)+4294967296∧ds.length=k∧Limb ds∧val ds+pw k*c=vf A k*m+more∧wr.ownsRow w.heap.size 3 1 dv k (ds.map (Value.int .i64))∧Below w.heap.size w wr) (fun _ cv iv _=>(A.length - (intOf iv).toNat)*8589934592+(intOf cv).toNat)
  case atStart=>exact ⟨0,more,[],rfl,rfl,hmo,by omega,rfl,limb_nil,by simp [val,vf,pw],World.ownsRow_nil _ _ _ _,Below.refl _ _⟩
  case round =>
    obtain ⟨k,c,ds,rfl,rfl,hc,hkc,hdl,hd,hval,hown,hbel⟩:=hrel
    have HD:=hide hd
    have HDL:=hide hdl
    have HV:=hide hval
    clear hd hdl hval
    have hsz:=hbel.size
    by_cases hlt:k<A.length
    · have sA:=hA.below hbel
      obtain ⟨b,off,rfl,hca⟩:=sA.cells (by omega)
      have ca:=hca k hlt
      have ba:=limb_getD H3.out k
      obtain ⟨a,hak⟩:∃ a,A.getD k 0=a:=⟨_,rfl⟩
      rw [hak] at ca ba
      have bm:=small_bound ba hm
      have HV' := hide (small_val (m:=m) HDL.out hak rfl HV.out)
      have d1:decide ((k:Int)<(A.length:Int))=true:=by simp;omega
      have d2:(k:Int)<(A.length:Int):=by omega
      clear hak sA hca
      go_wp2_with (at_builtin;refine wpList_append_own _ rfl (.tmp 33) (.tmp 36) 52 rfl w.heap.size 3 i0 (.int .i64 0) 1 8 Tryz.underlying52 hi hz0 hz1 hz2 rfl (by decide) _ _ _ rfl (hown.alloc _) ⟨wr.heap.size,0,none⟩ 1 1 [.int .i64 ((c+a*m) % 10000)] rfl rfl (cell_one_new _ _ _) ?c2 ?c3 ?c4 ?c5 ?_)
      case c2=>first | rfl | (intro u hu;simp at hu;subst hu;rfl)
      case c3=>unfold maxLen;omega
      case c4=>omega
      case c5=>first | omega | (simp;omega)
      intro v' w1 hown' hgrow _
      have R:=step_own hown' hgrow hbel (hown.lt)
      clear hown' hgrow hown
      go_wp2
      go_roundw
      case rel=>exact ⟨k+1,_,ds ++ [(c+a*m) % 10000],rfl,by go_num,by omega,by omega,by have:=HDL.out;simp;omega,limb_append.2 ⟨HD.out,limb_cons.2 ⟨by omega,limb_nil⟩⟩,HV'.out,R.1,R.2⟩
      case measure=>simp [intOf];omega
    · have hak:A.getD k 0=0:=by rw [List.getD_eq_getElem?_getD,List.getElem?_eq_none (by omega)];rfl
      have d1:decide ((k:Int)<(A.length:Int))=false:=by simp;omega
      have d2:¬ (k:Int)<(A.length:Int):=by omega
      by_cases hc0:0<c
      · have HV' := hide (small_val (m:=m) (s:=c) HDL.out hak (by omega) HV.out)
        clear hak
        go_wp2_with (at_builtin;refine wpList_append_own _ rfl (.tmp 33) (.tmp 36) 52 rfl w.heap.size 3 i0 (.int .i64 0) 1 8 Tryz.underlying52 hi hz0 hz1 hz2 rfl (by decide) _ _ _ rfl (hown.alloc _) ⟨wr.heap.size,0,none⟩ 1 1 [.int .i64 (c % 10000)] rfl rfl (cell_one_new _ _ _) ?c2' ?c3' ?c4' ?c5' ?_)
        case c2'=>first | rfl | (intro u hu;simp at hu;subst hu;rfl)
        case c3'=>unfold maxLen;omega
        case c4'=>omega
        case c5'=>first | omega | (simp;omega)
        intro v' w1 hown' hgrow _
        have R:=step_own hown' hgrow hbel (hown.lt)
        clear hown' hgrow hown
        go_wp2
        go_roundw
        case rel=>exact ⟨k+1,c / 10000,ds ++ [c % 10000],rfl,by go_num,by omega,by omega,by have:=HDL.out;simp;omega,limb_append.2 ⟨HD.out,limb_cons.2 ⟨by omega,limb_nil⟩⟩,HV'.out,R.1,R.2⟩
        case measure=>simp [intOf];omega
      · have hc1:c=0:=by omega
        subst hc1
        have how:=ow_of_row hown HD.out
        have hvv:val ds=val A*m+more:=by
          have:=HV.out
          rw [Int.mul_zero,Int.add_zero,vf_all A _ (by omega)] at this
          exact this
        obtain ⟨ao',cap',rfl,o1,o2,o3,o4⟩:=how
        have how' : Ow w.heap.size wr (.slice ao' ds.length cap') ds:=⟨ao',cap',rfl,o1,o2,o3,o4⟩
        have his:=how'.is_cut hvv
        clear hvv o3 o4 hown hak
        go_wp2_with fail
        refine (cut_any _ _ _ _ _ how'.sl).mono ?_
        rintro e w2 ⟨rfl,rfl⟩
        go_wp2
        go_ret
        exact ⟨_,rfl,his,hbel⟩
end Dm
end Go.Proofs.YtpofkigboedliaaGreat

namespace Go.Proofs.YtpofkigboedliaaGreat
namespace Dm
open Go.RowKit
open Lm (hide lt_of_cell lt_of_heap div_of)
theorem block_of_made {w:World} {B g n:Nat} (h:w.ownsRow B 3 1 (.slice (some ⟨g,0,none⟩) n n) n (madeCells #[Value.int .i64 0] n).toList) :
    B≤g∧∃ cur,w.heap[g]? = some (.cells cur 3 (0,0))∧cur.size=n∧At cur .i64 0 (List.replicate n 0):=by
  rcases h.2 with ⟨h',_⟩ | ⟨g',cap',cur,h',hb,hg,_,_,hs,htake⟩
  · simp at h'
  · simp only [Value.slice.injEq,Option.some.injEq,Addr.mk.injEq,and_true,true_and] at h'
    obtain ⟨rfl,rfl⟩:=h'
    refine ⟨hb,cur,hg,by omega,fun i hi=>?_⟩
    simp at hi
    have e:(cur.toList.take (n*1))[i]? = ((madeCells #[Value.int .i64 0] n).toList)[i]? := by rw [htake]
    rw [List.getElem?_take,if_pos (by omega)] at e
    rw [Nat.zero_add,←Array.getElem?_toList,e,Array.getElem?_toList]
    have h0:i<(Array.range n).size:=by simpa using hi
    simp [madeCells,hi,List.getD_eq_getElem?_getD,Nat.mod_one]
theorem div_step {p r z d:Int} (hd:0<d) (h1:0≤r) (h2:r<d) (h3:0≤z) (h4:z<10000) (hp:p=r*10000+z):0≤p∧0≤p / d∧p / d<10000∧0≤p % d∧p % d<d∧p=p / d*d+p % d:=by
  have h5:0≤p:=by omega
  have h6:p<10000*d:=by omega
  refine ⟨h5,Int.ediv_nonneg h5 (by omega),Int.ediv_lt_of_lt_mul hd h6,Int.emod_nonneg _ (by omega),Int.emod_lt_of_pos _ hd,?_⟩
  have:=Int.mul_ediv_add_emod p d
  rw [Int.mul_comm] at this
  omega
theorem div_val {zs qs:List Int} {k:Nat} {d r z p:Int} (hz:zs.drop k=z :: zs.drop (k+1)) (h:val (zs.drop (k+1))=val qs*d+r) (hp:p=r*10000+z) (hq:p=p / d*d+p % d):val (zs.drop k)=val (p / d :: qs)*d+p % d:=by
  rw [hz,val,val,h]
  generalize p / d=q at hq ⊢
  generalize p % d=t at hq ⊢
  rw [Int.add_mul,Int.mul_assoc,Int.mul_add]
  generalize q*d=a at hq ⊢
  generalize val qs*d=b
  omega
set_option maxRecDepth 20000 in
set_option maxHeartbeats 1000000 in
theorem cutBy_any (w:World) (ao:Option Addr) (n cap:Nat) (A:List Int) (hA:Sl w (.slice ao n cap) A) (d:Int) (hd:0<d) (hd2:d≤4294967296) (hl:A.length≤1000000) :
    Calls Tryz.prog 75 #[.slice ao n cap,.int .i64 d] w fun e w'=>∃ v,e=.returned (.tuple #[v,.int .i64 (val A % d)])∧Is w.heap.size w' v (val A / d)∧Below w.heap.size w w' := by
  obtain ⟨rfl,h1,h2,h3⟩:=hA.parts
  obtain ⟨i0,hi,hz0,hz1,hz2⟩:=info_parts info64
  have H3:=hide h3
  clear h3
  go_enter Tryz.func75,Tryz.ntmps75
  go_wp2_with (refine wpList_make_full _ rfl (.tmp 10) (.tmp 10) 52 rfl w.heap.size 3 i0 (.int .i64 0) 1 Tryz.underlying52 hi hz0 hz1 .i64 .i64 _ _ A.length rfl rfl (by omega) (by omega) (by rw [hz2];omega) (by unfold maxLen;omega) (Nat.le_refl _) ?hK)
  case hK =>
    intro w1 hown hgrow
    obtain ⟨_,cur,hh,hcs,hat⟩:=block_of_made hown
    have hb1:Below w.heap.size w w1:=(Below.refl w.heap.size w).grown hgrow (Nat.le_refl _) (by simp)
    have HH:=hide hh
    have HS:=hide hcs
    have HA:=hide hat
    clear hown hgrow hh hcs hat
    go_wp2
    go_loopw [7,8] (fun rest i wr=>∃ (k:Nat) (r:Int) (qs:List Int) (cur' : Array Value),k≤A.length∧rest=.int .i64 r∧i=.int .i64 ((k:Int) - 1)∧0≤r∧r<d∧val (A.drop k)=val qs*d+r∧Limb qs∧qs.length+k=A.length∧Wr w1 wr w.heap.size cur' 3∧cur'.size=A.length∧At cur' .i64 0 ((List.replicate A.length 0).take k ++ qs)) (fun _ i _=>(intOf i+1).toNat)
    case atStart=>exact ⟨A.length,0,[],cur,Nat.le_refl _,rfl,rfl,by omega,by omega,by simp [val],limb_nil,by simp,Wr.refl HH.out,HS.out,by rw [List.take_of_length_le (by simp),List.append_nil];exact HA.out⟩
    case round =>
      obtain ⟨k,r,qs,cur',hk,rfl,rfl,hr0,hr1,hval,hq,hql,hwr,hcs,hat⟩:=hrel
      have HV:=hide hval
      have HQ:=hide hq
      have HW:=hide hwr
      have HT:=hide hat
      have HC:=hide hcs
      have HL:=hide hql
      clear hval hq hwr hat hcs hql
      cases k with
      | zero =>
        have hat0:=HT.out
        rw [List.take_zero,List.nil_append] at hat0
        have hv0:=HV.out
        rw [List.drop_zero] at hv0
        have hdv:=div_of hd hv0 hr0 hr1
        have how:Ow w.heap.size wr (.slice (some ⟨w.heap.size,0,none⟩) A.length A.length) qs:=by
          have:=HL.out
          exact ⟨_,A.length,by rw [show qs.length=A.length by omega],by omega,by unfold maxLen;omega,HQ.out,.inr ⟨_,0,_,rfl,Nat.le_refl _,HW.out.here,by rw [HC.out];omega,hat0⟩⟩
        have hbel:Below w.heap.size w wr:=hb1.trans (HW.out.below (Nat.le_refl _))
        have his:=how.is_cut hdv.1.symm
        have HR:=hide hdv.2
        clear hat0 hv0 hdv
        go_wp2_with fail
        refine (cut_any _ _ _ _ _ how.sl).mono ?_
        rintro e w2 ⟨rfl,rfl⟩
        go_wp2
        go_ret2
        refine ⟨_,?_,his,hbel⟩
        rw [HR.out]
        rfl
      | succ k =>
        have sA:=HW.out.sl (Nat.le_refl _) hb1 rfl hA
        obtain ⟨b,off,rfl,hca⟩:=sA.cells (by omega)
        have ca:=hca k (by omega)
        have hz:=limb_getD H3.out k
        have Hz:=hide (drop_getD A k (by omega))
        generalize A.getD k 0=z at ca hz Hz
        have hlen:((List.replicate A.length (0:Int)).take (k+1) ++ qs).length=A.length:=by have:=HL.out;rw [List.length_append,List.length_take,List.length_replicate];omega
        have hcell:=HT.out.cell HW.out.here k (by rw [hlen];omega)
        rw [Nat.zero_add] at hcell
        generalize ((List.replicate A.length (0:Int)).take (k+1) ++ qs).getD k 0=old at hcell
        have hfree:=HW.out.free k
        obtain ⟨s1,s2,s3,s4,s5,s6⟩:=div_step hd hr0 hr1 hz.1 hz.2 rfl
        have HV' := hide (div_val Hz.out HV.out rfl s6)
        have HQ' : Hid (Limb ((r*10000+z) / d :: qs)):=limb_cons.2 ⟨⟨s2,s3⟩,HQ.out⟩
        have HT' := hide ((HT.out.set k ((r*10000+z) / d)))
        have HW' := hide (HW.out.set k (.int .i64 ((r*10000+z) / d)))
        have t1:(r*10000+z).tdiv d=(r*10000+z) / d:=Int.tdiv_eq_ediv_of_nonneg s1
        clear s6 hlen sA hca
        go_wp2
        go_roundw
        case rel=>exact ⟨k,(r*10000+z) % d,(r*10000+z) / d :: qs,_,by omega,rfl,rfl,s4,s5,HV'.out,HQ'.out,by have:=HL.out;simp;omega,HW'.out,by simpa using HC.out,by rw [←set_cons _ qs k _ (by rw [List.length_replicate];omega)];simpa using HT'.out⟩
        case measure=>simp [intOf]
set_option maxRecDepth 20000 in
set_option maxHeartbeats 400000 in
theorem made_any (w:World) (ng:Bool) (ao:Option Addr) (n cap:Nat) (A:List Int) (hA:Sl w (.slice ao n cap) A) :
    Calls Tryz.prog 59 #[.bool ng,.slice ao n cap] w fun e w'=>e=.returned (.agg #[.bool (ng && decide (0<tl A)),.slice ao (tl A) cap])∧Below w.heap.size w w' := by
  have hb0:Below w.heap.size w (w.alloc (.cells #[.bool false,.slice none 0 0] 54)):=(Below.refl _ _).alloc (Nat.le_refl _) _
  have kc:=hide (cut_any _ _ _ _ _ (hA.below hb0))
  go_enter Tryz.func59,Tryz.ntmps59
  go_wp2_with fail
  refine (kc.out).mono ?_
  rintro e w' ⟨rfl,rfl⟩
  cases ng with
  | false =>
    go_wp2
    refine bodyPost_ret (v:=.agg #[.bool false,.slice ao (tl A) cap]) (by simp [results,Tryz.results59,go_sem]) rfl ⟨by simp,?_⟩
    exact (Below.refl _ _).alloc (Nat.le_refl _) _
  | true =>
    by_cases h0:0<tl A
    · have h1:(0:Int)<((tl A:Nat):Int):=by omega
      have h2:Hid (decide (0<tl A)=true):=by simpa [Hid] using h0
      go_wp2
      refine bodyPost_ret (v:=.agg #[.bool true,.slice ao (tl A) cap]) (by simp [results,Tryz.results59,go_sem]) rfl ⟨by rw [h2.out];rfl,?_⟩
      exact (Below.refl _ _).alloc (Nat.le_refl _) _
    · have h1:¬ (0:Int)<((tl A:Nat):Int):=by omega
      have h2:Hid (decide (0<tl A)=false):=by simpa [Hid] using h0
      go_wp2
      refine bodyPost_ret (v:=.agg #[.bool false,.slice ao (tl A) cap]) (by simp [results,Tryz.results59,go_sem]) rfl ⟨by rw [h2.out];rfl,?_⟩
      exact (Below.refl _ _).alloc (Nat.le_refl _) _
def Got (w:World) (ao:Option Addr) (cap:Nat) (rs:List Int) (x:Int):Prop:=Sl w (.slice ao rs.length cap) rs∧Canon rs∧val rs=x
theorem Got.sl {w:World} {ao:Option Addr} {cap:Nat} {rs:List Int} {x:Int} (h:Got w ao cap rs x):Sl w (.slice ao rs.length cap) rs:=h.1
theorem Got.canon {w:World} {ao:Option Addr} {cap:Nat} {rs:List Int} {x:Int} (h:Got w ao cap rs x):Canon rs:=h.2.1
theorem Got.val {w:World} {ao:Option Addr} {cap:Nat} {rs:List Int} {x:Int} (h:Got w ao cap rs x):Dm.val rs=x:=h.2.2
theorem Got.below {w w' : World} {ao:Option Addr} {cap:Nat} {rs:List Int} {x:Int} (h:Got w ao cap rs x) (hb:Below w.heap.size w w'):Got w' ao cap rs x:=⟨h.1.below hb,h.2⟩
theorem Is.got {B:Nat} {w:World} {v:Value} {x:Int} (h:Is B w v x):∃ ao cap rs,v=.slice ao rs.length cap∧Got w ao cap rs x:=by
  obtain ⟨rs,ho,hc,hv⟩:=h
  obtain ⟨ao,cap,rfl,h1,h2,h3,h4⟩:=ho.sl
  exact ⟨ao,cap,rs,rfl,⟨ao,cap,rfl,h1,h2,h3,h4⟩,hc,hv⟩
theorem canon_len {rs:List Int} (h:Canon rs) {m:Nat} (hv:val rs<pw m):rs.length≤m:=by
  apply Classical.byContradiction
  intro hn
  have h1:=canon_low h (by intro e;subst e;simp at hn)
  have h2:=pw_mono (m:=m) (n:=rs.length - 1) (by omega)
  omega
theorem pw_three (n:Nat):Lm.pw n≤pw (3*n):=by
  induction n with
  | zero=>simp [Lm.pw,pw]
  | succ n ih =>
    rw [show 3*(n+1)=3*n+3 by omega]
    simp only [Lm.pw,pw]
    have:=Lm.pw_pos n
    omega
theorem len_three {rs:List Int} (h:Canon rs) {xs:List Int} (hx:Lm.Limb xs) (hv:val rs≤Lm.val xs):rs.length≤3*xs.length:=by
  apply canon_len h
  have:=(Lm.val_bounds hx).2
  have:=pw_three xs.length
  omega
theorem made_g (w:World) (ao:Option Addr) (cap:Nat) (A:List Int) (x:Int) (hA:Got w ao cap A x) :
    Calls Tryz.prog 59 #[.bool false,.slice ao A.length cap] w fun e w'=>e=.returned (.agg #[.bool false,.slice ao A.length cap])∧Below w.heap.size w w' := by
  refine (made_any w false ao A.length cap A hA.sl).mono ?_
  rintro e w' ⟨rfl,hb⟩
  rw [hA.canon.2]
  exact ⟨by simp,hb⟩
theorem Sl.setCell {w:World} {v:Value} {zs:List Int} (h:Sl w v zs) {p:Addr} {u0:Value} (hp:w.cell? p=some u0) (hne:∀ z,u0≠.int .i64 z) (u:Value):Sl (w.setCell p u) v zs:=by
  obtain ⟨ao,cap,rfl,h1,h2,h3,h4⟩:=h
  refine ⟨ao,cap,rfl,h1,h2,h3,?_⟩
  rcases h4 with h4 | ⟨b,off,rfl,hc⟩
  · exact .inl h4
  · refine .inr ⟨b,off,rfl,fun i hi=>?_⟩
    have hd:p≠⟨b,off+i,none⟩:=by
      intro e
      have h5:=hc i hi
      rw [←e,hp] at h5
      exact hne _ (Option.some.inj h5)
    rw [World.cell?_setCell_other _ _ _ _ hd]
    exact hc i hi
set_option maxRecDepth 20000 in
set_option maxHeartbeats 1000000 in
theorem fromLimbs_any (w:World) (ao:Option Addr) (n cap:Nat) (xs:List Int) (hx:Lm.Sl w (.slice ao n cap) xs) (hl:xs.length≤300000) :
    Calls Tryz.prog 51 #[.slice ao n cap] w fun e w'=>∃ ao' cap' D,e=.returned (.agg #[.bool false,.slice ao' D.length cap'])∧Got w' ao' cap' D (Lm.val xs)∧D.length≤3*xs.length∧Below w.heap.size w w' := by
  obtain ⟨rfl,h1,h2,h3⟩:=hx.parts
  have H3:=hide h3
  have c0:(w.alloc (.cells #[.bool false,.slice none 0 0] 54)).cell? ⟨w.heap.size,0,none⟩ = some (.bool false):=by
    rw [cell_of_row _ _ _ _ _ (0,0) (heap_alloc_new w _)];rfl
  have c1:(w.alloc (.cells #[.bool false,.slice none 0 0] 54)).cell? ⟨w.heap.size,1,none⟩ = some (.slice none 0 0):=by
    rw [cell_of_row _ _ _ _ _ (0,0) (heap_alloc_new w _)];rfl
  have f0:(w.alloc (.cells #[.bool false,.slice none 0 0] 54)).frozen? ⟨w.heap.size,0,none⟩ = false:=frozen_of_row _ _ _ _ _ (heap_alloc_new w _)
  have f1:(w.alloc (.cells #[.bool false,.slice none 0 0] 54)).frozen? ⟨w.heap.size,1,none⟩ = false:=frozen_of_row _ _ _ _ _ (heap_alloc_new w _)
  have hb0:Below w.heap.size w (w.alloc (.cells #[.bool false,.slice none 0 0] 54)):=(Below.refl _ _).alloc (Nat.le_refl _) _
  have hs0:w.heap.size<(w.alloc (.cells #[.bool false,.slice none 0 0] 54)).heap.size:=by simp
  have C:=hide (And.intro c0 (And.intro c1 (And.intro f0 (And.intro f1 (And.intro hb0 hs0)))))
  clear h3 c0 c1 f0 f1 hb0 hs0
  go_enter Tryz.func51,Tryz.ntmps51
  go_wp2
  generalize w.alloc (.cells #[.bool false,.slice none 0 0] 54)=w0 at C ⊢
  go_loopw [3,4] (fun dv iv wr=>∃ (k:Nat) (ao' : Option Addr) (cap' : Nat) (D:List Int),k≤xs.length∧iv=.int .i64 ((k:Int) - 1)∧dv=.slice ao' D.length cap'∧Got wr ao' cap' D (Lm.val (xs.drop k))∧Below w0.heap.size w0 wr) (fun _ i _=>(intOf i+1).toNat)
  case atStart=>exact ⟨xs.length,none,0,[],Nat.le_refl _,rfl,rfl,⟨⟨none,0,rfl,Nat.le_refl _,by simp [maxLen],limb_nil,.inl rfl⟩,canon_nil,by simp [val,Lm.val]⟩,Below.refl _ _⟩
  case round =>
    obtain ⟨k,ao',cap',D,hk,rfl,rfl,hg,hbel⟩:=hrel
    have hdl:=len_three hg.canon (Lm.limb_drop H3.out k) (by rw [hg.val];omega)
    rw [List.length_drop] at hdl
    cases k with
    | zero =>
      rw [List.drop_zero] at hg
      go_wp2_with fail
      refine (made_g _ _ _ _ _ hg).mono ?_
      rintro e w1 ⟨rfl,hb1⟩
      replace hg:=hg.below hb1
      have hB:=hbel.trans (hb1.mono hbel.size)
      have d0:=(hB.cell (p:=⟨w.heap.size,0,none⟩) C.out.2.2.2.2.2).trans C.out.1
      have d1:=(hB.cell (p:=⟨w.heap.size,1,none⟩) C.out.2.2.2.2.2).trans C.out.2.1
      have g0:=(hB.frozen (p:=⟨w.heap.size,0,none⟩) C.out.2.2.2.2.2).trans C.out.2.2.1
      have g1:=(hB.frozen (p:=⟨w.heap.size,1,none⟩) C.out.2.2.2.2.2).trans C.out.2.2.2.1
      have hBw:Below w.heap.size w w1:=C.out.2.2.2.2.1.trans (hB.mono C.out.2.2.2.2.1.size)
      have e0:Below w.heap.size w ((w1.setCell ⟨w.heap.size,0,none⟩ (.bool false)).setCell ⟨w.heap.size,1,none⟩ (.slice ao' D.length cap')):=(hBw.setCell (Nat.le_refl _) _).setCell (Nat.le_refl _) _
      have e1:(w1.setCell ⟨w.heap.size,0,none⟩ (.bool false)).cell? ⟨w.heap.size,1,none⟩ = some (.slice none 0 0):=by
        rw [World.cell?_setCell_other _ _ _ _ (by simp)];exact d1
      have e2:=hide ((hg.sl.setCell d0 (fun z=>by simp) (.bool false)).setCell e1 (fun z=>by simp) (.slice ao' D.length cap'))
      have e3:=hide hg.2
      have y0:=World.cell?_setCell_same _ _ (.bool false) d0
      have x1:=World.cell?_setCell_same _ _ (.slice ao' D.length cap') e1
      have X:=hide (And.intro y0 x1)
      clear e1 y0 x1
      go_wp2
      refine bodyPost_ret (v:=.agg #[.bool false,.slice ao' D.length cap']) ?_ rfl ⟨ao',cap',D,rfl,⟨e2.out,e3.out⟩,by omega,e0⟩
      simp [results,Tryz.results51,go_sem,X.out.1,X.out.2]
    | succ k =>
      have sx:=(hx.below C.out.2.2.2.2.1).below hbel
      obtain ⟨b,off,rfl,hcx⟩:=sx.cells (by omega)
      have cx:=hcx k (by omega)
      have bx:=Lm.limb_getD H3.out k
      have Hd:=hide (Lm.drop_getD xs k (by omega))
      generalize xs.getD k 0=z at cx bx Hd
      clear sx hcx
      go_wp2_with fail
      refine (small_any _ _ _ _ D hg.sl 4294967296 z (by omega) (by omega) (by omega)).mono ?_
      rintro e w1 ⟨v,rfl,hi,hb1⟩
      obtain ⟨ao2,cap2,D2,rfl,hg2⟩:=hi.got
      have HG:Hid (Got w1 ao2 cap2 D2 (Lm.val (xs.drop k))):=by
        show Got _ _ _ _ _
        rw [Hd.out,Lm.val,Int.add_comm,Int.mul_comm,←hg.val]
        exact hg2
      have HBl:=hide (hbel.trans (hb1.mono hbel.size))
      clear hg hg2 hi hb1
      go_wp2
      go_roundw
      case rel=>exact ⟨k,ao2,cap2,D2,by omega,rfl,rfl,HG.out,HBl.out⟩
      case measure=>simp [intOf]
end Dm
end Go.Proofs.YtpofkigboedliaaGreat

namespace Go.Proofs.YtpofkigboedliaaGreat
namespace Dm
open Go.RowKit
open Lm (hide lt_of_cell lt_of_heap div_of info32)
def lenOf:Value→Nat | .slice _ n _=>n | _=>0
theorem cut_shorter {D E:List Int} (hD:Canon D) (hE:Canon E) (h:val E=val D / 4294967296) (h0:0<D.length):E.length<D.length:=by
  have hb:=val_bounds hD.1
  have:E.length≤D.length - 1:=by
    apply canon_len hE
    obtain ⟨k,hk⟩:∃ k,D.length=k+1:=⟨D.length - 1,by omega⟩
    rw [hk] at hb ⊢
    simp only [pw,Nat.add_sub_cancel] at hb ⊢
    rw [h]
    have:=pw_pos k
    omega
  omega
theorem Ow.open {B:Nat} {w:World} {v:Value} {rs:List Int} (h:Ow B w v rs):∃ ao cap,v=.slice ao rs.length cap∧Sl w (.slice ao rs.length cap) rs∧rs.length≤cap∧cap≤9223372036854775807:=by
  obtain ⟨ao,cap,rfl,h1,h2,h3,h4⟩:=h.sl
  exact ⟨ao,cap,rfl,⟨ao,cap,rfl,h1,h2,h3,h4⟩,h1,h2⟩
theorem owns_below {B e n:Nat} {w w' : World} {v:Value} {xs:List Value} (h:w.ownsRow B e 1 v n xs) (hb:Below w.heap.size w w'):w'.ownsRow B e 1 v n xs:=by
  obtain ⟨h1,h2⟩:=h
  refine ⟨h1,?_⟩
  rcases h2 with h2 | ⟨g,cap,cur,hv,hg,hh,r⟩
  · exact .inl h2
  · exact .inr ⟨g,cap,cur,hv,hg,by rw [hb.block g (lt_of_heap hh)];exact hh,r⟩
theorem Ow.grown {B:Nat} {w w' : World} {v:Value} {zs:List Int} {row:Option Nat} (h:Ow B w v zs) (hg:w.grownBy w' row) (hr:∀ j,row=some j→j<B):Ow B w' v zs:=by
  obtain ⟨ao,cap,rfl,h1,h2,h3,h4⟩:=h
  refine ⟨ao,cap,rfl,h1,h2,h3,?_⟩
  rcases h4 with h4 | ⟨g,off,cur,rfl,hB,hh,hs,ha⟩
  · exact .inl h4
  · refine .inr ⟨g,off,cur,rfl,hB,?_,hs,ha⟩
    rw [hg.block g (lt_of_heap hh) (fun e=>by have:=hr g e.symm;omega)]
    exact hh
theorem limbs_val {ls:List Int} {x y:Int} (h:Lm.val ls+Lm.pw ls.length*y=x):Lm.val (ls ++ [y % 4294967296])+Lm.pw (ls ++ [y % 4294967296]).length*(y / 4294967296)=x:=by
  rw [Lm.val_snoc,List.length_append,List.length_singleton,Lm.pw,←h]
  have e:y=y % 4294967296+4294967296*(y / 4294967296):=by omega
  have e2:Lm.pw ls.length*(y % 4294967296)+4294967296*Lm.pw ls.length*(y / 4294967296)=Lm.pw ls.length*y:=by
    rw [Int.mul_comm 4294967296,Int.mul_assoc,←Int.mul_add,←e]
  omega
theorem limbs_top {ls:List Int} {y:Int} (h0:0<y) (h1:y / 4294967296=0):Lm.tl (ls ++ [y % 4294967296])=(ls ++ [y % 4294967296]).length:=by
  have h2:y % 4294967296≠0:=by omega
  have:=Lm.tl_gt (zs:=ls ++ [y % 4294967296]) (n:=ls.length) (by simpa using h2)
  have:=Lm.tl_le (ls ++ [y % 4294967296])
  simp at this ⊢
  simp at *
  omega
theorem limbs_room {ls:List Int} {x y:Int} {M:Nat} (hl:Lm.Limb ls) (h:Lm.val ls+Lm.pw ls.length*y=x) (hy:0<y) (hx:x<Lm.pw M):ls.length<M:=by
  apply Classical.byContradiction
  intro hn
  have h1:=Lm.pw_mono (m:=M) (n:=ls.length) (by omega)
  have h2:=(Lm.val_bounds hl).1
  have h3:=Lm.pw_pos ls.length
  have h4:Lm.pw ls.length*1≤Lm.pw ls.length*y:=Int.mul_le_mul_of_nonneg_left (by omega) (by omega)
  omega
theorem step_own32 {B:Nat} {w wr w1:World} {v v' : Value} {k:Nat} {ds:List Int} {z:Int} {o:Obj} (h:w1.ownsRow B 69 1 v' (k+1) (ds.map (Value.int .u32) ++ [.int .u32 z])) (hg:(wr.alloc o).grownBy w1 v.ownBlock) (hb:Below B w wr) (hB:B≤wr.heap.size) (hl:∀ j,v.ownBlock=some j→B≤j∧j<wr.heap.size) :
    w1.ownsRow B 69 1 v' (k+1) ((ds ++ [z]).map (Value.int .u32))∧Below B w w1:=by
  refine ⟨by simpa using h,((hb.alloc hB o).grown hg ?_ (fun j hj=>(hl j hj).1))⟩
  simp
  omega
set_option maxRecDepth 20000 in
set_option maxHeartbeats 1000000 in
theorem limbs_loop (w:World) (ng:Bool) (ao:Option Addr) (cap:Nat) (D:List Int) (x:Int) (hD:Got w ao cap D x) (M:Nat) (hx:x<Lm.pw M) (hM:M≤1000000) (hl:D.length≤1000000) (h0:0<D.length) :
    Calls Tryz.prog 55 #[.agg #[.bool ng,.slice ao D.length cap]] w fun e w'=>∃ v,e=.returned v∧Lm.Is w.heap.size w' v x∧Below w.heap.size w w' := by
  obtain ⟨_,h1,h2,h3⟩:=hD.sl.parts
  obtain ⟨i0,hi,hz0,hz1,hz2⟩:=info_parts info64
  obtain ⟨j0,hj,jz0,jz1,jz2⟩:=info_parts info32
  obtain ⟨b,off,rfl,hc⟩:=hD.sl.cells h0
  have hcells:∀ j u,(D.map (Value.int .i64))[j]? = some u→(w.alloc (Obj.cells #[.bool ng,.slice (some ⟨b,off,none⟩) D.length cap] 54)).cell? ((⟨b,off,none⟩:Addr).add j)=some u:=by
    intro j u hu
    rw [List.getElem?_map] at hu
    have hj:j<D.length:=by
      apply Classical.byContradiction
      intro hn
      rw [List.getElem?_eq_none (by omega)] at hu
      cases hu
    rw [List.getElem?_eq_getElem hj] at hu
    have hcj:=hc j hj
    rw [List.getD_eq_getElem?_getD,List.getElem?_eq_getElem hj] at hcj
    rw [show ((⟨b,off,none⟩:Addr).add j)=⟨b,off+j,none⟩ from by simp [Addr.add],World.cell?_alloc_past _ _ _ (lt_of_cell hcj),hcj]
    exact hu
  have hone:∀ u ∈ D.map (Value.int .i64),u.oneCell' = true:=by
    intro u hu
    obtain ⟨z,_,rfl⟩:=List.mem_map.1 hu
    rfl
  have H3:=hide h3
  have HC:=hide hD.2
  have HX:=hide hx
  clear hc h3 hD hx
  go_enter Tryz.func55,Tryz.ntmps55
  go_wp2_with (at_builtin;refine wpList_append_own _ rfl (.const (.slice none 0 0)) (.tmp 7) 52 rfl (w.heap.size+1) 3 i0 (.int .i64 0) 1 8 Tryz.underlying52 hi hz0 hz1 hz2 rfl (by decide) _ _ _ rfl (World.ownsRow_nil _ _ _ _) ⟨b,off,none⟩ D.length cap (D.map (Value.int .i64)) rfl (by simp) hcells hone (by unfold maxLen;omega) (by omega) (by simp) ?_)
  intro v' w1 hown hgrow _
  have hb1:Below w.heap.size w w1:=((Below.refl w.heap.size w).alloc (Nat.le_refl _) _).grown hgrow (by simp) (by intro k hk;simp [Value.ownBlock] at hk)
  obtain ⟨ao1,cap1,rfl,s1,_,_⟩:=(ow_of_row hown H3.out).open
  have hg1:Got w1 ao1 cap1 D x:=⟨s1,HC.out⟩
  clear hown hgrow s1 hcells hone
  go_wp2
  go_loopw [3,4] (fun lv dv wr=>∃ (ls D2:List Int) (ao2:Option Addr) (cap2:Nat) (y:Int),dv=.slice ao2 D2.length cap2∧Got wr ao2 cap2 D2 y∧D2.length≤D.length∧wr.ownsRow w.heap.size 69 1 lv ls.length (ls.map (Value.int .u32))∧Lm.Limb ls∧Lm.val ls+Lm.pw ls.length*y=x∧(D2 = []→Lm.tl ls=ls.length)∧Below w.heap.size w wr) (fun _ dv _=>lenOf dv)
  case atStart=>exact ⟨[],D,ao1,cap1,x,rfl,hg1,Nat.le_refl _,World.ownsRow_nil _ _ _ _,Lm.limb_nil,by simp [Lm.val,Lm.pw],fun e=>by rw [e] at h0;simp at h0,hb1⟩
  case round =>
    obtain ⟨ls,D2,ao2,cap2,y,rfl,hg,hdl,hown,hls,hv,htop,hbel⟩:=hrel
    have HLS:=hide hls
    have HV:=hide hv
    have HT:=hide htop
    clear hls hv htop
    by_cases hz:0<D2.length
    · have hy:0<y:=by
        have h5:=val_pos_tl hg.canon.1 (by rw [hg.canon.2];exact hz)
        rw [hg.val] at h5
        exact h5
      have hroom:=limbs_room HLS.out HV.out hy HX.out
      go_wp2_with fail
      refine (cutBy_any _ _ _ _ D2 hg.sl 4294967296 (by omega) (by omega) (by omega)).mono ?_
      rintro e w2 ⟨v2,rfl,i2,hb2⟩
      obtain ⟨D3,ho3,hc3,hv3⟩:=i2
      have hsh:=cut_shorter hg.canon hc3 hv3 hz
      rw [hg.val] at hv3 ⊢
      obtain ⟨ao3,cap3,rfl,_,_,_⟩:=ho3.open
      have HO3:=hide ho3
      have HC3:=hide (And.intro hc3 hv3)
      have hls3:Hid (∀ j,u3.ownBlock=some j→w.heap.size≤j∧j<wr.heap.size):=hown.lt
      have hbel2:=hbel.trans (hb2.mono hbel.size)
      have hown2:=owns_below hown hb2
      have HV' := hide (limbs_val HV.out)
      have HT' : Hid (D3 = []→Lm.tl (ls ++ [y % 4294967296])=(ls ++ [y % 4294967296]).length):=by
        intro e3
        refine limbs_top hy ?_
        rw [e3] at hv3
        exact hv3.symm
      clear ho3 hc3 hv3 hown hbel hb2 hg
      go_wp2_with (at_builtin;refine wpList_append_own _ rfl (.tmp 17) (.tmp 20) 22 rfl w.heap.size 69 j0 (.int .u32 0) 1 4 Tryz.underlying22 hj jz0 jz1 jz2 rfl (by decide) _ _ _ rfl (hown2.alloc _) ⟨w2.heap.size,0,none⟩ 1 1 [.int .u32 (y % 4294967296)] rfl rfl (cell_one_new _ _ _) ?c2 ?c3 ?c4 ?c5 ?_)
      case c2=>first | rfl | (intro u hu;simp at hu;subst hu;rfl)
      case c3=>unfold maxLen;omega
      case c4=>omega
      case c5=>have:=hbel2.size;first | omega | (simp;omega)
      intro v4 w4 hown4 hgrow4 _
      have R:=step_own32 hown4 hgrow4 hbel2 hbel2.size (hown2.lt)
      have HG4:Hid (Got w4 ao3 cap3 D3 (y / 4294967296)):=⟨((HO3.out.below ((Below.refl w2.heap.size w2).alloc (Nat.le_refl _) _)).grown hgrow4 (fun j hj=>(hls3.out j hj).2)).sl,HC3.out⟩
      clear hown4 hgrow4 hown2
      go_wp2
      go_roundw
      case rel=>exact ⟨ls ++ [y % 4294967296],D3,ao3,cap3,y / 4294967296,rfl,HG4.out,by omega,by simpa using R.1,Lm.limb_append.2 ⟨HLS.out,Lm.limb_cons.2 ⟨by omega,Lm.limb_nil⟩⟩,HV'.out,HT'.out,R.2⟩
      case measure=>simp [lenOf];omega
    · have hz0:D2 = []:=List.eq_nil_of_length_eq_zero (by omega)
      have hy0:y=0:=by rw [←hg.val,hz0];rfl
      have hvx:Lm.val ls=x:=by have:=HV.out;rw [hy0,Int.mul_zero,Int.add_zero] at this;exact this
      have his:Lm.Is w.heap.size wr u3 x:=⟨ls,Lm.ow_of_row hown HLS.out,⟨HLS.out,HT.out hz0⟩,hvx⟩
      clear hz0 hy0 hvx hown hg
      go_wp2
      go_ret
      exact ⟨_,rfl,his,hbel⟩
end Dm
end Go.Proofs.YtpofkigboedliaaGreat

namespace Go.Proofs.YtpofkigboedliaaGreat
namespace Dm
open Go.RowKit
open Lm (hide lt_of_cell lt_of_heap div_of info32)
set_option maxRecDepth 20000 in
set_option maxHeartbeats 400000 in
theorem limbs_none (w:World) (ng:Bool) (ao:Option Addr) (cap:Nat) (_hcap:cap≤9223372036854775807) :
    Calls Tryz.prog 55 #[.agg #[.bool ng,.slice ao 0 cap]] w fun e w'=>∃ v,e=.returned v∧Lm.Is w.heap.size w' v 0∧Below w.heap.size w w' := by
  cases ao with
  | none =>
    go_enter Tryz.func55,Tryz.ntmps55
    go_wp2
    refine wp_loop_rounds 1 ?_
    rw [rounds_succ]
    go_wp2
    go_ret
    exact ⟨_,rfl,⟨[],⟨none,0,rfl,Nat.le_refl _,by simp [maxLen],Lm.limb_nil,.inl rfl⟩,Lm.canon_nil,rfl⟩,(Below.refl _ _).alloc (Nat.le_refl _) _⟩
  | some ad =>
    go_enter Tryz.func55,Tryz.ntmps55
    go_wp2
    refine wp_loop_rounds 1 ?_
    rw [rounds_succ]
    go_wp2
    go_ret
    exact ⟨_,rfl,⟨[],⟨none,0,rfl,Nat.le_refl _,by simp [maxLen],Lm.limb_nil,.inl rfl⟩,Lm.canon_nil,rfl⟩,(Below.refl _ _).alloc (Nat.le_refl _) _⟩
theorem limbs_any (w:World) (ng:Bool) (ao:Option Addr) (cap:Nat) (D:List Int) (x:Int) (hD:Got w ao cap D x) (M:Nat) (hx:x<Lm.pw M) (hM:M≤1000000) (hl:D.length≤1000000) :
    Calls Tryz.prog 55 #[.agg #[.bool ng,.slice ao D.length cap]] w fun e w'=>∃ v,e=.returned v∧Lm.Is w.heap.size w' v x∧Below w.heap.size w w' := by
  by_cases h0:0<D.length
  · exact limbs_loop w ng ao cap D x hD M hx hM hl h0
  · have e:D = []:=List.eq_nil_of_length_eq_zero (by omega)
    have hx0:x=0:=by rw [←hD.val,e];rfl
    have hc:=hD.sl.parts.2.2.1
    rw [hx0,e]
    exact limbs_none w ng ao cap hc
end Dm
end Go.Proofs.YtpofkigboedliaaGreat

namespace Go.Proofs.YtpofkigboedliaaGreat
namespace Dm
open Go.RowKit
open Lm (hide lt_of_cell lt_of_heap div_of info32 cmpI cmpI_lt cmpI_gt cmpI_eq ret_i64)
theorem getD_take (zs:List Int) (i k:Nat) (h:i<k):(zs.take k).getD i 0=zs.getD i 0:=by
  rw [List.getD_eq_getElem?_getD,List.getD_eq_getElem?_getD,List.getElem?_take,if_pos h]
theorem cmp_len {xs ys:List Int} (hx:Canon xs) (hy:Canon ys) (h:xs.length≠ys.length):cmpI (val xs) (val ys)=if xs.length<ys.length then -1 else 1:=by
  by_cases h' : xs.length<ys.length
  · rw [if_pos h',cmpI_lt (canon_lt hx hy h')]
  · rw [if_neg h',cmpI_gt (canon_lt hy hx (by omega))]
theorem cmp_low {xs ys:List Int} {k:Nat} (hx:Limb xs) (hy:Limb ys) (hl:xs.length=ys.length) (hk:k<xs.length) (hd:xs.drop (k+1)=ys.drop (k+1)) (h:xs.getD k 0<ys.getD k 0):cmpI (val xs) (val ys) = -1:=cmpI_lt (val_lt_at hx hy hl hk hd h)
theorem cmp_high {xs ys:List Int} {k:Nat} (hx:Limb xs) (hy:Limb ys) (hl:xs.length=ys.length) (hk:k<xs.length) (hd:xs.drop (k+1)=ys.drop (k+1)) (h:ys.getD k 0<xs.getD k 0):cmpI (val xs) (val ys)=1:=cmpI_gt (val_lt_at hy hx hl.symm (by omega) hd.symm h)
theorem drop_down {xs ys:List Int} {k:Nat} (hl:xs.length=ys.length) (hk:k<xs.length) (hd:xs.drop (k+1)=ys.drop (k+1)) (h:xs.getD k 0=ys.getD k 0):xs.drop k=ys.drop k:=by
  rw [drop_getD xs k hk,drop_getD ys k (by omega),hd,h]
set_option maxRecDepth 20000 in
set_option maxHeartbeats 1000000 in
theorem size_any (w:World) (g1 g2:Bool) (a1 a2:Option Addr) (c1 c2:Nat) (xs ys:List Int) (x y:Int) (hx:Got w a1 c1 xs x) (hy:Got w a2 c2 ys y) :
    Calls Tryz.prog 90 #[.agg #[.bool g1,.slice a1 xs.length c1],.agg #[.bool g2,.slice a2 ys.length c2]] w fun e w'=>e=.returned (.int .i64 (cmpI x y))∧Below w.heap.size w w' := by
  have e1:(w.alloc (.cells #[.bool g1,.slice a1 xs.length c1] 54)).heap.size=w.heap.size+1:=by simp
  have hb1:Below w.heap.size w (w.alloc (.cells #[.bool g1,.slice a1 xs.length c1] 54)):=(Below.refl _ _).alloc (Nat.le_refl _) _
  have hb2:=((Below.refl (w.heap.size+1) (w.alloc (.cells #[.bool g1,.slice a1 xs.length c1] 54))).alloc (by simp) (.cells #[.bool g2,.slice a2 ys.length c2] 54))
  have k1:((w.alloc (.cells #[.bool g1,.slice a1 xs.length c1] 54)).alloc (.cells #[.bool g2,.slice a2 ys.length c2] 54)).cell? ⟨w.heap.size,1,none⟩ = some (.slice a1 xs.length c1):=by
    rw [hb2.cell (p:=⟨w.heap.size,1,none⟩) (by simp),cell_of_row _ _ _ _ _ (0,0) (heap_alloc_new w _)];rfl
  have k2:((w.alloc (.cells #[.bool g1,.slice a1 xs.length c1] 54)).alloc (.cells #[.bool g2,.slice a2 ys.length c2] 54)).cell? ⟨w.heap.size+1,1,none⟩ = some (.slice a2 ys.length c2):=by
    rw [←e1,cell_of_row _ _ _ _ _ (0,0) (heap_alloc_new _ _)];rfl
  have hbw:=hb1.trans (hb2.mono (by omega))
  have K:=hide (And.intro k1 (And.intro k2 (And.intro hbw (show w.heap.size+1<((w.alloc (.cells #[.bool g1,.slice a1 xs.length c1] 54)).alloc (.cells #[.bool g2,.slice a2 ys.length c2] 54)).heap.size by simp))))
  obtain ⟨_,p1,p2,p3⟩:=hx.sl.parts
  obtain ⟨_,s1,s2,s3⟩:=hy.sl.parts
  have VX:=hide hx.val
  have VY:=hide hy.val
  have CX:=hide hx.canon
  have CY:=hide hy.canon
  have hsx:=hide hx.sl
  have hsy:=hide hy.sl
  clear e1 hb1 hb2 k1 k2 hbw hx hy p3 s3
  by_cases hl:xs.length=ys.length
  · have hne:(((xs.length:Nat):Int) != ((ys.length:Nat):Int))=false:=by simp [hl]
    have HL:=hide hl
    have l1:xs.length≤ys.length:=by omega
    have l2:ys.length≤xs.length:=by omega
    clear hl
    go_enter Tryz.func90,Tryz.ntmps90
    go_wp2
    generalize (w.alloc (.cells #[.bool g1,.slice a1 xs.length c1] 54)).alloc (.cells #[.bool g2,.slice a2 ys.length c2] 54)=w0 at K ⊢
    go_loopw [5] (fun i wr=>∃ k:Nat,k≤xs.length∧xs.drop k=ys.drop k∧i=.int .i64 ((k:Int) - 1)∧Below w0.heap.size w0 wr) (fun i _=>(intOf i+1).toNat)
    case atStart=>exact ⟨xs.length,Nat.le_refl _,by rw [List.drop_of_length_le (by omega),List.drop_of_length_le (by omega)],rfl,Below.refl _ _⟩
    case round =>
      obtain ⟨k,hk,hd,rfl,hbel⟩:=hrel
      have HD:=hide hd
      clear hd
      have hbw:Below w.heap.size w wr:=K.out.2.2.1.trans (hbel.mono K.out.2.2.1.size)
      cases k with
      | zero =>
        have HE:Hid (cmpI x y=0):=by
          show _ = _
          have:=HD.out
          rw [List.drop_zero,List.drop_zero] at this
          rw [←VX.out,←VY.out,this]
          exact cmpI_eq rfl
        go_wp2
        go_ret
        exact ⟨by rw [HE.out];rfl,hbw⟩
      | succ k =>
        have sx:=(hsx.out.below K.out.2.2.1).below hbel
        have sy:=(hsy.out.below K.out.2.2.1).below hbel
        obtain ⟨b,off,rfl,hc⟩:=sx.cells (by omega)
        obtain ⟨b',off',rfl,hc'⟩:=sy.cells (by omega)
        have f1:=hc k (by omega)
        have f2:=hc' k (by omega)
        have m1:=(hbel.cell (p:=⟨w.heap.size,1,none⟩) (by have:=K.out.2.2.2;simp;omega)).trans K.out.1
        have m2:=(hbel.cell (p:=⟨w.heap.size+1,1,none⟩) K.out.2.2.2).trans K.out.2.1
        have d1:(k:Int)<((xs.length:Nat):Int):=by omega
        have d2:(k:Int)<((ys.length:Nat):Int):=by omega
        have ND:=hide (drop_down HL.out (by omega) HD.out)
        have NL:=hide (cmp_low CX.out.1 CY.out.1 HL.out (by omega) HD.out)
        have NH:=hide (cmp_high CX.out.1 CY.out.1 HL.out (by omega) HD.out)
        generalize xs.getD k 0=z at f1 ND NL NH
        generalize ys.getD k 0=z' at f2 ND NL NH
        clear sx sy hc hc'
        rcases Int.lt_trichotomy z z' with h | h | h
        · have HE:Hid (cmpI x y = -1):=by show _ = _;rw [←VX.out,←VY.out];exact NL.out h
          go_wp2
          go_quiet (fail)
          go_wp2
          go_ret
          exact ⟨by rw [HE.out];rfl,below_drewN hbw _⟩
        · subst h
          have n1:¬ z<z:=by omega
          go_wp2
          go_quiet (fail)
          go_wp2
          replace f1:(wr.drewN nq).cell? ⟨b,off+k,none⟩ = some (.int .i64 z):=f1
          replace f2:(wr.drewN nq).cell? ⟨b',off'+k,none⟩ = some (.int .i64 z):=f2
          replace m1:(wr.drewN nq).cell? ⟨w.heap.size,1,none⟩ = _:=m1
          replace m2:(wr.drewN nq).cell? ⟨w.heap.size+1,1,none⟩ = _:=m2
          replace hbel:=below_drewN hbel nq
          generalize wr.drewN nq=wr2 at f1 f2 m1 m2 hbel ⊢
          go_quiet (fail)
          go_wp2
          go_roundw
          case rel=>exact ⟨k,by omega,ND.out (by first | rfl | trivial),by go_num,below_drewN hbel _⟩
          case measure=>simp [intOf]
        · have HE:Hid (cmpI x y=1):=by show _ = _;rw [←VX.out,←VY.out];exact NH.out h
          have n1:¬ z<z' := by omega
          go_wp2
          go_quiet (fail)
          go_wp2
          replace f1:(wr.drewN nq).cell? ⟨b,off+k,none⟩ = some (.int .i64 z):=f1
          replace f2:(wr.drewN nq).cell? ⟨b',off'+k,none⟩ = some (.int .i64 z'):=f2
          replace m1:(wr.drewN nq).cell? ⟨w.heap.size,1,none⟩ = _:=m1
          replace m2:(wr.drewN nq).cell? ⟨w.heap.size+1,1,none⟩ = _:=m2
          replace hbw:=below_drewN hbw nq
          generalize wr.drewN nq=wr2 at f1 f2 m1 m2 hbw ⊢
          go_quiet (fail)
          go_wp2
          go_ret
          exact ⟨by rw [HE.out];rfl,below_drewN hbw _⟩
  · have hne:(((xs.length:Nat):Int) != ((ys.length:Nat):Int))=true:=by rw [bne_iff_ne];omega
    have HE:=hide (cmp_len CX.out CY.out hl)
    rw [VX.out,VY.out] at HE
    by_cases h:xs.length<ys.length
    · rw [if_pos h] at HE
      have h' : ((xs.length:Nat):Int)<((ys.length:Nat):Int):=by omega
      clear hl
      go_enter Tryz.func90,Tryz.ntmps90
      go_wp2
      go_ret
      exact ⟨by rw [HE.out];rfl,K.out.2.2.1⟩
    · rw [if_neg h] at HE
      have h' : ¬ ((xs.length:Nat):Int)<((ys.length:Nat):Int):=by omega
      clear hl
      go_enter Tryz.func90,Tryz.ntmps90
      go_wp2
      go_ret
      exact ⟨by rw [HE.out];rfl,K.out.2.2.1⟩
def sgn (n:Nat):Int:=if n=0 then 0 else 1
set_option maxRecDepth 20000 in
set_option maxHeartbeats 400000 in
theorem sign_any (w:World) (ao:Option Addr) (n cap:Nat) :
    Calls Tryz.prog 27 #[.agg #[.bool false,.slice ao n cap]] w fun e w'=>e=.returned (.int .i64 (sgn n))∧w' = w.alloc (.cells #[.bool false,.slice ao n cap] 54):=by
  by_cases h:n=0
  · subst h
    go_enter Tryz.func27,Tryz.ntmps27
    go_wp2
    go_ret
    exact ⟨rfl,rfl⟩
  · have hne:(((n:Nat):Int) == 0)=false:=by simp;omega
    have H:Hid (sgn n=1):=by simp [Hid,sgn,h]
    clear h
    go_enter Tryz.func27,Tryz.ntmps27
    go_wp2
    go_ret
    exact ⟨by rw [H.out];rfl,rfl⟩
theorem got_zero {w:World} {ao:Option Addr} {cap:Nat} {xs:List Int} {x:Int} (h:Got w ao cap xs x) (h0:xs.length=0):x=0:=by
  have e:xs = []:=List.eq_nil_of_length_eq_zero h0
  rw [←h.val,e];rfl
end Dm
end Go.Proofs.YtpofkigboedliaaGreat

namespace Go.Proofs.YtpofkigboedliaaGreat
namespace Dm
open Go.RowKit
open Lm (hide)
def Dl (B:Nat) (w:World) (v:Value) (x:Int) (n:Nat):Prop:=∃ ds,Ow B w v ds∧val ds=x∧ds.length≤n
theorem plus_val {A B ds:List Int} {k:Nat} {a b c s:Int} (hk:ds.length=k) (ha:A.getD k 0=a) (hb:B.getD k 0=b) (hs:s=c+a+b) (h:val ds+pw k*c=vf A k+vf B k) :
    val (ds ++ [s % 10000])+pw (k+1)*(s / 10000)=vf A (k+1)+vf B (k+1):=by
  rw [val_snoc,vf,vf,ha,hb,hk,pw]
  have e:s=s % 10000+10000*(s / 10000):=by omega
  have e2:pw k*(s % 10000)+10000*pw k*(s / 10000)=pw k*s:=by
    rw [Int.mul_comm 10000 (pw k),Int.mul_assoc,←Int.mul_add,←e]
  rw [Int.add_assoc,e2,hs,Int.mul_add,Int.mul_add]
  omega
theorem getD_past (A:List Int) (k:Nat) (h:¬ k<A.length):A.getD k 0=0:=by
  rw [List.getD_eq_getElem?_getD,List.getElem?_eq_none (by omega)];rfl
set_option maxRecDepth 20000 in
set_option maxHeartbeats 1000000 in
theorem plus_any (w:World) (a1:Option Addr) (n1 c1:Nat) (A:List Int) (hA:Sl w (.slice a1 n1 c1) A) (a2:Option Addr) (n2 c2:Nat) (B:List Int) (hB:Sl w (.slice a2 n2 c2) B) (hl1:A.length≤1000000) (hl2:B.length≤1000000) :
    Calls Tryz.prog 91 #[.slice a1 n1 c1,.slice a2 n2 c2] w fun e w'=>∃ v,e=.returned v∧Dl w.heap.size w' v (val A+val B) (A.length+B.length+1)∧Below w.heap.size w w' := by
  obtain ⟨rfl,p1,p2,p3⟩:=hA.parts
  obtain ⟨rfl,q1,q2,q3⟩:=hB.parts
  obtain ⟨i0,hi,hz0,hz1,hz2⟩:=info_parts info64
  have P3:=hide p3
  have Q3:=hide q3
  clear p3 q3
  go_enter Tryz.func91,Tryz.ntmps91
  go_wp2
  go_loopw [5,6,7] (fun dv cv iv wr=>∃ (k:Nat) (c:Int) (ds:List Int),cv=.int .i64 c∧iv=.int .i64 k∧(0≤c∧c≤1)∧(k:Int)+c≤(A.length:Int)+B.length+1∧ds.length=k∧Limb ds∧val ds+pw k*c=vf A k+vf B k∧wr.ownsRow w.heap.size 3 1 dv k (ds.map (Value.int .i64))∧Below w.heap.size w wr) (fun _ cv iv _=>(A.length - (intOf iv).toNat)*2+(B.length - (intOf iv).toNat)*2+(intOf cv).toNat)
  case atStart=>exact ⟨0,0,[],rfl,rfl,by omega,by omega,rfl,limb_nil,by simp [val,vf,pw],World.ownsRow_nil _ _ _ _,Below.refl _ _⟩
  case round =>
    obtain ⟨k,c,ds,rfl,rfl,hc,hkc,hdl,hd,hval,hown,hbel⟩:=hrel
    have HD:=hide hd
    have HDL:=hide hdl
    have HV:=hide hval
    clear hd hdl hval
    have hsz:=hbel.size
    by_cases hltA:k<A.length
    · by_cases hltB:k<B.length
      · have sA:=hA.below hbel
        obtain ⟨b1,off1,rfl,hca⟩:=sA.cells (by omega)
        have ca:=hca k hltA
        have ba:=limb_getD P3.out k
        obtain ⟨a,hak⟩:∃ a,A.getD k 0=a:=⟨_,rfl⟩
        rw [hak] at ca ba
        clear sA hca
        have sB:=hB.below hbel
        obtain ⟨b2,off2,rfl,hcb⟩:=sB.cells (by omega)
        have cb:=hcb k hltB
        have bb:=limb_getD Q3.out k
        obtain ⟨b,hbk⟩:∃ b,B.getD k 0=b:=⟨_,rfl⟩
        rw [hbk] at cb bb
        clear sB hcb
        have dA:(k:Int)<(A.length:Int):=by omega
        have dB:(k:Int)<(B.length:Int):=by omega
        have HV' := hide (plus_val (s:=c+a+b) HDL.out hak hbk (by omega) HV.out)
        clear hak hbk
        go_wp2_with (at_builtin;refine wpList_append_own _ rfl (.tmp 44) (.tmp 47) 52 rfl w.heap.size 3 i0 (.int .i64 0) 1 8 Tryz.underlying52 hi hz0 hz1 hz2 rfl (by decide) _ _ _ rfl (hown.alloc _) ⟨wr.heap.size,0,none⟩ 1 1 [.int .i64 ((c+a+b) % 10000)] rfl rfl (cell_one_new _ _ _) ?c211 ?c311 ?c411 ?c511 ?_)
        case c211=>first | rfl | (intro u hu;simp at hu;subst hu;rfl)
        case c311=>unfold maxLen;omega
        case c411=>omega
        case c511=>first | omega | (simp;omega)
        intro v' w1 hown' hgrow _
        have R:=step_own hown' hgrow hbel (hown.lt)
        clear hown' hgrow hown
        go_wp2
        go_roundw
        case rel=>exact ⟨k+1,(c+a+b) / 10000,ds ++ [(c+a+b) % 10000],rfl,by go_num,by omega,by omega,by have:=HDL.out;simp;omega,limb_append.2 ⟨HD.out,limb_cons.2 ⟨by omega,limb_nil⟩⟩,HV'.out,R.1,R.2⟩
        case measure=>simp [intOf];omega
      · have hbk:=getD_past B k hltB
        have sA:=hA.below hbel
        obtain ⟨b1,off1,rfl,hca⟩:=sA.cells (by omega)
        have ca:=hca k hltA
        have ba:=limb_getD P3.out k
        obtain ⟨a,hak⟩:∃ a,A.getD k 0=a:=⟨_,rfl⟩
        rw [hak] at ca ba
        clear sA hca
        have dA:(k:Int)<(A.length:Int):=by omega
        have dB:¬ (k:Int)<(B.length:Int):=by omega
        have HV' := hide (plus_val (s:=c+a) HDL.out hak hbk (by omega) HV.out)
        clear hak hbk
        go_wp2_with (at_builtin;refine wpList_append_own _ rfl (.tmp 44) (.tmp 47) 52 rfl w.heap.size 3 i0 (.int .i64 0) 1 8 Tryz.underlying52 hi hz0 hz1 hz2 rfl (by decide) _ _ _ rfl (hown.alloc _) ⟨wr.heap.size,0,none⟩ 1 1 [.int .i64 ((c+a) % 10000)] rfl rfl (cell_one_new _ _ _) ?c210 ?c310 ?c410 ?c510 ?_)
        case c210=>first | rfl | (intro u hu;simp at hu;subst hu;rfl)
        case c310=>unfold maxLen;omega
        case c410=>omega
        case c510=>first | omega | (simp;omega)
        intro v' w1 hown' hgrow _
        have R:=step_own hown' hgrow hbel (hown.lt)
        clear hown' hgrow hown
        go_wp2
        go_roundw
        case rel=>exact ⟨k+1,(c+a) / 10000,ds ++ [(c+a) % 10000],rfl,by go_num,by omega,by omega,by have:=HDL.out;simp;omega,limb_append.2 ⟨HD.out,limb_cons.2 ⟨by omega,limb_nil⟩⟩,HV'.out,R.1,R.2⟩
        case measure=>simp [intOf];omega
    · have hak:=getD_past A k hltA
      by_cases hltB:k<B.length
      · have sB:=hB.below hbel
        obtain ⟨b2,off2,rfl,hcb⟩:=sB.cells (by omega)
        have cb:=hcb k hltB
        have bb:=limb_getD Q3.out k
        obtain ⟨b,hbk⟩:∃ b,B.getD k 0=b:=⟨_,rfl⟩
        rw [hbk] at cb bb
        clear sB hcb
        have dA:¬ (k:Int)<(A.length:Int):=by omega
        have dB:(k:Int)<(B.length:Int):=by omega
        have HV' := hide (plus_val (s:=c+b) HDL.out hak hbk (by omega) HV.out)
        clear hak hbk
        go_wp2_with (at_builtin;refine wpList_append_own _ rfl (.tmp 44) (.tmp 47) 52 rfl w.heap.size 3 i0 (.int .i64 0) 1 8 Tryz.underlying52 hi hz0 hz1 hz2 rfl (by decide) _ _ _ rfl (hown.alloc _) ⟨wr.heap.size,0,none⟩ 1 1 [.int .i64 ((c+b) % 10000)] rfl rfl (cell_one_new _ _ _) ?c201 ?c301 ?c401 ?c501 ?_)
        case c201=>first | rfl | (intro u hu;simp at hu;subst hu;rfl)
        case c301=>unfold maxLen;omega
        case c401=>omega
        case c501=>first | omega | (simp;omega)
        intro v' w1 hown' hgrow _
        have R:=step_own hown' hgrow hbel (hown.lt)
        clear hown' hgrow hown
        go_wp2
        go_roundw
        case rel=>exact ⟨k+1,(c+b) / 10000,ds ++ [(c+b) % 10000],rfl,by go_num,by omega,by omega,by have:=HDL.out;simp;omega,limb_append.2 ⟨HD.out,limb_cons.2 ⟨by omega,limb_nil⟩⟩,HV'.out,R.1,R.2⟩
        case measure=>simp [intOf];omega
      · have hbk:=getD_past B k hltB
        by_cases hc0:0<c
        · have dA:¬ (k:Int)<(A.length:Int):=by omega
          have dB:¬ (k:Int)<(B.length:Int):=by omega
          have HV' := hide (plus_val (s:=c) HDL.out hak hbk (by omega) HV.out)
          clear hak hbk
          go_wp2_with (at_builtin;refine wpList_append_own _ rfl (.tmp 44) (.tmp 47) 52 rfl w.heap.size 3 i0 (.int .i64 0) 1 8 Tryz.underlying52 hi hz0 hz1 hz2 rfl (by decide) _ _ _ rfl (hown.alloc _) ⟨wr.heap.size,0,none⟩ 1 1 [.int .i64 ((c) % 10000)] rfl rfl (cell_one_new _ _ _) ?c200 ?c300 ?c400 ?c500 ?_)
          case c200=>first | rfl | (intro u hu;simp at hu;subst hu;rfl)
          case c300=>unfold maxLen;omega
          case c400=>omega
          case c500=>first | omega | (simp;omega)
          intro v' w1 hown' hgrow _
          have R:=step_own hown' hgrow hbel (hown.lt)
          clear hown' hgrow hown
          go_wp2
          go_roundw
          case rel=>exact ⟨k+1,(c) / 10000,ds ++ [(c) % 10000],rfl,by go_num,by omega,by omega,by have:=HDL.out;simp;omega,limb_append.2 ⟨HD.out,limb_cons.2 ⟨by omega,limb_nil⟩⟩,HV'.out,R.1,R.2⟩
          case measure=>simp [intOf];omega
        · have hc1:c=0:=by omega
          subst hc1
          have dA:¬ (k:Int)<(A.length:Int):=by omega
          have dB:¬ (k:Int)<(B.length:Int):=by omega
          have how:=ow_of_row hown HD.out
          have hvv:val ds=val A+val B:=by
            have:=HV.out
            rw [Int.mul_zero,Int.add_zero,vf_all A _ (by omega),vf_all B _ (by omega)] at this
            exact this
          have hdl:=HDL.out
          have HVV:=hide hvv
          have HDL' : Hid (ds.length≤A.length+B.length+1):=by show _≤_;omega
          clear hvv hak hbk hown hdl
          go_wp2
          go_ret
          exact ⟨_,rfl,⟨ds,how,HVV.out,HDL'.out⟩,hbel⟩
end Dm
end Go.Proofs.YtpofkigboedliaaGreat

namespace Go.Proofs.YtpofkigboedliaaGreat
namespace Dm
open Go.RowKit
open Lm (hide lt_of_cell lt_of_heap)
theorem Sl.copy {w:World} {b off n cap:Nat} {D:List Int} (h:Sl w (.slice (some ⟨b,off,none⟩) n cap) D):∀ j u,(D.map (Value.int .i64))[j]? = some u→w.cell? ((⟨b,off,none⟩:Addr).add j)=some u:=by
  intro j u hu
  rw [List.getElem?_map] at hu
  have hj:j<D.length:=by
    apply Classical.byContradiction
    intro hn
    rw [List.getElem?_eq_none (by omega)] at hu
    cases hu
  rw [List.getElem?_eq_getElem hj] at hu
  obtain ⟨b',off',e,hc⟩:=h.cells (by omega)
  obtain ⟨rfl,rfl⟩:b=b'∧off=off' := by simpa using e
  have hcj:=hc j hj
  rw [List.getD_eq_getElem?_getD,List.getElem?_eq_getElem hj] at hcj
  rw [show ((⟨b,off,none⟩:Addr).add j)=⟨b,off+j,none⟩ from by simp [Addr.add],hcj]
  exact hu
theorem one_cells (D:List Int):∀ u ∈ D.map (Value.int .i64),u.oneCell' = true:=by
  intro u hu
  obtain ⟨z,_,rfl⟩:=List.mem_map.1 hu
  rfl
def dec (t:Int):List Int→List Int
  | []=>[]
  | x :: xs=>(x - t) :: xs
theorem dec_zero (xs:List Int):dec 0 xs=xs:=by cases xs <;> simp [dec]
theorem less_val {A B lo:List Int} {k:Nat} {a b t t' s:Int} (hk:lo.length=k) (ha:A.getD k 0=a) (hb:B.getD k 0=b) (hs:s=a - t - b+10000*t') (h:val lo+vf B k=vf A k+pw k*t) :
    val (lo ++ [s])+vf B (k+1)=vf A (k+1)+pw (k+1)*t' := by
  rw [val_snoc,vf,vf,ha,hb,hk,pw,hs]
  have e:10000*pw k*t' = pw k*(10000*t'):=by rw [Int.mul_comm 10000 (pw k),Int.mul_assoc]
  rw [e,Int.mul_add,Int.mul_sub,Int.mul_sub]
  omega
theorem set_mid (lo r:List Int) (x y:Int) (k:Nat) (hk:lo.length=k):(lo ++ x :: r).set k y=lo ++ y :: r:=by
  subst hk
  induction lo with
  | nil=>rfl
  | cons z zs ih=>simp
theorem getD_mid (lo r:List Int) (x:Int) (k:Nat) (hk:lo.length=k):(lo ++ x :: r).getD k 0=x:=by
  subst hk
  simp [List.getD_eq_getElem?_getD]
theorem dec_drop (A:List Int) (k:Nat) (t:Int) (h:k<A.length):dec t (A.drop k)=(A.getD k 0 - t) :: A.drop (k+1):=by
  rw [drop_getD A k h];rfl
theorem less_top {A B lo:List Int} {k:Nat} {a b t s:Int} (hk:lo.length=k) (hA:A.length=k+1) (hB:B.length≤A.length) (hle:val B≤val A) (hlo:Limb lo) (ha:A.getD k 0=a) (hb:B.getD k 0=b) (hs:s=a - t - b) (h:val lo+vf B k=vf A k+pw k*t):0≤s:=by
  have h1:=less_val (t' := 0) (s:=s) hk ha hb (by omega) h
  rw [vf_all A _ (by omega),vf_all B _ (by omega),Int.mul_zero,Int.add_zero,val_snoc,hk] at h1
  have h2:=(val_bounds hlo).2
  rw [hk] at h2
  apply Classical.byContradiction
  intro hn
  have h3:pw k*s≤pw k*(-1):=Int.mul_le_mul_of_nonneg_left (by omega) (by have:=pw_pos k;omega)
  omega
set_option maxRecDepth 20000 in
set_option maxHeartbeats 1000000 in
theorem less_any (w:World) (a1:Option Addr) (n1 c1:Nat) (A:List Int) (hA:Sl w (.slice a1 n1 c1) A) (a2:Option Addr) (n2 c2:Nat) (B:List Int) (hB:Sl w (.slice a2 n2 c2) B) (hl1:A.length≤1000000) (hBA:B.length≤A.length) (hle:val B≤val A) (h0:0<A.length) :
    Calls Tryz.prog 92 #[.slice a1 n1 c1,.slice a2 n2 c2] w fun e w'=>∃ v,e=.returned v∧Dl w.heap.size w' v (val A - val B) A.length∧Below w.heap.size w w' := by
  obtain ⟨rfl,p1,p2,p3⟩:=hA.parts
  obtain ⟨rfl,q1,q2,q3⟩:=hB.parts
  obtain ⟨i0,hi,hz0,hz1,hz2⟩:=info_parts info64
  obtain ⟨b1,off1,rfl,_⟩:=hA.cells h0
  have hcells:=hA.copy
  have hone:=one_cells A
  have P3:=hide p3
  have Q3:=hide q3
  have HLE:=hide hle
  clear p3 q3 hle
  go_enter Tryz.func92,Tryz.ntmps92
  go_wp2_with (at_builtin;refine wpList_append_own _ rfl (.const (.slice none 0 0)) (.tmp 7) 52 rfl w.heap.size 3 i0 (.int .i64 0) 1 8 Tryz.underlying52 hi hz0 hz1 hz2 rfl (by decide) _ _ _ rfl (World.ownsRow_nil _ _ _ _) ⟨b1,off1,none⟩ A.length c1 (A.map (Value.int .i64)) rfl (by simp) hcells hone (by unfold maxLen;omega) (by omega) (by simp) ?_)
  intro v' w1 hown hgrow _
  have hb1:Below w.heap.size w w1:=(Below.refl w.heap.size w).grown hgrow (by simp) (by intro k hk;simp [Value.ownBlock] at hk)
  obtain ⟨ao,cap,rfl,o1,o2,_,o4⟩:=ow_of_row hown P3.out
  rcases o4 with o4 | ⟨g,off,cur,rfl,hg,hh,hsz,hat⟩
  · omega
  have o2' : cap≤9223372036854775807:=o2
  have HH:=hide hh
  have HA:=hide hat
  have HSZ:=hide hsz
  clear hown hgrow hcells hone hh hat o2 hsz
  go_wp2
  go_loopw [6] (fun iv wr=>∃ (k:Nat) (t:Int) (lo:List Int) (cur' : Array Value),k≤A.length∧iv=.int .i64 k∧(0≤t∧t≤1)∧(k=A.length→t=0)∧lo.length=k∧Limb lo∧val lo+vf B k=vf A k+pw k*t∧Wr w1 wr g cur' 3∧cur'.size=cur.size∧At cur' .i64 off (lo ++ dec t (A.drop k))) (fun iv _=>A.length - (intOf iv).toNat)
  case atStart=>exact ⟨0,0,[],cur,Nat.zero_le _,rfl,by omega,fun _=>rfl,rfl,limb_nil,by simp [val,vf,pw],Wr.refl HH.out,rfl,by simpa [dec_zero] using HA.out⟩
  case round =>
    obtain ⟨k,t,lo,cur',hk,rfl,ht,hkt,hlol,hlo,hval,hwr,hcs,hat⟩:=hrel
    have HLO:=hide hlo
    have HLL:=hide hlol
    have HV:=hide hval
    have HC:=hide hcs
    have hww:Wr w1 wr g cur' 3:=hwr
    by_cases hlt:k<A.length
    · rw [dec_drop A k t hlt] at hat
      have ba:=limb_getD P3.out k
      obtain ⟨a,hak⟩:∃ a,A.getD k 0=a:=⟨_,rfl⟩
      rw [hak] at hat ba
      have dA:(k:Int)<(A.length:Int):=by omega
      have dC:(k:Int)<(cap:Int):=by omega
      by_cases hltB:k<B.length
      · have sB:=hwr.sl hg hb1 rfl hB
        obtain ⟨b2,off2,rfl,hcb⟩:=sB.cells (by omega)
        have cb:=hcb k hltB
        have bb:=limb_getD Q3.out k
        obtain ⟨b,hbk⟩:∃ b,B.getD k 0=b:=⟨_,rfl⟩
        rw [hbk] at cb bb
        have dB:(k:Int)<(B.length:Int):=by omega
        have cd:=hat.cell hwr.here k (by simp;omega)
        rw [getD_mid _ _ _ _ HLL.out] at cd
        have fd:=hwr.free (off+k)
        have hat2:=hat.set k (a - t - b)
        rw [set_mid _ _ _ _ _ HLL.out] at hat2
        have hw2:=(hwr.set (off+k) (.int .i64 (a - t - b))).drew
        have HC2:Hid ((cur'.setIfInBounds (off+k) (.int .i64 (a - t - b))).size=cur.size):=by show _ = _;rw [Array.size_setIfInBounds];exact HC.out
        generalize hcur2:cur'.setIfInBounds (off+k) (.int .i64 (a - t - b))=cur2 at hat2 hw2 HC2
        have X2:=hide hat2
        have W2:=hide hw2
        have KB:=hide hbk
        have KA:=hide hak
        clear sB hcb hcur2 hat hwr hww hat2 hw2 hbk hak hlol hlo hval hcs
        go_wp2
        go_region
        generalize (wr.setCell ⟨g,off+k,none⟩ (.int .i64 (a - t - b))).drew=W at W2 ⊢
        have hat2:=X2.out
        have hw2:=W2.out
        have hak:=KA.out
        have hbk:=KB.out
        clear X2 W2 KA KB cd fd
        have hsv:Hid (val (lo ++ [a - t - b])+vf B (k+1)=vf A (k+1)+pw (k+1)*0):=less_val (t' := 0) HLL.out hak hbk (by omega) HV.out
        have hsv1:Hid (val (lo ++ [a - t - b+10000])+vf B (k+1)=vf A (k+1)+pw (k+1)*1):=less_val (t' := 1) HLL.out hak hbk (by omega) HV.out
        have htop:Hid (A.length=k+1→0≤a - t - b):=fun h=>less_top HLL.out h hBA HLE.out HLO.out hak hbk (by omega) HV.out
        have cs:=hat2.cell hw2.here k (by have:=HLL.out;simp;omega)
        rw [getD_mid _ _ _ _ HLL.out] at cs
        have fs:=hw2.free (off+k)
        by_cases hneg:a - t - b<0
        · have hk1:k+1<A.length:=by
            apply Classical.byContradiction
            intro hn
            have:=htop.out (by omega)
            omega
          have hat3:=hat2.set k (a - t - b+10000)
          rw [set_mid _ _ _ _ _ HLL.out] at hat3
          have hw3:=(hw2.set (off+k) (.int .i64 (a - t - b+10000)))
          have dB1:(k:Int)+1<(A.length:Int):=by omega
          have e3:lo ++ (a - t - b+10000) :: A.drop (k+1)=(lo ++ [a - t - b+10000]) ++ A.getD (k+1) 0 :: A.drop (k+1+1):=by rw [drop_getD A (k+1) hk1];simp
          have HLL3:(lo ++ [a - t - b+10000]).length=k+1:=by simp;exact HLL.out
          rw [e3] at hat3
          obtain ⟨a',hak'⟩:∃ a',A.getD (k+1) 0=a' := ⟨_,rfl⟩
          have ba' := limb_getD P3.out (k+1)
          rw [hak'] at hat3 ba'
          have e2:lo ++ (a - t - b) :: A.drop (k+1)=(lo ++ [a - t - b]) ++ A.getD (k+1) 0 :: A.drop (k+1+1):=by rw [drop_getD A (k+1) hk1];simp
          have cs3:=hat2.cell hw2.here (k+1) (by have:=HLL.out;simp;omega)
          rw [e2,getD_mid _ _ _ _ (by simp;exact HLL.out),hak'] at cs3
          have fs3:=hw2.free (off+(k+1))
          have fs4:=hw3.free (off+(k+1))
          have hat4:=hat3.set (k+1) (a' - 1)
          rw [set_mid _ _ _ _ _ HLL3] at hat4
          have hw4:=hw3.set (off+(k+1)) (.int .i64 (a' - 1))
          rw [show (lo ++ [a - t - b+10000]) ++ (a' - 1) :: A.drop (k+1+1)=(lo ++ [a - t - b+10000]) ++ dec 1 (A.drop (k+1)) from by rw [dec_drop A (k+1) 1 hk1,hak']] at hat4
          have HF:=hide hat4
          have HW4:=hide hw4
          clear hat2 hat3 hat4 e3 e2 hw2 hw3 hw4 HLL3 hak hak' hbk hsv htop
          go_wp2
          go_roundw
          case rel=>exact ⟨k+1,1,lo ++ [a - t - b+10000],_,by omega,by go_num,by omega,fun h=>by omega,by simp;exact HLL.out,limb_append.2 ⟨HLO.out,limb_cons.2 ⟨by omega,limb_nil⟩⟩,hsv1.out,HW4.out,by rw [Array.size_setIfInBounds,Array.size_setIfInBounds];exact HC2.out,HF.out⟩
          case measure=>simp [intOf];omega
        · have HF:Hid (At cur2 .i64 off ((lo ++ [a - t - b]) ++ dec 0 (A.drop (k+1)))):=by rw [dec_zero,List.append_assoc];exact hat2
          have HW2:=hide hw2
          have HK:=hide (show k+1≤A.length by omega)
          have HD:=hide hsv.out
          clear hat2 hw2 hak hbk hsv hsv1 htop
          go_wp2
          go_roundw
          case rel=>exact ⟨k+1,0,lo ++ [a - t - b],cur2,HK.out,by go_num,by omega,fun _=>rfl,by simp;exact HLL.out,limb_append.2 ⟨HLO.out,limb_cons.2 ⟨by omega,limb_nil⟩⟩,HD.out,HW2.out,HC2.out,HF.out⟩
          case measure=>simp [intOf];omega
      · have hbk:=getD_past B k hltB
        have dB:¬ (k:Int)<(B.length:Int):=by omega
        have hat2:At cur' .i64 off (lo ++ (a - t) :: A.drop (k+1)):=hat
        have hw2:=hwr
        have HC2:=HC
        generalize cur' = cur2 at hat2 hw2 HC2
        clear hat hww hcs hval hlo hlol
        have hsv:Hid (val (lo ++ [a - t])+vf B (k+1)=vf A (k+1)+pw (k+1)*0):=less_val (t' := 0) HLL.out hak hbk (by omega) HV.out
        have hsv1:Hid (val (lo ++ [a - t+10000])+vf B (k+1)=vf A (k+1)+pw (k+1)*1):=less_val (t' := 1) HLL.out hak hbk (by omega) HV.out
        have htop:Hid (A.length=k+1→0≤a - t):=fun h=>less_top HLL.out h hBA HLE.out HLO.out hak hbk (by omega) HV.out
        have cs:=hat2.cell hw2.here k (by have:=HLL.out;simp;omega)
        rw [getD_mid _ _ _ _ HLL.out] at cs
        have fs:=hw2.free (off+k)
        by_cases hneg:a - t<0
        · have hk1:k+1<A.length:=by
            apply Classical.byContradiction
            intro hn
            have:=htop.out (by omega)
            omega
          have hat3:=hat2.set k (a - t+10000)
          rw [set_mid _ _ _ _ _ HLL.out] at hat3
          have hw3:=(hw2.set (off+k) (.int .i64 (a - t+10000)))
          have dB1:(k:Int)+1<(A.length:Int):=by omega
          have e3:lo ++ (a - t+10000) :: A.drop (k+1)=(lo ++ [a - t+10000]) ++ A.getD (k+1) 0 :: A.drop (k+1+1):=by rw [drop_getD A (k+1) hk1];simp
          have HLL3:(lo ++ [a - t+10000]).length=k+1:=by simp;exact HLL.out
          rw [e3] at hat3
          obtain ⟨a',hak'⟩:∃ a',A.getD (k+1) 0=a' := ⟨_,rfl⟩
          have ba' := limb_getD P3.out (k+1)
          rw [hak'] at hat3 ba'
          have e2:lo ++ (a - t) :: A.drop (k+1)=(lo ++ [a - t]) ++ A.getD (k+1) 0 :: A.drop (k+1+1):=by rw [drop_getD A (k+1) hk1];simp
          have cs3:=hat2.cell hw2.here (k+1) (by have:=HLL.out;simp;omega)
          rw [e2,getD_mid _ _ _ _ (by simp;exact HLL.out),hak'] at cs3
          have fs3:=hw2.free (off+(k+1))
          have fs4:=hw3.free (off+(k+1))
          have hat4:=hat3.set (k+1) (a' - 1)
          rw [set_mid _ _ _ _ _ HLL3] at hat4
          have hw4:=hw3.set (off+(k+1)) (.int .i64 (a' - 1))
          rw [show (lo ++ [a - t+10000]) ++ (a' - 1) :: A.drop (k+1+1)=(lo ++ [a - t+10000]) ++ dec 1 (A.drop (k+1)) from by rw [dec_drop A (k+1) 1 hk1,hak']] at hat4
          have HF:=hide hat4
          have HW4:=hide hw4
          clear hat2 hat3 hat4 e3 e2 hw2 hw3 hw4 HLL3 hak hak' hbk hsv htop
          go_wp2
          go_roundw
          case rel=>exact ⟨k+1,1,lo ++ [a - t+10000],_,by omega,by go_num,by omega,fun h=>by omega,by simp;exact HLL.out,limb_append.2 ⟨HLO.out,limb_cons.2 ⟨by omega,limb_nil⟩⟩,hsv1.out,HW4.out,by rw [Array.size_setIfInBounds,Array.size_setIfInBounds];exact HC2.out,HF.out⟩
          case measure=>simp [intOf];omega
        · have HF:Hid (At cur2 .i64 off ((lo ++ [a - t]) ++ dec 0 (A.drop (k+1)))):=by rw [dec_zero,List.append_assoc];exact hat2
          have HW2:=hide hw2
          have HK:=hide (show k+1≤A.length by omega)
          have HD:=hide hsv.out
          clear hat2 hw2 hak hbk hsv hsv1 htop
          go_wp2
          go_roundw
          case rel=>exact ⟨k+1,0,lo ++ [a - t],cur2,HK.out,by go_num,by omega,fun _=>rfl,by simp;exact HLL.out,limb_append.2 ⟨HLO.out,limb_cons.2 ⟨by omega,limb_nil⟩⟩,HD.out,HW2.out,HC2.out,HF.out⟩
          case measure=>simp [intOf];omega
    · have hkn:k=A.length:=by omega
      have ht0:=hkt hkn
      have hvv:val lo=val A - val B:=by
        have h9:=HV.out
        rw [ht0,Int.mul_zero,Int.add_zero,vf_all A _ (by omega),vf_all B _ (by omega)] at h9
        omega
      have how:Ow w.heap.size wr (.slice (some ⟨g,off,none⟩) A.length cap) lo:=by
        rw [List.drop_of_length_le (by omega)] at hat
        simp only [dec,List.append_nil] at hat
        exact ⟨_,cap,by rw [hlol,hkn],by omega,o2',hlo,.inr ⟨g,off,cur',rfl,hg,hwr.here,by rw [hcs];exact HSZ.out,hat⟩⟩
      have D:Hid (Dl w.heap.size wr (.slice (some ⟨g,off,none⟩) A.length cap) (val A - val B) A.length):=⟨lo,how,hvv,by omega⟩
      have hbel:Below w.heap.size w wr:=hb1.trans (hwr.below hg)
      have dA:¬ (k:Int)<(A.length:Int):=by omega
      clear hvv how hat hwr hww hcs hval hlo hlol ht0 hkt hkn
      go_wp2
      go_ret
      exact ⟨_,rfl,D.out,hbel⟩
end Dm
end Go.Proofs.YtpofkigboedliaaGreat

namespace Go.Proofs.YtpofkigboedliaaGreat
namespace Dm
open Go.RowKit
open Lm (hide lt_of_cell lt_of_heap)
def sg (ng:Bool) (x:Int):Int:=if ng then -x else x
def Wh (w:World) (ng:Bool) (ao:Option Addr) (cap:Nat) (rs:List Int) (z:Int):Prop:=Got w ao cap rs (z.natAbs:Int)∧ng=decide (z<0)
theorem Wh.sl {w:World} {ng:Bool} {ao:Option Addr} {cap:Nat} {rs:List Int} {z:Int} (h:Wh w ng ao cap rs z):Sl w (.slice ao rs.length cap) rs:=h.1.sl
theorem Wh.below {w w' : World} {ng:Bool} {ao:Option Addr} {cap:Nat} {rs:List Int} {z:Int} (h:Wh w ng ao cap rs z) (hb:Below w.heap.size w w'):Wh w' ng ao cap rs z:=⟨h.1.below hb,h.2⟩
theorem Wh.worth {w:World} {ng:Bool} {ao:Option Addr} {cap:Nat} {rs:List Int} {z:Int} (h:Wh w ng ao cap rs z):sg ng (Dm.val rs)=z:=by
  rw [h.1.val,h.2,sg]
  by_cases hz:z<0
  · simp [hz];omega
  · simp [hz];omega
theorem Wh.of {w:World} {ao:Option Addr} {cap:Nat} {rs:List Int} {x:Int} (ng:Bool) (h:Got w ao cap rs x):Wh w (ng && decide (0<rs.length)) ao cap rs (sg ng x):=by
  have h0:0≤x:=by rw [←h.val];exact (val_bounds h.canon.1).1
  have hz:=canon_zero h.canon
  rw [h.val] at hz
  have hl:rs = []↔rs.length=0:=List.length_eq_zero_iff.symm
  cases ng with
  | false =>
    refine ⟨?_,?_⟩
    · have e:((sg false x).natAbs:Int)=x:=by simp [sg];omega
      rw [e];exact h
    · simp [sg];omega
  | true =>
    refine ⟨?_,?_⟩
    · have e:((sg true x).natAbs:Int)=x:=by simp [sg];omega
      rw [e];exact h
    · have e3:(0<rs.length)↔(sg true x<0):=by
        simp only [sg,if_true]
        constructor
        · intro h1
          have:x≠0:=fun h2=>by have:=hl.1 (hz.1 h2);omega
          omega
        · intro h1
          have:rs.length≠0:=fun h2=>by have:=hz.2 (hl.2 h2);omega
          omega
      rw [Bool.true_and]
      exact decide_eq_decide.2 e3
def Box (w:World) (g:Nat) (ng:Bool) (v:Value):Prop:=w.heap[g]? = some (.cells #[.bool ng,v] 54 (0,0))
theorem Box.below {w w' : World} {g:Nat} {ng:Bool} {v:Value} (h:Box w g ng v) (hb:Below w.heap.size w w'):Box w' g ng v:=(hb.block g (lt_of_heap h)).trans h
theorem Box.facts {w:World} {g:Nat} {ng:Bool} {v:Value} (h:Box w g ng v):w.cell? ⟨g,0,none⟩ = some (.bool ng)∧w.cell? ⟨g,1,none⟩ = some v∧w.frozen? ⟨g,0,none⟩ = false∧w.frozen? ⟨g,1,none⟩ = false :=
  ⟨by rw [cell_of_row _ _ _ _ _ (0,0) h];rfl,by rw [cell_of_row _ _ _ _ _ (0,0) h];rfl,frozen_of_row _ _ _ _ _ h,frozen_of_row _ _ _ _ _ h⟩
theorem Box.set {w:World} {g:Nat} {ng:Bool} {v:Value} (h:Box w g ng v) (b:Bool) (u:Value):Box ((w.setCell ⟨g,0,none⟩ (.bool b)).setCell ⟨g,1,none⟩ u) g b u:=by
  have h1:=heap_setCell_same w g 0 _ _ (.bool b) h
  have h2:=heap_setCell_same _ g 1 _ _ u h1
  exact h2
theorem Box.sl {w:World} {g:Nat} {ng:Bool} {ao:Option Addr} {n cap:Nat} (h:Box w g ng (.slice ao n cap)) (b:Bool) (u:Value) {v:Value} {zs:List Int} (hs:Sl w v zs):Sl ((w.setCell ⟨g,0,none⟩ (.bool b)).setCell ⟨g,1,none⟩ u) v zs:=by
  refine (hs.setCell h.facts.1 (fun z=>by simp) _).setCell (u0:=.slice ao n cap) ?_ (fun z=>by simp) _
  rw [World.cell?_setCell_other _ _ _ _ (by simp)]
  exact h.facts.2.1
theorem Box.wh {w:World} {g:Nat} {ng:Bool} {ao:Option Addr} {n cap:Nat} (h:Box w g ng (.slice ao n cap)) (b:Bool) (u:Value) {nz:Bool} {az:Option Addr} {cz:Nat} {rs:List Int} {z:Int} (hs:Wh w nz az cz rs z):Wh ((w.setCell ⟨g,0,none⟩ (.bool b)).setCell ⟨g,1,none⟩ u) nz az cz rs z :=
  ⟨⟨h.sl b u hs.1.1,hs.1.2⟩,hs.2⟩
theorem below_set2 {B:Nat} {w w1:World} {g:Nat} (hb:Below B w w1) (hg:B≤g) (b u:Value):Below B w ((w1.setCell ⟨g,0,none⟩ b).setCell ⟨g,1,none⟩ u):=(hb.setCell hg _).setCell hg _
theorem boxed (w:World) (ng:Bool) (v:Value):Box (w.alloc (.cells #[.bool ng,v] 54)) w.heap.size ng v∧Below w.heap.size w (w.alloc (.cells #[.bool ng,v] 54))∧(w.alloc (.cells #[.bool ng,v] 54)).heap.size=w.heap.size+1 :=
  ⟨heap_alloc_new w _,(Below.refl _ _).alloc (Nat.le_refl _) _,by simp⟩
theorem boxed1 (w:World) (ng:Bool) (v:Value):∃ w0:World,(w.alloc (.cells #[.bool ng,v] 54)).alloc (.cells #[.bool false,.slice none 0 0] 54)=w0∧Box w0 w.heap.size ng v∧Box w0 (w.heap.size+1) false (.slice none 0 0)∧Below w.heap.size w w0∧w0.heap.size=w.heap.size+2:=by
  have h1:=boxed w ng v
  have h2:=boxed (w.alloc (.cells #[.bool ng,v] 54)) false (.slice none 0 0)
  rw [h1.2.2] at h2
  refine ⟨_,rfl,h1.1.below (by rw [h1.2.2];exact h2.2.1),h2.1,h1.2.1.trans (h2.2.1.mono (by omega)),h2.2.2⟩
theorem sg_neg (ng:Bool) (x:Int):sg (!ng) x = - sg ng x:=by cases ng <;> simp [sg]
theorem boxed0 (w:World) (ng:Bool) (v:Value):∃ w0:World,w.alloc (.cells #[.bool ng,v] 54)=w0∧Box w0 w.heap.size ng v∧Below w.heap.size w w0∧w0.heap.size=w.heap.size+1 :=
  ⟨_,rfl,(boxed w ng v).1,(boxed w ng v).2.1,(boxed w ng v).2.2⟩
theorem boxed2 (w:World) (nx:Bool) (vx:Value) (ny:Bool) (vy:Value):∃ w0:World,(w.alloc (.cells #[.bool nx,vx] 54)).alloc (.cells #[.bool ny,vy] 54)=w0∧Box w0 w.heap.size nx vx∧Box w0 (w.heap.size+1) ny vy∧Below w.heap.size w w0∧w0.heap.size=w.heap.size+2:=by
  have h1:=boxed w nx vx
  have h2:=boxed (w.alloc (.cells #[.bool nx,vx] 54)) ny vy
  rw [h1.2.2] at h2
  refine ⟨_,rfl,h1.1.below (by rw [h1.2.2];exact h2.2.1),h2.1,h1.2.1.trans (h2.2.1.mono (by omega)),h2.2.2⟩
theorem boxed3 (w:World) (nx:Bool) (vx:Value) (ny:Bool) (vy:Value):∃ w0:World,((w.alloc (.cells #[.bool nx,vx] 54)).alloc (.cells #[.bool ny,vy] 54)).alloc (.cells #[.bool false,.slice none 0 0] 54)=w0∧Box w0 w.heap.size nx vx∧Box w0 (w.heap.size+1) ny vy∧Box w0 (w.heap.size+1+1) false (.slice none 0 0)∧Below w.heap.size w w0∧w0.heap.size=w.heap.size+3:=by
  obtain ⟨w2,e2,b1,b2,hb,hs⟩:=boxed2 w nx vx ny vy
  have h2:=boxed w2 false (.slice none 0 0)
  rw [e2]
  refine ⟨_,rfl,b1.below h2.2.1,b2.below h2.2.1,?_,hb.trans (h2.2.1.mono (by omega)),by rw [h2.2.2,hs]⟩
  have h3:=h2.1
  rw [hs] at h3
  exact h3
theorem sg_add (ng:Bool) (x y:Int):sg ng (x+y)=sg ng x+sg ng y:=by cases ng <;> simp [sg] <;> omega
theorem sg_mul (n1 n2:Bool) (x y:Int):sg (n1 != n2) (x*y)=sg n1 x*sg n2 y:=by cases n1 <;> cases n2 <;> simp [sg,Int.mul_neg,Int.neg_mul]
theorem Dl.open {B:Nat} {w:World} {v:Value} {x:Int} {n:Nat} (h:Dl B w v x n):∃ ao cap ds,v=.slice ao ds.length cap∧Sl w (.slice ao ds.length cap) ds∧Dm.val ds=x∧ds.length≤n:=by
  obtain ⟨ds,ho,hv,hn⟩:=h
  obtain ⟨ao,cap,rfl,hs,_,_⟩:=ho.open
  exact ⟨ao,cap,ds,rfl,hs,hv,hn⟩
theorem made_w (w:World) (ng:Bool) (ao:Option Addr) (cap:Nat) (ds:List Int) (x:Int) (h:Sl w (.slice ao ds.length cap) ds) (hv:Dm.val ds=x) :
    Calls Tryz.prog 59 #[.bool ng,.slice ao ds.length cap] w fun e w'=>∃ ng' rs,e=.returned (.agg #[.bool ng',.slice ao rs.length cap])∧Wh w' ng' ao cap rs (sg ng x)∧rs.length≤ds.length∧Below w.heap.size w w' := by
  refine (made_any w ng ao ds.length cap ds h).mono ?_
  rintro e w' ⟨rfl,hb⟩
  have hl:=h.parts.2.2.2
  have ht:=tl_le ds
  have e1:(ds.take (tl ds)).length=tl ds:=by rw [List.length_take];omega
  have g:Got w' ao cap (ds.take (tl ds)) x:=⟨by rw [e1];exact (h.take ht).below hb,canon_trim hl,by rw [val_take_tl,hv]⟩
  have g2:=Wh.of ng g
  rw [e1] at g2
  exact ⟨_,ds.take (tl ds),by rw [e1],g2,by omega,hb⟩
theorem Wh.zero {w:World} {ng:Bool} {ao:Option Addr} {cap:Nat} {rs:List Int} {z:Int} (h:Wh w ng ao cap rs z):z=0↔rs = []:=by
  have:=canon_zero h.1.canon
  rw [h.1.val] at this
  rw [←this]
  omega
theorem Wh.len {w:World} {ng:Bool} {ao:Option Addr} {cap:Nat} {rs:List Int} {z:Int} (h:Wh w ng ao cap rs z) {m:Nat} (hz:(z.natAbs:Int)<pw m):rs.length≤m:=canon_len h.1.canon (by rw [h.1.val];exact hz)
end Dm
end Go.Proofs.YtpofkigboedliaaGreat

namespace Go.Proofs.YtpofkigboedliaaGreat
namespace Dm
open Go.RowKit
open Lm (hide lt_of_cell lt_of_heap cmpI cmpI_lt cmpI_gt)
set_option maxRecDepth 20000 in
set_option maxHeartbeats 1000000 in
theorem nadd_same (w:World) (n1:Bool) (a1:Option Addr) (c1:Nat) (xs:List Int) (x:Int) (hx:Got w a1 c1 xs x) (a2:Option Addr) (c2:Nat) (ys:List Int) (y:Int) (hy:Got w a2 c2 ys y) (m1:xs.length≤400000) (m2:ys.length≤400000) :
    Calls Tryz.prog 69 #[.agg #[.bool n1,.slice a1 xs.length c1],.agg #[.bool n1,.slice a2 ys.length c2]] w fun e w'=>∃ ng' ao cap rs,e=.returned (.agg #[.bool ng',.slice ao rs.length cap])∧Wh w' ng' ao cap rs (sg n1 x+sg n1 y)∧rs.length≤xs.length+ys.length+1∧Below w.heap.size w w' := by
  obtain ⟨w0,e0,bx,by',br,hb0,hs0⟩:=boxed3 w n1 (.slice a1 xs.length c1) (n1) (.slice a2 ys.length c2)
  have E0:=hide e0
  have hx0:=hx.below hb0
  have hy0:=hy.below hb0
  have HB:=hb0
  have ne1:¬ (w.heap.size=w.heap.size+1+1):=by omega
  have ne2:¬ (w.heap.size+1+1=w.heap.size):=by omega
  clear e0 hs0
  cases n1 with
  | false =>
    go_enter Tryz.func69,Tryz.ntmps69
    go_wp2_with fail
    rw [E0.out]
    obtain ⟨bx1,bx2,bx3,bx4⟩:=bx.facts
    obtain ⟨by1,by2,by3,by4⟩:=by'.facts
    obtain ⟨br1,br2,br3,br4⟩:=br.facts
    go_region_held3 (fun w'=>w'.cell? ⟨w.heap.size,0,none⟩ = some (.bool false)∧w'.cell? ⟨w.heap.size,1,none⟩ = some (.slice a1 xs.length c1)∧w'.cell? ⟨w.heap.size+1,0,none⟩ = some (.bool false)∧w'.cell? ⟨w.heap.size+1,1,none⟩ = some (.slice a2 ys.length c2)) (go_keep) (first
        | (go_at_call 59;have _hq:=hb1';refine (made_w _ _ p1 q1 d1 _ (s1.below (by repeat (first | exact Below.refl _ _ | refine Below.drew ?_))) e1).mono ?_;rintro e w2 ⟨ng2,r2,rfl,G2,l2,hb2⟩;have hb2' : Below w1.heap.size w1 w2:=(show Below w1.heap.size w1 _ by repeat (first | exact Below.refl _ _ | refine Below.drew ?_)).trans hb2;have HB:=HB.trans (hb2'.mono HB.size);replace bx:=bx.below hb2';clear bx1 bx2 bx3 bx4;obtain ⟨bx1,bx2,bx3,bx4⟩:=bx.facts;replace by' := by'.below hb2';clear by1 by2 by3 by4;obtain ⟨by1,by2,by3,by4⟩:=by'.facts;replace br:=br.below hb2';clear br1 br2 br3 br4;obtain ⟨br1,br2,br3,br4⟩:=br.facts)
        | (go_at_call 91;refine (plus_any _ _ _ _ xs (hx0.sl.below (by repeat (first | exact Below.refl _ _ | refine Below.drew ?_))) _ _ _ ys (hy0.sl.below (by repeat (first | exact Below.refl _ _ | refine Below.drew ?_))) (by omega) (by omega)).mono ?_;rintro e w1 ⟨v1,rfl,D1,hb1⟩;obtain ⟨p1,q1,d1,rfl,s1,e1,l1⟩:=D1.open;clear D1;have hb1' : Below w0.heap.size w0 w1:=(show Below w0.heap.size w0 _ by repeat (first | exact Below.refl _ _ | refine Below.drew ?_)).trans hb1;have HB:=HB.trans (hb1'.mono HB.size);replace bx:=bx.below hb1';clear bx1 bx2 bx3 bx4;obtain ⟨bx1,bx2,bx3,bx4⟩:=bx.facts;replace by' := by'.below hb1';clear by1 by2 by3 by4;obtain ⟨by1,by2,by3,by4⟩:=by'.facts;replace br:=br.below hb1';clear br1 br2 br3 br4;obtain ⟨br1,br2,br3,br4⟩:=br.facts))
    all_goals
      have X:=hide (br.set ng2 (.slice p1 r2.length q1)).facts
      have Y:=hide (br.wh ng2 (.slice p1 r2.length q1) G2)
      have Z:=hide (below_set2 HB (show w.heap.size≤w.heap.size+1+1 by omega) (.bool ng2) (.slice p1 r2.length q1))
      clear bx1 bx2 bx3 bx4 by1 by2 by3 by4
      go_wp2
      refine bodyPost_ret (v:=.agg #[.bool ng2,.slice p1 r2.length q1]) ?_ rfl ⟨ng2,p1,q1,r2,rfl,by rw [←sg_add,←hx.val,←hy.val];exact Y.out,by omega,Z.out⟩
      simp [results,Tryz.results69,go_sem,X.out.1,X.out.2.1]
  | true =>
    go_enter Tryz.func69,Tryz.ntmps69
    go_wp2_with fail
    rw [E0.out]
    obtain ⟨bx1,bx2,bx3,bx4⟩:=bx.facts
    obtain ⟨by1,by2,by3,by4⟩:=by'.facts
    obtain ⟨br1,br2,br3,br4⟩:=br.facts
    go_region_held3 (fun w'=>w'.cell? ⟨w.heap.size,0,none⟩ = some (.bool true)∧w'.cell? ⟨w.heap.size,1,none⟩ = some (.slice a1 xs.length c1)∧w'.cell? ⟨w.heap.size+1,0,none⟩ = some (.bool true)∧w'.cell? ⟨w.heap.size+1,1,none⟩ = some (.slice a2 ys.length c2)) (go_keep) (first
        | (go_at_call 59;have _hq:=hb1';refine (made_w _ _ p1 q1 d1 _ (s1.below (by repeat (first | exact Below.refl _ _ | refine Below.drew ?_))) e1).mono ?_;rintro e w2 ⟨ng2,r2,rfl,G2,l2,hb2⟩;have hb2' : Below w1.heap.size w1 w2:=(show Below w1.heap.size w1 _ by repeat (first | exact Below.refl _ _ | refine Below.drew ?_)).trans hb2;have HB:=HB.trans (hb2'.mono HB.size);replace bx:=bx.below hb2';clear bx1 bx2 bx3 bx4;obtain ⟨bx1,bx2,bx3,bx4⟩:=bx.facts;replace by' := by'.below hb2';clear by1 by2 by3 by4;obtain ⟨by1,by2,by3,by4⟩:=by'.facts;replace br:=br.below hb2';clear br1 br2 br3 br4;obtain ⟨br1,br2,br3,br4⟩:=br.facts)
        | (go_at_call 91;refine (plus_any _ _ _ _ xs (hx0.sl.below (by repeat (first | exact Below.refl _ _ | refine Below.drew ?_))) _ _ _ ys (hy0.sl.below (by repeat (first | exact Below.refl _ _ | refine Below.drew ?_))) (by omega) (by omega)).mono ?_;rintro e w1 ⟨v1,rfl,D1,hb1⟩;obtain ⟨p1,q1,d1,rfl,s1,e1,l1⟩:=D1.open;clear D1;have hb1' : Below w0.heap.size w0 w1:=(show Below w0.heap.size w0 _ by repeat (first | exact Below.refl _ _ | refine Below.drew ?_)).trans hb1;have HB:=HB.trans (hb1'.mono HB.size);replace bx:=bx.below hb1';clear bx1 bx2 bx3 bx4;obtain ⟨bx1,bx2,bx3,bx4⟩:=bx.facts;replace by' := by'.below hb1';clear by1 by2 by3 by4;obtain ⟨by1,by2,by3,by4⟩:=by'.facts;replace br:=br.below hb1';clear br1 br2 br3 br4;obtain ⟨br1,br2,br3,br4⟩:=br.facts))
    all_goals
      have X:=hide (br.set ng2 (.slice p1 r2.length q1)).facts
      have Y:=hide (br.wh ng2 (.slice p1 r2.length q1) G2)
      have Z:=hide (below_set2 HB (show w.heap.size≤w.heap.size+1+1 by omega) (.bool ng2) (.slice p1 r2.length q1))
      clear bx1 bx2 bx3 bx4 by1 by2 by3 by4
      go_wp2
      refine bodyPost_ret (v:=.agg #[.bool ng2,.slice p1 r2.length q1]) ?_ rfl ⟨ng2,p1,q1,r2,rfl,by rw [←sg_add,←hx.val,←hy.val];exact Y.out,by omega,Z.out⟩
      simp [results,Tryz.results69,go_sem,X.out.1,X.out.2.1]
set_option maxRecDepth 20000 in
set_option maxHeartbeats 1000000 in
theorem nadd_ge (w:World) (n1:Bool) (a1:Option Addr) (c1:Nat) (xs:List Int) (x:Int) (hx:Got w a1 c1 xs x) (a2:Option Addr) (c2:Nat) (ys:List Int) (y:Int) (hy:Got w a2 c2 ys y) (m1:xs.length≤400000) (m2:ys.length≤400000) (hle:y≤x) (h0:0<x) :
    Calls Tryz.prog 69 #[.agg #[.bool n1,.slice a1 xs.length c1],.agg #[.bool (!n1),.slice a2 ys.length c2]] w fun e w'=>∃ ng' ao cap rs,e=.returned (.agg #[.bool ng',.slice ao rs.length cap])∧Wh w' ng' ao cap rs (sg n1 x+sg (!n1) y)∧rs.length≤xs.length+ys.length+1∧Below w.heap.size w w' := by
  obtain ⟨w0,e0,bx,by',br,hb0,hs0⟩:=boxed3 w n1 (.slice a1 xs.length c1) (!n1) (.slice a2 ys.length c2)
  have E0:=hide e0
  have hx0:=hx.below hb0
  have hy0:=hy.below hb0
  have HB:=hb0
  have ne1:¬ (w.heap.size=w.heap.size+1+1):=by omega
  have ne2:¬ (w.heap.size+1+1=w.heap.size):=by omega
  clear e0 hs0
  have K:=hide (fun w hx hy=>size_any w n1 (!n1) a1 a2 c1 c2 xs ys x y hx hy)
  have hc:0≤cmpI x y:=by
    rcases Int.lt_trichotomy x y with h | h | h
    · omega
    · rw [Lm.cmpI_eq h];omega
    · rw [cmpI_gt h];omega
  have hpos:0<xs.length:=by
    apply Classical.byContradiction
    intro hn
    have:=got_zero hx (by omega)
    omega
  have hlen:ys.length≤xs.length:=by
    apply Classical.byContradiction
    intro hn
    have:=canon_lt hx.canon hy.canon (by omega)
    rw [hx.val,hy.val] at this
    omega
  generalize cmpI x y=cv at K hc
  cases n1 with
  | false =>
    simp only [Bool.not_false] at E0 by' K ⊢
    go_enter Tryz.func69,Tryz.ntmps69
    go_wp2_with fail
    rw [E0.out]
    obtain ⟨bx1,bx2,bx3,bx4⟩:=bx.facts
    obtain ⟨by1,by2,by3,by4⟩:=by'.facts
    obtain ⟨br1,br2,br3,br4⟩:=br.facts
    refine (K.out _ hx0 hy0).mono ?_
    rintro e w9 ⟨rfl,hb9⟩
    replace HB:=HB.trans (hb9.mono HB.size)
    replace hx0:=hx0.below hb9
    replace hy0:=hy0.below hb9
    replace bx:=bx.below hb9
    replace by' := by'.below hb9
    replace br:=br.below hb9
    clear bx1 bx2 bx3 bx4 by1 by2 by3 by4 br1 br2 br3 br4
    obtain ⟨bx1,bx2,bx3,bx4⟩:=bx.facts
    obtain ⟨by1,by2,by3,by4⟩:=by'.facts
    obtain ⟨br1,br2,br3,br4⟩:=br.facts
    go_wp2_with fail
    go_region_held3 (fun w'=>w'.cell? ⟨w.heap.size,0,none⟩ = some (.bool false)∧w'.cell? ⟨w.heap.size,1,none⟩ = some (.slice a1 xs.length c1)∧w'.cell? ⟨w.heap.size+1,0,none⟩ = some (.bool true)∧w'.cell? ⟨w.heap.size+1,1,none⟩ = some (.slice a2 ys.length c2)) (go_keep) (first
        | (go_at_call 59;have _hq:=hb1';refine (made_w _ _ p1 q1 d1 _ (s1.below (by repeat (first | exact Below.refl _ _ | refine Below.drew ?_))) e1).mono ?_;rintro e w2 ⟨ng2,r2,rfl,G2,l2,hb2⟩;have hb2' : Below w1.heap.size w1 w2:=(show Below w1.heap.size w1 _ by repeat (first | exact Below.refl _ _ | refine Below.drew ?_)).trans hb2;have HB:=HB.trans (hb2'.mono HB.size);replace bx:=bx.below hb2';clear bx1 bx2 bx3 bx4;obtain ⟨bx1,bx2,bx3,bx4⟩:=bx.facts;replace by' := by'.below hb2';clear by1 by2 by3 by4;obtain ⟨by1,by2,by3,by4⟩:=by'.facts;replace br:=br.below hb2';clear br1 br2 br3 br4;obtain ⟨br1,br2,br3,br4⟩:=br.facts)
        | (go_at_call 92;refine (less_any _ _ _ _ xs (hx0.sl.below (by repeat (first | exact Below.refl _ _ | refine Below.drew ?_))) _ _ _ ys (hy0.sl.below (by repeat (first | exact Below.refl _ _ | refine Below.drew ?_))) (by omega) hlen (by rw [hx.val,hy.val];exact hle) hpos).mono ?_;rintro e w1 ⟨v1,rfl,D1,hb1⟩;obtain ⟨p1,q1,d1,rfl,s1,e1,l1⟩:=D1.open;clear D1;have hb1' : Below w9.heap.size w9 w1:=(show Below w9.heap.size w9 _ by repeat (first | exact Below.refl _ _ | refine Below.drew ?_)).trans hb1;have HB:=HB.trans (hb1'.mono HB.size);replace bx:=bx.below hb1';clear bx1 bx2 bx3 bx4;obtain ⟨bx1,bx2,bx3,bx4⟩:=bx.facts;replace by' := by'.below hb1';clear by1 by2 by3 by4;obtain ⟨by1,by2,by3,by4⟩:=by'.facts;replace br:=br.below hb1';clear br1 br2 br3 br4;obtain ⟨br1,br2,br3,br4⟩:=br.facts))
    all_goals
      have X:=hide (br.set ng2 (.slice p1 r2.length q1)).facts
      have Y:=hide (br.wh ng2 (.slice p1 r2.length q1) G2)
      have Z:=hide (below_set2 HB (show w.heap.size≤w.heap.size+1+1 by omega) (.bool ng2) (.slice p1 r2.length q1))
      clear bx1 bx2 bx3 bx4 by1 by2 by3 by4
      go_wp2
      refine bodyPost_ret (v:=.agg #[.bool ng2,.slice p1 r2.length q1]) ?_ rfl ⟨ng2,p1,q1,r2,rfl,by rw [show sg false x+sg true y=sg false (Dm.val xs - Dm.val ys) by rw [hx.val,hy.val];simp [sg];omega];exact Y.out,by omega,Z.out⟩
      simp [results,Tryz.results69,go_sem,X.out.1,X.out.2.1]
  | true =>
    simp only [Bool.not_true] at E0 by' K ⊢
    go_enter Tryz.func69,Tryz.ntmps69
    go_wp2_with fail
    rw [E0.out]
    obtain ⟨bx1,bx2,bx3,bx4⟩:=bx.facts
    obtain ⟨by1,by2,by3,by4⟩:=by'.facts
    obtain ⟨br1,br2,br3,br4⟩:=br.facts
    refine (K.out _ hx0 hy0).mono ?_
    rintro e w9 ⟨rfl,hb9⟩
    replace HB:=HB.trans (hb9.mono HB.size)
    replace hx0:=hx0.below hb9
    replace hy0:=hy0.below hb9
    replace bx:=bx.below hb9
    replace by' := by'.below hb9
    replace br:=br.below hb9
    clear bx1 bx2 bx3 bx4 by1 by2 by3 by4 br1 br2 br3 br4
    obtain ⟨bx1,bx2,bx3,bx4⟩:=bx.facts
    obtain ⟨by1,by2,by3,by4⟩:=by'.facts
    obtain ⟨br1,br2,br3,br4⟩:=br.facts
    go_wp2_with fail
    go_region_held3 (fun w'=>w'.cell? ⟨w.heap.size,0,none⟩ = some (.bool true)∧w'.cell? ⟨w.heap.size,1,none⟩ = some (.slice a1 xs.length c1)∧w'.cell? ⟨w.heap.size+1,0,none⟩ = some (.bool false)∧w'.cell? ⟨w.heap.size+1,1,none⟩ = some (.slice a2 ys.length c2)) (go_keep) (first
        | (go_at_call 59;have _hq:=hb1';refine (made_w _ _ p1 q1 d1 _ (s1.below (by repeat (first | exact Below.refl _ _ | refine Below.drew ?_))) e1).mono ?_;rintro e w2 ⟨ng2,r2,rfl,G2,l2,hb2⟩;have hb2' : Below w1.heap.size w1 w2:=(show Below w1.heap.size w1 _ by repeat (first | exact Below.refl _ _ | refine Below.drew ?_)).trans hb2;have HB:=HB.trans (hb2'.mono HB.size);replace bx:=bx.below hb2';clear bx1 bx2 bx3 bx4;obtain ⟨bx1,bx2,bx3,bx4⟩:=bx.facts;replace by' := by'.below hb2';clear by1 by2 by3 by4;obtain ⟨by1,by2,by3,by4⟩:=by'.facts;replace br:=br.below hb2';clear br1 br2 br3 br4;obtain ⟨br1,br2,br3,br4⟩:=br.facts)
        | (go_at_call 92;refine (less_any _ _ _ _ xs (hx0.sl.below (by repeat (first | exact Below.refl _ _ | refine Below.drew ?_))) _ _ _ ys (hy0.sl.below (by repeat (first | exact Below.refl _ _ | refine Below.drew ?_))) (by omega) hlen (by rw [hx.val,hy.val];exact hle) hpos).mono ?_;rintro e w1 ⟨v1,rfl,D1,hb1⟩;obtain ⟨p1,q1,d1,rfl,s1,e1,l1⟩:=D1.open;clear D1;have hb1' : Below w9.heap.size w9 w1:=(show Below w9.heap.size w9 _ by repeat (first | exact Below.refl _ _ | refine Below.drew ?_)).trans hb1;have HB:=HB.trans (hb1'.mono HB.size);replace bx:=bx.below hb1';clear bx1 bx2 bx3 bx4;obtain ⟨bx1,bx2,bx3,bx4⟩:=bx.facts;replace by' := by'.below hb1';clear by1 by2 by3 by4;obtain ⟨by1,by2,by3,by4⟩:=by'.facts;replace br:=br.below hb1';clear br1 br2 br3 br4;obtain ⟨br1,br2,br3,br4⟩:=br.facts))
    all_goals
      have X:=hide (br.set ng2 (.slice p1 r2.length q1)).facts
      have Y:=hide (br.wh ng2 (.slice p1 r2.length q1) G2)
      have Z:=hide (below_set2 HB (show w.heap.size≤w.heap.size+1+1 by omega) (.bool ng2) (.slice p1 r2.length q1))
      clear bx1 bx2 bx3 bx4 by1 by2 by3 by4
      go_wp2
      refine bodyPost_ret (v:=.agg #[.bool ng2,.slice p1 r2.length q1]) ?_ rfl ⟨ng2,p1,q1,r2,rfl,by rw [show sg true x+sg false y=sg true (Dm.val xs - Dm.val ys) by rw [hx.val,hy.val];simp [sg];omega];exact Y.out,by omega,Z.out⟩
      simp [results,Tryz.results69,go_sem,X.out.1,X.out.2.1]
set_option maxRecDepth 20000 in
set_option maxHeartbeats 1000000 in
theorem nadd_lt (w:World) (n1:Bool) (a1:Option Addr) (c1:Nat) (xs:List Int) (x:Int) (hx:Got w a1 c1 xs x) (a2:Option Addr) (c2:Nat) (ys:List Int) (y:Int) (hy:Got w a2 c2 ys y) (m1:xs.length≤400000) (m2:ys.length≤400000) (hle:x<y) :
    Calls Tryz.prog 69 #[.agg #[.bool n1,.slice a1 xs.length c1],.agg #[.bool (!n1),.slice a2 ys.length c2]] w fun e w'=>∃ ng' ao cap rs,e=.returned (.agg #[.bool ng',.slice ao rs.length cap])∧Wh w' ng' ao cap rs (sg n1 x+sg (!n1) y)∧rs.length≤xs.length+ys.length+1∧Below w.heap.size w w' := by
  obtain ⟨w0,e0,bx,by',br,hb0,hs0⟩:=boxed3 w n1 (.slice a1 xs.length c1) (!n1) (.slice a2 ys.length c2)
  have E0:=hide e0
  have hx0:=hx.below hb0
  have hy0:=hy.below hb0
  have HB:=hb0
  have ne1:¬ (w.heap.size=w.heap.size+1+1):=by omega
  have ne2:¬ (w.heap.size+1+1=w.heap.size):=by omega
  clear e0 hs0
  have K:=hide (fun w hx hy=>size_any w n1 (!n1) a1 a2 c1 c2 xs ys x y hx hy)
  have hc:¬ 0≤cmpI x y:=by rw [cmpI_lt hle];omega
  have hpos:0<ys.length:=by
    apply Classical.byContradiction
    intro hn
    have h1:=got_zero hy (by omega)
    have h2:=(val_bounds hx.canon.1).1
    rw [hx.val] at h2
    omega
  have hlen:xs.length≤ys.length:=by
    apply Classical.byContradiction
    intro hn
    have:=canon_lt hy.canon hx.canon (by omega)
    rw [hx.val,hy.val] at this
    omega
  generalize cmpI x y=cv at K hc
  cases n1 with
  | false =>
    simp only [Bool.not_false] at E0 by' K ⊢
    go_enter Tryz.func69,Tryz.ntmps69
    go_wp2_with fail
    rw [E0.out]
    obtain ⟨bx1,bx2,bx3,bx4⟩:=bx.facts
    obtain ⟨by1,by2,by3,by4⟩:=by'.facts
    obtain ⟨br1,br2,br3,br4⟩:=br.facts
    refine (K.out _ hx0 hy0).mono ?_
    rintro e w9 ⟨rfl,hb9⟩
    replace HB:=HB.trans (hb9.mono HB.size)
    replace hx0:=hx0.below hb9
    replace hy0:=hy0.below hb9
    replace bx:=bx.below hb9
    replace by' := by'.below hb9
    replace br:=br.below hb9
    clear bx1 bx2 bx3 bx4 by1 by2 by3 by4 br1 br2 br3 br4
    obtain ⟨bx1,bx2,bx3,bx4⟩:=bx.facts
    obtain ⟨by1,by2,by3,by4⟩:=by'.facts
    obtain ⟨br1,br2,br3,br4⟩:=br.facts
    go_wp2_with fail
    go_region_held3 (fun w'=>w'.cell? ⟨w.heap.size,0,none⟩ = some (.bool false)∧w'.cell? ⟨w.heap.size,1,none⟩ = some (.slice a1 xs.length c1)∧w'.cell? ⟨w.heap.size+1,0,none⟩ = some (.bool true)∧w'.cell? ⟨w.heap.size+1,1,none⟩ = some (.slice a2 ys.length c2)) (go_keep) (first
        | (go_at_call 59;have _hq:=hb1';refine (made_w _ _ p1 q1 d1 _ (s1.below (by repeat (first | exact Below.refl _ _ | refine Below.drew ?_))) e1).mono ?_;rintro e w2 ⟨ng2,r2,rfl,G2,l2,hb2⟩;have hb2' : Below w1.heap.size w1 w2:=(show Below w1.heap.size w1 _ by repeat (first | exact Below.refl _ _ | refine Below.drew ?_)).trans hb2;have HB:=HB.trans (hb2'.mono HB.size);replace bx:=bx.below hb2';clear bx1 bx2 bx3 bx4;obtain ⟨bx1,bx2,bx3,bx4⟩:=bx.facts;replace by' := by'.below hb2';clear by1 by2 by3 by4;obtain ⟨by1,by2,by3,by4⟩:=by'.facts;replace br:=br.below hb2';clear br1 br2 br3 br4;obtain ⟨br1,br2,br3,br4⟩:=br.facts)
        | (go_at_call 92;refine (less_any _ _ _ _ ys (hy0.sl.below (by repeat (first | exact Below.refl _ _ | refine Below.drew ?_))) _ _ _ xs (hx0.sl.below (by repeat (first | exact Below.refl _ _ | refine Below.drew ?_))) (by omega) hlen (by rw [hx.val,hy.val];omega) hpos).mono ?_;rintro e w1 ⟨v1,rfl,D1,hb1⟩;obtain ⟨p1,q1,d1,rfl,s1,e1,l1⟩:=D1.open;clear D1;have hb1' : Below w9.heap.size w9 w1:=(show Below w9.heap.size w9 _ by repeat (first | exact Below.refl _ _ | refine Below.drew ?_)).trans hb1;have HB:=HB.trans (hb1'.mono HB.size);replace bx:=bx.below hb1';clear bx1 bx2 bx3 bx4;obtain ⟨bx1,bx2,bx3,bx4⟩:=bx.facts;replace by' := by'.below hb1';clear by1 by2 by3 by4;obtain ⟨by1,by2,by3,by4⟩:=by'.facts;replace br:=br.below hb1';clear br1 br2 br3 br4;obtain ⟨br1,br2,br3,br4⟩:=br.facts))
    all_goals
      have X:=hide (br.set ng2 (.slice p1 r2.length q1)).facts
      have Y:=hide (br.wh ng2 (.slice p1 r2.length q1) G2)
      have Z:=hide (below_set2 HB (show w.heap.size≤w.heap.size+1+1 by omega) (.bool ng2) (.slice p1 r2.length q1))
      clear bx1 bx2 bx3 bx4 by1 by2 by3 by4
      go_wp2
      refine bodyPost_ret (v:=.agg #[.bool ng2,.slice p1 r2.length q1]) ?_ rfl ⟨ng2,p1,q1,r2,rfl,by rw [show sg false x+sg true y=sg true (Dm.val ys - Dm.val xs) by rw [hx.val,hy.val];simp [sg];omega];exact Y.out,by omega,Z.out⟩
      simp [results,Tryz.results69,go_sem,X.out.1,X.out.2.1]
  | true =>
    simp only [Bool.not_true] at E0 by' K ⊢
    go_enter Tryz.func69,Tryz.ntmps69
    go_wp2_with fail
    rw [E0.out]
    obtain ⟨bx1,bx2,bx3,bx4⟩:=bx.facts
    obtain ⟨by1,by2,by3,by4⟩:=by'.facts
    obtain ⟨br1,br2,br3,br4⟩:=br.facts
    refine (K.out _ hx0 hy0).mono ?_
    rintro e w9 ⟨rfl,hb9⟩
    replace HB:=HB.trans (hb9.mono HB.size)
    replace hx0:=hx0.below hb9
    replace hy0:=hy0.below hb9
    replace bx:=bx.below hb9
    replace by' := by'.below hb9
    replace br:=br.below hb9
    clear bx1 bx2 bx3 bx4 by1 by2 by3 by4 br1 br2 br3 br4
    obtain ⟨bx1,bx2,bx3,bx4⟩:=bx.facts
    obtain ⟨by1,by2,by3,by4⟩:=by'.facts
    obtain ⟨br1,br2,br3,br4⟩:=br.facts
    go_wp2_with fail
    go_region_held3 (fun w'=>w'.cell? ⟨w.heap.size,0,none⟩ = some (.bool true)∧w'.cell? ⟨w.heap.size,1,none⟩ = some (.slice a1 xs.length c1)∧w'.cell? ⟨w.heap.size+1,0,none⟩ = some (.bool false)∧w'.cell? ⟨w.heap.size+1,1,none⟩ = some (.slice a2 ys.length c2)) (go_keep) (first
        | (go_at_call 59;have _hq:=hb1';refine (made_w _ _ p1 q1 d1 _ (s1.below (by repeat (first | exact Below.refl _ _ | refine Below.drew ?_))) e1).mono ?_;rintro e w2 ⟨ng2,r2,rfl,G2,l2,hb2⟩;have hb2' : Below w1.heap.size w1 w2:=(show Below w1.heap.size w1 _ by repeat (first | exact Below.refl _ _ | refine Below.drew ?_)).trans hb2;have HB:=HB.trans (hb2'.mono HB.size);replace bx:=bx.below hb2';clear bx1 bx2 bx3 bx4;obtain ⟨bx1,bx2,bx3,bx4⟩:=bx.facts;replace by' := by'.below hb2';clear by1 by2 by3 by4;obtain ⟨by1,by2,by3,by4⟩:=by'.facts;replace br:=br.below hb2';clear br1 br2 br3 br4;obtain ⟨br1,br2,br3,br4⟩:=br.facts)
        | (go_at_call 92;refine (less_any _ _ _ _ ys (hy0.sl.below (by repeat (first | exact Below.refl _ _ | refine Below.drew ?_))) _ _ _ xs (hx0.sl.below (by repeat (first | exact Below.refl _ _ | refine Below.drew ?_))) (by omega) hlen (by rw [hx.val,hy.val];omega) hpos).mono ?_;rintro e w1 ⟨v1,rfl,D1,hb1⟩;obtain ⟨p1,q1,d1,rfl,s1,e1,l1⟩:=D1.open;clear D1;have hb1' : Below w9.heap.size w9 w1:=(show Below w9.heap.size w9 _ by repeat (first | exact Below.refl _ _ | refine Below.drew ?_)).trans hb1;have HB:=HB.trans (hb1'.mono HB.size);replace bx:=bx.below hb1';clear bx1 bx2 bx3 bx4;obtain ⟨bx1,bx2,bx3,bx4⟩:=bx.facts;replace by' := by'.below hb1';clear by1 by2 by3 by4;obtain ⟨by1,by2,by3,by4⟩:=by'.facts;replace br:=br.below hb1';clear br1 br2 br3 br4;obtain ⟨br1,br2,br3,br4⟩:=br.facts))
    all_goals
      have X:=hide (br.set ng2 (.slice p1 r2.length q1)).facts
      have Y:=hide (br.wh ng2 (.slice p1 r2.length q1) G2)
      have Z:=hide (below_set2 HB (show w.heap.size≤w.heap.size+1+1 by omega) (.bool ng2) (.slice p1 r2.length q1))
      clear bx1 bx2 bx3 bx4 by1 by2 by3 by4
      go_wp2
      refine bodyPost_ret (v:=.agg #[.bool ng2,.slice p1 r2.length q1]) ?_ rfl ⟨ng2,p1,q1,r2,rfl,by rw [show sg true x+sg false y=sg false (Dm.val ys - Dm.val xs) by rw [hx.val,hy.val];simp [sg];omega];exact Y.out,by omega,Z.out⟩
      simp [results,Tryz.results69,go_sem,X.out.1,X.out.2.1]
theorem nadd_g (w:World) (n1:Bool) (a1:Option Addr) (c1:Nat) (xs:List Int) (x:Int) (hx:Wh w n1 a1 c1 xs x) (n2:Bool) (a2:Option Addr) (c2:Nat) (ys:List Int) (y:Int) (hy:Wh w n2 a2 c2 ys y) (m1:xs.length≤400000) (m2:ys.length≤400000) :
    Calls Tryz.prog 69 #[.agg #[.bool n1,.slice a1 xs.length c1],.agg #[.bool n2,.slice a2 ys.length c2]] w fun e w'=>∃ ng' ao cap rs,e=.returned (.agg #[.bool ng',.slice ao rs.length cap])∧Wh w' ng' ao cap rs (x+y)∧rs.length≤xs.length+ys.length+1∧Below w.heap.size w w' := by
  have wx:=hx.worth
  have wy:=hy.worth
  rw [hx.1.val] at wx
  rw [hy.1.val] at wy
  rw [show x+y=sg n1 (x.natAbs:Int)+sg n2 (y.natAbs:Int) by rw [wx,wy]]
  by_cases hn:n1=n2
  · subst hn
    exact nadd_same w n1 a1 c1 xs _ hx.1 a2 c2 ys _ hy.1 m1 m2
  · have hn2:n2 = !n1:=by cases n1 <;> cases n2 <;> simp_all
    have s1:=hx.2
    have s2:=hy.2
    subst hn2
    by_cases hle:(y.natAbs:Int)≤(x.natAbs:Int)
    · refine nadd_ge w n1 a1 c1 xs _ hx.1 a2 c2 ys _ hy.1 m1 m2 hle ?_
      cases n1
      · have:y<0:=by simpa using s2.symm
        omega
      · have:x<0:=by simpa using s1.symm
        omega
    · exact nadd_lt w n1 a1 c1 xs _ hx.1 a2 c2 ys _ hy.1 m1 m2 (by omega)
end Dm
end Go.Proofs.YtpofkigboedliaaGreat

namespace Go.Proofs.YtpofkigboedliaaGreat
namespace Dm
open Go.RowKit
open Lm (hide lt_of_cell lt_of_heap cmpI cmpI_lt cmpI_gt)
theorem copied {w:World} {B g n cap:Nat} {zs:List Int} (h:w.ownsRow B 3 1 (.slice (some ⟨g,0,none⟩) n cap) n ([] ++ zs.map (Value.int .i64))) (hz:Limb zs):Sl w (.slice (some ⟨g,0,none⟩) zs.length cap) zs:=by
  have hn:zs.length=n:=by simpa using h.1
  subst hn
  rw [List.nil_append] at h
  exact (ow_of_row h hz).sl
set_option maxRecDepth 20000 in
set_option maxHeartbeats 1000000 in
theorem minus_some (w:World) (ng:Bool) (a1:Option Addr) (c1:Nat) (xs:List Int) (x:Int) (hx:Got w a1 c1 xs x) (m1:xs.length≤1000000) (h0:0<xs.length) :
    Calls Tryz.prog 56 #[.agg #[.bool ng,.slice a1 xs.length c1]] w fun e w'=>∃ ng' ao cap rs,e=.returned (.agg #[.bool ng',.slice ao rs.length cap])∧Wh w' ng' ao cap rs (sg (!ng) x)∧rs.length≤xs.length∧Below w.heap.size w w' := by
  obtain ⟨b,off,rfl,_⟩:=hx.sl.cells h0
  obtain ⟨w0,e0,bx,br,hb0,hs0⟩:=boxed1 w ng (.slice (some ⟨b,off,none⟩) xs.length c1)
  have E0:=hide e0
  obtain ⟨i0,hi,hz0,hz1,hz2⟩:=info_parts info64
  obtain ⟨_,p1,p2,p3⟩:=hx.sl.parts
  have P3:=hide p3
  have hx0:=hx.below hb0
  have HB:=hb0
  clear e0 hs0 p3
  go_enter Tryz.func56,Tryz.ntmps56
  go_wp2_with fail
  rw [E0.out]
  obtain ⟨bx1,bx2,bx3,bx4⟩:=bx.facts
  obtain ⟨br1,br2,br3,br4⟩:=br.facts
  go_region_held3 (fun w'=>w'.cell? ⟨w.heap.size,0,none⟩ = some (.bool ng)∧w'.cell? ⟨w.heap.size,1,none⟩ = some (.slice (some ⟨b,off,none⟩) xs.length c1)) (go_keep) (first
    | (go_at_call 59;refine (made_w _ _ _ _ xs _ (s1.below (by repeat (first | exact Below.refl _ _ | refine Below.drew ?_))) hx.val).mono ?_;rintro e w2 ⟨ng2,r2,rfl,G2,l2,hb2⟩;have hb2' : Below w1.heap.size w1 w2:=(show Below w1.heap.size w1 _ by repeat (first | exact Below.refl _ _ | refine Below.drew ?_)).trans hb2;have HB:=HB.trans (hb2'.mono HB.size);replace bx:=bx.below hb2';clear bx1 bx2 bx3 bx4;obtain ⟨bx1,bx2,bx3,bx4⟩:=bx.facts;replace br:=br.below hb2';clear br1 br2 br3 br4;obtain ⟨br1,br2,br3,br4⟩:=br.facts)
    | ((refine step_append_lies _ (by rfl) _ _ _ (by rfl) w0.heap.size 3 i0 _ 1 8 Tryz.underlying52 hi hz0 hz1 hz2 rfl (by omega) (.slice none 0 0) 0 [] (by rfl) (World.ownsRow_nil _ _ _ _) ⟨b,off,none⟩ xs.length c1 (xs.map (Value.int .i64)) (by rfl) (by simp) (Sl.copy (hx0.sl.below (by repeat (first | exact Below.refl _ _ | refine Below.drew ?_)))) (one_cells xs) (by omega) (by unfold maxLen;omega) (by omega) (by simp) w0.heap.size (by simp) ?_;intro g1 q1 w1 hown hgrow hat hlt;have hb1' : Below w0.heap.size w0 w1:=(show Below w0.heap.size w0 _ by repeat (first | exact Below.refl _ _ | refine Below.drew ?_)).grown hgrow (by simp) (by intro k hk;simp [Value.ownBlock] at hk);have HB:=HB.trans (hb1'.mono HB.size);have s1:=copied hown P3.out;replace bx:=bx.below hb1';clear bx1 bx2 bx3 bx4;obtain ⟨bx1,bx2,bx3,bx4⟩:=bx.facts;replace br:=br.below hb1';clear br1 br2 br3 br4;obtain ⟨br1,br2,br3,br4⟩:=br.facts)))
  all_goals
    have X:=hide (br.set ng2 (.slice (some ⟨g1,0,none⟩) r2.length q1)).facts
    have Y:=hide (br.wh ng2 (.slice (some ⟨g1,0,none⟩) r2.length q1) G2)
    have Z:=hide (below_set2 HB (show w.heap.size≤w.heap.size+1 by omega) (.bool ng2) (.slice (some ⟨g1,0,none⟩) r2.length q1))
    clear bx1 bx2 bx3 bx4
    go_wp2
    refine bodyPost_ret (v:=.agg #[.bool ng2,.slice (some ⟨g1,0,none⟩) r2.length q1]) ?_ rfl ⟨ng2,(some ⟨g1,0,none⟩),q1,r2,rfl,Y.out,by omega,Z.out⟩
    simp [results,Tryz.results56,go_sem,X.out.1,X.out.2.1]
set_option maxRecDepth 20000 in
set_option maxHeartbeats 1000000 in
theorem abs_some (w:World) (ng:Bool) (a1:Option Addr) (c1:Nat) (xs:List Int) (x:Int) (hx:Got w a1 c1 xs x) (m1:xs.length≤1000000) (h0:0<xs.length) :
    Calls Tryz.prog 76 #[.agg #[.bool ng,.slice a1 xs.length c1]] w fun e w'=>∃ ng' ao cap rs,e=.returned (.agg #[.bool ng',.slice ao rs.length cap])∧Wh w' ng' ao cap rs (sg false x)∧rs.length≤xs.length∧Below w.heap.size w w' := by
  obtain ⟨b,off,rfl,_⟩:=hx.sl.cells h0
  obtain ⟨w0,rfl,bx,br,hb0,hs0⟩:=boxed1 w ng (.slice (some ⟨b,off,none⟩) xs.length c1)
  obtain ⟨i0,hi,hz0,hz1,hz2⟩:=info_parts info64
  obtain ⟨_,p1,p2,p3⟩:=hx.sl.parts
  have P3:=hide p3
  have hx0:=hx.below hb0
  have HB:=hb0
  clear p3
  go_enter Tryz.func76,Tryz.ntmps76
  go_wp2_with (at_builtin;refine wpList_append_lies _ rfl _ _ _ rfl w.heap.size 3 i0 _ 1 8 Tryz.underlying52 hi hz0 hz1 hz2 rfl (by omega) (.slice none 0 0) 0 [] rfl (World.ownsRow_nil _ _ _ _) ⟨b,off,none⟩ xs.length c1 (xs.map (Value.int .i64)) rfl (by simp) (Sl.copy hx0.sl) (one_cells xs) (by omega) (by unfold maxLen;omega) (by omega) (by simp;omega) (w.heap.size+2) (by simp) ?_)
  intro g1 q1 w1 hown hgrow hat hlt
  have hb1:=Below.grown (Below.refl _ _) hgrow (Nat.le_refl _) (by intro k hk;simp [Value.ownBlock] at hk)
  have HB:=HB.trans (hb1.mono HB.size)
  have s1:=copied hown P3.out
  replace bx:=bx.below hb1
  replace br:=br.below hb1
  clear hown hgrow hat hx0
  go_wp2_with fail
  try rw [Nat.zero_add]
  refine (made_w _ _ _ _ xs _ s1 hx.val).mono ?_
  rintro e w2 ⟨ng2,r2,rfl,G2,l2,hb2⟩
  replace HB:=HB.trans (hb2.mono HB.size)
  replace bx:=bx.below hb2
  replace br:=br.below hb2
  obtain ⟨bx1,bx2,bx3,bx4⟩:=bx.facts
  obtain ⟨br1,br2,br3,br4⟩:=br.facts
  all_goals
    have X:=hide (br.set ng2 (.slice (some ⟨g1,0,none⟩) r2.length q1)).facts
    have Y:=hide (br.wh ng2 (.slice (some ⟨g1,0,none⟩) r2.length q1) G2)
    have Z:=hide (below_set2 HB (show w.heap.size≤w.heap.size+1 by omega) (.bool ng2) (.slice (some ⟨g1,0,none⟩) r2.length q1))
    clear bx1 bx2 bx3 bx4
    go_wp2
    refine bodyPost_ret (v:=.agg #[.bool ng2,.slice (some ⟨g1,0,none⟩) r2.length q1]) ?_ rfl ⟨ng2,(some ⟨g1,0,none⟩),q1,r2,rfl,Y.out,by omega,Z.out⟩
    simp [results,Tryz.results76,go_sem,X.out.1,X.out.2.1]
theorem sl_nil (w:World):Sl w (.slice none ([]:List Int).length 0) []:=⟨none,0,rfl,Nat.le_refl _,by simp [maxLen],limb_nil,.inl rfl⟩
set_option maxRecDepth 20000 in
set_option maxHeartbeats 1000000 in
theorem minus_nonea (w:World) (ng:Bool) (c1:Nat) (_hc:c1≤9223372036854775807) :
    Calls Tryz.prog 56 #[.agg #[.bool ng,.slice none 0 c1]] w fun e w'=>∃ ng' ao cap rs,e=.returned (.agg #[.bool ng',.slice ao rs.length cap])∧Wh w' ng' ao cap rs (sg (!ng) 0)∧rs.length≤0∧Below w.heap.size w w' := by
  obtain ⟨w0,e0,bx,br,hb0,hs0⟩:=boxed1 w ng (.slice none 0 c1)
  have E0:=hide e0
  have HB:=hb0
  clear e0 hs0
  go_enter Tryz.func56,Tryz.ntmps56
  go_wp2_with fail
  rw [E0.out]
  obtain ⟨bx1,bx2,bx3,bx4⟩:=bx.facts
  obtain ⟨br1,br2,br3,br4⟩:=br.facts
  go_region_held3 (fun w'=>w'.cell? ⟨w.heap.size,0,none⟩ = some (.bool ng)∧w'.cell? ⟨w.heap.size,1,none⟩ = some (.slice none 0 c1)) (go_keep) (first
    | (go_at_call 59;refine (made_w _ _ none 0 [] 0 (sl_nil _) rfl).mono ?_;rintro e w2 ⟨ng2,r2,rfl,G2,l2,hb2⟩;have hb2' : Below w0.heap.size w0 w2:=(show Below w0.heap.size w0 _ by repeat (first | exact Below.refl _ _ | refine Below.drew ?_)).trans hb2;have HB:=HB.trans (hb2'.mono HB.size);replace bx:=bx.below hb2';clear bx1 bx2 bx3 bx4;obtain ⟨bx1,bx2,bx3,bx4⟩:=bx.facts;replace br:=br.below hb2';clear br1 br2 br3 br4;obtain ⟨br1,br2,br3,br4⟩:=br.facts))
  all_goals
    have X:=hide (br.set ng2 (.slice none r2.length 0)).facts
    have Y:=hide (br.wh ng2 (.slice none r2.length 0) G2)
    have Z:=hide (below_set2 HB (show w.heap.size≤w.heap.size+1 by omega) (.bool ng2) (.slice none r2.length 0))
    clear bx1 bx2 bx3 bx4
    go_wp2
    refine bodyPost_ret (v:=.agg #[.bool ng2,.slice none r2.length 0]) ?_ rfl ⟨ng2,none,0,r2,rfl,Y.out,by simpa using l2,Z.out⟩
    simp [results,Tryz.results56,go_sem,X.out.1,X.out.2.1]
set_option maxRecDepth 20000 in
set_option maxHeartbeats 1000000 in
theorem minus_noneb (w:World) (ng:Bool) (ad:Addr) (c1:Nat) (_hc:c1≤9223372036854775807) :
    Calls Tryz.prog 56 #[.agg #[.bool ng,.slice (some ad) 0 c1]] w fun e w'=>∃ ng' ao cap rs,e=.returned (.agg #[.bool ng',.slice ao rs.length cap])∧Wh w' ng' ao cap rs (sg (!ng) 0)∧rs.length≤0∧Below w.heap.size w w' := by
  obtain ⟨w0,e0,bx,br,hb0,hs0⟩:=boxed1 w ng (.slice (some ad) 0 c1)
  have E0:=hide e0
  have HB:=hb0
  clear e0 hs0
  go_enter Tryz.func56,Tryz.ntmps56
  go_wp2_with fail
  rw [E0.out]
  obtain ⟨bx1,bx2,bx3,bx4⟩:=bx.facts
  obtain ⟨br1,br2,br3,br4⟩:=br.facts
  go_region_held3 (fun w'=>w'.cell? ⟨w.heap.size,0,none⟩ = some (.bool ng)∧w'.cell? ⟨w.heap.size,1,none⟩ = some (.slice (some ad) 0 c1)) (go_keep) (first
    | (go_at_call 59;refine (made_w _ _ none 0 [] 0 (sl_nil _) rfl).mono ?_;rintro e w2 ⟨ng2,r2,rfl,G2,l2,hb2⟩;have hb2' : Below w0.heap.size w0 w2:=(show Below w0.heap.size w0 _ by repeat (first | exact Below.refl _ _ | refine Below.drew ?_)).trans hb2;have HB:=HB.trans (hb2'.mono HB.size);replace bx:=bx.below hb2';clear bx1 bx2 bx3 bx4;obtain ⟨bx1,bx2,bx3,bx4⟩:=bx.facts;replace br:=br.below hb2';clear br1 br2 br3 br4;obtain ⟨br1,br2,br3,br4⟩:=br.facts))
  all_goals
    have X:=hide (br.set ng2 (.slice none r2.length 0)).facts
    have Y:=hide (br.wh ng2 (.slice none r2.length 0) G2)
    have Z:=hide (below_set2 HB (show w.heap.size≤w.heap.size+1 by omega) (.bool ng2) (.slice none r2.length 0))
    clear bx1 bx2 bx3 bx4
    go_wp2
    refine bodyPost_ret (v:=.agg #[.bool ng2,.slice none r2.length 0]) ?_ rfl ⟨ng2,none,0,r2,rfl,Y.out,by simpa using l2,Z.out⟩
    simp [results,Tryz.results56,go_sem,X.out.1,X.out.2.1]
set_option maxRecDepth 20000 in
set_option maxHeartbeats 1000000 in
theorem abs_nonea (w:World) (ng:Bool) (c1:Nat) (_hc:c1≤9223372036854775807) :
    Calls Tryz.prog 76 #[.agg #[.bool ng,.slice none 0 c1]] w fun e w'=>∃ ng' ao cap rs,e=.returned (.agg #[.bool ng',.slice ao rs.length cap])∧Wh w' ng' ao cap rs (sg false 0)∧rs.length≤0∧Below w.heap.size w w' := by
  obtain ⟨w0,e0,bx,br,hb0,hs0⟩:=boxed1 w ng (.slice none 0 c1)
  have E0:=hide e0
  have HB:=hb0
  clear e0 hs0
  go_enter Tryz.func76,Tryz.ntmps76
  go_wp2_with fail
  rw [E0.out]
  obtain ⟨bx1,bx2,bx3,bx4⟩:=bx.facts
  obtain ⟨br1,br2,br3,br4⟩:=br.facts
  refine (made_w _ _ none 0 [] 0 (sl_nil _) rfl).mono ?_
  rintro e w2 ⟨ng2,r2,rfl,G2,l2,hb2⟩
  replace HB:=HB.trans (hb2.mono HB.size)
  replace bx:=bx.below hb2
  replace br:=br.below hb2
  clear bx1 bx2 bx3 bx4 br1 br2 br3 br4
  obtain ⟨bx1,bx2,bx3,bx4⟩:=bx.facts
  obtain ⟨br1,br2,br3,br4⟩:=br.facts
  all_goals
    have X:=hide (br.set ng2 (.slice none r2.length 0)).facts
    have Y:=hide (br.wh ng2 (.slice none r2.length 0) G2)
    have Z:=hide (below_set2 HB (show w.heap.size≤w.heap.size+1 by omega) (.bool ng2) (.slice none r2.length 0))
    clear bx1 bx2 bx3 bx4
    go_wp2
    refine bodyPost_ret (v:=.agg #[.bool ng2,.slice none r2.length 0]) ?_ rfl ⟨ng2,none,0,r2,rfl,Y.out,by simpa using l2,Z.out⟩
    simp [results,Tryz.results76,go_sem,X.out.1,X.out.2.1]
set_option maxRecDepth 20000 in
set_option maxHeartbeats 1000000 in
theorem abs_noneb (w:World) (ng:Bool) (ad:Addr) (c1:Nat) (_hc:c1≤9223372036854775807) :
    Calls Tryz.prog 76 #[.agg #[.bool ng,.slice (some ad) 0 c1]] w fun e w'=>∃ ng' ao cap rs,e=.returned (.agg #[.bool ng',.slice ao rs.length cap])∧Wh w' ng' ao cap rs (sg false 0)∧rs.length≤0∧Below w.heap.size w w' := by
  obtain ⟨w0,e0,bx,br,hb0,hs0⟩:=boxed1 w ng (.slice (some ad) 0 c1)
  have E0:=hide e0
  have HB:=hb0
  clear e0 hs0
  go_enter Tryz.func76,Tryz.ntmps76
  go_wp2_with fail
  rw [E0.out]
  obtain ⟨bx1,bx2,bx3,bx4⟩:=bx.facts
  obtain ⟨br1,br2,br3,br4⟩:=br.facts
  refine (made_w _ _ none 0 [] 0 (sl_nil _) rfl).mono ?_
  rintro e w2 ⟨ng2,r2,rfl,G2,l2,hb2⟩
  replace HB:=HB.trans (hb2.mono HB.size)
  replace bx:=bx.below hb2
  replace br:=br.below hb2
  clear bx1 bx2 bx3 bx4 br1 br2 br3 br4
  obtain ⟨bx1,bx2,bx3,bx4⟩:=bx.facts
  obtain ⟨br1,br2,br3,br4⟩:=br.facts
  all_goals
    have X:=hide (br.set ng2 (.slice none r2.length 0)).facts
    have Y:=hide (br.wh ng2 (.slice none r2.length 0) G2)
    have Z:=hide (below_set2 HB (show w.heap.size≤w.heap.size+1 by omega) (.bool ng2) (.slice none r2.length 0))
    clear bx1 bx2 bx3 bx4
    go_wp2
    refine bodyPost_ret (v:=.agg #[.bool ng2,.slice none r2.length 0]) ?_ rfl ⟨ng2,none,0,r2,rfl,Y.out,by simpa using l2,Z.out⟩
    simp [results,Tryz.results76,go_sem,X.out.1,X.out.2.1]
theorem minus_got (w:World) (ng:Bool) (a1:Option Addr) (c1:Nat) (xs:List Int) (x:Int) (hx:Got w a1 c1 xs x) (m1:xs.length≤1000000) :
    Calls Tryz.prog 56 #[.agg #[.bool ng,.slice a1 xs.length c1]] w fun e w'=>∃ ng' ao cap rs,e=.returned (.agg #[.bool ng',.slice ao rs.length cap])∧Wh w' ng' ao cap rs (sg (!ng) x)∧rs.length≤xs.length∧Below w.heap.size w w' := by
  by_cases h0:0<xs.length
  · exact minus_some w ng a1 c1 xs x hx m1 h0
  · have e:xs = []:=List.eq_nil_of_length_eq_zero (by omega)
    have hx0:x=0:=by rw [←hx.val,e];rfl
    have hc:=hx.sl.parts.2.2.1
    rw [hx0,e]
    cases a1 with
    | none=>exact minus_nonea w ng c1 hc
    | some ad=>exact minus_noneb w ng ad c1 hc
theorem abs_got (w:World) (ng:Bool) (a1:Option Addr) (c1:Nat) (xs:List Int) (x:Int) (hx:Got w a1 c1 xs x) (m1:xs.length≤1000000) :
    Calls Tryz.prog 76 #[.agg #[.bool ng,.slice a1 xs.length c1]] w fun e w'=>∃ ng' ao cap rs,e=.returned (.agg #[.bool ng',.slice ao rs.length cap])∧Wh w' ng' ao cap rs (sg false x)∧rs.length≤xs.length∧Below w.heap.size w w' := by
  by_cases h0:0<xs.length
  · exact abs_some w ng a1 c1 xs x hx m1 h0
  · have e:xs = []:=List.eq_nil_of_length_eq_zero (by omega)
    have hx0:x=0:=by rw [←hx.val,e];rfl
    have hc:=hx.sl.parts.2.2.1
    rw [hx0,e]
    cases a1 with
    | none=>exact abs_nonea w ng c1 hc
    | some ad=>exact abs_noneb w ng ad c1 hc
theorem minus_g (w:World) (n1:Bool) (a1:Option Addr) (c1:Nat) (xs:List Int) (x:Int) (hx:Wh w n1 a1 c1 xs x) (m1:xs.length≤1000000) :
    Calls Tryz.prog 56 #[.agg #[.bool n1,.slice a1 xs.length c1]] w fun e w'=>∃ ng' ao cap rs,e=.returned (.agg #[.bool ng',.slice ao rs.length cap])∧Wh w' ng' ao cap rs (-x)∧rs.length≤xs.length∧Below w.heap.size w w' := by
  have wx:=hx.worth
  rw [hx.1.val] at wx
  rw [show -x=sg (!n1) (x.natAbs:Int) by rw [sg_neg,wx]]
  exact minus_got w n1 a1 c1 xs _ hx.1 m1
end Dm
end Go.Proofs.YtpofkigboedliaaGreat

