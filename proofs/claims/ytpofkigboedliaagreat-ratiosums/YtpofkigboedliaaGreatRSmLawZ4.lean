/-
  Lowest terms, in memory of their own. The program's fractions, each answer in memory of its own. Lists in memory of their own, as intervals of blocks: what is told of them without any reckoning in a great context. RatioReads: what its walk uses beside the contracts. Sums, products and quotients of fractions, each answer in memory of its own. The document's own fractions: sums, products, quotients, order. For RatioSums: what stands over the loop, and that the program's and the document's fractions are the same.
-/
import Derived.Deep.LoopGhost
import Derived.Test.YtpofkigboedliaaGreatRSmLawZ3
namespace Go.Proofs.YtpofkigboedliaaGreat
namespace Lm
open Go Go.RowKit
set_option maxRecDepth 20000 in
set_option maxHeartbeats 2000000 in
theorem lowest_F (w:World) (L:Nat) (hL:L≤100000) (nx:Bool) (ax:Option Addr) (mx cx:Nat) (xs:List Int) (zx:Int) (Ax:Ag w nx ax mx cx xs zx) (Lx:xs.length≤L) (ny:Bool) (ay:Option Addr) (my cy:Nat) (ys:List Int) (zy:Int) (Ay:Ag w ny ay my cy ys zy) (Ly:ys.length≤L) (hy:zy≠0) :
  Calls Tryz.prog 36 #[.agg #[.bool nx,.slice ax mx cx],.agg #[.bool ny,.slice ay my cy]] w fun e w'=>∃ v,e=.returned v∧FrR w.heap.size (nm zx zy) (dn zx zy) L v w'∧Below w.heap.size w w' := by
 have hx0:0≤val xs:=(val_bounds Ax.sl.parts.2.2.2).1
 have hy0:0<val ys:=by
  have h1:=(val_bounds Ay.sl.parts.2.2.2).1
  have h2:val ys≠0:=fun e=>hy (by rw [←Ay.worth,e];cases ny <;> simp [sg])
  omega
 go_enter Tryz.func36,Tryz.ntmps36
 generalize hA:(Act.mk _ _)=aa
 have hn:aa.tmps.size=51:=by rw [←hA];rfl
 have hd:aa.defers = []:=by rw [←hA]
 have f0:aa.eval (.tmp 0)=.agg #[.bool nx,.slice ax mx cx]:=by rw [←hA];rfl
 have f1:aa.eval (.tmp 1)=.agg #[.bool ny,.slice ay my cy]:=by rw [←hA];rfl
 clear hA
 have HB:Below w.heap.size w w:=Below.refl _ _
 have Tx:=Ax.sl;have Ty:=Ay.sl;have hwx:=Ax.worth;have hwy:=Ay.worth
 refine wp_seq ?_
 refine region4 [some 2,some 3,some 4] [Tt,Tt,Tt] [⟨W2,some 0,0,2,.agg #[.bool nx,.slice ax mx cx],none,[]⟩,⟨W2,some 1,0,3,.agg #[.bool ny,.slice ay my cy],none,[]⟩,⟨R3,some 2,0,4,.agg #[.bool false,.slice none 0 0,.slice none 0 0],none,[]⟩] [] (by kernel_rfl) hn rfl (by kernel_rfl) (by kernel_rfl) (by kernel_rfl) (by kernel_rfl) (by kernel_rfl) (by kernel_rfl) ⟨True.mono4,True.mono4,True.mono4,trivial⟩ (ok_cons W2ok (ok_cons W2ok (ok_cons R3ok ok_nil))) (IsOld.all (bx:=[⟨W2,some 0,0,2,.agg #[.bool nx,.slice ax mx cx],none,[]⟩,⟨W2,some 1,0,3,.agg #[.bool ny,.slice ay my cy],none,[]⟩,⟨R3,some 2,0,4,.agg #[.bool false,.slice none 0 0,.slice none 0 0],none,[]⟩]) ⟨someNe,someNe,someNe,trivial⟩) (DisOld.all (bx:=[⟨W2,some 0,0,2,.agg #[.bool nx,.slice ax mx cx],none,[]⟩,⟨W2,some 1,0,3,.agg #[.bool ny,.slice ay my cy],none,[]⟩,⟨R3,some 2,0,4,.agg #[.bool false,.slice none 0 0,.slice none 0 0],none,[]⟩]) ⟨someNe,someNe,someNe,trivial⟩) ?_ ?_
 ·exact ⟨.alloc 0 _ rfl rfl (.inr ⟨_,rfl,w2_cs,fun a_ hR=>(hR 0 rfl).trans f0⟩) rfl rfl rfl rfl rfl,.alloc 1 _ rfl rfl (.inr ⟨_,rfl,w2_cs,fun a_ hR=>(hR 1 rfl).trans f1⟩) rfl rfl rfl rfl rfl,.alloc 2 _ rfl rfl (.inl ⟨rfl,rfl⟩) rfl rfl rfl rfl rfl,trivial⟩
 ·intro a1 w1 gs1 hn1 hd1 hBt hr hR hP hX hU
  replace hn:=hn1;replace hd:=hd1.trans hd
  have ne2_4:gs1 0≠gs1 2:=hU 0 2 (by simp) (by simp) (by decide)
  have ne3_4:gs1 1≠gs1 2:=hU 1 2 (by simp) (by simp) (by decide)
  have b2:BoxV W2 w1 (gs1 0) (.agg #[.bool nx,.slice ax mx cx]):=(hX 0 _ rfl).2.2.2
  have f2:=(hX 0 _ rfl).1
  have u2:w.heap.size≤gs1 0:=Nat.le_trans HB.size ((hX 0 _ rfl).2.2.1 (by simp))
  have b3:BoxV W2 w1 (gs1 1) (.agg #[.bool ny,.slice ay my cy]):=(hX 1 _ rfl).2.2.2
  have f3:=(hX 1 _ rfl).1
  have u3:w.heap.size≤gs1 1:=Nat.le_trans HB.size ((hX 1 _ rfl).2.2.1 (by simp))
  have b4:BoxV R3 w1 (gs1 2) (.agg #[.bool false,.slice none 0 0,.slice none 0 0]):=(hX 2 _ rfl).2.2.2
  have f4:=(hX 2 _ rfl).1
  have u4:w.heap.size≤gs1 2:=Nat.le_trans HB.size ((hX 2 _ rfl).2.2.1 (by simp))
  replace Ax:=Ax.rl hr
  replace Tx:=Tx.rl hr
  replace Ay:=Ay.rl hr
  replace Ty:=Ty.rl hr
  replace HB:=HB.trans (hBt.below HB.size (UpOld.all (bx:=[⟨W2,some 0,0,2,.agg #[.bool nx,.slice ax mx cx],none,[]⟩,⟨W2,some 1,0,3,.agg #[.bool ny,.slice ay my cy],none,[]⟩,⟨R3,some 2,0,4,.agg #[.bool false,.slice none 0 0,.slice none 0 0],none,[]⟩]) ⟨someNe,someNe,someNe,trivial⟩))
  clear hBt hr hR hP hX hU
  refine wp_scope_straight ?_
  refine wp_seq ?_
  refine wp_of_good (by kernel_rfl) (by kernel_rfl) (fun w_0 hb_0=>?_)
  replace b2:=b2.below hb_0
  replace b3:=b3.below hb_0
  replace b4:=b4.below hb_0
  replace Ax:=Ax.below hb_0
  replace Tx:=Tx.below hb_0
  replace Ay:=Ay.below hb_0
  replace Ty:=Ty.below hb_0
  replace HB:=HB.trans (hb_0.mono HB.size);clear hb_0;have hwb_:=HB.size
  refine good6 0 8 none [some 9,some 10,some 11,some 12,some 13,some 14,some 5,some 6] [Eqs (.pointer (some ⟨gs1 0,1,none⟩)),Eqs (.slice ax mx cx),OutL ((val xs)) (L),Eqs (.pointer (some ⟨gs1 1,1,none⟩)),Eqs (.slice ay my cy),OutL ((val ys)) (L),Tt,Tt] [TrI,TrI,OwnLI ((val xs)) (L),TrI,TrI,OwnLI ((val ys)) (L),TrI,TrI] [(6,2,fun v u=>u=v),(7,5,fun v u=>u=v)] [] [] [] (by kernel_rfl) hn rfl (by kernel_rfl) (by kernel_rfl) (by kernel_rfl) (by kernel_rfl) (by kernel_rfl) (by kernel_rfl) (by kernel_rfl) (by kernel_rfl) (by kernel_rfl) (by decide) ⟨Eqs.mono5 _,Eqs.mono5 _,OutL.mono5 _ _,Eqs.mono5 _,Eqs.mono5 _,OutL.mono5 _ _,True.mono5,True.mono5,trivial⟩ ⟨TrI.mono6,TrI.mono6,OwnLI.mono6 _ _,TrI.mono6,TrI.mono6,OwnLI.mono6 _ _,TrI.mono6,TrI.mono6,trivial⟩ xok_nil ok_nil (IsOld.all (bx:=[]) trivial) (DisOld.all (bx:=[]) trivial) trivial ?_ ?_ ?_
  ·exact ⟨.inr (.norm 9 rfl rfl (nxt rfl) rfl (fun a_ w_ _ t r R D _ _=>d6 rfl (op_fa fa_mag ((R 2 rfl).trans f2)))),.inr (.norm 10 rfl rfl (nxt rfl) rfl (fun a_ w_ _ t r R D _ _=>d6 rfl (op_ldmag (show a_.eval (.tmp 9)=.pointer (some ⟨gs1 0,1,none⟩) from D 0 rfl) (b2.keep5 t trivial trivial)))),.inr (.norm 11 rfl rfl (nxt rfl) rfl (fun a_ w_ _ t r R D _ _=>d6q (fun _ _ _ _ h=>h.out) rfl (op_ltrimO (isl_eq (show a_.eval (.tmp 10)=.slice ax mx cx from D 1 rfl) (Tx.ru r) rfl Lx) (by omega)))),.inr (.norm 12 rfl rfl (nxt rfl) rfl (fun a_ w_ _ t r R D _ _=>d6 rfl (op_fa fa_mag ((R 3 rfl).trans f3)))),.inr (.norm 13 rfl rfl (nxt rfl) rfl (fun a_ w_ _ t r R D _ _=>d6 rfl (op_ldmag (show a_.eval (.tmp 12)=.pointer (some ⟨gs1 1,1,none⟩) from D 3 rfl) (b3.keep5 t trivial trivial)))),.inr (.norm 14 rfl rfl (nxt rfl) rfl (fun a_ w_ _ t r R D _ _=>d6q (fun _ _ _ _ h=>h.out) rfl (op_ltrimO (isl_eq (show a_.eval (.tmp 13)=.slice ay my cy from D 4 rfl) (Ty.ru r) rfl Ly) (by omega)))),.inr (.norm 5 rfl rfl (nxt rfl) rfl (fun a_ w_ _ t r R D _ _=>op_asr (fun v_ hv_ r_ hr_ e_=>by simp only [List.mem_cons,List.not_mem_nil,or_false] at hr_;rcases hr_ with rfl | rfl <;> first | exact hv_ | exact absurd e_ (by decide)))),.inr (.norm 6 rfl rfl (nxt rfl) rfl (fun a_ w_ _ t r R D _ _=>op_asr (fun v_ hv_ r_ hr_ e_=>by simp only [List.mem_cons,List.not_mem_nil,or_false] at hr_;rcases hr_ with rfl | rfl <;> first | exact hv_ | exact absurd e_ (by decide)))),trivial⟩
  ·exact fun _ _ h=>by cases h
  ·intro _ a2 w2 gs2 B2 T2 F_
   obtain ⟨hn2,hd2,hBt,hr,hR,hP,hTs,hLi,hX,hU,hRel,hSl⟩:=F_
   replace hn:=hn2;replace hd:=hd2.trans hd
   replace b2:=b2.keep5 hBt trivial trivial
   replace b3:=b3.keep5 hBt trivial trivial
   replace b4:=b4.keep5 hBt trivial trivial
   replace f2:=(hR 2 rfl).trans f2
   replace f3:=(hR 3 rfl).trans f3
   replace f4:=(hR 4 rfl).trans f4
   obtain ⟨lb4,lm4,lt4,⟨a_4,c_4,r_4,e11',F4,l4⟩,lj4⟩:=hLi 2 (by decide) (by decide)
   have e11:a2.eval (.tmp 11)=.slice a_4 r_4.length c_4:=e11'
   have K4:=F4.got;have S4:=K4.sl;have V4:=K4.val
   have HT4:SzGe (T2 2) w2:=lt4
   have e5:a2.eval (.tmp 5)=.slice a_4 r_4.length c_4:=(show a2.eval (.tmp 5)=a2.eval (.tmp 11) from hRel (6,2,fun v u=>u=v) (by simp) (show 0≤6 by decide) (show 6<8 by decide)).trans e11
   have f5:=e5
   obtain ⟨lb6,lm6,lt6,⟨a_6,c_6,r_6,e14',F6,l6⟩,lj6⟩:=hLi 5 (by decide) (by decide)
   have e14:a2.eval (.tmp 14)=.slice a_6 r_6.length c_6:=e14'
   have K6:=F6.got;have S6:=K6.sl;have V6:=K6.val
   have HT6:SzGe (T2 5) w2:=lt6
   have e6:a2.eval (.tmp 6)=.slice a_6 r_6.length c_6:=(show a2.eval (.tmp 6)=a2.eval (.tmp 14) from hRel (7,5,fun v u=>u=v) (by simp) (show 0≤7 by decide) (show 7<8 by decide)).trans e14
   have f6:=e6
   replace Ax:=Ax.ru hr
   replace Tx:=Tx.ru hr
   replace Ay:=Ay.ru hr
   replace Ty:=Ty.ru hr
   replace HB:=HB.trans (hBt.below HB.size (UpOld.all (bx:=[]) trivial) (UpX.all (bx:=[]) trivial))
   clear hBt hr hR hP hTs hLi hX hU hRel hSl
   refine wp_seq ?_
   refine wp_label ?_
   refine wp_seq ?_
   refine wp_block ?_
   have dj_:=lj4 5 (by decide) (by decide) (by decide)
   refine wp_loop_ghost (fun n a w'=>a.tmps.size=51∧a.defers = []∧a.eval (.tmp 2)=.pointer (some ⟨(gs1 0),0,none⟩)∧a.eval (.tmp 3)=.pointer (some ⟨(gs1 1),0,none⟩)∧a.eval (.tmp 4)=.pointer (some ⟨(gs1 2),0,none⟩)∧BoxV W2 w' (gs1 0) (.agg #[.bool nx,.slice ax mx cx])∧BoxV W2 w' (gs1 1) (.agg #[.bool ny,.slice ay my cy])∧BoxV R3 w' (gs1 2) (.agg #[.bool false,.slice none 0 0,.slice none 0 0])∧Below w.heap.size w w'∧∃ X Y BX TX BY TY,OwnLI X L BX TX (a.eval (.tmp 5)) w'∧OwnLI Y L BY TY (a.eval (.tmp 6)) w'∧(w.heap.size≤BX∧w.heap.size≤BY∧SzGe TX w'∧SzGe TY w'∧(TX≤BY∨TY≤BX))∧((n=1∧X=val xs∧Y=val ys)∨(n=0∧X=val xs / ((Int.gcd (val xs) (val ys):Nat):Int)∧Y=val ys / ((Int.gcd (val xs) (val ys):Nat):Int)))) 1 ⟨hn,hd,f2,f3,f4,b2,b3,b4,HB,val xs,val ys,_,_,_,_,⟨_,_,_,f5,F4,l4⟩,⟨_,_,_,f6,F6,l6⟩,⟨Nat.le_trans hwb_ lb4,Nat.le_trans hwb_ lb6,HT4,HT6,dj_⟩,.inl ⟨rfl,rfl,rfl⟩⟩ ?_
   clear hn hd f2 f3 f4 f5 f6 b2 b3 b4 HB Ax Tx Ay Ty F4 K4 S4 HT4 F6 K6 S6 HT6
   rintro n a7 w7 ⟨hn,hd,f2,f3,f4,b2,b3,b4,HB,X,Y,BX,TX,BY,TY,⟨a_X,c_X,r_X,f5,FX,lX⟩,⟨a_Y,c_Y,r_Y,f6,FY,lY⟩,⟨hwX,hwY,HTX,HTY,hXYd⟩,hXY⟩
   have KX:=FX.got;have KY:=FY.got;have SX:=KX.sl;have VX:=KX.val;have SY:=KY.sl;have VY:=KY.val
   obtain ⟨hY0,hX0,hg0⟩:=low_pos hy0 hx0 hXY
   have HW:SzGe w.heap.size w7:=HB.size
   refine wp_block ?_
   refine wp_seq ?_
   refine region4 [some 15,some 16,some 17,some 7] [Eqs (.slice a_X r_X.length c_X),Eqs (.slice a_Y r_Y.length c_Y),OutL (((Int.gcd X Y:Nat):Int)) ((L)+(L)+1),OutL (((Int.gcd X Y:Nat):Int)) ((L)+(L)+1)] [] [] (by kernel_rfl) hn rfl (by kernel_rfl) (by kernel_rfl) (by kernel_rfl) (by kernel_rfl) (by kernel_rfl) (by kernel_rfl) ⟨Eqs.mono4 _,Eqs.mono4 _,OutL.mono4 _ _,OutL.mono4 _ _,trivial⟩ ok_nil (IsOld.all (bx:=[]) trivial) (DisOld.all (bx:=[]) trivial) ?_ ?_
   ·exact ⟨.norm 15 rfl rfl rfl (fun a_ w_ _ t r R D _ _=>op_mv ((R 5 rfl).trans f5)),.norm 16 rfl rfl rfl (fun a_ w_ _ t r R D _ _=>op_mv ((R 6 rfl).trans f6)),.norm 17 rfl rfl rfl (fun a_ w_ _ t r R D _ _=>op_lgcd (L1:=L) (L2:=L) (isl_eq (show a_.eval (.tmp 15)=.slice a_X r_X.length c_X from D 0 rfl) (SX.rl r) VX lX) (isl_eq (show a_.eval (.tmp 16)=.slice a_Y r_Y.length c_Y from D 1 rfl) (SY.rl r) VY lY) (by omega) (by omega)),.norm 7 rfl rfl rfl (fun a_ w_ _ t r R D _ _=>op_asp (p:=OutL (((Int.gcd X Y:Nat):Int)) ((L)+(L)+1)) (show OutL (((Int.gcd X Y:Nat):Int)) ((L)+(L)+1) (a_.eval (.tmp 17)) w_ from D 2 rfl)),trivial⟩
   ·intro a8 w8 gs8 hn8 hd8 hBt hr hR hP hX hU
    replace hn:=hn8;replace hd:=hd8.trans hd
    replace b2:=b2.keep hBt trivial
    replace b3:=b3.keep hBt trivial
    replace b4:=b4.keep hBt trivial
    replace f2:=(hR 2 rfl).trans f2
    replace f3:=(hR 3 rfl).trans f3
    replace f4:=(hR 4 rfl).trans f4
    replace f5:=(hR 5 rfl).trans f5
    replace f6:=(hR 6 rfl).trans f6
    obtain ⟨a_9,c_9,r_9,e7,K9,l9⟩:OutL (((Int.gcd X Y:Nat):Int)) ((L)+(L)+1) (a8.eval (.tmp 7)) w8:=hP 3 (by decide)
    have S9:=K9.sl;have V9:=K9.val
    have f7:=e7
    replace FX:=FX.rl hr
    replace KX:=KX.rl hr
    replace SX:=SX.rl hr
    replace FY:=FY.rl hr
    replace KY:=KY.rl hr
    replace SY:=SY.rl hr
    replace HTX:=HTX.rl hr
    replace HTY:=HTY.rl hr
    replace HW:=HW.rl hr
    replace HB:=HB.trans (hBt.below HB.size (UpOld.all (bx:=[]) trivial))
    clear hBt hr hR hP hX hU
    refine wp_seq ?_
    refine region4 [some 18,some 19] [Eqs (.slice a_9 r_9.length c_9),BitsOf (((Int.gcd X Y:Nat):Int))] [] [] (by kernel_rfl) hn rfl (by kernel_rfl) (by kernel_rfl) (by kernel_rfl) (by kernel_rfl) (by kernel_rfl) (by kernel_rfl) ⟨Eqs.mono4 _,BitsOf.mono4 _,trivial⟩ ok_nil (IsOld.all (bx:=[]) trivial) (DisOld.all (bx:=[]) trivial) ?_ ?_
    ·exact ⟨.norm 18 rfl rfl rfl (fun a_ w_ _ t r R D _ _=>op_mv ((R 7 rfl).trans f7)),.norm 19 rfl rfl rfl (fun a_ w_ _ t r R D _ _=>op_lbits (isl_eq (show a_.eval (.tmp 18)=.slice a_9 r_9.length c_9 from D 0 rfl) (S9.rl r) V9 l9) (by omega)),trivial⟩
    ·intro a10 w10 gs10 hn10 hd10 hBt hr hR hP hX hU
     replace hn:=hn10;replace hd:=hd10.trans hd
     replace b2:=b2.keep hBt trivial
     replace b3:=b3.keep hBt trivial
     replace b4:=b4.keep hBt trivial
     replace f2:=(hR 2 rfl).trans f2
     replace f3:=(hR 3 rfl).trans f3
     replace f4:=(hR 4 rfl).trans f4
     replace f5:=(hR 5 rfl).trans f5
     replace f6:=(hR 6 rfl).trans f6
     replace f7:=(hR 7 rfl).trans f7
     obtain ⟨k_11,e19,B11⟩:BitsOf (((Int.gcd X Y:Nat):Int)) (a10.eval (.tmp 19)) w10:=hP 1 (by decide)
     have f19:=e19
     replace FX:=FX.rl hr
     replace KX:=KX.rl hr
     replace SX:=SX.rl hr
     replace FY:=FY.rl hr
     replace KY:=KY.rl hr
     replace SY:=SY.rl hr
     replace HTX:=HTX.rl hr
     replace HTY:=HTY.rl hr
     replace HW:=HW.rl hr
     replace K9:=K9.rl hr
     replace S9:=S9.rl hr
     replace HB:=HB.trans (hBt.below HB.size (UpOld.all (bx:=[]) trivial))
     clear hBt hr hR hP hX hU
     refine wp_block ?_
     refine wp_seq ?_
     refine region4 [some 35,some 34] [Eqs (.bool (decide ((k_11:Int)=1))),Eqs (.bool (decide ((k_11:Int)=1)))] [] [] (by kernel_rfl) hn rfl (by kernel_rfl) (by kernel_rfl) (by kernel_rfl) (by kernel_rfl) (by kernel_rfl) (by kernel_rfl) ⟨Eqs.mono4 _,Eqs.mono4 _,trivial⟩ ok_nil (IsOld.all (bx:=[]) trivial) (DisOld.all (bx:=[]) trivial) ?_ ?_
     ·exact ⟨.norm 35 rfl rfl rfl (fun a_ w_ _ t r R D _ _=>op_eqlk ((R 19 rfl).trans f19)),.norm 34 rfl rfl rfl (fun a_ w_ _ t r R D _ _=>op_assign (show a_.eval (.tmp 35)=.bool (decide ((k_11:Int)=1)) from D 0 rfl)),trivial⟩
     ·intro a12 w12 gs12 hn12 hd12 hBt hr hR hP hX hU
      replace hn:=hn12;replace hd:=hd12.trans hd
      replace b2:=b2.keep hBt trivial
      replace b3:=b3.keep hBt trivial
      replace b4:=b4.keep hBt trivial
      replace f2:=(hR 2 rfl).trans f2
      replace f3:=(hR 3 rfl).trans f3
      replace f4:=(hR 4 rfl).trans f4
      replace f5:=(hR 5 rfl).trans f5
      replace f6:=(hR 6 rfl).trans f6
      replace f7:=(hR 7 rfl).trans f7
      have e34:a12.eval (.tmp 34)=.bool (decide ((k_11:Int)=1)):=hP 1 (by decide)
      have f34:=e34
      replace FX:=FX.rl hr
      replace KX:=KX.rl hr
      replace SX:=SX.rl hr
      replace FY:=FY.rl hr
      replace KY:=KY.rl hr
      replace SY:=SY.rl hr
      replace HTX:=HTX.rl hr
      replace HTY:=HTY.rl hr
      replace HW:=HW.rl hr
      replace K9:=K9.rl hr
      replace S9:=S9.rl hr
      replace HB:=HB.trans (hBt.below HB.size (UpOld.all (bx:=[]) trivial))
      clear hBt hr hR hP hX hU
      refine wp_cond_split f34 (fun hc34=>?_) (fun hc34=>?_)
      ·skip
       have hg1:((Int.gcd X Y:Nat):Int)=1:=(bits_is_one B11 (by omega)).1 (by simpa using hc34)
       have hXe:=low_end hy0 hXY hg1
       refine wp_exit ?_
       repeat (first | refine then_exit ?_ | refine scope_exit ?_ | refine block_pass (by decide) ?_)
       refine block_exit ?_
       obtain ⟨bb,hbb⟩:∃ b,(nx != ny)=b:=⟨_,rfl⟩
       cases bb with
       | true =>
        refine wp_seq ?_
        refine region4 [some 36,some 37,some 38,some 39,some 40,some 41,some 42,some 43,some 44,some 45,some 8] [Eqs (.pointer (some ⟨(gs1 0),0,none⟩)),Eqs (.bool nx),Eqs (.pointer (some ⟨(gs1 1),0,none⟩)),Eqs (.bool ny),Eqs (.bool true),Eqs (.bool true),Eqs (.slice a_X r_X.length c_X),Eqs (.int .i64 (r_X.length:Int)),Eqs (.bool (decide (0<(r_X.length:Int)))),Eqs (.bool (decide (0<(r_X.length:Int)))),Eqs (.bool (decide (0<(r_X.length:Int))))] [] [] (by kernel_rfl) hn rfl (by kernel_rfl) (by kernel_rfl) (by kernel_rfl) (by kernel_rfl) (by kernel_rfl) (by kernel_rfl) ⟨Eqs.mono4 _,Eqs.mono4 _,Eqs.mono4 _,Eqs.mono4 _,Eqs.mono4 _,Eqs.mono4 _,Eqs.mono4 _,Eqs.mono4 _,Eqs.mono4 _,Eqs.mono4 _,Eqs.mono4 _,trivial⟩ ok_nil (IsOld.all (bx:=[]) trivial) (DisOld.all (bx:=[]) trivial) ?_ ?_
        ·exact ⟨.norm 36 rfl rfl rfl (fun a_ w_ _ t r R D _ _=>op_fa fa_neg ((R 2 rfl).trans f2)),.norm 37 rfl rfl rfl (fun a_ w_ _ t r R D _ _=>op_ldneg (show a_.eval (.tmp 36)=.pointer (some ⟨(gs1 0),0,none⟩) from D 0 rfl) (b2.keep t trivial)),.norm 38 rfl rfl rfl (fun a_ w_ _ t r R D _ _=>op_fa fa_neg ((R 3 rfl).trans f3)),.norm 39 rfl rfl rfl (fun a_ w_ _ t r R D _ _=>op_ldneg (show a_.eval (.tmp 38)=.pointer (some ⟨(gs1 1),0,none⟩) from D 2 rfl) (b3.keep t trivial)),.norm 40 rfl rfl rfl (fun a_ w_ _ t r R D _ _=>(by rw [←hbb];exact op_neqb (show a_.eval (.tmp 37)=.bool nx from D 1 rfl) (show a_.eval (.tmp 39)=.bool ny from D 3 rfl))),.norm 41 rfl rfl rfl (fun a_ w_ _ t r R D _ _=>op_mv (show a_.eval (.tmp 40)=.bool true from D 4 rfl)),.norm 42 rfl rfl rfl (fun a_ w_ _ t r R D _ _=>⟨⟨_,rfl⟩,fun _=>op_mv ((R 5 rfl).trans f5),fun hne=>absurd (D 5 rfl) hne⟩),.norm 43 rfl rfl rfl (fun a_ w_ _ t r R D _ _=>⟨⟨_,rfl⟩,fun _=>op_len (show a_.eval (.tmp 42)=.slice a_X r_X.length c_X from D 6 rfl),fun hne=>absurd (D 5 rfl) hne⟩),.norm 44 rfl rfl rfl (fun a_ w_ _ t r R D _ _=>⟨⟨_,rfl⟩,fun _=>op_gtrk (show a_.eval (.tmp 43)=.int .i64 (r_X.length:Int) from D 7 rfl),fun hne=>absurd (D 5 rfl) hne⟩),.norm 45 rfl rfl rfl (fun a_ w_ _ t r R D _ _=>op_pickb (show a_.eval (.tmp 41)=.bool true from D 5 rfl) (show a_.eval (.tmp 44)=.bool (decide (0<(r_X.length:Int))) from D 8 rfl)),.norm 8 rfl rfl rfl (fun a_ w_ _ t r R D _ _=>op_assign (show a_.eval (.tmp 45)=.bool (decide (0<(r_X.length:Int))) from D 9 rfl)),trivial⟩
        ·intro a13 w13 gs13 hn13 hd13 hBt hr hR hP hX hU
         replace hn:=hn13;replace hd:=hd13.trans hd
         replace b4:=b4.keep hBt trivial
         replace f4:=(hR 4 rfl).trans f4
         replace f5:=(hR 5 rfl).trans f5
         replace f6:=(hR 6 rfl).trans f6
         have e8:a13.eval (.tmp 8)=.bool (decide (0<(r_X.length:Int))):=hP 10 (by decide)
         have f8:=e8
         replace FX:=FX.rl hr
         replace KX:=KX.rl hr
         replace SX:=SX.rl hr
         replace FY:=FY.rl hr
         replace KY:=KY.rl hr
         replace SY:=SY.rl hr
         replace HTX:=HTX.rl hr
         replace HTY:=HTY.rl hr
         replace HW:=HW.rl hr
         replace K9:=K9.rl hr
         replace S9:=S9.rl hr
         replace HB:=HB.trans (hBt.below HB.size (UpOld.all (bx:=[]) trivial))
         clear hBt hr hR hP hX hU
         refine wp_seq ?_
         refine region4 [some 46,some 47,some 48,some 49,some 50,none] [Eqs (.bool (decide (0<(r_X.length:Int)))),Eqs (.slice a_X r_X.length c_X),Eqs (.agg #[.bool (decide (0<(r_X.length:Int))),.slice a_X r_X.length c_X]),Eqs (.slice a_Y r_Y.length c_Y),Eqs (.agg #[.bool (decide (0<(r_X.length:Int))),.slice a_X r_X.length c_X,.slice a_Y r_Y.length c_Y]),Tt] [⟨R3,none,(gs1 2),4,.agg #[.bool false,.slice none 0 0,.slice none 0 0],some (5,50,4),[]⟩] [] (by kernel_rfl) hn rfl (by kernel_rfl) (by kernel_rfl) (by kernel_rfl) (by kernel_rfl) (by kernel_rfl) (by kernel_rfl) ⟨Eqs.mono4 _,Eqs.mono4 _,Eqs.mono4 _,Eqs.mono4 _,Eqs.mono4 _,True.mono4,trivial⟩ (ok_cons R3ok ok_nil) (IsOld.all (bx:=[⟨R3,none,(gs1 2),4,.agg #[.bool false,.slice none 0 0,.slice none 0 0],some (5,50,4),[]⟩]) ⟨fun _=>⟨f4,b4⟩,trivial⟩) (DisOld.all (bx:=[⟨R3,none,(gs1 2),4,.agg #[.bool false,.slice none 0 0,.slice none 0 0],some (5,50,4),[]⟩]) ⟨fun _=>trivial,trivial⟩) ?_ ?_
         ·exact ⟨.norm 46 rfl rfl rfl (fun a_ w_ _ t r R D _ _=>op_mv ((R 8 rfl).trans f8)),.norm 47 rfl rfl rfl (fun a_ w_ _ t r R D _ _=>op_mv ((R 5 rfl).trans f5)),.norm 48 rfl rfl rfl (fun a_ w_ _ t r R D _ _=>op_bW2 (show a_.eval (.tmp 46)=.bool (decide (0<(r_X.length:Int))) from D 0 rfl) (show a_.eval (.tmp 47)=.slice a_X r_X.length c_X from D 1 rfl)),.norm 49 rfl rfl rfl (fun a_ w_ _ t r R D _ _=>op_mv ((R 6 rfl).trans f6)),.norm 50 rfl rfl rfl (fun a_ w_ _ t r R D _ _=>op_bR (show a_.eval (.tmp 48)=.agg #[.bool (decide (0<(r_X.length:Int))),.slice a_X r_X.length c_X] from D 2 rfl) (show a_.eval (.tmp 49)=.slice a_Y r_Y.length c_Y from D 3 rfl)),.store 0 _ _ _ rfl rfl rfl rfl rfl rfl rfl (fun ia h=>by cases h) rfl rfl rfl (eqs_cs r3_cs),trivial⟩
         ·intro a14 w14 gs14 hn14 hd14 hBt hr hR hP hX hU
          replace hn:=hn14;replace hd:=hd14.trans hd
          have e50:a14.eval (.tmp 50)=.agg #[.bool (decide (0<(r_X.length:Int))),.slice a_X r_X.length c_X,.slice a_Y r_Y.length c_Y]:=hP 4 (by decide)
          have b4:BoxV R3 w14 ((gs1 2)) (.agg #[.bool (decide (0<(r_X.length:Int))),.slice a_X r_X.length c_X,.slice a_Y r_Y.length c_Y]):=boxv_old ((hX 0 _ rfl).2.1 rfl) (hX 0 _ rfl).2.2.2 e50
          replace f4:a14.eval (.tmp 4) = _:=(hR 4 rfl).trans f4
          replace FX:=FX.rl hr
          replace KX:=KX.rl hr
          replace SX:=SX.rl hr
          replace FY:=FY.rl hr
          replace KY:=KY.rl hr
          replace SY:=SY.rl hr
          replace HTX:=HTX.rl hr
          replace HTY:=HTY.rl hr
          replace HW:=HW.rl hr
          replace K9:=K9.rl hr
          replace S9:=S9.rl hr
          replace HB:=HB.trans (hBt.below HB.size (UpOld.all (bx:=[⟨R3,none,(gs1 2),4,.agg #[.bool false,.slice none 0 0,.slice none 0 0],some (5,50,4),[]⟩]) ⟨fun _=>u4,trivial⟩))
          clear hBt hr hR hP hX hU
          refine wp_ret ?_
          repeat (first | refine then_ret ?_ | refine scope_ret ?_ | refine block_ret ?_)
          refine bodyPost_ret (v:=.agg #[.bool (decide (0<(r_X.length:Int))),.slice a_X r_X.length c_X,.slice a_Y r_Y.length c_Y]) (res_c rfl f4 (lv_R3 b4)) hd ⟨_,rfl,⟨_,Nat.le_refl _,_,_,_,_,_,_,_,BX,TX,BY,TY,rfl,⟨?_,?_⟩,?_,⟨hwX,HTX.le,hwY,HTY.le⟩,hXYd,lX,lY⟩,HB⟩
          ·have h:Wh w14 ((decide (0<(r_X.length:Int)))) a_X c_X r_X (nm zx zy):=by
            rw [←hwx,←hwy,nm_sg _ _ hy0,hbb,←hXe.1]
            have h:=Wh.of true KX
            simpa using h
           exact ⟨FX.ow,FX.canon,FX.val.trans (KX.val.symm.trans h.1.val),FX.lies⟩
          ·have h:Wh w14 ((decide (0<(r_X.length:Int)))) a_X c_X r_X (nm zx zy):=by
            rw [←hwx,←hwy,nm_sg _ _ hy0,hbb,←hXe.1]
            have h:=Wh.of true KX
            simpa using h
           exact h.2
          ·rw [←hwx,←hwy,dn_sg _ _ hy0,←hXe.2];exact FY
       | false =>
        refine wp_seq ?_
        refine region4 [some 36,some 37,some 38,some 39,some 40,some 41,some 42,some 43,some 44,some 45,some 8] [Eqs (.pointer (some ⟨(gs1 0),0,none⟩)),Eqs (.bool nx),Eqs (.pointer (some ⟨(gs1 1),0,none⟩)),Eqs (.bool ny),Eqs (.bool false),Eqs (.bool false),Tt,Tt,Tt,Eqs (.bool false),Eqs (.bool false)] [] [] (by kernel_rfl) hn rfl (by kernel_rfl) (by kernel_rfl) (by kernel_rfl) (by kernel_rfl) (by kernel_rfl) (by kernel_rfl) ⟨Eqs.mono4 _,Eqs.mono4 _,Eqs.mono4 _,Eqs.mono4 _,Eqs.mono4 _,Eqs.mono4 _,True.mono4,True.mono4,True.mono4,Eqs.mono4 _,Eqs.mono4 _,trivial⟩ ok_nil (IsOld.all (bx:=[]) trivial) (DisOld.all (bx:=[]) trivial) ?_ ?_
        ·exact ⟨.norm 36 rfl rfl rfl (fun a_ w_ _ t r R D _ _=>op_fa fa_neg ((R 2 rfl).trans f2)),.norm 37 rfl rfl rfl (fun a_ w_ _ t r R D _ _=>op_ldneg (show a_.eval (.tmp 36)=.pointer (some ⟨(gs1 0),0,none⟩) from D 0 rfl) (b2.keep t trivial)),.norm 38 rfl rfl rfl (fun a_ w_ _ t r R D _ _=>op_fa fa_neg ((R 3 rfl).trans f3)),.norm 39 rfl rfl rfl (fun a_ w_ _ t r R D _ _=>op_ldneg (show a_.eval (.tmp 38)=.pointer (some ⟨(gs1 1),0,none⟩) from D 2 rfl) (b3.keep t trivial)),.norm 40 rfl rfl rfl (fun a_ w_ _ t r R D _ _=>(by rw [←hbb];exact op_neqb (show a_.eval (.tmp 37)=.bool nx from D 1 rfl) (show a_.eval (.tmp 39)=.bool ny from D 3 rfl))),.norm 41 rfl rfl rfl (fun a_ w_ _ t r R D _ _=>op_mv (show a_.eval (.tmp 40)=.bool false from D 4 rfl)),.norm 42 rfl rfl rfl (fun a_ w_ _ t r R D _ _=>⟨⟨_,rfl⟩,fun h=>absurd ((show _=Value.bool false from D 5 rfl).symm.trans h) (by simp),fun _=>trivial⟩),.norm 43 rfl rfl rfl (fun a_ w_ _ t r R D _ _=>⟨⟨_,rfl⟩,fun h=>absurd ((show _=Value.bool false from D 5 rfl).symm.trans h) (by simp),fun _=>trivial⟩),.norm 44 rfl rfl rfl (fun a_ w_ _ t r R D _ _=>⟨⟨_,rfl⟩,fun h=>absurd ((show _=Value.bool false from D 5 rfl).symm.trans h) (by simp),fun _=>trivial⟩),.norm 45 rfl rfl rfl (fun a_ w_ _ t r R D _ _=>op_pickb (show a_.eval (.tmp 41)=.bool false from D 5 rfl) rfl),.norm 8 rfl rfl rfl (fun a_ w_ _ t r R D _ _=>op_assign (show a_.eval (.tmp 45)=.bool false from D 9 rfl)),trivial⟩
        ·intro a15 w15 gs15 hn15 hd15 hBt hr hR hP hX hU
         replace hn:=hn15;replace hd:=hd15.trans hd
         replace b4:=b4.keep hBt trivial
         replace f4:=(hR 4 rfl).trans f4
         replace f5:=(hR 5 rfl).trans f5
         replace f6:=(hR 6 rfl).trans f6
         have e8:a15.eval (.tmp 8)=.bool false:=hP 10 (by decide)
         have f8:=e8
         replace FX:=FX.rl hr
         replace KX:=KX.rl hr
         replace SX:=SX.rl hr
         replace FY:=FY.rl hr
         replace KY:=KY.rl hr
         replace SY:=SY.rl hr
         replace HTX:=HTX.rl hr
         replace HTY:=HTY.rl hr
         replace HW:=HW.rl hr
         replace K9:=K9.rl hr
         replace S9:=S9.rl hr
         replace HB:=HB.trans (hBt.below HB.size (UpOld.all (bx:=[]) trivial))
         clear hBt hr hR hP hX hU
         refine wp_seq ?_
         refine region4 [some 46,some 47,some 48,some 49,some 50,none] [Eqs (.bool false),Eqs (.slice a_X r_X.length c_X),Eqs (.agg #[.bool false,.slice a_X r_X.length c_X]),Eqs (.slice a_Y r_Y.length c_Y),Eqs (.agg #[.bool false,.slice a_X r_X.length c_X,.slice a_Y r_Y.length c_Y]),Tt] [⟨R3,none,(gs1 2),4,.agg #[.bool false,.slice none 0 0,.slice none 0 0],some (5,50,4),[]⟩] [] (by kernel_rfl) hn rfl (by kernel_rfl) (by kernel_rfl) (by kernel_rfl) (by kernel_rfl) (by kernel_rfl) (by kernel_rfl) ⟨Eqs.mono4 _,Eqs.mono4 _,Eqs.mono4 _,Eqs.mono4 _,Eqs.mono4 _,True.mono4,trivial⟩ (ok_cons R3ok ok_nil) (IsOld.all (bx:=[⟨R3,none,(gs1 2),4,.agg #[.bool false,.slice none 0 0,.slice none 0 0],some (5,50,4),[]⟩]) ⟨fun _=>⟨f4,b4⟩,trivial⟩) (DisOld.all (bx:=[⟨R3,none,(gs1 2),4,.agg #[.bool false,.slice none 0 0,.slice none 0 0],some (5,50,4),[]⟩]) ⟨fun _=>trivial,trivial⟩) ?_ ?_
         ·exact ⟨.norm 46 rfl rfl rfl (fun a_ w_ _ t r R D _ _=>op_mv ((R 8 rfl).trans f8)),.norm 47 rfl rfl rfl (fun a_ w_ _ t r R D _ _=>op_mv ((R 5 rfl).trans f5)),.norm 48 rfl rfl rfl (fun a_ w_ _ t r R D _ _=>op_bW2 (show a_.eval (.tmp 46)=.bool false from D 0 rfl) (show a_.eval (.tmp 47)=.slice a_X r_X.length c_X from D 1 rfl)),.norm 49 rfl rfl rfl (fun a_ w_ _ t r R D _ _=>op_mv ((R 6 rfl).trans f6)),.norm 50 rfl rfl rfl (fun a_ w_ _ t r R D _ _=>op_bR (show a_.eval (.tmp 48)=.agg #[.bool false,.slice a_X r_X.length c_X] from D 2 rfl) (show a_.eval (.tmp 49)=.slice a_Y r_Y.length c_Y from D 3 rfl)),.store 0 _ _ _ rfl rfl rfl rfl rfl rfl rfl (fun ia h=>by cases h) rfl rfl rfl (eqs_cs r3_cs),trivial⟩
         ·intro a16 w16 gs16 hn16 hd16 hBt hr hR hP hX hU
          replace hn:=hn16;replace hd:=hd16.trans hd
          have e50:a16.eval (.tmp 50)=.agg #[.bool false,.slice a_X r_X.length c_X,.slice a_Y r_Y.length c_Y]:=hP 4 (by decide)
          have b4:BoxV R3 w16 ((gs1 2)) (.agg #[.bool false,.slice a_X r_X.length c_X,.slice a_Y r_Y.length c_Y]):=boxv_old ((hX 0 _ rfl).2.1 rfl) (hX 0 _ rfl).2.2.2 e50
          replace f4:a16.eval (.tmp 4) = _:=(hR 4 rfl).trans f4
          replace FX:=FX.rl hr
          replace KX:=KX.rl hr
          replace SX:=SX.rl hr
          replace FY:=FY.rl hr
          replace KY:=KY.rl hr
          replace SY:=SY.rl hr
          replace HTX:=HTX.rl hr
          replace HTY:=HTY.rl hr
          replace HW:=HW.rl hr
          replace K9:=K9.rl hr
          replace S9:=S9.rl hr
          replace HB:=HB.trans (hBt.below HB.size (UpOld.all (bx:=[⟨R3,none,(gs1 2),4,.agg #[.bool false,.slice none 0 0,.slice none 0 0],some (5,50,4),[]⟩]) ⟨fun _=>u4,trivial⟩))
          clear hBt hr hR hP hX hU
          refine wp_ret ?_
          repeat (first | refine then_ret ?_ | refine scope_ret ?_ | refine block_ret ?_)
          refine bodyPost_ret (v:=.agg #[.bool false,.slice a_X r_X.length c_X,.slice a_Y r_Y.length c_Y]) (res_c rfl f4 (lv_R3 b4)) hd ⟨_,rfl,⟨_,Nat.le_refl _,_,_,_,_,_,_,_,BX,TX,BY,TY,rfl,⟨?_,?_⟩,?_,⟨hwX,HTX.le,hwY,HTY.le⟩,hXYd,lX,lY⟩,HB⟩
          ·have h:Wh w16 (false) a_X c_X r_X (nm zx zy):=by
            rw [←hwx,←hwy,nm_sg _ _ hy0,hbb,←hXe.1]
            have h:=Wh.of false KX
            simpa using h
           exact ⟨FX.ow,FX.canon,FX.val.trans (KX.val.symm.trans h.1.val),FX.lies⟩
          ·have h:Wh w16 (false) a_X c_X r_X (nm zx zy):=by
            rw [←hwx,←hwy,nm_sg _ _ hy0,hbb,←hXe.1]
            have h:=Wh.of false KX
            simpa using h
           exact h.2
          ·rw [←hwx,←hwy,dn_sg _ _ hy0,←hXe.2];exact FY
      ·skip
       have hg1:((Int.gcd X Y:Nat):Int)≠1:=fun e=>absurd ((bits_is_one B11 (by omega)).2 e) (by simpa using hc34)
       have hn1:=low_more hy0 hXY hg1
       refine wp_seq ?_
       refine region4 [some 21,some 22,some 23,some 20,some 24,some 25,some 26,some 5] [Eqs (.slice a_X r_X.length c_X),Eqs (.slice a_9 r_9.length c_9),Tup3 (FrL (w12.heap.size) ((X / ((Int.gcd X Y:Nat):Int))) (L)) (OutL ((X % ((Int.gcd X Y:Nat):Int))) ((L)+(L)+1)) (Eqs (.bool true)),Tup3 (FrL (w12.heap.size) ((X / ((Int.gcd X Y:Nat):Int))) (L)) (OutL ((X % ((Int.gcd X Y:Nat):Int))) ((L)+(L)+1)) (Eqs (.bool true)),FrL (w12.heap.size) ((X / ((Int.gcd X Y:Nat):Int))) (L),OutL ((X % ((Int.gcd X Y:Nat):Int))) ((L)+(L)+1),Eqs (.bool true),FrL (w12.heap.size) ((X / ((Int.gcd X Y:Nat):Int))) (L)] [] [(7,0)] (by kernel_rfl) hn rfl (by kernel_rfl) (by kernel_rfl) (by kernel_rfl) (by kernel_rfl) (by kernel_rfl) (by kernel_rfl) ⟨Eqs.mono4 _,Eqs.mono4 _,Tup3.mono4 (FrL.mono4 _ _ _) (OutL.mono4 _ _) (Eqs.mono4 _),Tup3.mono4 (FrL.mono4 _ _ _) (OutL.mono4 _ _) (Eqs.mono4 _),FrL.mono4 _ _ _,OutL.mono4 _ _,Eqs.mono4 _,FrL.mono4 _ _ _,trivial⟩ ok_nil (IsOld.all (bx:=[]) trivial) (DisOld.all (bx:=[]) trivial) ?_ ?_
       ·exact ⟨.norm 21 rfl rfl rfl (fun a_ w_ _ t r R D _ hS=>op_mv ((hS 7 5 rfl rfl).trans f5)),.norm 22 rfl rfl rfl (fun a_ w_ _ t r R D _ _=>op_mv ((R 7 rfl).trans f7)),.norm 23 rfl rfl rfl (fun a_ w_ _ t r R D _ _=>op_ldivF (isl_eq (show a_.eval (.tmp 21)=.slice a_X r_X.length c_X from D 0 rfl) (SX.rl r) VX lX) (isl_eq (show a_.eval (.tmp 22)=.slice a_9 r_9.length c_9 from D 1 rfl) (S9.rl r) V9 l9) (by omega) hg0 r.size),.norm 20 rfl rfl rfl (fun a_ w_ _ t r R D _ _=>op_mvp (p:=Tup3 (FrL (w12.heap.size) ((X / ((Int.gcd X Y:Nat):Int))) (L)) (OutL ((X % ((Int.gcd X Y:Nat):Int))) ((L)+(L)+1)) (Eqs (.bool true))) (show Tup3 (FrL (w12.heap.size) ((X / ((Int.gcd X Y:Nat):Int))) (L)) (OutL ((X % ((Int.gcd X Y:Nat):Int))) ((L)+(L)+1)) (Eqs (.bool true)) (a_.eval (.tmp 23)) w_ from D 2 rfl)),.norm 24 rfl rfl rfl (fun a_ w_ _ t r R D _ _=>op_ex30 (show Tup3 (FrL (w12.heap.size) ((X / ((Int.gcd X Y:Nat):Int))) (L)) (OutL ((X % ((Int.gcd X Y:Nat):Int))) ((L)+(L)+1)) (Eqs (.bool true)) (a_.eval (.tmp 20)) w_ from D 3 rfl)),.norm 25 rfl rfl rfl (fun a_ w_ _ t r R D _ _=>op_ex31 (show Tup3 (FrL (w12.heap.size) ((X / ((Int.gcd X Y:Nat):Int))) (L)) (OutL ((X % ((Int.gcd X Y:Nat):Int))) ((L)+(L)+1)) (Eqs (.bool true)) (a_.eval (.tmp 20)) w_ from D 3 rfl)),.norm 26 rfl rfl rfl (fun a_ w_ _ t r R D _ _=>op_ex32 (show Tup3 (FrL (w12.heap.size) ((X / ((Int.gcd X Y:Nat):Int))) (L)) (OutL ((X % ((Int.gcd X Y:Nat):Int))) ((L)+(L)+1)) (Eqs (.bool true)) (a_.eval (.tmp 20)) w_ from D 3 rfl)),.norm 5 rfl rfl rfl (fun a_ w_ _ t r R D _ _=>op_asp (p:=FrL (w12.heap.size) ((X / ((Int.gcd X Y:Nat):Int))) (L)) (show FrL (w12.heap.size) ((X / ((Int.gcd X Y:Nat):Int))) (L) (a_.eval (.tmp 24)) w_ from D 4 rfl)),trivial⟩
       ·intro a17 w17 gs17 hn17 hd17 hBt hr hR hP hX hU
        replace hn:=hn17;replace hd:=hd17.trans hd
        replace b2:=b2.keep hBt trivial
        replace b3:=b3.keep hBt trivial
        replace b4:=b4.keep hBt trivial
        replace f2:=(hR 2 rfl).trans f2
        replace f3:=(hR 3 rfl).trans f3
        replace f4:=(hR 4 rfl).trans f4
        replace f6:=(hR 6 rfl).trans f6
        replace f7:=(hR 7 rfl).trans f7
        obtain ⟨a_18,c_18,r_18,B18,T18,e5,F18,fb18,ft18,l18⟩:FrL (w12.heap.size) ((X / ((Int.gcd X Y:Nat):Int))) (L) (a17.eval (.tmp 5)) w17:=hP 7 (by decide)
        have K18:=F18.got;have S18:=K18.sl;have V18:=K18.val;have HT18:SzGe T18 w17:=ft18
        have lq18HTX:=HTX.le
        have lq18HTY:=HTY.le
        have lq18HW:=HW.le
        have f5:=e5
        replace FX:=FX.rl hr
        replace KX:=KX.rl hr
        replace SX:=SX.rl hr
        replace FY:=FY.rl hr
        replace KY:=KY.rl hr
        replace SY:=SY.rl hr
        replace HTX:=HTX.rl hr
        replace HTY:=HTY.rl hr
        replace HW:=HW.rl hr
        replace K9:=K9.rl hr
        replace S9:=S9.rl hr
        replace HB:=HB.trans (hBt.below HB.size (UpOld.all (bx:=[]) trivial))
        clear hBt hr hR hP hX hU
        refine region4 [some 28,some 29,some 30,some 27,some 31,some 32,some 33,some 6] [Eqs (.slice a_Y r_Y.length c_Y),Eqs (.slice a_9 r_9.length c_9),Tup3 (FrL (w17.heap.size) ((Y / ((Int.gcd X Y:Nat):Int))) (L)) (OutL ((Y % ((Int.gcd X Y:Nat):Int))) ((L)+(L)+1)) (Eqs (.bool true)),Tup3 (FrL (w17.heap.size) ((Y / ((Int.gcd X Y:Nat):Int))) (L)) (OutL ((Y % ((Int.gcd X Y:Nat):Int))) ((L)+(L)+1)) (Eqs (.bool true)),FrL (w17.heap.size) ((Y / ((Int.gcd X Y:Nat):Int))) (L),OutL ((Y % ((Int.gcd X Y:Nat):Int))) ((L)+(L)+1),Eqs (.bool true),FrL (w17.heap.size) ((Y / ((Int.gcd X Y:Nat):Int))) (L)] [] [(7,0)] (by kernel_rfl) hn rfl (by kernel_rfl) (by kernel_rfl) (by kernel_rfl) (by kernel_rfl) (by kernel_rfl) (by kernel_rfl) ⟨Eqs.mono4 _,Eqs.mono4 _,Tup3.mono4 (FrL.mono4 _ _ _) (OutL.mono4 _ _) (Eqs.mono4 _),Tup3.mono4 (FrL.mono4 _ _ _) (OutL.mono4 _ _) (Eqs.mono4 _),FrL.mono4 _ _ _,OutL.mono4 _ _,Eqs.mono4 _,FrL.mono4 _ _ _,trivial⟩ ok_nil (IsOld.all (bx:=[]) trivial) (DisOld.all (bx:=[]) trivial) ?_ ?_
        ·exact ⟨.norm 28 rfl rfl rfl (fun a_ w_ _ t r R D _ hS=>op_mv ((hS 7 6 rfl rfl).trans f6)),.norm 29 rfl rfl rfl (fun a_ w_ _ t r R D _ _=>op_mv ((R 7 rfl).trans f7)),.norm 30 rfl rfl rfl (fun a_ w_ _ t r R D _ _=>op_ldivF (isl_eq (show a_.eval (.tmp 28)=.slice a_Y r_Y.length c_Y from D 0 rfl) (SY.rl r) VY lY) (isl_eq (show a_.eval (.tmp 29)=.slice a_9 r_9.length c_9 from D 1 rfl) (S9.rl r) V9 l9) (by omega) hg0 r.size),.norm 27 rfl rfl rfl (fun a_ w_ _ t r R D _ _=>op_mvp (p:=Tup3 (FrL (w17.heap.size) ((Y / ((Int.gcd X Y:Nat):Int))) (L)) (OutL ((Y % ((Int.gcd X Y:Nat):Int))) ((L)+(L)+1)) (Eqs (.bool true))) (show Tup3 (FrL (w17.heap.size) ((Y / ((Int.gcd X Y:Nat):Int))) (L)) (OutL ((Y % ((Int.gcd X Y:Nat):Int))) ((L)+(L)+1)) (Eqs (.bool true)) (a_.eval (.tmp 30)) w_ from D 2 rfl)),.norm 31 rfl rfl rfl (fun a_ w_ _ t r R D _ _=>op_ex30 (show Tup3 (FrL (w17.heap.size) ((Y / ((Int.gcd X Y:Nat):Int))) (L)) (OutL ((Y % ((Int.gcd X Y:Nat):Int))) ((L)+(L)+1)) (Eqs (.bool true)) (a_.eval (.tmp 27)) w_ from D 3 rfl)),.norm 32 rfl rfl rfl (fun a_ w_ _ t r R D _ _=>op_ex31 (show Tup3 (FrL (w17.heap.size) ((Y / ((Int.gcd X Y:Nat):Int))) (L)) (OutL ((Y % ((Int.gcd X Y:Nat):Int))) ((L)+(L)+1)) (Eqs (.bool true)) (a_.eval (.tmp 27)) w_ from D 3 rfl)),.norm 33 rfl rfl rfl (fun a_ w_ _ t r R D _ _=>op_ex32 (show Tup3 (FrL (w17.heap.size) ((Y / ((Int.gcd X Y:Nat):Int))) (L)) (OutL ((Y % ((Int.gcd X Y:Nat):Int))) ((L)+(L)+1)) (Eqs (.bool true)) (a_.eval (.tmp 27)) w_ from D 3 rfl)),.norm 6 rfl rfl rfl (fun a_ w_ _ t r R D _ _=>op_asp (p:=FrL (w17.heap.size) ((Y / ((Int.gcd X Y:Nat):Int))) (L)) (show FrL (w17.heap.size) ((Y / ((Int.gcd X Y:Nat):Int))) (L) (a_.eval (.tmp 31)) w_ from D 4 rfl)),trivial⟩
        ·intro a19 w19 gs19 hn19 hd19 hBt hr hR hP hX hU
         replace hn:=hn19;replace hd:=hd19.trans hd
         replace b2:=b2.keep hBt trivial
         replace b3:=b3.keep hBt trivial
         replace b4:=b4.keep hBt trivial
         replace f2:=(hR 2 rfl).trans f2
         replace f3:=(hR 3 rfl).trans f3
         replace f4:=(hR 4 rfl).trans f4
         replace f5:=(hR 5 rfl).trans f5
         obtain ⟨a_20,c_20,r_20,B20,T20,e6,F20,fb20,ft20,l20⟩:FrL (w17.heap.size) ((Y / ((Int.gcd X Y:Nat):Int))) (L) (a19.eval (.tmp 6)) w19:=hP 7 (by decide)
         have K20:=F20.got;have S20:=K20.sl;have V20:=K20.val;have HT20:SzGe T20 w19:=ft20
         have lq20HTX:=HTX.le
         have lq20HTY:=HTY.le
         have lq20HW:=HW.le
         have lq20HT18:=HT18.le
         have f6:=e6
         replace FX:=FX.rl hr
         replace KX:=KX.rl hr
         replace SX:=SX.rl hr
         replace FY:=FY.rl hr
         replace KY:=KY.rl hr
         replace SY:=SY.rl hr
         replace HTX:=HTX.rl hr
         replace HTY:=HTY.rl hr
         replace HW:=HW.rl hr
         replace K9:=K9.rl hr
         replace S9:=S9.rl hr
         replace F18:=F18.rl hr
         replace K18:=K18.rl hr
         replace S18:=S18.rl hr
         replace HT18:=HT18.rl hr
         replace HB:=HB.trans (hBt.below HB.size (UpOld.all (bx:=[]) trivial))
         clear hBt hr hR hP hX hU
         refine block_normal ?_
         refine block_normal ?_
         have hz1_:=HB.size;have hz2_:=HT18.le;have hz3_:=HT20.le
         exact ⟨0,by omega,hn,hd,f2,f3,f4,b2,b3,b4,HB,_,_,_,_,_,_,⟨_,_,_,f5,F18,l18⟩,⟨_,_,_,f6,F20,l20⟩,⟨by omega,by omega,HT18,HT20,by omega⟩,Or.inr ⟨rfl,by rw [hn1.2.1,hn1.2.2],by rw [hn1.2.1,hn1.2.2]⟩⟩
theorem op_lowestF {dst:Option Tmp} {ty:TypeId} {pos:String} {after:Array Edge} {guard:Option (Nat × Bool)} {a:Act} {w:World} {ats:Array TypeId} {i j:Nat} {p q:Int} {L1 L2:Nat} (h:IsW p L1 (a.eval (.tmp i)) w) (h' : IsW q L2 (a.eval (.tmp j)) w) (hL:L1+L2≤100000) (hq:q≠0) :
  Does Tryz.prog { dst,op:=.call { callee:=.value (.func 36),args:=#[.tmp i,.tmp j],argTypes:=ats },type:=ty,pos,after,guard } a.eval w fun v w'=>Below w.heap.size w w'∧FrR w.heap.size (nm p q) (dn p q) (L1+L2) v w' := by
 obtain ⟨ng,ao,n,cap,xs,e,A,l⟩:=h
 obtain ⟨ng',ao',n',cap',xs',e',A',l'⟩:=h'
 refine does_call has_lowest _ (by simp only [List.map_toArray,List.map_cons,List.map_nil,e,e']) ((lowest_F w (L1+L2) hL _ _ _ _ _ _ A (by omega) _ _ _ _ _ _ A' (by omega) hq).mono ?_)
 rintro e w' ⟨v,rfl,h1,hb⟩
 exact ⟨_,rfl,hb,h1⟩
end Lm
end Go.Proofs.YtpofkigboedliaaGreat

namespace Go.Proofs.YtpofkigboedliaaGreat
namespace Lm
open Go Go.RowKit
theorem frlow {P:Program} {o:Oper} {a:Act} {w:World} {K:Nat} {p q:Int} {L:Nat} (hK:K≤w.heap.size) (hd:Does P o a.eval w fun v w'=>Below w.heap.size w w'∧FrR w.heap.size p q L v w'):Does P o a.eval w fun v w'=>Below w.heap.size w w'∧FrR K p q L v w' :=
 hd.mono fun _ _ ⟨hb,T,h0,ng,ao,cap,rs,bo,dap,ss,B1,T1,B2,T2,e,h1,h2,h3,h4⟩=>⟨hb,T,h0,ng,ao,cap,rs,bo,dap,ss,B1,T1,B2,T2,e,h1,h2,⟨Nat.le_trans hK h3.1,h3.2.1,Nat.le_trans hK h3.2.2.1,h3.2.2.2⟩,h4⟩
section
variable {dst:Option Tmp} {ty:TypeId} {pos:String} {after:Array Edge} {guard:Option (Nat × Bool)} {a:Act} {w:World} {ats:Array TypeId} {i j:Nat} {x y:Int} {L1 L2 K:Nat}
end
end Lm
end Go.Proofs.YtpofkigboedliaaGreat

namespace Go.Proofs.YtpofkigboedliaaGreat
namespace Lm
open Go Go.RowKit
open Dm (WFr)
structure Nr (K B T p q:Nat):Prop where
  lo:K≤p
  le:p≤q
  emp:p=q→p=K
  ins:p<q→B≤p∧q≤T
theorem Nr.apart {K B T p q B' T' p' q' : Nat} (h:Nr K B T p q) (h' : Nr K B' T' p' q') (hd:T≤B'∨T'≤B):q≤p'∨q'≤p:=by
  obtain ⟨h1,h2,h3,h4⟩:=h
  obtain ⟨k1,k2,k3,k4⟩:=h'
  omega
theorem Nr.top {K B T p q M:Nat} (h:Nr K B T p q) (hK:K≤M) (hT:T≤M):q≤M:=by
  obtain ⟨h1,h2,h3,h4⟩:=h
  omega
def Bl (w:World) (p q:Nat):Prop:=∀ j,p≤j→j<q→∃ cur,w.heap[j]? = some (.cells cur 69 (0,0))
theorem Fr.nr {B T K:Nat} {w:World} {ao:Option Addr} {cap:Nat} {rs:List Int} {x:Int} (h:Fr B T w ao cap rs x) (hK:K≤B):∃ p q,Fr p q w ao cap rs x∧Nr K B T p q∧Bl w p q:=by
  obtain ⟨ho,hc,hv,hl⟩:=h
  obtain ⟨e,h1,h2,h4⟩:=ho.sl'
  by_cases h0:0<cap
  · rcases h4 with h4 | ⟨g,off,cur,rfl,hB,hh,h5,h6⟩
    · omega
    · have hg:=hl h0 g off rfl
      refine ⟨g,g+1,⟨?_,hc,hv,fun _ g' off' e'=>?_⟩,⟨by omega,by omega,fun _=>by omega,fun _=>by omega⟩,fun j h7 h8=>?_⟩
      · obtain ⟨ao',cap',hv',k1,k2,k3,k4⟩:=ho
        obtain ⟨rfl,_,rfl⟩:=(Value.slice.injEq .. ▸ hv')
        exact ⟨_,_,rfl,k1,k2,k3,.inr ⟨g,off,cur,rfl,Nat.le_refl _,hh,h5,h6⟩⟩
      · simp only [Option.some.injEq,Addr.mk.injEq,and_true] at e'
        omega
      · obtain rfl:j=g:=by omega
        exact ⟨cur,hh⟩
  · exact ⟨K,K,⟨ho.mono hK,hc,hv,fun h=>by omega⟩,⟨Nat.le_refl _,Nat.le_refl _,fun _=>rfl,fun h=>by omega⟩,fun j h7 h8=>by omega⟩
theorem WFr.nr {B T K:Nat} {w:World} {ng:Bool} {ao:Option Addr} {cap:Nat} {rs:List Int} {z:Int} (h:WFr B T w ng ao cap rs z) (hK:K≤B):∃ p q,WFr p q w ng ao cap rs z∧Nr K B T p q∧Bl w p q:=by
  obtain ⟨p,q,h1,h2,h3⟩:=h.fr.nr hK
  exact ⟨p,q,⟨h1,h.sgn⟩,h2,h3⟩
theorem Bl.out {τ:BoxTy} {w:World} {g p q:Nat} {v:Value} (h:Bl w p q) (hτ:τ.T≠69) (b:BoxV τ w g v):¬ (p≤g∧g<q):=by
  rintro ⟨h1,h2⟩
  obtain ⟨cur,hc⟩:=h g h1 h2
  obtain ⟨cs,_,b⟩:=b
  rw [b] at hc
  injection hc with hc
  injection hc with _ hc
  exact hτ hc
def InU (NN:Nat):List (Nat × Nat)→Nat→Prop
  | [],j=>NN≤j
  | i :: l,j=>(i.1≤j∧j<i.2)∨InU NN l j
theorem nin_nil {NN g:Nat} (h:g<NN):¬ InU NN [] g:=fun e=>by simp only [InU] at e;omega
theorem nin_cons {NN g p q:Nat} {l:List (Nat × Nat)} (h:¬ (p≤g∧g<q)) (h' : ¬ InU NN l g):¬ InU NN ((p,q) :: l) g:=fun e=>e.elim h h'
def AptU (NN:Nat) (l:List (Nat × Nat)) (p q:Nat):Prop:=∀ j,InU NN l j→j<p∨q≤j
theorem apt_nil {NN p q:Nat} (h:q≤NN):AptU NN [] p q:=fun j e=>by simp only [InU] at e;omega
theorem apt_cons {NN p q p' q' : Nat} {l:List (Nat × Nat)} (h:q'≤p∨q≤p') (h' : AptU NN l p q):AptU NN ((p',q') :: l) p q:=fun j e=>by
  rcases e with ⟨e1,e2⟩ | e
  · simp only at e1 e2
    omega
  · exact h' j e
def LowU (NN:Nat) (l:List (Nat × Nat)) (B:Nat):Prop:=∀ j,InU NN l j→B≤j
theorem low_nil {NN B:Nat} (h:B≤NN):LowU NN [] B:=fun j e=>by simp only [InU] at e;omega
theorem low_cons {NN B p q:Nat} {l:List (Nat × Nat)} (h:B≤p) (h' : LowU NN l B):LowU NN ((p,q) :: l) B:=fun j e=>by
  rcases e with ⟨e1,e2⟩ | e
  · simp only at e1
    omega
  · exact h' j e
theorem growU1 {NN S p q:Nat} {l:List (Nat × Nat)} {bs bs' : List Nat} (hN:NN≤S) (h:∀ j ∈ bs,InU NN l j) (hj:∀ j,j ∈ bs'→j ∈ bs∨S≤j∨(p≤j∧j<q)):∀ j ∈ bs',InU NN ((p,q) :: l) j:=by
  have far:∀ l j,NN≤j→InU NN l j:=by
    intro l j hj
    induction l with
    | nil=>exact hj
    | cons i l ih=>exact .inr ih
  intro j h1
  rcases hj j h1 with e | e | e
  · exact .inr (h j e)
  · exact .inr (far l j (by omega))
  · exact .inl e
theorem growU2 {NN S p q p' q' : Nat} {l:List (Nat × Nat)} {bs bs' ks:List Nat} (hN:NN≤S) (h:∀ j ∈ bs,InU NN l j) (hj:∀ j,j ∈ bs'∨j ∈ ks→j ∈ bs∨S≤j∨(p≤j∧j<q)∨(p'≤j∧j<q')):∀ j,j ∈ bs'∨j ∈ ks→InU NN ((p',q') :: (p,q) :: l) j:=by
  have far:∀ l j,NN≤j→InU NN l j:=by
    intro l j hj
    induction l with
    | nil=>exact hj
    | cons i l ih=>exact .inr ih
  intro j h1
  rcases hj j h1 with e | e | e | e
  · exact .inr (.inr (h j e))
  · exact .inr (.inr (far l j (by omega)))
  · exact .inr (.inl e)
  · exact .inl e
theorem bsT_ne {τ:BoxTy} {w:World} {p Q n g:Nat} {bs:List Nat} {v:Value} (hτ:τ.T≠34) (h:Bs w p Q bs n) (b:BoxV τ w g v):g≠p:=by
  obtain ⟨rv,lv,mv,_,hk⟩:=h
  obtain ⟨cs,_,b⟩:=b
  intro e
  subst e
  have:=hk.here
  rw [b] at this
  injection this with this
  injection this with _ this
  exact hτ this
end Lm
end Go.Proofs.YtpofkigboedliaaGreat

namespace Go.Proofs.YtpofkigboedliaaGreat
namespace Lm
open Go Go.RowKit
open Dm (WFr)
theorem nd_pos {x y:Int} (hy:0<y):∃ g a b:Int,0<g∧x=g*a∧y=g*b∧nm x y=a∧dn x y=b∧((Int.gcd x y:Nat):Int)=g:=by
  have hg:(0:Int)<((Int.gcd x y:Nat):Int):=gcd_pos' hy
  obtain ⟨a,ha⟩:=Int.gcd_dvd_left x y
  obtain ⟨b,hb⟩:=Int.gcd_dvd_right x y
  refine ⟨_,a,b,hg,ha,hb,?_,?_,rfl⟩
  · rw [nm,Int.sign_eq_one_of_pos hy,Int.one_mul]
    conv=>lhs;arg 1;rw [ha]
    exact Int.mul_ediv_cancel_left _ (by omega)
  · rw [dn,Int.sign_eq_one_of_pos hy,Int.one_mul]
    conv=>lhs;arg 1;rw [hb]
    exact Int.mul_ediv_cancel_left _ (by omega)
theorem tq_gt {q:Int} (h:0≤q):0<tq q:=by
  unfold tq
  split <;> omega
theorem bk_out {w:World} {p q b Q n:Nat} {bs:List Nat} (h:Bl w p q) (k:Bs w b Q bs n):b<p∨q≤b:=by
  apply Classical.byContradiction
  intro hn
  obtain ⟨rv,lv,mv,_,hk⟩:=k
  obtain ⟨cur,hc⟩:=h b (by omega) (by omega)
  have:=hk.here
  rw [hc] at this
  injection this with this
  injection this with _ this
  exact absurd this (by decide)
section
variable {dst:Option Tmp} {ty:TypeId} {pos:String} {after:Array Edge} {guard:Option (Nat × Bool)} {a:Act} {w:World} {ats:Array TypeId} {i j k:Nat} {z:Int} {L K:Nat}
theorem has_lent:Has Tryz.prog 7:=by unfold Has;kernel_rfl
theorem op_lent {La Lb:Nat} {nr:Bool} {ar br:Option Addr} {mr cr kr dr:Nat} {rs rt:List Int} {pr qr:Int} (hv:a.eval (.tmp i)=.agg #[.bool nr,.slice ar mr cr,.slice br kr dr]) (ha:a.eval (.tmp j)=.pointer (some ⟨La,0,none⟩)) (hb:a.eval (.tmp k)=.pointer (some ⟨Lb,0,none⟩)) (LNa:LendN w La) (LNb:LendN w Lb) (hab:La≠Lb) (Ar:Ag w nr ar mr cr rs pr) (Lr:rs.length≤1500) (Sr:Sl w (.slice br kr dr) rt) (Vr:val rt=qr) (Mr:rt.length≤1500) :
    Does Tryz.prog { dst,op:=.call { callee:=.value (.func 7),args:=#[.tmp i,.tmp j,.tmp k],argTypes:=ats },type:=ty,pos,after,guard } a.eval w fun v w'=>∃ ga gb,v=.agg #[.bool nr,.slice (some ⟨ga,5,none⟩) rs.length (rs.length+5),.slice (some ⟨gb,5,none⟩) rt.length (rt.length+5)]∧LendS w' La ga rs∧LendS w' Lb gb rt∧w.heap.size≤ga∧w.heap.size≤gb∧ga≠gb∧Touch2 w w' La Lb:=by
  refine does_call has_lent _ (by simp only [List.map_toArray,List.map_cons,List.map_nil,hv,ha,hb]) ((lent_z w La Lb LNa LNb hab nr ar mr cr rs pr Ar Lr br kr dr rt qr Sr Vr Mr).mono ?_)
  rintro e w' ⟨ga,gb,rfl,h⟩
  exact ⟨_,rfl,ga,gb,rfl,h⟩
end
end Lm
end Go.Proofs.YtpofkigboedliaaGreat

namespace Go.Proofs.YtpofkigboedliaaGreat
namespace Lm
open Go Go.RowKit
theorem frlow2 {P:Program} {o:Oper} {a:Act} {w:World} {K:Nat} {p q:Int} {L:Nat} {r:Says} (hK:K≤w.heap.size) (hd:Does P o a.eval w fun v w'=>Below w.heap.size w w'∧Tup2 (FrR w.heap.size p q L) r v w'):Does P o a.eval w fun v w'=>Below w.heap.size w w'∧Tup2 (FrR K p q L) r v w' :=
 hd.mono fun _ _ ⟨hb,x,y,e0,⟨T,h0,ng,ao,cap,rs,bo,dap,ss,B1,T1,B2,T2,e,h1,h2,h3,h4⟩,h5⟩=>⟨hb,x,y,e0,⟨T,h0,ng,ao,cap,rs,bo,dap,ss,B1,T1,B2,T2,e,h1,h2,⟨Nat.le_trans hK h3.1,h3.2.1,Nat.le_trans hK h3.2.2.1,h3.2.2.2⟩,h4⟩,h5⟩
set_option maxRecDepth 20000 in
set_option maxHeartbeats 2000000 in
theorem rmulF_z (w:World) (Br:Nat) (nr:Bool) (ar:Option Addr) (mr cr:Nat) (rs:List Int) (pr:Int) (Ar:Ag w nr ar mr cr rs pr) (Lr:rs.length≤Br) (br:Option Addr) (kr dr:Nat) (rt:List Int) (qr:Int) (Sr:Sl w (.slice br kr dr) rt) (Vr:val rt=qr) (Mr:rt.length≤Br) (Bu:Nat) (nu:Bool) (au:Option Addr) (mu cu:Nat) (us:List Int) (pu:Int) (Au:Ag w nu au mu cu us pu) (Lu:us.length≤Bu) (bu:Option Addr) (ku du:Nat) (ut:List Int) (qu:Int) (Su:Sl w (.slice bu ku du) ut) (Vu:val ut=qu) (Mu:ut.length≤Bu) (hL:2*(Br+Bu+4)≤100000) :
  Calls Tryz.prog 10 #[.agg #[.bool nr,.slice ar mr cr,.slice br kr dr],.agg #[.bool nu,.slice au mu cu,.slice bu ku du]] w fun e w'=>∃ v,e=.returned v∧(FrR w.heap.size (nm (tp pr qr*tp pu qu) (tq qr*tq qu)) (dn (tp pr qr*tp pu qu) (tq qr*tq qu)) (2*(Br+Bu+4))) v w'∧Below w.heap.size w w' := by
 go_enter Tryz.func10,Tryz.ntmps10
 generalize hA:(Act.mk _ _)=aa
 have hn:aa.tmps.size=26:=by rw [←hA];rfl
 have hd:aa.defers = []:=by rw [←hA]
 have f0:aa.eval (.tmp 0)=.agg #[.bool nr,.slice ar mr cr,.slice br kr dr]:=by rw [←hA];rfl
 have f1:aa.eval (.tmp 1)=.agg #[.bool nu,.slice au mu cu,.slice bu ku du]:=by rw [←hA];rfl
 clear hA
 have HB:Below w.heap.size w w:=Below.refl _ _
 have Dr:Ag w false br kr dr rt qr:=⟨Sr,Vr⟩
 have Du:Ag w false bu ku du ut qu:=⟨Su,Vu⟩
 refine wp_seq ?_
 refine region4 [some 2,some 3,some 4] [Tt,Tt,Tt] [⟨R3,some 0,0,2,.agg #[.bool nr,.slice ar mr cr,.slice br kr dr],none,[]⟩,⟨R3,some 1,0,3,.agg #[.bool nu,.slice au mu cu,.slice bu ku du],none,[]⟩,⟨R3,some 2,0,4,.agg #[.bool false,.slice none 0 0,.slice none 0 0],none,[]⟩] [] (by kernel_rfl) hn rfl (by kernel_rfl) (by kernel_rfl) (by kernel_rfl) (by kernel_rfl) (by kernel_rfl) (by kernel_rfl) ⟨True.mono4,True.mono4,True.mono4,trivial⟩ (ok_cons R3ok (ok_cons R3ok (ok_cons R3ok ok_nil))) (IsOld.all (bx:=[⟨R3,some 0,0,2,.agg #[.bool nr,.slice ar mr cr,.slice br kr dr],none,[]⟩,⟨R3,some 1,0,3,.agg #[.bool nu,.slice au mu cu,.slice bu ku du],none,[]⟩,⟨R3,some 2,0,4,.agg #[.bool false,.slice none 0 0,.slice none 0 0],none,[]⟩]) ⟨someNe,someNe,someNe,trivial⟩) (DisOld.all (bx:=[⟨R3,some 0,0,2,.agg #[.bool nr,.slice ar mr cr,.slice br kr dr],none,[]⟩,⟨R3,some 1,0,3,.agg #[.bool nu,.slice au mu cu,.slice bu ku du],none,[]⟩,⟨R3,some 2,0,4,.agg #[.bool false,.slice none 0 0,.slice none 0 0],none,[]⟩]) ⟨someNe,someNe,someNe,trivial⟩) ?_ ?_
 ·exact ⟨.alloc 0 _ rfl rfl (.inr ⟨_,rfl,r3_cs,fun a_ hR=>(hR 0 rfl).trans f0⟩) rfl rfl rfl rfl rfl,.alloc 1 _ rfl rfl (.inr ⟨_,rfl,r3_cs,fun a_ hR=>(hR 1 rfl).trans f1⟩) rfl rfl rfl rfl rfl,.alloc 2 _ rfl rfl (.inl ⟨rfl,rfl⟩) rfl rfl rfl rfl rfl,trivial⟩
 intro a1 w1 gs1 hn1 hd1 hBt hr hR hP hX hU
 replace hn:=hn1;replace hd:=hd1.trans hd
 have ne2_4:gs1 0≠gs1 2:=hU 0 2 (by simp) (by simp) (by decide)
 have ne3_4:gs1 1≠gs1 2:=hU 1 2 (by simp) (by simp) (by decide)
 have b2:BoxV R3 w1 (gs1 0) (.agg #[.bool nr,.slice ar mr cr,.slice br kr dr]):=(hX 0 _ rfl).2.2.2
 have f2:=(hX 0 _ rfl).1
 have u2:w.heap.size≤gs1 0:=Nat.le_trans HB.size ((hX 0 _ rfl).2.2.1 (by simp))
 have b3:BoxV R3 w1 (gs1 1) (.agg #[.bool nu,.slice au mu cu,.slice bu ku du]):=(hX 1 _ rfl).2.2.2
 have f3:=(hX 1 _ rfl).1
 have u3:w.heap.size≤gs1 1:=Nat.le_trans HB.size ((hX 1 _ rfl).2.2.1 (by simp))
 have b4:BoxV R3 w1 (gs1 2) (.agg #[.bool false,.slice none 0 0,.slice none 0 0]):=(hX 2 _ rfl).2.2.2
 have f4:=(hX 2 _ rfl).1
 have u4:w.heap.size≤gs1 2:=Nat.le_trans HB.size ((hX 2 _ rfl).2.2.1 (by simp))
 replace Ar:=Ar.rl hr
 replace Sr:=Sr.rl hr
 replace Dr:=Dr.rl hr
 replace Au:=Au.rl hr
 replace Su:=Su.rl hr
 replace Du:=Du.rl hr
 replace HB:=HB.trans (hBt.below HB.size (UpOld.all (bx:=[⟨R3,some 0,0,2,.agg #[.bool nr,.slice ar mr cr,.slice br kr dr],none,[]⟩,⟨R3,some 1,0,3,.agg #[.bool nu,.slice au mu cu,.slice bu ku du],none,[]⟩,⟨R3,some 2,0,4,.agg #[.bool false,.slice none 0 0,.slice none 0 0],none,[]⟩]) ⟨someNe,someNe,someNe,trivial⟩))
 clear hBt hr hR hP hX hU
 refine wp_seq ?_
 refine region4 [some 10,some 11,some 9,some 12,some 13,some 5,some 6,none,none] [Eqs (.agg #[.bool nr,.slice ar mr cr,.slice br kr dr]),Tup2 (IsW ((tp pr qr)) ((Br)+2)) (IsW ((tq qr)) ((Br)+2)),Tup2 (IsW ((tp pr qr)) ((Br)+2)) (IsW ((tq qr)) ((Br)+2)),IsW ((tp pr qr)) ((Br)+2),IsW ((tq qr)) ((Br)+2),Tt,Tt,Tt,Tt] [⟨W2,some 5,0,5,.agg #[.bool false,.slice none 0 0],some (7,12,3),[]⟩,⟨W2,some 6,0,6,.agg #[.bool false,.slice none 0 0],some (8,13,4),[]⟩] [] (by kernel_rfl) hn rfl (by kernel_rfl) (by kernel_rfl) (by kernel_rfl) (by kernel_rfl) (by kernel_rfl) (by kernel_rfl) ⟨Eqs.mono4 _,Tup2.mono4 (IsW.mono4 _ _) (IsW.mono4 _ _),Tup2.mono4 (IsW.mono4 _ _) (IsW.mono4 _ _),IsW.mono4 _ _,IsW.mono4 _ _,True.mono4,True.mono4,True.mono4,True.mono4,trivial⟩ (ok_cons W2ok (ok_cons W2ok ok_nil)) (IsOld.all (bx:=[⟨W2,some 5,0,5,.agg #[.bool false,.slice none 0 0],some (7,12,3),[]⟩,⟨W2,some 6,0,6,.agg #[.bool false,.slice none 0 0],some (8,13,4),[]⟩]) ⟨someNe,someNe,trivial⟩) (DisOld.all (bx:=[⟨W2,some 5,0,5,.agg #[.bool false,.slice none 0 0],some (7,12,3),[]⟩,⟨W2,some 6,0,6,.agg #[.bool false,.slice none 0 0],some (8,13,4),[]⟩]) ⟨someNe,someNe,trivial⟩) ?_ ?_
 ·exact ⟨.norm 10 rfl rfl rfl (fun a_ w_ _ t r R D _ _=>op_loadv R3ok ((R 2 rfl).trans f2) (b2.keep t ⟨someNe,someNe,trivial⟩)),.norm 11 rfl rfl rfl (fun a_ w_ _ t r R D _ _=>op_terms (isr_eq (show a_.eval (.tmp 10)=.agg #[.bool nr,.slice ar mr cr,.slice br kr dr] from D 0 rfl) (Ar.rl r) (Sr.rl r) Vr Lr Mr) (by omega)),.norm 9 rfl rfl rfl (fun a_ w_ _ t r R D _ _=>op_mvp (p:=Tup2 (IsW ((tp pr qr)) ((Br)+2)) (IsW ((tq qr)) ((Br)+2))) (show Tup2 (IsW ((tp pr qr)) ((Br)+2)) (IsW ((tq qr)) ((Br)+2)) (a_.eval (.tmp 11)) w_ from D 1 rfl)),.norm 12 rfl rfl rfl (fun a_ w_ _ t r R D _ _=>op_ex20 (show Tup2 (IsW ((tp pr qr)) ((Br)+2)) (IsW ((tq qr)) ((Br)+2)) (a_.eval (.tmp 9)) w_ from D 2 rfl)),.norm 13 rfl rfl rfl (fun a_ w_ _ t r R D _ _=>op_ex21 (show Tup2 (IsW ((tp pr qr)) ((Br)+2)) (IsW ((tq qr)) ((Br)+2)) (a_.eval (.tmp 9)) w_ from D 2 rfl)),.alloc 0 _ rfl rfl (.inl ⟨rfl,rfl⟩) rfl rfl rfl rfl rfl,.alloc 1 _ rfl rfl (.inl ⟨rfl,rfl⟩) rfl rfl rfl rfl rfl,.store 0 _ _ _ rfl rfl rfl rfl rfl rfl rfl (fun ia h=>by cases h;rfl) rfl rfl rfl IsW.cs,.store 1 _ _ _ rfl rfl rfl rfl rfl rfl rfl (fun ia h=>by cases h;rfl) rfl rfl rfl IsW.cs,trivial⟩
 intro a2 w2 gs2 hn2 hd2 hBt hr hR hP hX hU
 replace hn:=hn2;replace hd:=hd2.trans hd
 have ne4_5:(gs1 2)≠gs2 0:=by have h1:=b4.lt;have h2:=(hX 0 _ rfl).2.2.1 (by simp);omega
 have ne4_6:(gs1 2)≠gs2 1:=by have h1:=b4.lt;have h2:=(hX 1 _ rfl).2.2.1 (by simp);omega
 replace b3:=b3.keep hBt ⟨someNe,someNe,trivial⟩
 replace b4:=b4.keep hBt ⟨someNe,someNe,trivial⟩
 obtain ⟨n_3,a_3,m_3,c_3,r_3,e12,A3,l3⟩:IsW ((tp pr qr)) ((Br)+2) (a2.eval (.tmp 12)) w2:=hP 3 (by decide)
 have b5:BoxV W2 w2 (gs2 0) (.agg #[.bool n_3,.slice a_3 m_3 c_3]):=boxv_of (hX 0 _ rfl).2.2.2 e12
 have f5:=(hX 0 _ rfl).1
 have u5:w.heap.size≤gs2 0:=Nat.le_trans HB.size ((hX 0 _ rfl).2.2.1 (by simp))
 obtain ⟨n_4,a_4,m_4,c_4,r_4,e13,A4,l4⟩:IsW ((tq qr)) ((Br)+2) (a2.eval (.tmp 13)) w2:=hP 4 (by decide)
 have b6:BoxV W2 w2 (gs2 1) (.agg #[.bool n_4,.slice a_4 m_4 c_4]):=boxv_of (hX 1 _ rfl).2.2.2 e13
 have f6:=(hX 1 _ rfl).1
 have u6:w.heap.size≤gs2 1:=Nat.le_trans HB.size ((hX 1 _ rfl).2.2.1 (by simp))
 replace f3:=(hR 3 rfl).trans f3
 replace f4:=(hR 4 rfl).trans f4
 replace Ar:=Ar.rl hr
 replace Sr:=Sr.rl hr
 replace Dr:=Dr.rl hr
 replace Au:=Au.rl hr
 replace Su:=Su.rl hr
 replace Du:=Du.rl hr
 replace HB:=HB.trans (hBt.below HB.size (UpOld.all (bx:=[⟨W2,some 5,0,5,.agg #[.bool false,.slice none 0 0],some (7,12,3),[]⟩,⟨W2,some 6,0,6,.agg #[.bool false,.slice none 0 0],some (8,13,4),[]⟩]) ⟨someNe,someNe,trivial⟩))
 clear hBt hr hR hP hX hU
 refine wp_seq ?_
 refine region4 [some 15,some 16,some 14,some 17,some 18,some 7,some 8,none,none] [Eqs (.agg #[.bool nu,.slice au mu cu,.slice bu ku du]),Tup2 (IsW ((tp pu qu)) ((Bu)+2)) (IsW ((tq qu)) ((Bu)+2)),Tup2 (IsW ((tp pu qu)) ((Bu)+2)) (IsW ((tq qu)) ((Bu)+2)),IsW ((tp pu qu)) ((Bu)+2),IsW ((tq qu)) ((Bu)+2),Tt,Tt,Tt,Tt] [⟨W2,some 5,0,7,.agg #[.bool false,.slice none 0 0],some (7,17,3),[]⟩,⟨W2,some 6,0,8,.agg #[.bool false,.slice none 0 0],some (8,18,4),[]⟩] [] (by kernel_rfl) hn rfl (by kernel_rfl) (by kernel_rfl) (by kernel_rfl) (by kernel_rfl) (by kernel_rfl) (by kernel_rfl) ⟨Eqs.mono4 _,Tup2.mono4 (IsW.mono4 _ _) (IsW.mono4 _ _),Tup2.mono4 (IsW.mono4 _ _) (IsW.mono4 _ _),IsW.mono4 _ _,IsW.mono4 _ _,True.mono4,True.mono4,True.mono4,True.mono4,trivial⟩ (ok_cons W2ok (ok_cons W2ok ok_nil)) (IsOld.all (bx:=[⟨W2,some 5,0,7,.agg #[.bool false,.slice none 0 0],some (7,17,3),[]⟩,⟨W2,some 6,0,8,.agg #[.bool false,.slice none 0 0],some (8,18,4),[]⟩]) ⟨someNe,someNe,trivial⟩) (DisOld.all (bx:=[⟨W2,some 5,0,7,.agg #[.bool false,.slice none 0 0],some (7,17,3),[]⟩,⟨W2,some 6,0,8,.agg #[.bool false,.slice none 0 0],some (8,18,4),[]⟩]) ⟨someNe,someNe,trivial⟩) ?_ ?_
 ·exact ⟨.norm 15 rfl rfl rfl (fun a_ w_ _ t r R D _ _=>op_loadv R3ok ((R 3 rfl).trans f3) (b3.keep t ⟨someNe,someNe,trivial⟩)),.norm 16 rfl rfl rfl (fun a_ w_ _ t r R D _ _=>op_terms (isr_eq (show a_.eval (.tmp 15)=.agg #[.bool nu,.slice au mu cu,.slice bu ku du] from D 0 rfl) (Au.rl r) (Su.rl r) Vu Lu Mu) (by omega)),.norm 14 rfl rfl rfl (fun a_ w_ _ t r R D _ _=>op_mvp (p:=Tup2 (IsW ((tp pu qu)) ((Bu)+2)) (IsW ((tq qu)) ((Bu)+2))) (show Tup2 (IsW ((tp pu qu)) ((Bu)+2)) (IsW ((tq qu)) ((Bu)+2)) (a_.eval (.tmp 16)) w_ from D 1 rfl)),.norm 17 rfl rfl rfl (fun a_ w_ _ t r R D _ _=>op_ex20 (show Tup2 (IsW ((tp pu qu)) ((Bu)+2)) (IsW ((tq qu)) ((Bu)+2)) (a_.eval (.tmp 14)) w_ from D 2 rfl)),.norm 18 rfl rfl rfl (fun a_ w_ _ t r R D _ _=>op_ex21 (show Tup2 (IsW ((tp pu qu)) ((Bu)+2)) (IsW ((tq qu)) ((Bu)+2)) (a_.eval (.tmp 14)) w_ from D 2 rfl)),.alloc 0 _ rfl rfl (.inl ⟨rfl,rfl⟩) rfl rfl rfl rfl rfl,.alloc 1 _ rfl rfl (.inl ⟨rfl,rfl⟩) rfl rfl rfl rfl rfl,.store 0 _ _ _ rfl rfl rfl rfl rfl rfl rfl (fun ia h=>by cases h;rfl) rfl rfl rfl IsW.cs,.store 1 _ _ _ rfl rfl rfl rfl rfl rfl rfl (fun ia h=>by cases h;rfl) rfl rfl rfl IsW.cs,trivial⟩
 intro a5 w5 gs5 hn5 hd5 hBt hr hR hP hX hU
 replace hn:=hn5;replace hd:=hd5.trans hd
 have ne4_7:(gs1 2)≠gs5 0:=by have h1:=b4.lt;have h2:=(hX 0 _ rfl).2.2.1 (by simp);omega
 have ne4_8:(gs1 2)≠gs5 1:=by have h1:=b4.lt;have h2:=(hX 1 _ rfl).2.2.1 (by simp);omega
 replace b4:=b4.keep hBt ⟨someNe,someNe,trivial⟩
 replace b5:=b5.keep hBt ⟨someNe,someNe,trivial⟩
 replace b6:=b6.keep hBt ⟨someNe,someNe,trivial⟩
 obtain ⟨n_6,a_6,m_6,c_6,r_6,e17,A6,l6⟩:IsW ((tp pu qu)) ((Bu)+2) (a5.eval (.tmp 17)) w5:=hP 3 (by decide)
 have b7:BoxV W2 w5 (gs5 0) (.agg #[.bool n_6,.slice a_6 m_6 c_6]):=boxv_of (hX 0 _ rfl).2.2.2 e17
 have f7:=(hX 0 _ rfl).1
 have u7:w.heap.size≤gs5 0:=Nat.le_trans HB.size ((hX 0 _ rfl).2.2.1 (by simp))
 obtain ⟨n_7,a_7,m_7,c_7,r_7,e18,A7,l7⟩:IsW ((tq qu)) ((Bu)+2) (a5.eval (.tmp 18)) w5:=hP 4 (by decide)
 have b8:BoxV W2 w5 (gs5 1) (.agg #[.bool n_7,.slice a_7 m_7 c_7]):=boxv_of (hX 1 _ rfl).2.2.2 e18
 have f8:=(hX 1 _ rfl).1
 have u8:w.heap.size≤gs5 1:=Nat.le_trans HB.size ((hX 1 _ rfl).2.2.1 (by simp))
 replace f4:=(hR 4 rfl).trans f4
 replace f5:=(hR 5 rfl).trans f5
 replace f6:=(hR 6 rfl).trans f6
 replace Ar:=Ar.rl hr
 replace Sr:=Sr.rl hr
 replace Dr:=Dr.rl hr
 replace Au:=Au.rl hr
 replace Su:=Su.rl hr
 replace Du:=Du.rl hr
 replace A3:=A3.rl hr
 replace A4:=A4.rl hr
 replace HB:=HB.trans (hBt.below HB.size (UpOld.all (bx:=[⟨W2,some 5,0,7,.agg #[.bool false,.slice none 0 0],some (7,17,3),[]⟩,⟨W2,some 6,0,8,.agg #[.bool false,.slice none 0 0],some (8,18,4),[]⟩]) ⟨someNe,someNe,trivial⟩))
 clear hBt hr hR hP hX hU
 refine wp_seq ?_
 refine region4 [some 19,some 20,some 21,some 22,some 23,some 24,some 25,none] [Eqs (.agg #[.bool n_3,.slice a_3 m_3 c_3]),Eqs (.agg #[.bool n_6,.slice a_6 m_6 c_6]),OutW (((tp pr qr)*(tp pu qu))) (((Br)+2)+((Bu)+2)),Eqs (.agg #[.bool n_4,.slice a_4 m_4 c_4]),Eqs (.agg #[.bool n_7,.slice a_7 m_7 c_7]),OutW (((tq qr)*(tq qu))) (((Br)+2)+((Bu)+2)),FrR (w.heap.size) ((nm ((tp pr qr)*(tp pu qu)) ((tq qr)*(tq qu)))) ((dn ((tp pr qr)*(tp pu qu)) ((tq qr)*(tq qu)))) ((((Br)+2)+((Bu)+2))+(((Br)+2)+((Bu)+2))),Tt] [⟨R3,none,(gs1 2),4,.agg #[.bool false,.slice none 0 0,.slice none 0 0],some (7,25,6),[]⟩] [] (by kernel_rfl) hn rfl (by kernel_rfl) (by kernel_rfl) (by kernel_rfl) (by kernel_rfl) (by kernel_rfl) (by kernel_rfl) ⟨Eqs.mono4 _,Eqs.mono4 _,OutW.mono4 _ _,Eqs.mono4 _,Eqs.mono4 _,OutW.mono4 _ _,FrR.mono4 _ _ _ _,True.mono4,trivial⟩ (ok_cons R3ok ok_nil) (IsOld.all (bx:=[⟨R3,none,(gs1 2),4,.agg #[.bool false,.slice none 0 0,.slice none 0 0],some (7,25,6),[]⟩]) ⟨fun _=>⟨f4,b4⟩,trivial⟩) (DisOld.all (bx:=[⟨R3,none,(gs1 2),4,.agg #[.bool false,.slice none 0 0,.slice none 0 0],some (7,25,6),[]⟩]) ⟨fun _=>trivial,trivial⟩) ?_ ?_
 ·exact ⟨.norm 19 rfl rfl rfl (fun a_ w_ _ t r R D _ _=>op_loadv W2ok ((R 5 rfl).trans f5) (b5.keep t ⟨fun _=>ne4_5,trivial⟩)),.norm 20 rfl rfl rfl (fun a_ w_ _ t r R D _ _=>op_loadv W2ok ((R 7 rfl).trans f7) (b7.keep t ⟨fun _=>ne4_7,trivial⟩)),.norm 21 rfl rfl rfl (fun a_ w_ _ t r R D _ _=>op_mul (L1:=(Br)+2) (L2:=(Bu)+2) (isw_eq (show a_.eval (.tmp 19)=.agg #[.bool n_3,.slice a_3 m_3 c_3] from D 0 rfl) (A3.rl r) l3) (isw_eq (show a_.eval (.tmp 20)=.agg #[.bool n_6,.slice a_6 m_6 c_6] from D 1 rfl) (A6.rl r) l6) (by omega) (by omega)),.norm 22 rfl rfl rfl (fun a_ w_ _ t r R D _ _=>op_loadv W2ok ((R 6 rfl).trans f6) (b6.keep t ⟨fun _=>ne4_6,trivial⟩)),.norm 23 rfl rfl rfl (fun a_ w_ _ t r R D _ _=>op_loadv W2ok ((R 8 rfl).trans f8) (b8.keep t ⟨fun _=>ne4_8,trivial⟩)),.norm 24 rfl rfl rfl (fun a_ w_ _ t r R D _ _=>op_mul (L1:=(Br)+2) (L2:=(Bu)+2) (isw_eq (show a_.eval (.tmp 22)=.agg #[.bool n_4,.slice a_4 m_4 c_4] from D 3 rfl) (A4.rl r) l4) (isw_eq (show a_.eval (.tmp 23)=.agg #[.bool n_7,.slice a_7 m_7 c_7] from D 4 rfl) (A7.rl r) l7) (by omega) (by omega)),.norm 25 rfl rfl rfl (fun a_ w_ _ t r R D _ _=>frlow (Nat.le_trans HB.size r.size) (op_lowestF (show OutW (((tp pr qr)*(tp pu qu))) (((Br)+2)+((Bu)+2)) (a_.eval (.tmp 21)) w_ from D 2 rfl).is (show OutW (((tq qr)*(tq qu))) (((Br)+2)+((Bu)+2)) (a_.eval (.tmp 24)) w_ from D 5 rfl).is (by omega) (mul_ne (tq_ne _) (tq_ne _)))),.store 0 _ _ _ rfl rfl rfl rfl rfl rfl rfl (fun ia h=>by cases h) rfl rfl rfl FrR.cs,trivial⟩
 intro a8 w8 gs8 hn8 hd8 hBt hr hR hP hX hU
 replace hn:=hn8;replace hd:=hd8.trans hd
 obtain ⟨T9,ft9,n_9,a_9,c_9,r_9,b_9,d_9,s_9,Bp9,Tp9,Bq9,Tq9,e25,F9,H9,fb9,fd9,l9,k9⟩:FrR (w.heap.size) ((nm ((tp pr qr)*(tp pu qu)) ((tq qr)*(tq qu)))) ((dn ((tp pr qr)*(tp pu qu)) ((tq qr)*(tq qu)))) ((((Br)+2)+((Bu)+2))+(((Br)+2)+((Bu)+2))) (a8.eval (.tmp 25)) w8:=hP 6 (by decide)
 have G9:=F9.wh;have K9:=H9.got;have A9:=G9.ag;have S9:=K9.sl;have V9:=K9.val;have HT9:SzGe T9 w8:=ft9
 have b4:BoxV R3 w8 ((gs1 2)) (.agg #[.bool n_9,.slice a_9 r_9.length c_9,.slice b_9 s_9.length d_9]):=boxv_old ((hX 0 _ rfl).2.1 rfl) (hX 0 _ rfl).2.2.2 e25
 replace f4:a8.eval (.tmp 4) = _:=(hR 4 rfl).trans f4
 replace Ar:=Ar.rl hr
 replace Sr:=Sr.rl hr
 replace Dr:=Dr.rl hr
 replace Au:=Au.rl hr
 replace Su:=Su.rl hr
 replace Du:=Du.rl hr
 replace A3:=A3.rl hr
 replace A4:=A4.rl hr
 replace A6:=A6.rl hr
 replace A7:=A7.rl hr
 replace HB:=HB.trans (hBt.below HB.size (UpOld.all (bx:=[⟨R3,none,(gs1 2),4,.agg #[.bool false,.slice none 0 0,.slice none 0 0],some (7,25,6),[]⟩]) ⟨fun _=>u4,trivial⟩))
 clear hBt hr hR hP hX hU
 refine wp_ret ?_
 repeat (first | refine then_ret ?_ | refine scope_ret ?_ | refine block_ret ?_)
 exact bodyPost_ret (v:=.agg #[.bool n_9,.slice a_9 r_9.length c_9,.slice b_9 s_9.length d_9]) (res_c rfl f4 (lv_R3 b4)) hd ⟨_,rfl,FrR.to ⟨_,HT9.le,_,_,_,_,_,_,_,_,_,_,_,rfl,F9,H9,fb9,fd9,l9,k9⟩ rfl rfl (by omega),HB⟩
theorem has_rmulF:Has Tryz.prog 10:=by unfold Has;kernel_rfl
theorem op_rmulF {dst:Option Tmp} {ty:TypeId} {pos:String} {after:Array Edge} {guard:Option (Nat × Bool)} {a:Act} {w:World} {ats:Array TypeId} {i j:Nat} {Br:Nat} {pr qr:Int} (Hr:IsR pr qr Br (a.eval (.tmp i)) w) {Bu:Nat} {pu qu:Int} (Hu:IsR pu qu Bu (a.eval (.tmp j)) w) (hL:2*(Br+Bu+4)≤100000) :
  Does Tryz.prog { dst,op:=.call { callee:=.value (.func 10),args:=#[.tmp i,.tmp j],argTypes:=ats },type:=ty,pos,after,guard } a.eval w fun v w'=>Below w.heap.size w w'∧(FrR w.heap.size (nm (tp pr qr*tp pu qu) (tq qr*tq qu)) (dn (tp pr qr*tp pu qu) (tq qr*tq qu)) (2*(Br+Bu+4))) v w' := by
 obtain ⟨nr,ar,mr,cr,rs,br,kr,dr,rt,er,Ar,Sr,Vr,Lr,Mr⟩:=Hr
 obtain ⟨nu,au,mu,cu,us,bu,ku,du,ut,eu,Au,Su,Vu,Lu,Mu⟩:=Hu
 refine does_call has_rmulF _ (by simp only [List.map_toArray,List.map_cons,List.map_nil,er,eu]) ((rmulF_z w Br _ _ _ _ _ _ Ar Lr _ _ _ _ _ Sr Vr Mr Bu _ _ _ _ _ _ Au Lu _ _ _ _ _ Su Vu Mu hL).mono ?_)
 rintro e w' ⟨v,rfl,h1,hb⟩
 exact ⟨_,rfl,hb,h1⟩
set_option maxRecDepth 20000 in
set_option maxHeartbeats 2000000 in
theorem joinFg_z (w:World) (Br:Nat) (nr:Bool) (ar:Option Addr) (mr cr:Nat) (rs:List Int) (pr:Int) (Ar:Ag w nr ar mr cr rs pr) (Lr:rs.length≤Br) (br:Option Addr) (kr dr:Nat) (rt:List Int) (qr:Int) (Sr:Sl w (.slice br kr dr) rt) (Vr:val rt=qr) (Mr:rt.length≤Br) (Bu:Nat) (nu:Bool) (au:Option Addr) (mu cu:Nat) (us:List Int) (pu:Int) (Au:Ag w nu au mu cu us pu) (Lu:us.length≤Bu) (bu:Option Addr) (ku du:Nat) (ut:List Int) (qu:Int) (Su:Sl w (.slice bu ku du) ut) (Vu:val ut=qu) (Mu:ut.length≤Bu) (fn:FuncId) (op:Int→Int→Int) (hop:∀ {dst:Option Tmp} {ty:TypeId} {pos:String} {after:Array Edge} {guard:Option (Nat × Bool)} {a:Act} {w:World} {ats:Array TypeId} {i j:Nat} {x y:Int} {L1 L2:Nat},IsW x L1 (a.eval (.tmp i)) w→IsW y L2 (a.eval (.tmp j)) w→L1≤400000→L2≤400000→Does Tryz.prog { dst,op:=.call { callee:=.value (.func fn),args:=#[.tmp i,.tmp j],argTypes:=ats },type:=ty,pos,after,guard } a.eval w fun v w'=>Below w.heap.size w w'∧OutW (op x y) (L1+L2+1) v w') (hL:3*(Br+Bu+4)+1≤100000) :
  Calls Tryz.prog 32 #[.agg #[.bool nr,.slice ar mr cr,.slice br kr dr],.agg #[.bool nu,.slice au mu cu,.slice bu ku du],.func (.func fn) #[] #[]] w fun e w'=>∃ v,e=.returned v∧(FrR w.heap.size (nm (op (tp pr qr*tq qu) (tp pu qu*tq qr)) (tq qr*tq qu)) (dn (op (tp pr qr*tq qu) (tp pu qu*tq qr)) (tq qr*tq qu)) (3*(Br+Bu+4)+1)) v w'∧Below w.heap.size w w' := by
 go_enter Tryz.func32,Tryz.ntmps32
 generalize hA:(Act.mk _ _)=aa
 have hn:aa.tmps.size=35:=by rw [←hA];rfl
 have hd:aa.defers = []:=by rw [←hA]
 have f0:aa.eval (.tmp 0)=.agg #[.bool nr,.slice ar mr cr,.slice br kr dr]:=by rw [←hA];rfl
 have f1:aa.eval (.tmp 1)=.agg #[.bool nu,.slice au mu cu,.slice bu ku du]:=by rw [←hA];rfl
 have f2:aa.eval (.tmp 2)=.func (.func fn) #[] #[]:=by rw [←hA];rfl
 clear hA
 have HB:Below w.heap.size w w:=Below.refl _ _
 have Dr:Ag w false br kr dr rt qr:=⟨Sr,Vr⟩
 have Du:Ag w false bu ku du ut qu:=⟨Su,Vu⟩
 refine wp_seq ?_
 refine region4 [some 3,some 4,some 6] [Tt,Tt,Tt] [⟨R3,some 0,0,3,.agg #[.bool nr,.slice ar mr cr,.slice br kr dr],none,[]⟩,⟨R3,some 1,0,4,.agg #[.bool nu,.slice au mu cu,.slice bu ku du],none,[]⟩,⟨R3,some 2,0,6,.agg #[.bool false,.slice none 0 0,.slice none 0 0],none,[]⟩] [] (by kernel_rfl) hn rfl (by kernel_rfl) (by kernel_rfl) (by kernel_rfl) (by kernel_rfl) (by kernel_rfl) (by kernel_rfl) ⟨True.mono4,True.mono4,True.mono4,trivial⟩ (ok_cons R3ok (ok_cons R3ok (ok_cons R3ok ok_nil))) (IsOld.all (bx:=[⟨R3,some 0,0,3,.agg #[.bool nr,.slice ar mr cr,.slice br kr dr],none,[]⟩,⟨R3,some 1,0,4,.agg #[.bool nu,.slice au mu cu,.slice bu ku du],none,[]⟩,⟨R3,some 2,0,6,.agg #[.bool false,.slice none 0 0,.slice none 0 0],none,[]⟩]) ⟨someNe,someNe,someNe,trivial⟩) (DisOld.all (bx:=[⟨R3,some 0,0,3,.agg #[.bool nr,.slice ar mr cr,.slice br kr dr],none,[]⟩,⟨R3,some 1,0,4,.agg #[.bool nu,.slice au mu cu,.slice bu ku du],none,[]⟩,⟨R3,some 2,0,6,.agg #[.bool false,.slice none 0 0,.slice none 0 0],none,[]⟩]) ⟨someNe,someNe,someNe,trivial⟩) ?_ ?_
 ·exact ⟨.alloc 0 _ rfl rfl (.inr ⟨_,rfl,r3_cs,fun a_ hR=>(hR 0 rfl).trans f0⟩) rfl rfl rfl rfl rfl,.alloc 1 _ rfl rfl (.inr ⟨_,rfl,r3_cs,fun a_ hR=>(hR 1 rfl).trans f1⟩) rfl rfl rfl rfl rfl,.alloc 2 _ rfl rfl (.inl ⟨rfl,rfl⟩) rfl rfl rfl rfl rfl,trivial⟩
 intro a1 w1 gs1 hn1 hd1 hBt hr hR hP hX hU
 replace hn:=hn1;replace hd:=hd1.trans hd
 have ne3_6:gs1 0≠gs1 2:=hU 0 2 (by simp) (by simp) (by decide)
 have ne4_6:gs1 1≠gs1 2:=hU 1 2 (by simp) (by simp) (by decide)
 have b3:BoxV R3 w1 (gs1 0) (.agg #[.bool nr,.slice ar mr cr,.slice br kr dr]):=(hX 0 _ rfl).2.2.2
 have f3:=(hX 0 _ rfl).1
 have u3:w.heap.size≤gs1 0:=Nat.le_trans HB.size ((hX 0 _ rfl).2.2.1 (by simp))
 have b4:BoxV R3 w1 (gs1 1) (.agg #[.bool nu,.slice au mu cu,.slice bu ku du]):=(hX 1 _ rfl).2.2.2
 have f4:=(hX 1 _ rfl).1
 have u4:w.heap.size≤gs1 1:=Nat.le_trans HB.size ((hX 1 _ rfl).2.2.1 (by simp))
 have b6:BoxV R3 w1 (gs1 2) (.agg #[.bool false,.slice none 0 0,.slice none 0 0]):=(hX 2 _ rfl).2.2.2
 have f6:=(hX 2 _ rfl).1
 have u6:w.heap.size≤gs1 2:=Nat.le_trans HB.size ((hX 2 _ rfl).2.2.1 (by simp))
 replace f2:=(hR 2 rfl).trans f2
 replace Ar:=Ar.rl hr
 replace Sr:=Sr.rl hr
 replace Dr:=Dr.rl hr
 replace Au:=Au.rl hr
 replace Su:=Su.rl hr
 replace Du:=Du.rl hr
 replace HB:=HB.trans (hBt.below HB.size (UpOld.all (bx:=[⟨R3,some 0,0,3,.agg #[.bool nr,.slice ar mr cr,.slice br kr dr],none,[]⟩,⟨R3,some 1,0,4,.agg #[.bool nu,.slice au mu cu,.slice bu ku du],none,[]⟩,⟨R3,some 2,0,6,.agg #[.bool false,.slice none 0 0,.slice none 0 0],none,[]⟩]) ⟨someNe,someNe,someNe,trivial⟩))
 clear hBt hr hR hP hX hU
 refine wp_seq ?_
 refine region4 [some 13,some 14,some 12,some 15,some 16,some 7,some 8,none,none] [Eqs (.agg #[.bool nr,.slice ar mr cr,.slice br kr dr]),Tup2 (IsW ((tp pr qr)) ((Br)+2)) (IsW ((tq qr)) ((Br)+2)),Tup2 (IsW ((tp pr qr)) ((Br)+2)) (IsW ((tq qr)) ((Br)+2)),IsW ((tp pr qr)) ((Br)+2),IsW ((tq qr)) ((Br)+2),Tt,Tt,Tt,Tt] [⟨W2,some 5,0,7,.agg #[.bool false,.slice none 0 0],some (7,15,3),[]⟩,⟨W2,some 6,0,8,.agg #[.bool false,.slice none 0 0],some (8,16,4),[]⟩] [] (by kernel_rfl) hn rfl (by kernel_rfl) (by kernel_rfl) (by kernel_rfl) (by kernel_rfl) (by kernel_rfl) (by kernel_rfl) ⟨Eqs.mono4 _,Tup2.mono4 (IsW.mono4 _ _) (IsW.mono4 _ _),Tup2.mono4 (IsW.mono4 _ _) (IsW.mono4 _ _),IsW.mono4 _ _,IsW.mono4 _ _,True.mono4,True.mono4,True.mono4,True.mono4,trivial⟩ (ok_cons W2ok (ok_cons W2ok ok_nil)) (IsOld.all (bx:=[⟨W2,some 5,0,7,.agg #[.bool false,.slice none 0 0],some (7,15,3),[]⟩,⟨W2,some 6,0,8,.agg #[.bool false,.slice none 0 0],some (8,16,4),[]⟩]) ⟨someNe,someNe,trivial⟩) (DisOld.all (bx:=[⟨W2,some 5,0,7,.agg #[.bool false,.slice none 0 0],some (7,15,3),[]⟩,⟨W2,some 6,0,8,.agg #[.bool false,.slice none 0 0],some (8,16,4),[]⟩]) ⟨someNe,someNe,trivial⟩) ?_ ?_
 ·exact ⟨.norm 13 rfl rfl rfl (fun a_ w_ _ t r R D _ _=>op_loadv R3ok ((R 3 rfl).trans f3) (b3.keep t ⟨someNe,someNe,trivial⟩)),.norm 14 rfl rfl rfl (fun a_ w_ _ t r R D _ _=>op_terms (isr_eq (show a_.eval (.tmp 13)=.agg #[.bool nr,.slice ar mr cr,.slice br kr dr] from D 0 rfl) (Ar.rl r) (Sr.rl r) Vr Lr Mr) (by omega)),.norm 12 rfl rfl rfl (fun a_ w_ _ t r R D _ _=>op_mvp (p:=Tup2 (IsW ((tp pr qr)) ((Br)+2)) (IsW ((tq qr)) ((Br)+2))) (show Tup2 (IsW ((tp pr qr)) ((Br)+2)) (IsW ((tq qr)) ((Br)+2)) (a_.eval (.tmp 14)) w_ from D 1 rfl)),.norm 15 rfl rfl rfl (fun a_ w_ _ t r R D _ _=>op_ex20 (show Tup2 (IsW ((tp pr qr)) ((Br)+2)) (IsW ((tq qr)) ((Br)+2)) (a_.eval (.tmp 12)) w_ from D 2 rfl)),.norm 16 rfl rfl rfl (fun a_ w_ _ t r R D _ _=>op_ex21 (show Tup2 (IsW ((tp pr qr)) ((Br)+2)) (IsW ((tq qr)) ((Br)+2)) (a_.eval (.tmp 12)) w_ from D 2 rfl)),.alloc 0 _ rfl rfl (.inl ⟨rfl,rfl⟩) rfl rfl rfl rfl rfl,.alloc 1 _ rfl rfl (.inl ⟨rfl,rfl⟩) rfl rfl rfl rfl rfl,.store 0 _ _ _ rfl rfl rfl rfl rfl rfl rfl (fun ia h=>by cases h;rfl) rfl rfl rfl IsW.cs,.store 1 _ _ _ rfl rfl rfl rfl rfl rfl rfl (fun ia h=>by cases h;rfl) rfl rfl rfl IsW.cs,trivial⟩
 intro a2 w2 gs2 hn2 hd2 hBt hr hR hP hX hU
 replace hn:=hn2;replace hd:=hd2.trans hd
 have ne6_7:(gs1 2)≠gs2 0:=by have h1:=b6.lt;have h2:=(hX 0 _ rfl).2.2.1 (by simp);omega
 have ne6_8:(gs1 2)≠gs2 1:=by have h1:=b6.lt;have h2:=(hX 1 _ rfl).2.2.1 (by simp);omega
 replace b4:=b4.keep hBt ⟨someNe,someNe,trivial⟩
 replace b6:=b6.keep hBt ⟨someNe,someNe,trivial⟩
 obtain ⟨n_3,a_3,m_3,c_3,r_3,e15,A3,l3⟩:IsW ((tp pr qr)) ((Br)+2) (a2.eval (.tmp 15)) w2:=hP 3 (by decide)
 have b7:BoxV W2 w2 (gs2 0) (.agg #[.bool n_3,.slice a_3 m_3 c_3]):=boxv_of (hX 0 _ rfl).2.2.2 e15
 have f7:=(hX 0 _ rfl).1
 have u7:w.heap.size≤gs2 0:=Nat.le_trans HB.size ((hX 0 _ rfl).2.2.1 (by simp))
 obtain ⟨n_4,a_4,m_4,c_4,r_4,e16,A4,l4⟩:IsW ((tq qr)) ((Br)+2) (a2.eval (.tmp 16)) w2:=hP 4 (by decide)
 have b8:BoxV W2 w2 (gs2 1) (.agg #[.bool n_4,.slice a_4 m_4 c_4]):=boxv_of (hX 1 _ rfl).2.2.2 e16
 have f8:=(hX 1 _ rfl).1
 have u8:w.heap.size≤gs2 1:=Nat.le_trans HB.size ((hX 1 _ rfl).2.2.1 (by simp))
 replace f2:=(hR 2 rfl).trans f2
 replace f4:=(hR 4 rfl).trans f4
 replace f6:=(hR 6 rfl).trans f6
 replace Ar:=Ar.rl hr
 replace Sr:=Sr.rl hr
 replace Dr:=Dr.rl hr
 replace Au:=Au.rl hr
 replace Su:=Su.rl hr
 replace Du:=Du.rl hr
 replace HB:=HB.trans (hBt.below HB.size (UpOld.all (bx:=[⟨W2,some 5,0,7,.agg #[.bool false,.slice none 0 0],some (7,15,3),[]⟩,⟨W2,some 6,0,8,.agg #[.bool false,.slice none 0 0],some (8,16,4),[]⟩]) ⟨someNe,someNe,trivial⟩))
 clear hBt hr hR hP hX hU
 refine wp_seq ?_
 refine region4 [some 18,some 19,some 17,some 20,some 21,some 9,some 10,none,none] [Eqs (.agg #[.bool nu,.slice au mu cu,.slice bu ku du]),Tup2 (IsW ((tp pu qu)) ((Bu)+2)) (IsW ((tq qu)) ((Bu)+2)),Tup2 (IsW ((tp pu qu)) ((Bu)+2)) (IsW ((tq qu)) ((Bu)+2)),IsW ((tp pu qu)) ((Bu)+2),IsW ((tq qu)) ((Bu)+2),Tt,Tt,Tt,Tt] [⟨W2,some 5,0,9,.agg #[.bool false,.slice none 0 0],some (7,20,3),[]⟩,⟨W2,some 6,0,10,.agg #[.bool false,.slice none 0 0],some (8,21,4),[]⟩] [] (by kernel_rfl) hn rfl (by kernel_rfl) (by kernel_rfl) (by kernel_rfl) (by kernel_rfl) (by kernel_rfl) (by kernel_rfl) ⟨Eqs.mono4 _,Tup2.mono4 (IsW.mono4 _ _) (IsW.mono4 _ _),Tup2.mono4 (IsW.mono4 _ _) (IsW.mono4 _ _),IsW.mono4 _ _,IsW.mono4 _ _,True.mono4,True.mono4,True.mono4,True.mono4,trivial⟩ (ok_cons W2ok (ok_cons W2ok ok_nil)) (IsOld.all (bx:=[⟨W2,some 5,0,9,.agg #[.bool false,.slice none 0 0],some (7,20,3),[]⟩,⟨W2,some 6,0,10,.agg #[.bool false,.slice none 0 0],some (8,21,4),[]⟩]) ⟨someNe,someNe,trivial⟩) (DisOld.all (bx:=[⟨W2,some 5,0,9,.agg #[.bool false,.slice none 0 0],some (7,20,3),[]⟩,⟨W2,some 6,0,10,.agg #[.bool false,.slice none 0 0],some (8,21,4),[]⟩]) ⟨someNe,someNe,trivial⟩) ?_ ?_
 ·exact ⟨.norm 18 rfl rfl rfl (fun a_ w_ _ t r R D _ _=>op_loadv R3ok ((R 4 rfl).trans f4) (b4.keep t ⟨someNe,someNe,trivial⟩)),.norm 19 rfl rfl rfl (fun a_ w_ _ t r R D _ _=>op_terms (isr_eq (show a_.eval (.tmp 18)=.agg #[.bool nu,.slice au mu cu,.slice bu ku du] from D 0 rfl) (Au.rl r) (Su.rl r) Vu Lu Mu) (by omega)),.norm 17 rfl rfl rfl (fun a_ w_ _ t r R D _ _=>op_mvp (p:=Tup2 (IsW ((tp pu qu)) ((Bu)+2)) (IsW ((tq qu)) ((Bu)+2))) (show Tup2 (IsW ((tp pu qu)) ((Bu)+2)) (IsW ((tq qu)) ((Bu)+2)) (a_.eval (.tmp 19)) w_ from D 1 rfl)),.norm 20 rfl rfl rfl (fun a_ w_ _ t r R D _ _=>op_ex20 (show Tup2 (IsW ((tp pu qu)) ((Bu)+2)) (IsW ((tq qu)) ((Bu)+2)) (a_.eval (.tmp 17)) w_ from D 2 rfl)),.norm 21 rfl rfl rfl (fun a_ w_ _ t r R D _ _=>op_ex21 (show Tup2 (IsW ((tp pu qu)) ((Bu)+2)) (IsW ((tq qu)) ((Bu)+2)) (a_.eval (.tmp 17)) w_ from D 2 rfl)),.alloc 0 _ rfl rfl (.inl ⟨rfl,rfl⟩) rfl rfl rfl rfl rfl,.alloc 1 _ rfl rfl (.inl ⟨rfl,rfl⟩) rfl rfl rfl rfl rfl,.store 0 _ _ _ rfl rfl rfl rfl rfl rfl rfl (fun ia h=>by cases h;rfl) rfl rfl rfl IsW.cs,.store 1 _ _ _ rfl rfl rfl rfl rfl rfl rfl (fun ia h=>by cases h;rfl) rfl rfl rfl IsW.cs,trivial⟩
 intro a5 w5 gs5 hn5 hd5 hBt hr hR hP hX hU
 replace hn:=hn5;replace hd:=hd5.trans hd
 have ne6_9:(gs1 2)≠gs5 0:=by have h1:=b6.lt;have h2:=(hX 0 _ rfl).2.2.1 (by simp);omega
 have ne6_10:(gs1 2)≠gs5 1:=by have h1:=b6.lt;have h2:=(hX 1 _ rfl).2.2.1 (by simp);omega
 replace b6:=b6.keep hBt ⟨someNe,someNe,trivial⟩
 replace b7:=b7.keep hBt ⟨someNe,someNe,trivial⟩
 replace b8:=b8.keep hBt ⟨someNe,someNe,trivial⟩
 obtain ⟨n_6,a_6,m_6,c_6,r_6,e20,A6,l6⟩:IsW ((tp pu qu)) ((Bu)+2) (a5.eval (.tmp 20)) w5:=hP 3 (by decide)
 have b9:BoxV W2 w5 (gs5 0) (.agg #[.bool n_6,.slice a_6 m_6 c_6]):=boxv_of (hX 0 _ rfl).2.2.2 e20
 have f9:=(hX 0 _ rfl).1
 have u9:w.heap.size≤gs5 0:=Nat.le_trans HB.size ((hX 0 _ rfl).2.2.1 (by simp))
 obtain ⟨n_7,a_7,m_7,c_7,r_7,e21,A7,l7⟩:IsW ((tq qu)) ((Bu)+2) (a5.eval (.tmp 21)) w5:=hP 4 (by decide)
 have b10:BoxV W2 w5 (gs5 1) (.agg #[.bool n_7,.slice a_7 m_7 c_7]):=boxv_of (hX 1 _ rfl).2.2.2 e21
 have f10:=(hX 1 _ rfl).1
 have u10:w.heap.size≤gs5 1:=Nat.le_trans HB.size ((hX 1 _ rfl).2.2.1 (by simp))
 replace f2:=(hR 2 rfl).trans f2
 replace f6:=(hR 6 rfl).trans f6
 replace f7:=(hR 7 rfl).trans f7
 replace f8:=(hR 8 rfl).trans f8
 replace Ar:=Ar.rl hr
 replace Sr:=Sr.rl hr
 replace Dr:=Dr.rl hr
 replace Au:=Au.rl hr
 replace Su:=Su.rl hr
 replace Du:=Du.rl hr
 replace A3:=A3.rl hr
 replace A4:=A4.rl hr
 replace HB:=HB.trans (hBt.below HB.size (UpOld.all (bx:=[⟨W2,some 5,0,9,.agg #[.bool false,.slice none 0 0],some (7,20,3),[]⟩,⟨W2,some 6,0,10,.agg #[.bool false,.slice none 0 0],some (8,21,4),[]⟩]) ⟨someNe,someNe,trivial⟩))
 clear hBt hr hR hP hX hU
 refine wp_seq ?_
 refine region4 [some 22,some 23,some 24,some 25,some 26,some 27,some 28,some 29,some 11,none] [Eqs (.func (.func fn) #[] #[]),Eqs (.agg #[.bool n_3,.slice a_3 m_3 c_3]),Eqs (.agg #[.bool n_7,.slice a_7 m_7 c_7]),OutW (((tp pr qr)*(tq qu))) (((Br)+2)+((Bu)+2)),Eqs (.agg #[.bool n_6,.slice a_6 m_6 c_6]),Eqs (.agg #[.bool n_4,.slice a_4 m_4 c_4]),OutW (((tp pu qu)*(tq qr))) (((Bu)+2)+((Br)+2)),OutW ((op ((tp pr qr)*(tq qu)) ((tp pu qu)*(tq qr)))) ((((Br)+2)+((Bu)+2))+(((Bu)+2)+((Br)+2))+1),Tt,Tt] [⟨W2,some 8,0,11,.agg #[.bool false,.slice none 0 0],some (9,29,7),[]⟩] [] (by kernel_rfl) hn rfl (by kernel_rfl) (by kernel_rfl) (by kernel_rfl) (by kernel_rfl) (by kernel_rfl) (by kernel_rfl) ⟨Eqs.mono4 _,Eqs.mono4 _,Eqs.mono4 _,OutW.mono4 _ _,Eqs.mono4 _,Eqs.mono4 _,OutW.mono4 _ _,OutW.mono4 _ _,True.mono4,True.mono4,trivial⟩ (ok_cons W2ok ok_nil) (IsOld.all (bx:=[⟨W2,some 8,0,11,.agg #[.bool false,.slice none 0 0],some (9,29,7),[]⟩]) ⟨someNe,trivial⟩) (DisOld.all (bx:=[⟨W2,some 8,0,11,.agg #[.bool false,.slice none 0 0],some (9,29,7),[]⟩]) ⟨someNe,trivial⟩) ?_ ?_
 ·exact ⟨.norm 22 rfl rfl rfl (fun a_ w_ _ t r R D _ _=>op_mv ((R 2 rfl).trans f2)),.norm 23 rfl rfl rfl (fun a_ w_ _ t r R D _ _=>op_loadv W2ok ((R 7 rfl).trans f7) (b7.keep t ⟨someNe,trivial⟩)),.norm 24 rfl rfl rfl (fun a_ w_ _ t r R D _ _=>op_loadv W2ok ((R 10 rfl).trans f10) (b10.keep t ⟨someNe,trivial⟩)),.norm 25 rfl rfl rfl (fun a_ w_ _ t r R D _ _=>op_mul (L1:=(Br)+2) (L2:=(Bu)+2) (isw_eq (show a_.eval (.tmp 23)=.agg #[.bool n_3,.slice a_3 m_3 c_3] from D 1 rfl) (A3.rl r) l3) (isw_eq (show a_.eval (.tmp 24)=.agg #[.bool n_7,.slice a_7 m_7 c_7] from D 2 rfl) (A7.rl r) l7) (by omega) (by omega)),.norm 26 rfl rfl rfl (fun a_ w_ _ t r R D _ _=>op_loadv W2ok ((R 9 rfl).trans f9) (b9.keep t ⟨someNe,trivial⟩)),.norm 27 rfl rfl rfl (fun a_ w_ _ t r R D _ _=>op_loadv W2ok ((R 8 rfl).trans f8) (b8.keep t ⟨someNe,trivial⟩)),.norm 28 rfl rfl rfl (fun a_ w_ _ t r R D _ _=>op_mul (L1:=(Bu)+2) (L2:=(Br)+2) (isw_eq (show a_.eval (.tmp 26)=.agg #[.bool n_6,.slice a_6 m_6 c_6] from D 4 rfl) (A6.rl r) l6) (isw_eq (show a_.eval (.tmp 27)=.agg #[.bool n_4,.slice a_4 m_4 c_4] from D 5 rfl) (A4.rl r) l4) (by omega) (by omega)),.norm 29 rfl rfl rfl (fun a_ w_ _ t r R D _ _=>does_via ((D 0 rfl:_ = _)) (hop (show OutW (((tp pr qr)*(tq qu))) (((Br)+2)+((Bu)+2)) (a_.eval (.tmp 25)) w_ from D 3 rfl).is (show OutW (((tp pu qu)*(tq qr))) (((Bu)+2)+((Br)+2)) (a_.eval (.tmp 28)) w_ from D 6 rfl).is (by omega) (by omega))),.alloc 0 _ rfl rfl (.inl ⟨rfl,rfl⟩) rfl rfl rfl rfl rfl,.store 0 _ _ _ rfl rfl rfl rfl rfl rfl rfl (fun ia h=>by cases h;rfl) rfl rfl rfl OutW.cs,trivial⟩
 intro a8 w8 gs8 hn8 hd8 hBt hr hR hP hX hU
 replace hn:=hn8;replace hd:=hd8.trans hd
 have ne6_11:(gs1 2)≠gs8 0:=by have h1:=b6.lt;have h2:=(hX 0 _ rfl).2.2.1 (by simp);omega
 replace b6:=b6.keep hBt ⟨someNe,trivial⟩
 replace b8:=b8.keep hBt ⟨someNe,trivial⟩
 replace b10:=b10.keep hBt ⟨someNe,trivial⟩
 obtain ⟨n_9,a_9,c_9,r_9,e29,G9,l9⟩:OutW ((op ((tp pr qr)*(tq qu)) ((tp pu qu)*(tq qr)))) ((((Br)+2)+((Bu)+2))+(((Bu)+2)+((Br)+2))+1) (a8.eval (.tmp 29)) w8:=hP 7 (by decide)
 have A9:=G9.ag
 have b11:BoxV W2 w8 (gs8 0) (.agg #[.bool n_9,.slice a_9 r_9.length c_9]):=boxv_of (hX 0 _ rfl).2.2.2 e29
 have f11:=(hX 0 _ rfl).1
 have u11:w.heap.size≤gs8 0:=Nat.le_trans HB.size ((hX 0 _ rfl).2.2.1 (by simp))
 replace f6:=(hR 6 rfl).trans f6
 replace f8:=(hR 8 rfl).trans f8
 replace f10:=(hR 10 rfl).trans f10
 replace Ar:=Ar.rl hr
 replace Sr:=Sr.rl hr
 replace Dr:=Dr.rl hr
 replace Au:=Au.rl hr
 replace Su:=Su.rl hr
 replace Du:=Du.rl hr
 replace A3:=A3.rl hr
 replace A4:=A4.rl hr
 replace A6:=A6.rl hr
 replace A7:=A7.rl hr
 replace HB:=HB.trans (hBt.below HB.size (UpOld.all (bx:=[⟨W2,some 8,0,11,.agg #[.bool false,.slice none 0 0],some (9,29,7),[]⟩]) ⟨someNe,trivial⟩))
 clear hBt hr hR hP hX hU
 refine wp_seq ?_
 refine region4 [some 30,some 31,some 32,some 33,some 34,none] [Eqs (.agg #[.bool n_9,.slice a_9 r_9.length c_9]),Eqs (.agg #[.bool n_4,.slice a_4 m_4 c_4]),Eqs (.agg #[.bool n_7,.slice a_7 m_7 c_7]),OutW (((tq qr)*(tq qu))) (((Br)+2)+((Bu)+2)),FrR (w.heap.size) ((nm (op ((tp pr qr)*(tq qu)) ((tp pu qu)*(tq qr))) ((tq qr)*(tq qu)))) ((dn (op ((tp pr qr)*(tq qu)) ((tp pu qu)*(tq qr))) ((tq qr)*(tq qu)))) (((((Br)+2)+((Bu)+2))+(((Bu)+2)+((Br)+2))+1)+(((Br)+2)+((Bu)+2))),Tt] [⟨R3,none,(gs1 2),6,.agg #[.bool false,.slice none 0 0,.slice none 0 0],some (5,34,4),[]⟩] [] (by kernel_rfl) hn rfl (by kernel_rfl) (by kernel_rfl) (by kernel_rfl) (by kernel_rfl) (by kernel_rfl) (by kernel_rfl) ⟨Eqs.mono4 _,Eqs.mono4 _,Eqs.mono4 _,OutW.mono4 _ _,FrR.mono4 _ _ _ _,True.mono4,trivial⟩ (ok_cons R3ok ok_nil) (IsOld.all (bx:=[⟨R3,none,(gs1 2),6,.agg #[.bool false,.slice none 0 0,.slice none 0 0],some (5,34,4),[]⟩]) ⟨fun _=>⟨f6,b6⟩,trivial⟩) (DisOld.all (bx:=[⟨R3,none,(gs1 2),6,.agg #[.bool false,.slice none 0 0,.slice none 0 0],some (5,34,4),[]⟩]) ⟨fun _=>trivial,trivial⟩) ?_ ?_
 ·exact ⟨.norm 30 rfl rfl rfl (fun a_ w_ _ t r R D _ _=>op_loadv W2ok ((R 11 rfl).trans f11) (b11.keep t ⟨fun _=>ne6_11,trivial⟩)),.norm 31 rfl rfl rfl (fun a_ w_ _ t r R D _ _=>op_loadv W2ok ((R 8 rfl).trans f8) (b8.keep t ⟨fun _=>ne6_8,trivial⟩)),.norm 32 rfl rfl rfl (fun a_ w_ _ t r R D _ _=>op_loadv W2ok ((R 10 rfl).trans f10) (b10.keep t ⟨fun _=>ne6_10,trivial⟩)),.norm 33 rfl rfl rfl (fun a_ w_ _ t r R D _ _=>op_mul (L1:=(Br)+2) (L2:=(Bu)+2) (isw_eq (show a_.eval (.tmp 31)=.agg #[.bool n_4,.slice a_4 m_4 c_4] from D 1 rfl) (A4.rl r) l4) (isw_eq (show a_.eval (.tmp 32)=.agg #[.bool n_7,.slice a_7 m_7 c_7] from D 2 rfl) (A7.rl r) l7) (by omega) (by omega)),.norm 34 rfl rfl rfl (fun a_ w_ _ t r R D _ _=>frlow (Nat.le_trans HB.size r.size) (op_lowestF (isw_eq (show a_.eval (.tmp 30)=.agg #[.bool n_9,.slice a_9 r_9.length c_9] from D 0 rfl) (A9.rl r) l9) (show OutW (((tq qr)*(tq qu))) (((Br)+2)+((Bu)+2)) (a_.eval (.tmp 33)) w_ from D 3 rfl).is (by omega) (mul_ne (tq_ne _) (tq_ne _)))),.store 0 _ _ _ rfl rfl rfl rfl rfl rfl rfl (fun ia h=>by cases h) rfl rfl rfl FrR.cs,trivial⟩
 intro a10 w10 gs10 hn10 hd10 hBt hr hR hP hX hU
 replace hn:=hn10;replace hd:=hd10.trans hd
 obtain ⟨T11,ft11,n_11,a_11,c_11,r_11,b_11,d_11,s_11,Bp11,Tp11,Bq11,Tq11,e34,F11,H11,fb11,fd11,l11,k11⟩:FrR (w.heap.size) ((nm (op ((tp pr qr)*(tq qu)) ((tp pu qu)*(tq qr))) ((tq qr)*(tq qu)))) ((dn (op ((tp pr qr)*(tq qu)) ((tp pu qu)*(tq qr))) ((tq qr)*(tq qu)))) (((((Br)+2)+((Bu)+2))+(((Bu)+2)+((Br)+2))+1)+(((Br)+2)+((Bu)+2))) (a10.eval (.tmp 34)) w10:=hP 4 (by decide)
 have G11:=F11.wh;have K11:=H11.got;have A11:=G11.ag;have S11:=K11.sl;have V11:=K11.val;have HT11:SzGe T11 w10:=ft11
 have b6:BoxV R3 w10 ((gs1 2)) (.agg #[.bool n_11,.slice a_11 r_11.length c_11,.slice b_11 s_11.length d_11]):=boxv_old ((hX 0 _ rfl).2.1 rfl) (hX 0 _ rfl).2.2.2 e34
 replace f6:a10.eval (.tmp 6) = _:=(hR 6 rfl).trans f6
 replace Ar:=Ar.rl hr
 replace Sr:=Sr.rl hr
 replace Dr:=Dr.rl hr
 replace Au:=Au.rl hr
 replace Su:=Su.rl hr
 replace Du:=Du.rl hr
 replace A3:=A3.rl hr
 replace A4:=A4.rl hr
 replace A6:=A6.rl hr
 replace A7:=A7.rl hr
 replace G9:=G9.rl hr
 replace A9:=A9.rl hr
 replace HB:=HB.trans (hBt.below HB.size (UpOld.all (bx:=[⟨R3,none,(gs1 2),6,.agg #[.bool false,.slice none 0 0,.slice none 0 0],some (5,34,4),[]⟩]) ⟨fun _=>u6,trivial⟩))
 clear hBt hr hR hP hX hU
 refine wp_ret ?_
 repeat (first | refine then_ret ?_ | refine scope_ret ?_ | refine block_ret ?_)
 exact bodyPost_ret (v:=.agg #[.bool n_11,.slice a_11 r_11.length c_11,.slice b_11 s_11.length d_11]) (res_c rfl f6 (lv_R3 b6)) hd ⟨_,rfl,FrR.to ⟨_,HT11.le,_,_,_,_,_,_,_,_,_,_,_,rfl,F11,H11,fb11,fd11,l11,k11⟩ rfl rfl (by omega),HB⟩
theorem has_joinFg:Has Tryz.prog 32:=by unfold Has;kernel_rfl
theorem op_joinFg {dst:Option Tmp} {ty:TypeId} {pos:String} {after:Array Edge} {guard:Option (Nat × Bool)} {a:Act} {w:World} {ats:Array TypeId} {i j:Nat} {Br:Nat} {pr qr:Int} (Hr:IsR pr qr Br (a.eval (.tmp i)) w) {Bu:Nat} {pu qu:Int} (Hu:IsR pu qu Bu (a.eval (.tmp j)) w) (fn:FuncId) (op:Int→Int→Int) (hop:∀ {dst:Option Tmp} {ty:TypeId} {pos:String} {after:Array Edge} {guard:Option (Nat × Bool)} {a:Act} {w:World} {ats:Array TypeId} {i j:Nat} {x y:Int} {L1 L2:Nat},IsW x L1 (a.eval (.tmp i)) w→IsW y L2 (a.eval (.tmp j)) w→L1≤400000→L2≤400000→Does Tryz.prog { dst,op:=.call { callee:=.value (.func fn),args:=#[.tmp i,.tmp j],argTypes:=ats },type:=ty,pos,after,guard } a.eval w fun v w'=>Below w.heap.size w w'∧OutW (op x y) (L1+L2+1) v w') (hL:3*(Br+Bu+4)+1≤100000) :
  Does Tryz.prog { dst,op:=.call { callee:=.value (.func 32),args:=#[.tmp i,.tmp j,.func fn],argTypes:=ats },type:=ty,pos,after,guard } a.eval w fun v w'=>Below w.heap.size w w'∧(FrR w.heap.size (nm (op (tp pr qr*tq qu) (tp pu qu*tq qr)) (tq qr*tq qu)) (dn (op (tp pr qr*tq qu) (tp pu qu*tq qr)) (tq qr*tq qu)) (3*(Br+Bu+4)+1)) v w' := by
 obtain ⟨nr,ar,mr,cr,rs,br,kr,dr,rt,er,Ar,Sr,Vr,Lr,Mr⟩:=Hr
 obtain ⟨nu,au,mu,cu,us,bu,ku,du,ut,eu,Au,Su,Vu,Lu,Mu⟩:=Hu
 refine does_call has_joinFg _ (by simp only [List.map_toArray,List.map_cons,List.map_nil,er,eu];rfl) ((joinFg_z w Br _ _ _ _ _ _ Ar Lr _ _ _ _ _ Sr Vr Mr Bu _ _ _ _ _ _ Au Lu _ _ _ _ _ Su Vu Mu fn op hop hL).mono ?_)
 rintro e w' ⟨v,rfl,h1,hb⟩
 exact ⟨_,rfl,hb,h1⟩
set_option maxRecDepth 20000 in
set_option maxHeartbeats 2000000 in
theorem raddF_z (w:World) (Br:Nat) (nr:Bool) (ar:Option Addr) (mr cr:Nat) (rs:List Int) (pr:Int) (Ar:Ag w nr ar mr cr rs pr) (Lr:rs.length≤Br) (br:Option Addr) (kr dr:Nat) (rt:List Int) (qr:Int) (Sr:Sl w (.slice br kr dr) rt) (Vr:val rt=qr) (Mr:rt.length≤Br) (Bu:Nat) (nu:Bool) (au:Option Addr) (mu cu:Nat) (us:List Int) (pu:Int) (Au:Ag w nu au mu cu us pu) (Lu:us.length≤Bu) (bu:Option Addr) (ku du:Nat) (ut:List Int) (qu:Int) (Su:Sl w (.slice bu ku du) ut) (Vu:val ut=qu) (Mu:ut.length≤Bu) (hL:3*(Br+Bu+4)+1≤100000) :
  Calls Tryz.prog 8 #[.agg #[.bool nr,.slice ar mr cr,.slice br kr dr],.agg #[.bool nu,.slice au mu cu,.slice bu ku du]] w fun e w'=>∃ v,e=.returned v∧(FrR w.heap.size (nm (tp pr qr*tq qu+tp pu qu*tq qr) (tq qr*tq qu)) (dn (tp pr qr*tq qu+tp pu qu*tq qr) (tq qr*tq qu)) (3*(Br+Bu+4)+1)) v w'∧Below w.heap.size w w' := by
 go_enter Tryz.func8,Tryz.ntmps8
 generalize hA:(Act.mk _ _)=aa
 have hn:aa.tmps.size=8:=by rw [←hA];rfl
 have hd:aa.defers = []:=by rw [←hA]
 have f0:aa.eval (.tmp 0)=.agg #[.bool nr,.slice ar mr cr,.slice br kr dr]:=by rw [←hA];rfl
 have f1:aa.eval (.tmp 1)=.agg #[.bool nu,.slice au mu cu,.slice bu ku du]:=by rw [←hA];rfl
 clear hA
 have HB:Below w.heap.size w w:=Below.refl _ _
 have Dr:Ag w false br kr dr rt qr:=⟨Sr,Vr⟩
 have Du:Ag w false bu ku du ut qu:=⟨Su,Vu⟩
 refine wp_seq ?_
 refine region4 [some 2,some 3,some 4] [Tt,Tt,Tt] [⟨R3,some 0,0,2,.agg #[.bool nr,.slice ar mr cr,.slice br kr dr],none,[]⟩,⟨R3,some 1,0,3,.agg #[.bool nu,.slice au mu cu,.slice bu ku du],none,[]⟩,⟨R3,some 2,0,4,.agg #[.bool false,.slice none 0 0,.slice none 0 0],none,[]⟩] [] (by kernel_rfl) hn rfl (by kernel_rfl) (by kernel_rfl) (by kernel_rfl) (by kernel_rfl) (by kernel_rfl) (by kernel_rfl) ⟨True.mono4,True.mono4,True.mono4,trivial⟩ (ok_cons R3ok (ok_cons R3ok (ok_cons R3ok ok_nil))) (IsOld.all (bx:=[⟨R3,some 0,0,2,.agg #[.bool nr,.slice ar mr cr,.slice br kr dr],none,[]⟩,⟨R3,some 1,0,3,.agg #[.bool nu,.slice au mu cu,.slice bu ku du],none,[]⟩,⟨R3,some 2,0,4,.agg #[.bool false,.slice none 0 0,.slice none 0 0],none,[]⟩]) ⟨someNe,someNe,someNe,trivial⟩) (DisOld.all (bx:=[⟨R3,some 0,0,2,.agg #[.bool nr,.slice ar mr cr,.slice br kr dr],none,[]⟩,⟨R3,some 1,0,3,.agg #[.bool nu,.slice au mu cu,.slice bu ku du],none,[]⟩,⟨R3,some 2,0,4,.agg #[.bool false,.slice none 0 0,.slice none 0 0],none,[]⟩]) ⟨someNe,someNe,someNe,trivial⟩) ?_ ?_
 ·exact ⟨.alloc 0 _ rfl rfl (.inr ⟨_,rfl,r3_cs,fun a_ hR=>(hR 0 rfl).trans f0⟩) rfl rfl rfl rfl rfl,.alloc 1 _ rfl rfl (.inr ⟨_,rfl,r3_cs,fun a_ hR=>(hR 1 rfl).trans f1⟩) rfl rfl rfl rfl rfl,.alloc 2 _ rfl rfl (.inl ⟨rfl,rfl⟩) rfl rfl rfl rfl rfl,trivial⟩
 intro a1 w1 gs1 hn1 hd1 hBt hr hR hP hX hU
 replace hn:=hn1;replace hd:=hd1.trans hd
 have ne2_4:gs1 0≠gs1 2:=hU 0 2 (by simp) (by simp) (by decide)
 have ne3_4:gs1 1≠gs1 2:=hU 1 2 (by simp) (by simp) (by decide)
 have b2:BoxV R3 w1 (gs1 0) (.agg #[.bool nr,.slice ar mr cr,.slice br kr dr]):=(hX 0 _ rfl).2.2.2
 have f2:=(hX 0 _ rfl).1
 have u2:w.heap.size≤gs1 0:=Nat.le_trans HB.size ((hX 0 _ rfl).2.2.1 (by simp))
 have b3:BoxV R3 w1 (gs1 1) (.agg #[.bool nu,.slice au mu cu,.slice bu ku du]):=(hX 1 _ rfl).2.2.2
 have f3:=(hX 1 _ rfl).1
 have u3:w.heap.size≤gs1 1:=Nat.le_trans HB.size ((hX 1 _ rfl).2.2.1 (by simp))
 have b4:BoxV R3 w1 (gs1 2) (.agg #[.bool false,.slice none 0 0,.slice none 0 0]):=(hX 2 _ rfl).2.2.2
 have f4:=(hX 2 _ rfl).1
 have u4:w.heap.size≤gs1 2:=Nat.le_trans HB.size ((hX 2 _ rfl).2.2.1 (by simp))
 replace Ar:=Ar.rl hr
 replace Sr:=Sr.rl hr
 replace Dr:=Dr.rl hr
 replace Au:=Au.rl hr
 replace Su:=Su.rl hr
 replace Du:=Du.rl hr
 replace HB:=HB.trans (hBt.below HB.size (UpOld.all (bx:=[⟨R3,some 0,0,2,.agg #[.bool nr,.slice ar mr cr,.slice br kr dr],none,[]⟩,⟨R3,some 1,0,3,.agg #[.bool nu,.slice au mu cu,.slice bu ku du],none,[]⟩,⟨R3,some 2,0,4,.agg #[.bool false,.slice none 0 0,.slice none 0 0],none,[]⟩]) ⟨someNe,someNe,someNe,trivial⟩))
 clear hBt hr hR hP hX hU
 refine wp_seq ?_
 refine region4 [some 5,some 6,some 7,none] [Eqs (.agg #[.bool nr,.slice ar mr cr,.slice br kr dr]),Eqs (.agg #[.bool nu,.slice au mu cu,.slice bu ku du]),FrR (w.heap.size) ((nm (tp pr qr*tq qu+tp pu qu*tq qr) (tq qr*tq qu))) ((dn (tp pr qr*tq qu+tp pu qu*tq qr) (tq qr*tq qu))) (3*((Br)+(Bu)+4)+1),Tt] [⟨R3,none,(gs1 2),4,.agg #[.bool false,.slice none 0 0,.slice none 0 0],some (3,7,2),[]⟩] [] (by kernel_rfl) hn rfl (by kernel_rfl) (by kernel_rfl) (by kernel_rfl) (by kernel_rfl) (by kernel_rfl) (by kernel_rfl) ⟨Eqs.mono4 _,Eqs.mono4 _,FrR.mono4 _ _ _ _,True.mono4,trivial⟩ (ok_cons R3ok ok_nil) (IsOld.all (bx:=[⟨R3,none,(gs1 2),4,.agg #[.bool false,.slice none 0 0,.slice none 0 0],some (3,7,2),[]⟩]) ⟨fun _=>⟨f4,b4⟩,trivial⟩) (DisOld.all (bx:=[⟨R3,none,(gs1 2),4,.agg #[.bool false,.slice none 0 0,.slice none 0 0],some (3,7,2),[]⟩]) ⟨fun _=>trivial,trivial⟩) ?_ ?_
 ·exact ⟨.norm 5 rfl rfl rfl (fun a_ w_ _ t r R D _ _=>op_loadv R3ok ((R 2 rfl).trans f2) (b2.keep t ⟨fun _=>ne2_4.symm,trivial⟩)),.norm 6 rfl rfl rfl (fun a_ w_ _ t r R D _ _=>op_loadv R3ok ((R 3 rfl).trans f3) (b3.keep t ⟨fun _=>ne3_4.symm,trivial⟩)),.norm 7 rfl rfl rfl (fun a_ w_ _ t r R D _ _=>frlow (Nat.le_trans HB.size r.size) (op_joinFg (isr_eq (show a_.eval (.tmp 5)=.agg #[.bool nr,.slice ar mr cr,.slice br kr dr] from D 0 rfl) (Ar.rl r) (Sr.rl r) Vr Lr Mr) (isr_eq (show a_.eval (.tmp 6)=.agg #[.bool nu,.slice au mu cu,.slice bu ku du] from D 1 rfl) (Au.rl r) (Su.rl r) Vu Lu Mu) _ (fun x y=>x+y) op_add (by omega))),.store 0 _ _ _ rfl rfl rfl rfl rfl rfl rfl (fun ia h=>by cases h) rfl rfl rfl FrR.cs,trivial⟩
 intro a2 w2 gs2 hn2 hd2 hBt hr hR hP hX hU
 replace hn:=hn2;replace hd:=hd2.trans hd
 obtain ⟨T3,ft3,n_3,a_3,c_3,r_3,b_3,d_3,s_3,Bp3,Tp3,Bq3,Tq3,e7,F3,H3,fb3,fd3,l3,k3⟩:FrR (w.heap.size) ((nm (tp pr qr*tq qu+tp pu qu*tq qr) (tq qr*tq qu))) ((dn (tp pr qr*tq qu+tp pu qu*tq qr) (tq qr*tq qu))) (3*((Br)+(Bu)+4)+1) (a2.eval (.tmp 7)) w2:=hP 2 (by decide)
 have G3:=F3.wh;have K3:=H3.got;have A3:=G3.ag;have S3:=K3.sl;have V3:=K3.val;have HT3:SzGe T3 w2:=ft3
 have b4:BoxV R3 w2 ((gs1 2)) (.agg #[.bool n_3,.slice a_3 r_3.length c_3,.slice b_3 s_3.length d_3]):=boxv_old ((hX 0 _ rfl).2.1 rfl) (hX 0 _ rfl).2.2.2 e7
 replace f4:a2.eval (.tmp 4) = _:=(hR 4 rfl).trans f4
 replace Ar:=Ar.rl hr
 replace Sr:=Sr.rl hr
 replace Dr:=Dr.rl hr
 replace Au:=Au.rl hr
 replace Su:=Su.rl hr
 replace Du:=Du.rl hr
 replace HB:=HB.trans (hBt.below HB.size (UpOld.all (bx:=[⟨R3,none,(gs1 2),4,.agg #[.bool false,.slice none 0 0,.slice none 0 0],some (3,7,2),[]⟩]) ⟨fun _=>u4,trivial⟩))
 clear hBt hr hR hP hX hU
 refine wp_ret ?_
 repeat (first | refine then_ret ?_ | refine scope_ret ?_ | refine block_ret ?_)
 exact bodyPost_ret (v:=.agg #[.bool n_3,.slice a_3 r_3.length c_3,.slice b_3 s_3.length d_3]) (res_c rfl f4 (lv_R3 b4)) hd ⟨_,rfl,FrR.to ⟨_,HT3.le,_,_,_,_,_,_,_,_,_,_,_,rfl,F3,H3,fb3,fd3,l3,k3⟩ rfl rfl (by omega),HB⟩
theorem has_raddF:Has Tryz.prog 8:=by unfold Has;kernel_rfl
theorem op_raddF {dst:Option Tmp} {ty:TypeId} {pos:String} {after:Array Edge} {guard:Option (Nat × Bool)} {a:Act} {w:World} {ats:Array TypeId} {i j:Nat} {Br:Nat} {pr qr:Int} (Hr:IsR pr qr Br (a.eval (.tmp i)) w) {Bu:Nat} {pu qu:Int} (Hu:IsR pu qu Bu (a.eval (.tmp j)) w) (hL:3*(Br+Bu+4)+1≤100000) :
  Does Tryz.prog { dst,op:=.call { callee:=.value (.func 8),args:=#[.tmp i,.tmp j],argTypes:=ats },type:=ty,pos,after,guard } a.eval w fun v w'=>Below w.heap.size w w'∧(FrR w.heap.size (nm (tp pr qr*tq qu+tp pu qu*tq qr) (tq qr*tq qu)) (dn (tp pr qr*tq qu+tp pu qu*tq qr) (tq qr*tq qu)) (3*(Br+Bu+4)+1)) v w' := by
 obtain ⟨nr,ar,mr,cr,rs,br,kr,dr,rt,er,Ar,Sr,Vr,Lr,Mr⟩:=Hr
 obtain ⟨nu,au,mu,cu,us,bu,ku,du,ut,eu,Au,Su,Vu,Lu,Mu⟩:=Hu
 refine does_call has_raddF _ (by simp only [List.map_toArray,List.map_cons,List.map_nil,er,eu]) ((raddF_z w Br _ _ _ _ _ _ Ar Lr _ _ _ _ _ Sr Vr Mr Bu _ _ _ _ _ _ Au Lu _ _ _ _ _ Su Vu Mu hL).mono ?_)
 rintro e w' ⟨v,rfl,h1,hb⟩
 exact ⟨_,rfl,hb,h1⟩
set_option maxRecDepth 20000 in
set_option maxHeartbeats 2000000 in
theorem rsubF_z (w:World) (Br:Nat) (nr:Bool) (ar:Option Addr) (mr cr:Nat) (rs:List Int) (pr:Int) (Ar:Ag w nr ar mr cr rs pr) (Lr:rs.length≤Br) (br:Option Addr) (kr dr:Nat) (rt:List Int) (qr:Int) (Sr:Sl w (.slice br kr dr) rt) (Vr:val rt=qr) (Mr:rt.length≤Br) (Bu:Nat) (nu:Bool) (au:Option Addr) (mu cu:Nat) (us:List Int) (pu:Int) (Au:Ag w nu au mu cu us pu) (Lu:us.length≤Bu) (bu:Option Addr) (ku du:Nat) (ut:List Int) (qu:Int) (Su:Sl w (.slice bu ku du) ut) (Vu:val ut=qu) (Mu:ut.length≤Bu) (hL:3*(Br+Bu+4)+1≤100000) :
  Calls Tryz.prog 9 #[.agg #[.bool nr,.slice ar mr cr,.slice br kr dr],.agg #[.bool nu,.slice au mu cu,.slice bu ku du]] w fun e w'=>∃ v,e=.returned v∧(FrR w.heap.size (nm (tp pr qr*tq qu - tp pu qu*tq qr) (tq qr*tq qu)) (dn (tp pr qr*tq qu - tp pu qu*tq qr) (tq qr*tq qu)) (3*(Br+Bu+4)+1)) v w'∧Below w.heap.size w w' := by
 go_enter Tryz.func9,Tryz.ntmps9
 generalize hA:(Act.mk _ _)=aa
 have hn:aa.tmps.size=8:=by rw [←hA];rfl
 have hd:aa.defers = []:=by rw [←hA]
 have f0:aa.eval (.tmp 0)=.agg #[.bool nr,.slice ar mr cr,.slice br kr dr]:=by rw [←hA];rfl
 have f1:aa.eval (.tmp 1)=.agg #[.bool nu,.slice au mu cu,.slice bu ku du]:=by rw [←hA];rfl
 clear hA
 have HB:Below w.heap.size w w:=Below.refl _ _
 have Dr:Ag w false br kr dr rt qr:=⟨Sr,Vr⟩
 have Du:Ag w false bu ku du ut qu:=⟨Su,Vu⟩
 refine wp_seq ?_
 refine region4 [some 2,some 3,some 4] [Tt,Tt,Tt] [⟨R3,some 0,0,2,.agg #[.bool nr,.slice ar mr cr,.slice br kr dr],none,[]⟩,⟨R3,some 1,0,3,.agg #[.bool nu,.slice au mu cu,.slice bu ku du],none,[]⟩,⟨R3,some 2,0,4,.agg #[.bool false,.slice none 0 0,.slice none 0 0],none,[]⟩] [] (by kernel_rfl) hn rfl (by kernel_rfl) (by kernel_rfl) (by kernel_rfl) (by kernel_rfl) (by kernel_rfl) (by kernel_rfl) ⟨True.mono4,True.mono4,True.mono4,trivial⟩ (ok_cons R3ok (ok_cons R3ok (ok_cons R3ok ok_nil))) (IsOld.all (bx:=[⟨R3,some 0,0,2,.agg #[.bool nr,.slice ar mr cr,.slice br kr dr],none,[]⟩,⟨R3,some 1,0,3,.agg #[.bool nu,.slice au mu cu,.slice bu ku du],none,[]⟩,⟨R3,some 2,0,4,.agg #[.bool false,.slice none 0 0,.slice none 0 0],none,[]⟩]) ⟨someNe,someNe,someNe,trivial⟩) (DisOld.all (bx:=[⟨R3,some 0,0,2,.agg #[.bool nr,.slice ar mr cr,.slice br kr dr],none,[]⟩,⟨R3,some 1,0,3,.agg #[.bool nu,.slice au mu cu,.slice bu ku du],none,[]⟩,⟨R3,some 2,0,4,.agg #[.bool false,.slice none 0 0,.slice none 0 0],none,[]⟩]) ⟨someNe,someNe,someNe,trivial⟩) ?_ ?_
 ·exact ⟨.alloc 0 _ rfl rfl (.inr ⟨_,rfl,r3_cs,fun a_ hR=>(hR 0 rfl).trans f0⟩) rfl rfl rfl rfl rfl,.alloc 1 _ rfl rfl (.inr ⟨_,rfl,r3_cs,fun a_ hR=>(hR 1 rfl).trans f1⟩) rfl rfl rfl rfl rfl,.alloc 2 _ rfl rfl (.inl ⟨rfl,rfl⟩) rfl rfl rfl rfl rfl,trivial⟩
 intro a1 w1 gs1 hn1 hd1 hBt hr hR hP hX hU
 replace hn:=hn1;replace hd:=hd1.trans hd
 have ne2_4:gs1 0≠gs1 2:=hU 0 2 (by simp) (by simp) (by decide)
 have ne3_4:gs1 1≠gs1 2:=hU 1 2 (by simp) (by simp) (by decide)
 have b2:BoxV R3 w1 (gs1 0) (.agg #[.bool nr,.slice ar mr cr,.slice br kr dr]):=(hX 0 _ rfl).2.2.2
 have f2:=(hX 0 _ rfl).1
 have u2:w.heap.size≤gs1 0:=Nat.le_trans HB.size ((hX 0 _ rfl).2.2.1 (by simp))
 have b3:BoxV R3 w1 (gs1 1) (.agg #[.bool nu,.slice au mu cu,.slice bu ku du]):=(hX 1 _ rfl).2.2.2
 have f3:=(hX 1 _ rfl).1
 have u3:w.heap.size≤gs1 1:=Nat.le_trans HB.size ((hX 1 _ rfl).2.2.1 (by simp))
 have b4:BoxV R3 w1 (gs1 2) (.agg #[.bool false,.slice none 0 0,.slice none 0 0]):=(hX 2 _ rfl).2.2.2
 have f4:=(hX 2 _ rfl).1
 have u4:w.heap.size≤gs1 2:=Nat.le_trans HB.size ((hX 2 _ rfl).2.2.1 (by simp))
 replace Ar:=Ar.rl hr
 replace Sr:=Sr.rl hr
 replace Dr:=Dr.rl hr
 replace Au:=Au.rl hr
 replace Su:=Su.rl hr
 replace Du:=Du.rl hr
 replace HB:=HB.trans (hBt.below HB.size (UpOld.all (bx:=[⟨R3,some 0,0,2,.agg #[.bool nr,.slice ar mr cr,.slice br kr dr],none,[]⟩,⟨R3,some 1,0,3,.agg #[.bool nu,.slice au mu cu,.slice bu ku du],none,[]⟩,⟨R3,some 2,0,4,.agg #[.bool false,.slice none 0 0,.slice none 0 0],none,[]⟩]) ⟨someNe,someNe,someNe,trivial⟩))
 clear hBt hr hR hP hX hU
 refine wp_seq ?_
 refine region4 [some 5,some 6,some 7,none] [Eqs (.agg #[.bool nr,.slice ar mr cr,.slice br kr dr]),Eqs (.agg #[.bool nu,.slice au mu cu,.slice bu ku du]),FrR (w.heap.size) ((nm (tp pr qr*tq qu - tp pu qu*tq qr) (tq qr*tq qu))) ((dn (tp pr qr*tq qu - tp pu qu*tq qr) (tq qr*tq qu))) (3*((Br)+(Bu)+4)+1),Tt] [⟨R3,none,(gs1 2),4,.agg #[.bool false,.slice none 0 0,.slice none 0 0],some (3,7,2),[]⟩] [] (by kernel_rfl) hn rfl (by kernel_rfl) (by kernel_rfl) (by kernel_rfl) (by kernel_rfl) (by kernel_rfl) (by kernel_rfl) ⟨Eqs.mono4 _,Eqs.mono4 _,FrR.mono4 _ _ _ _,True.mono4,trivial⟩ (ok_cons R3ok ok_nil) (IsOld.all (bx:=[⟨R3,none,(gs1 2),4,.agg #[.bool false,.slice none 0 0,.slice none 0 0],some (3,7,2),[]⟩]) ⟨fun _=>⟨f4,b4⟩,trivial⟩) (DisOld.all (bx:=[⟨R3,none,(gs1 2),4,.agg #[.bool false,.slice none 0 0,.slice none 0 0],some (3,7,2),[]⟩]) ⟨fun _=>trivial,trivial⟩) ?_ ?_
 ·exact ⟨.norm 5 rfl rfl rfl (fun a_ w_ _ t r R D _ _=>op_loadv R3ok ((R 2 rfl).trans f2) (b2.keep t ⟨fun _=>ne2_4.symm,trivial⟩)),.norm 6 rfl rfl rfl (fun a_ w_ _ t r R D _ _=>op_loadv R3ok ((R 3 rfl).trans f3) (b3.keep t ⟨fun _=>ne3_4.symm,trivial⟩)),.norm 7 rfl rfl rfl (fun a_ w_ _ t r R D _ _=>frlow (Nat.le_trans HB.size r.size) (op_joinFg (isr_eq (show a_.eval (.tmp 5)=.agg #[.bool nr,.slice ar mr cr,.slice br kr dr] from D 0 rfl) (Ar.rl r) (Sr.rl r) Vr Lr Mr) (isr_eq (show a_.eval (.tmp 6)=.agg #[.bool nu,.slice au mu cu,.slice bu ku du] from D 1 rfl) (Au.rl r) (Su.rl r) Vu Lu Mu) _ (fun x y=>x - y) op_sub (by omega))),.store 0 _ _ _ rfl rfl rfl rfl rfl rfl rfl (fun ia h=>by cases h) rfl rfl rfl FrR.cs,trivial⟩
 intro a2 w2 gs2 hn2 hd2 hBt hr hR hP hX hU
 replace hn:=hn2;replace hd:=hd2.trans hd
 obtain ⟨T3,ft3,n_3,a_3,c_3,r_3,b_3,d_3,s_3,Bp3,Tp3,Bq3,Tq3,e7,F3,H3,fb3,fd3,l3,k3⟩:FrR (w.heap.size) ((nm (tp pr qr*tq qu - tp pu qu*tq qr) (tq qr*tq qu))) ((dn (tp pr qr*tq qu - tp pu qu*tq qr) (tq qr*tq qu))) (3*((Br)+(Bu)+4)+1) (a2.eval (.tmp 7)) w2:=hP 2 (by decide)
 have G3:=F3.wh;have K3:=H3.got;have A3:=G3.ag;have S3:=K3.sl;have V3:=K3.val;have HT3:SzGe T3 w2:=ft3
 have b4:BoxV R3 w2 ((gs1 2)) (.agg #[.bool n_3,.slice a_3 r_3.length c_3,.slice b_3 s_3.length d_3]):=boxv_old ((hX 0 _ rfl).2.1 rfl) (hX 0 _ rfl).2.2.2 e7
 replace f4:a2.eval (.tmp 4) = _:=(hR 4 rfl).trans f4
 replace Ar:=Ar.rl hr
 replace Sr:=Sr.rl hr
 replace Dr:=Dr.rl hr
 replace Au:=Au.rl hr
 replace Su:=Su.rl hr
 replace Du:=Du.rl hr
 replace HB:=HB.trans (hBt.below HB.size (UpOld.all (bx:=[⟨R3,none,(gs1 2),4,.agg #[.bool false,.slice none 0 0,.slice none 0 0],some (3,7,2),[]⟩]) ⟨fun _=>u4,trivial⟩))
 clear hBt hr hR hP hX hU
 refine wp_ret ?_
 repeat (first | refine then_ret ?_ | refine scope_ret ?_ | refine block_ret ?_)
 exact bodyPost_ret (v:=.agg #[.bool n_3,.slice a_3 r_3.length c_3,.slice b_3 s_3.length d_3]) (res_c rfl f4 (lv_R3 b4)) hd ⟨_,rfl,FrR.to ⟨_,HT3.le,_,_,_,_,_,_,_,_,_,_,_,rfl,F3,H3,fb3,fd3,l3,k3⟩ rfl rfl (by omega),HB⟩
theorem has_rsubF:Has Tryz.prog 9:=by unfold Has;kernel_rfl
theorem op_rsubF {dst:Option Tmp} {ty:TypeId} {pos:String} {after:Array Edge} {guard:Option (Nat × Bool)} {a:Act} {w:World} {ats:Array TypeId} {i j:Nat} {Br:Nat} {pr qr:Int} (Hr:IsR pr qr Br (a.eval (.tmp i)) w) {Bu:Nat} {pu qu:Int} (Hu:IsR pu qu Bu (a.eval (.tmp j)) w) (hL:3*(Br+Bu+4)+1≤100000) :
  Does Tryz.prog { dst,op:=.call { callee:=.value (.func 9),args:=#[.tmp i,.tmp j],argTypes:=ats },type:=ty,pos,after,guard } a.eval w fun v w'=>Below w.heap.size w w'∧(FrR w.heap.size (nm (tp pr qr*tq qu - tp pu qu*tq qr) (tq qr*tq qu)) (dn (tp pr qr*tq qu - tp pu qu*tq qr) (tq qr*tq qu)) (3*(Br+Bu+4)+1)) v w' := by
 obtain ⟨nr,ar,mr,cr,rs,br,kr,dr,rt,er,Ar,Sr,Vr,Lr,Mr⟩:=Hr
 obtain ⟨nu,au,mu,cu,us,bu,ku,du,ut,eu,Au,Su,Vu,Lu,Mu⟩:=Hu
 refine does_call has_rsubF _ (by simp only [List.map_toArray,List.map_cons,List.map_nil,er,eu]) ((rsubF_z w Br _ _ _ _ _ _ Ar Lr _ _ _ _ _ Sr Vr Mr Bu _ _ _ _ _ _ Au Lu _ _ _ _ _ Su Vu Mu hL).mono ?_)
 rintro e w' ⟨v,rfl,h1,hb⟩
 exact ⟨_,rfl,hb,h1⟩
set_option maxRecDepth 20000 in
set_option maxHeartbeats 2000000 in
theorem rofF_z (w:World) (Bx:Nat) (nx:Bool) (ax:Option Addr) (mx cx:Nat) (xs:List Int) (zx:Int) (Ax:Ag w nx ax mx cx xs zx) (Lx:xs.length≤Bx) (By:Nat) (ny:Bool) (ay:Option Addr) (my cy:Nat) (ys:List Int) (zy:Int) (Ay:Ag w ny ay my cy ys zy) (Ly:ys.length≤By) (hL:Bx+By≤100000) (hy:zy≠0) :
  Calls Tryz.prog 22 #[.agg #[.bool nx,.slice ax mx cx],.agg #[.bool ny,.slice ay my cy]] w fun e w'=>∃ v,e=.returned v∧(Tup2 (FrR w.heap.size (nm zx zy) (dn zx zy) (Bx+By)) (Eqs (.int .i64 0))) v w'∧Below w.heap.size w w' := by
 go_enter Tryz.func22,Tryz.ntmps22
 generalize hA:(Act.mk _ _)=aa
 have hn:aa.tmps.size=13:=by rw [←hA];rfl
 have hd:aa.defers = []:=by rw [←hA]
 have f0:aa.eval (.tmp 0)=.agg #[.bool nx,.slice ax mx cx]:=by rw [←hA];rfl
 have f1:aa.eval (.tmp 1)=.agg #[.bool ny,.slice ay my cy]:=by rw [←hA];rfl
 clear hA
 have HB:Below w.heap.size w w:=Below.refl _ _
 have Tx:=Ax.sl
 have Ty:=Ay.sl
 refine wp_seq ?_
 refine region4 [some 2,some 3,some 4,some 5] [Tt,Tt,Tt,Eqs ((.int .i64 0))] [⟨W2,some 0,0,2,.agg #[.bool nx,.slice ax mx cx],none,[]⟩,⟨W2,some 1,0,3,.agg #[.bool ny,.slice ay my cy],none,[]⟩,⟨R3,some 2,0,4,.agg #[.bool false,.slice none 0 0,.slice none 0 0],none,[]⟩] [] (by kernel_rfl) hn rfl (by kernel_rfl) (by kernel_rfl) (by kernel_rfl) (by kernel_rfl) (by kernel_rfl) (by kernel_rfl) ⟨True.mono4,True.mono4,True.mono4,Eqs.mono4 _,trivial⟩ (ok_cons W2ok (ok_cons W2ok (ok_cons R3ok ok_nil))) (IsOld.all (bx:=[⟨W2,some 0,0,2,.agg #[.bool nx,.slice ax mx cx],none,[]⟩,⟨W2,some 1,0,3,.agg #[.bool ny,.slice ay my cy],none,[]⟩,⟨R3,some 2,0,4,.agg #[.bool false,.slice none 0 0,.slice none 0 0],none,[]⟩]) ⟨someNe,someNe,someNe,trivial⟩) (DisOld.all (bx:=[⟨W2,some 0,0,2,.agg #[.bool nx,.slice ax mx cx],none,[]⟩,⟨W2,some 1,0,3,.agg #[.bool ny,.slice ay my cy],none,[]⟩,⟨R3,some 2,0,4,.agg #[.bool false,.slice none 0 0,.slice none 0 0],none,[]⟩]) ⟨someNe,someNe,someNe,trivial⟩) ?_ ?_
 ·exact ⟨.alloc 0 _ rfl rfl (.inr ⟨_,rfl,w2_cs,fun a_ hR=>(hR 0 rfl).trans f0⟩) rfl rfl rfl rfl rfl,.alloc 1 _ rfl rfl (.inr ⟨_,rfl,w2_cs,fun a_ hR=>(hR 1 rfl).trans f1⟩) rfl rfl rfl rfl rfl,.alloc 2 _ rfl rfl (.inl ⟨rfl,rfl⟩) rfl rfl rfl rfl rfl,.norm 5 rfl rfl rfl (fun a_ w_ _ t r R D _ _=>op_assign rfl),trivial⟩
 intro a1 w1 gs1 hn1 hd1 hBt hr hR hP hX hU
 replace hn:=hn1;replace hd:=hd1.trans hd
 have ne2_4:gs1 0≠gs1 2:=hU 0 2 (by simp) (by simp) (by decide)
 have ne3_4:gs1 1≠gs1 2:=hU 1 2 (by simp) (by simp) (by decide)
 have b2:BoxV W2 w1 (gs1 0) (.agg #[.bool nx,.slice ax mx cx]):=(hX 0 _ rfl).2.2.2
 have f2:=(hX 0 _ rfl).1
 have u2:w.heap.size≤gs1 0:=Nat.le_trans HB.size ((hX 0 _ rfl).2.2.1 (by simp))
 have b3:BoxV W2 w1 (gs1 1) (.agg #[.bool ny,.slice ay my cy]):=(hX 1 _ rfl).2.2.2
 have f3:=(hX 1 _ rfl).1
 have u3:w.heap.size≤gs1 1:=Nat.le_trans HB.size ((hX 1 _ rfl).2.2.1 (by simp))
 have b4:BoxV R3 w1 (gs1 2) (.agg #[.bool false,.slice none 0 0,.slice none 0 0]):=(hX 2 _ rfl).2.2.2
 have f4:=(hX 2 _ rfl).1
 have u4:w.heap.size≤gs1 2:=Nat.le_trans HB.size ((hX 2 _ rfl).2.2.1 (by simp))
 have e5:a1.eval (.tmp 5)=(.int .i64 0):=hP 3 (by decide)
 have f5:=e5
 replace Ax:=Ax.rl hr
 replace Tx:=Tx.rl hr
 replace Ay:=Ay.rl hr
 replace Ty:=Ty.rl hr
 replace HB:=HB.trans (hBt.below HB.size (UpOld.all (bx:=[⟨W2,some 0,0,2,.agg #[.bool nx,.slice ax mx cx],none,[]⟩,⟨W2,some 1,0,3,.agg #[.bool ny,.slice ay my cy],none,[]⟩,⟨R3,some 2,0,4,.agg #[.bool false,.slice none 0 0,.slice none 0 0],none,[]⟩]) ⟨someNe,someNe,someNe,trivial⟩))
 clear hBt hr hR hP hX hU
 refine wp_seq ?_
 refine wp_seq ?_
 refine region4 [some 6,some 7,some 8] [Eqs (.agg #[.bool ny,.slice ay my cy]),Eqs (.int .i64 (Int.sign zy)),Eqs (.bool (decide ((Int.sign zy)=0)))] [] [] (by kernel_rfl) hn rfl (by kernel_rfl) (by kernel_rfl) (by kernel_rfl) (by kernel_rfl) (by kernel_rfl) (by kernel_rfl) ⟨Eqs.mono4 _,Eqs.mono4 _,Eqs.mono4 _,trivial⟩ ok_nil (IsOld.all (bx:=[]) trivial) (DisOld.all (bx:=[]) trivial) ?_ ?_
 ·exact ⟨.norm 6 rfl rfl rfl (fun a_ w_ _ t r R D _ _=>op_loadv W2ok ((R 3 rfl).trans f3) (b3.keep t trivial)),.norm 7 rfl rfl rfl (fun a_ w_ _ t r R D _ _=>op_sign (isw_eq (show a_.eval (.tmp 6)=.agg #[.bool ny,.slice ay my cy] from D 0 rfl) (Ay.rl r) Ly) (by omega)),.norm 8 rfl rfl rfl (fun a_ w_ _ t r R D _ _=>op_eqlk (show a_.eval (.tmp 7)=.int .i64 (Int.sign zy) from D 1 rfl)),trivial⟩
 intro a2 w2 gs2 hn2 hd2 hBt hr hR hP hX hU
 replace hn:=hn2;replace hd:=hd2.trans hd
 replace b2:=b2.keep hBt trivial
 replace b3:=b3.keep hBt trivial
 replace b4:=b4.keep hBt trivial
 replace f2:=(hR 2 rfl).trans f2
 replace f3:=(hR 3 rfl).trans f3
 replace f4:=(hR 4 rfl).trans f4
 replace f5:=(hR 5 rfl).trans f5
 have e8:a2.eval (.tmp 8)=.bool (decide ((Int.sign zy)=0)):=hP 2 (by decide)
 have f8:=e8
 replace Ax:=Ax.rl hr
 replace Tx:=Tx.rl hr
 replace Ay:=Ay.rl hr
 replace Ty:=Ty.rl hr
 replace HB:=HB.trans (hBt.below HB.size (UpOld.all (bx:=[]) trivial))
 clear hBt hr hR hP hX hU
 refine wp_cond_split f8 (fun hc8=>?_) (fun hc8=>?_)
 ·skip
  exact absurd (sign_zero_iff.1 (of_decide_eq_true hc8)) hy
 ·skip
  refine wp_skip ?_
  refine wp_seq ?_
  refine region4 [some 10,some 11,some 12,none,some 5] [Eqs (.agg #[.bool nx,.slice ax mx cx]),Eqs (.agg #[.bool ny,.slice ay my cy]),FrR (w.heap.size) ((nm zx zy)) ((dn zx zy)) ((Bx)+(By)),Tt,Eqs ((.int .i64 0))] [⟨R3,none,(gs1 2),4,.agg #[.bool false,.slice none 0 0,.slice none 0 0],some (3,12,2),[]⟩] [] (by kernel_rfl) hn rfl (by kernel_rfl) (by kernel_rfl) (by kernel_rfl) (by kernel_rfl) (by kernel_rfl) (by kernel_rfl) ⟨Eqs.mono4 _,Eqs.mono4 _,FrR.mono4 _ _ _ _,True.mono4,Eqs.mono4 _,trivial⟩ (ok_cons R3ok ok_nil) (IsOld.all (bx:=[⟨R3,none,(gs1 2),4,.agg #[.bool false,.slice none 0 0,.slice none 0 0],some (3,12,2),[]⟩]) ⟨fun _=>⟨f4,b4⟩,trivial⟩) (DisOld.all (bx:=[⟨R3,none,(gs1 2),4,.agg #[.bool false,.slice none 0 0,.slice none 0 0],some (3,12,2),[]⟩]) ⟨fun _=>trivial,trivial⟩) ?_ ?_
  ·exact ⟨.norm 10 rfl rfl rfl (fun a_ w_ _ t r R D _ _=>op_loadv W2ok ((R 2 rfl).trans f2) (b2.keep t ⟨fun _=>ne2_4.symm,trivial⟩)),.norm 11 rfl rfl rfl (fun a_ w_ _ t r R D _ _=>op_loadv W2ok ((R 3 rfl).trans f3) (b3.keep t ⟨fun _=>ne3_4.symm,trivial⟩)),.norm 12 rfl rfl rfl (fun a_ w_ _ t r R D _ _=>frlow (Nat.le_trans HB.size r.size) (op_lowestF (isw_eq (show a_.eval (.tmp 10)=.agg #[.bool nx,.slice ax mx cx] from D 0 rfl) (Ax.rl r) Lx) (isw_eq (show a_.eval (.tmp 11)=.agg #[.bool ny,.slice ay my cy] from D 1 rfl) (Ay.rl r) Ly) (by omega) hy)),.store 0 _ _ _ rfl rfl rfl rfl rfl rfl rfl (fun ia h=>by cases h) rfl rfl rfl FrR.cs,.norm 5 rfl rfl rfl (fun a_ w_ _ t r R D _ _=>op_assign rfl),trivial⟩
  intro a3 w3 gs3 hn3 hd3 hBt hr hR hP hX hU
  replace hn:=hn3;replace hd:=hd3.trans hd
  obtain ⟨T4,ft4,n_4,a_4,c_4,r_4,b_4,d_4,s_4,Bp4,Tp4,Bq4,Tq4,e12,F4,H4,fb4,fd4,l4,k4⟩:FrR (w.heap.size) ((nm zx zy)) ((dn zx zy)) ((Bx)+(By)) (a3.eval (.tmp 12)) w3:=hP 2 (by decide)
  have G4:=F4.wh;have K4:=H4.got;have A4:=G4.ag;have S4:=K4.sl;have V4:=K4.val;have HT4:SzGe T4 w3:=ft4
  have b4:BoxV R3 w3 ((gs1 2)) (.agg #[.bool n_4,.slice a_4 r_4.length c_4,.slice b_4 s_4.length d_4]):=boxv_old ((hX 0 _ rfl).2.1 rfl) (hX 0 _ rfl).2.2.2 e12
  replace f4:a3.eval (.tmp 4) = _:=(hR 4 rfl).trans f4
  have e5:a3.eval (.tmp 5)=(.int .i64 0):=hP 4 (by decide)
  have f5:=e5
  replace Ax:=Ax.rl hr
  replace Tx:=Tx.rl hr
  replace Ay:=Ay.rl hr
  replace Ty:=Ty.rl hr
  replace HB:=HB.trans (hBt.below HB.size (UpOld.all (bx:=[⟨R3,none,(gs1 2),4,.agg #[.bool false,.slice none 0 0,.slice none 0 0],some (3,12,2),[]⟩]) ⟨fun _=>u4,trivial⟩))
  clear hBt hr hR hP hX hU
  refine wp_ret ?_
  repeat (first | refine then_ret ?_ | refine scope_ret ?_ | refine block_ret ?_)
  exact bodyPost_ret (v:=.tuple #[.agg #[.bool n_4,.slice a_4 r_4.length c_4,.slice b_4 s_4.length d_4],(.int .i64 0)]) (res_ct rfl f4 (lv_R3 b4) f5) hd ⟨_,rfl,⟨_,_,rfl,FrR.to ⟨_,HT4.le,_,_,_,_,_,_,_,_,_,_,_,rfl,F4,H4,fb4,fd4,l4,k4⟩ rfl rfl (by omega),rfl⟩,HB⟩
theorem has_rofF:Has Tryz.prog 22:=by unfold Has;kernel_rfl
theorem op_rofF {dst:Option Tmp} {ty:TypeId} {pos:String} {after:Array Edge} {guard:Option (Nat × Bool)} {a:Act} {w:World} {ats:Array TypeId} {i j:Nat} {Bx:Nat} {zx:Int} (Hx:IsW zx Bx (a.eval (.tmp i)) w) {By:Nat} {zy:Int} (Hy:IsW zy By (a.eval (.tmp j)) w) (hL:Bx+By≤100000) (hy:zy≠0) :
  Does Tryz.prog { dst,op:=.call { callee:=.value (.func 22),args:=#[.tmp i,.tmp j],argTypes:=ats },type:=ty,pos,after,guard } a.eval w fun v w'=>Below w.heap.size w w'∧(Tup2 (FrR w.heap.size (nm zx zy) (dn zx zy) (Bx+By)) (Eqs (.int .i64 0))) v w' := by
 obtain ⟨nx,ax,mx,cx,xs,ex,Ax,Lx⟩:=Hx
 obtain ⟨ny,ay,my,cy,ys,ey,Ay,Ly⟩:=Hy
 refine does_call has_rofF _ (by simp only [List.map_toArray,List.map_cons,List.map_nil,ex,ey]) ((rofF_z w Bx _ _ _ _ _ _ Ax Lx By _ _ _ _ _ _ Ay Ly hL hy).mono ?_)
 rintro e w' ⟨v,rfl,h1,hb⟩
 exact ⟨_,rfl,hb,h1⟩
set_option maxRecDepth 20000 in
set_option maxHeartbeats 2000000 in
theorem rdivF_z (w:World) (Br:Nat) (nr:Bool) (ar:Option Addr) (mr cr:Nat) (rs:List Int) (pr:Int) (Ar:Ag w nr ar mr cr rs pr) (Lr:rs.length≤Br) (br:Option Addr) (kr dr:Nat) (rt:List Int) (qr:Int) (Sr:Sl w (.slice br kr dr) rt) (Vr:val rt=qr) (Mr:rt.length≤Br) (Bu:Nat) (nu:Bool) (au:Option Addr) (mu cu:Nat) (us:List Int) (pu:Int) (Au:Ag w nu au mu cu us pu) (Lu:us.length≤Bu) (bu:Option Addr) (ku du:Nat) (ut:List Int) (qu:Int) (Su:Sl w (.slice bu ku du) ut) (Vu:val ut=qu) (Mu:ut.length≤Bu) (hL:2*(Br+Bu+4)≤100000) (hu0:tp pu qu≠0) :
  Calls Tryz.prog 11 #[.agg #[.bool nr,.slice ar mr cr,.slice br kr dr],.agg #[.bool nu,.slice au mu cu,.slice bu ku du]] w fun e w'=>∃ v,e=.returned v∧(Tup2 (FrR w.heap.size (nm (tp pr qr*tq qu) (tq qr*tp pu qu)) (dn (tp pr qr*tq qu) (tq qr*tp pu qu)) (2*(Br+Bu+4))) (Eqs (.int .i64 0))) v w'∧Below w.heap.size w w' := by
 go_enter Tryz.func11,Tryz.ntmps11
 generalize hA:(Act.mk _ _)=aa
 have hn:aa.tmps.size=29:=by rw [←hA];rfl
 have hd:aa.defers = []:=by rw [←hA]
 have f0:aa.eval (.tmp 0)=.agg #[.bool nr,.slice ar mr cr,.slice br kr dr]:=by rw [←hA];rfl
 have f1:aa.eval (.tmp 1)=.agg #[.bool nu,.slice au mu cu,.slice bu ku du]:=by rw [←hA];rfl
 clear hA
 have HB:Below w.heap.size w w:=Below.refl _ _
 have Dr:Ag w false br kr dr rt qr:=⟨Sr,Vr⟩
 have Du:Ag w false bu ku du ut qu:=⟨Su,Vu⟩
 refine wp_seq ?_
 refine region4 [some 2,some 3,some 4,some 5] [Tt,Tt,Tt,Eqs ((.int .i64 0))] [⟨R3,some 0,0,2,.agg #[.bool nr,.slice ar mr cr,.slice br kr dr],none,[]⟩,⟨R3,some 1,0,3,.agg #[.bool nu,.slice au mu cu,.slice bu ku du],none,[]⟩,⟨R3,some 2,0,4,.agg #[.bool false,.slice none 0 0,.slice none 0 0],none,[]⟩] [] (by kernel_rfl) hn rfl (by kernel_rfl) (by kernel_rfl) (by kernel_rfl) (by kernel_rfl) (by kernel_rfl) (by kernel_rfl) ⟨True.mono4,True.mono4,True.mono4,Eqs.mono4 _,trivial⟩ (ok_cons R3ok (ok_cons R3ok (ok_cons R3ok ok_nil))) (IsOld.all (bx:=[⟨R3,some 0,0,2,.agg #[.bool nr,.slice ar mr cr,.slice br kr dr],none,[]⟩,⟨R3,some 1,0,3,.agg #[.bool nu,.slice au mu cu,.slice bu ku du],none,[]⟩,⟨R3,some 2,0,4,.agg #[.bool false,.slice none 0 0,.slice none 0 0],none,[]⟩]) ⟨someNe,someNe,someNe,trivial⟩) (DisOld.all (bx:=[⟨R3,some 0,0,2,.agg #[.bool nr,.slice ar mr cr,.slice br kr dr],none,[]⟩,⟨R3,some 1,0,3,.agg #[.bool nu,.slice au mu cu,.slice bu ku du],none,[]⟩,⟨R3,some 2,0,4,.agg #[.bool false,.slice none 0 0,.slice none 0 0],none,[]⟩]) ⟨someNe,someNe,someNe,trivial⟩) ?_ ?_
 ·exact ⟨.alloc 0 _ rfl rfl (.inr ⟨_,rfl,r3_cs,fun a_ hR=>(hR 0 rfl).trans f0⟩) rfl rfl rfl rfl rfl,.alloc 1 _ rfl rfl (.inr ⟨_,rfl,r3_cs,fun a_ hR=>(hR 1 rfl).trans f1⟩) rfl rfl rfl rfl rfl,.alloc 2 _ rfl rfl (.inl ⟨rfl,rfl⟩) rfl rfl rfl rfl rfl,.norm 5 rfl rfl rfl (fun a_ w_ _ t r R D _ _=>op_assign rfl),trivial⟩
 intro a1 w1 gs1 hn1 hd1 hBt hr hR hP hX hU
 replace hn:=hn1;replace hd:=hd1.trans hd
 have ne2_4:gs1 0≠gs1 2:=hU 0 2 (by simp) (by simp) (by decide)
 have ne3_4:gs1 1≠gs1 2:=hU 1 2 (by simp) (by simp) (by decide)
 have b2:BoxV R3 w1 (gs1 0) (.agg #[.bool nr,.slice ar mr cr,.slice br kr dr]):=(hX 0 _ rfl).2.2.2
 have f2:=(hX 0 _ rfl).1
 have u2:w.heap.size≤gs1 0:=Nat.le_trans HB.size ((hX 0 _ rfl).2.2.1 (by simp))
 have b3:BoxV R3 w1 (gs1 1) (.agg #[.bool nu,.slice au mu cu,.slice bu ku du]):=(hX 1 _ rfl).2.2.2
 have f3:=(hX 1 _ rfl).1
 have u3:w.heap.size≤gs1 1:=Nat.le_trans HB.size ((hX 1 _ rfl).2.2.1 (by simp))
 have b4:BoxV R3 w1 (gs1 2) (.agg #[.bool false,.slice none 0 0,.slice none 0 0]):=(hX 2 _ rfl).2.2.2
 have f4:=(hX 2 _ rfl).1
 have u4:w.heap.size≤gs1 2:=Nat.le_trans HB.size ((hX 2 _ rfl).2.2.1 (by simp))
 have e5:a1.eval (.tmp 5)=(.int .i64 0):=hP 3 (by decide)
 have f5:=e5
 replace Ar:=Ar.rl hr
 replace Sr:=Sr.rl hr
 replace Dr:=Dr.rl hr
 replace Au:=Au.rl hr
 replace Su:=Su.rl hr
 replace Du:=Du.rl hr
 replace HB:=HB.trans (hBt.below HB.size (UpOld.all (bx:=[⟨R3,some 0,0,2,.agg #[.bool nr,.slice ar mr cr,.slice br kr dr],none,[]⟩,⟨R3,some 1,0,3,.agg #[.bool nu,.slice au mu cu,.slice bu ku du],none,[]⟩,⟨R3,some 2,0,4,.agg #[.bool false,.slice none 0 0,.slice none 0 0],none,[]⟩]) ⟨someNe,someNe,someNe,trivial⟩))
 clear hBt hr hR hP hX hU
 refine wp_seq ?_
 refine region4 [some 11,some 12,some 10,some 13,some 14,some 6,some 7,none,none] [Eqs (.agg #[.bool nr,.slice ar mr cr,.slice br kr dr]),Tup2 (IsW ((tp pr qr)) ((Br)+2)) (IsW ((tq qr)) ((Br)+2)),Tup2 (IsW ((tp pr qr)) ((Br)+2)) (IsW ((tq qr)) ((Br)+2)),IsW ((tp pr qr)) ((Br)+2),IsW ((tq qr)) ((Br)+2),Tt,Tt,Tt,Tt] [⟨W2,some 5,0,6,.agg #[.bool false,.slice none 0 0],some (7,13,3),[]⟩,⟨W2,some 6,0,7,.agg #[.bool false,.slice none 0 0],some (8,14,4),[]⟩] [] (by kernel_rfl) hn rfl (by kernel_rfl) (by kernel_rfl) (by kernel_rfl) (by kernel_rfl) (by kernel_rfl) (by kernel_rfl) ⟨Eqs.mono4 _,Tup2.mono4 (IsW.mono4 _ _) (IsW.mono4 _ _),Tup2.mono4 (IsW.mono4 _ _) (IsW.mono4 _ _),IsW.mono4 _ _,IsW.mono4 _ _,True.mono4,True.mono4,True.mono4,True.mono4,trivial⟩ (ok_cons W2ok (ok_cons W2ok ok_nil)) (IsOld.all (bx:=[⟨W2,some 5,0,6,.agg #[.bool false,.slice none 0 0],some (7,13,3),[]⟩,⟨W2,some 6,0,7,.agg #[.bool false,.slice none 0 0],some (8,14,4),[]⟩]) ⟨someNe,someNe,trivial⟩) (DisOld.all (bx:=[⟨W2,some 5,0,6,.agg #[.bool false,.slice none 0 0],some (7,13,3),[]⟩,⟨W2,some 6,0,7,.agg #[.bool false,.slice none 0 0],some (8,14,4),[]⟩]) ⟨someNe,someNe,trivial⟩) ?_ ?_
 ·exact ⟨.norm 11 rfl rfl rfl (fun a_ w_ _ t r R D _ _=>op_loadv R3ok ((R 2 rfl).trans f2) (b2.keep t ⟨someNe,someNe,trivial⟩)),.norm 12 rfl rfl rfl (fun a_ w_ _ t r R D _ _=>op_terms (isr_eq (show a_.eval (.tmp 11)=.agg #[.bool nr,.slice ar mr cr,.slice br kr dr] from D 0 rfl) (Ar.rl r) (Sr.rl r) Vr Lr Mr) (by omega)),.norm 10 rfl rfl rfl (fun a_ w_ _ t r R D _ _=>op_mvp (p:=Tup2 (IsW ((tp pr qr)) ((Br)+2)) (IsW ((tq qr)) ((Br)+2))) (show Tup2 (IsW ((tp pr qr)) ((Br)+2)) (IsW ((tq qr)) ((Br)+2)) (a_.eval (.tmp 12)) w_ from D 1 rfl)),.norm 13 rfl rfl rfl (fun a_ w_ _ t r R D _ _=>op_ex20 (show Tup2 (IsW ((tp pr qr)) ((Br)+2)) (IsW ((tq qr)) ((Br)+2)) (a_.eval (.tmp 10)) w_ from D 2 rfl)),.norm 14 rfl rfl rfl (fun a_ w_ _ t r R D _ _=>op_ex21 (show Tup2 (IsW ((tp pr qr)) ((Br)+2)) (IsW ((tq qr)) ((Br)+2)) (a_.eval (.tmp 10)) w_ from D 2 rfl)),.alloc 0 _ rfl rfl (.inl ⟨rfl,rfl⟩) rfl rfl rfl rfl rfl,.alloc 1 _ rfl rfl (.inl ⟨rfl,rfl⟩) rfl rfl rfl rfl rfl,.store 0 _ _ _ rfl rfl rfl rfl rfl rfl rfl (fun ia h=>by cases h;rfl) rfl rfl rfl IsW.cs,.store 1 _ _ _ rfl rfl rfl rfl rfl rfl rfl (fun ia h=>by cases h;rfl) rfl rfl rfl IsW.cs,trivial⟩
 intro a2 w2 gs2 hn2 hd2 hBt hr hR hP hX hU
 replace hn:=hn2;replace hd:=hd2.trans hd
 have ne4_6:(gs1 2)≠gs2 0:=by have h1:=b4.lt;have h2:=(hX 0 _ rfl).2.2.1 (by simp);omega
 have ne4_7:(gs1 2)≠gs2 1:=by have h1:=b4.lt;have h2:=(hX 1 _ rfl).2.2.1 (by simp);omega
 replace b3:=b3.keep hBt ⟨someNe,someNe,trivial⟩
 replace b4:=b4.keep hBt ⟨someNe,someNe,trivial⟩
 obtain ⟨n_3,a_3,m_3,c_3,r_3,e13,A3,l3⟩:IsW ((tp pr qr)) ((Br)+2) (a2.eval (.tmp 13)) w2:=hP 3 (by decide)
 have b6:BoxV W2 w2 (gs2 0) (.agg #[.bool n_3,.slice a_3 m_3 c_3]):=boxv_of (hX 0 _ rfl).2.2.2 e13
 have f6:=(hX 0 _ rfl).1
 have u6:w.heap.size≤gs2 0:=Nat.le_trans HB.size ((hX 0 _ rfl).2.2.1 (by simp))
 obtain ⟨n_4,a_4,m_4,c_4,r_4,e14,A4,l4⟩:IsW ((tq qr)) ((Br)+2) (a2.eval (.tmp 14)) w2:=hP 4 (by decide)
 have b7:BoxV W2 w2 (gs2 1) (.agg #[.bool n_4,.slice a_4 m_4 c_4]):=boxv_of (hX 1 _ rfl).2.2.2 e14
 have f7:=(hX 1 _ rfl).1
 have u7:w.heap.size≤gs2 1:=Nat.le_trans HB.size ((hX 1 _ rfl).2.2.1 (by simp))
 replace f3:=(hR 3 rfl).trans f3
 replace f4:=(hR 4 rfl).trans f4
 replace f5:=(hR 5 rfl).trans f5
 replace Ar:=Ar.rl hr
 replace Sr:=Sr.rl hr
 replace Dr:=Dr.rl hr
 replace Au:=Au.rl hr
 replace Su:=Su.rl hr
 replace Du:=Du.rl hr
 replace HB:=HB.trans (hBt.below HB.size (UpOld.all (bx:=[⟨W2,some 5,0,6,.agg #[.bool false,.slice none 0 0],some (7,13,3),[]⟩,⟨W2,some 6,0,7,.agg #[.bool false,.slice none 0 0],some (8,14,4),[]⟩]) ⟨someNe,someNe,trivial⟩))
 clear hBt hr hR hP hX hU
 refine wp_seq ?_
 refine region4 [some 16,some 17,some 15,some 18,some 19,some 8,some 9,none,none] [Eqs (.agg #[.bool nu,.slice au mu cu,.slice bu ku du]),Tup2 (IsW ((tp pu qu)) ((Bu)+2)) (IsW ((tq qu)) ((Bu)+2)),Tup2 (IsW ((tp pu qu)) ((Bu)+2)) (IsW ((tq qu)) ((Bu)+2)),IsW ((tp pu qu)) ((Bu)+2),IsW ((tq qu)) ((Bu)+2),Tt,Tt,Tt,Tt] [⟨W2,some 5,0,8,.agg #[.bool false,.slice none 0 0],some (7,18,3),[]⟩,⟨W2,some 6,0,9,.agg #[.bool false,.slice none 0 0],some (8,19,4),[]⟩] [] (by kernel_rfl) hn rfl (by kernel_rfl) (by kernel_rfl) (by kernel_rfl) (by kernel_rfl) (by kernel_rfl) (by kernel_rfl) ⟨Eqs.mono4 _,Tup2.mono4 (IsW.mono4 _ _) (IsW.mono4 _ _),Tup2.mono4 (IsW.mono4 _ _) (IsW.mono4 _ _),IsW.mono4 _ _,IsW.mono4 _ _,True.mono4,True.mono4,True.mono4,True.mono4,trivial⟩ (ok_cons W2ok (ok_cons W2ok ok_nil)) (IsOld.all (bx:=[⟨W2,some 5,0,8,.agg #[.bool false,.slice none 0 0],some (7,18,3),[]⟩,⟨W2,some 6,0,9,.agg #[.bool false,.slice none 0 0],some (8,19,4),[]⟩]) ⟨someNe,someNe,trivial⟩) (DisOld.all (bx:=[⟨W2,some 5,0,8,.agg #[.bool false,.slice none 0 0],some (7,18,3),[]⟩,⟨W2,some 6,0,9,.agg #[.bool false,.slice none 0 0],some (8,19,4),[]⟩]) ⟨someNe,someNe,trivial⟩) ?_ ?_
 ·exact ⟨.norm 16 rfl rfl rfl (fun a_ w_ _ t r R D _ _=>op_loadv R3ok ((R 3 rfl).trans f3) (b3.keep t ⟨someNe,someNe,trivial⟩)),.norm 17 rfl rfl rfl (fun a_ w_ _ t r R D _ _=>op_terms (isr_eq (show a_.eval (.tmp 16)=.agg #[.bool nu,.slice au mu cu,.slice bu ku du] from D 0 rfl) (Au.rl r) (Su.rl r) Vu Lu Mu) (by omega)),.norm 15 rfl rfl rfl (fun a_ w_ _ t r R D _ _=>op_mvp (p:=Tup2 (IsW ((tp pu qu)) ((Bu)+2)) (IsW ((tq qu)) ((Bu)+2))) (show Tup2 (IsW ((tp pu qu)) ((Bu)+2)) (IsW ((tq qu)) ((Bu)+2)) (a_.eval (.tmp 17)) w_ from D 1 rfl)),.norm 18 rfl rfl rfl (fun a_ w_ _ t r R D _ _=>op_ex20 (show Tup2 (IsW ((tp pu qu)) ((Bu)+2)) (IsW ((tq qu)) ((Bu)+2)) (a_.eval (.tmp 15)) w_ from D 2 rfl)),.norm 19 rfl rfl rfl (fun a_ w_ _ t r R D _ _=>op_ex21 (show Tup2 (IsW ((tp pu qu)) ((Bu)+2)) (IsW ((tq qu)) ((Bu)+2)) (a_.eval (.tmp 15)) w_ from D 2 rfl)),.alloc 0 _ rfl rfl (.inl ⟨rfl,rfl⟩) rfl rfl rfl rfl rfl,.alloc 1 _ rfl rfl (.inl ⟨rfl,rfl⟩) rfl rfl rfl rfl rfl,.store 0 _ _ _ rfl rfl rfl rfl rfl rfl rfl (fun ia h=>by cases h;rfl) rfl rfl rfl IsW.cs,.store 1 _ _ _ rfl rfl rfl rfl rfl rfl rfl (fun ia h=>by cases h;rfl) rfl rfl rfl IsW.cs,trivial⟩
 intro a5 w5 gs5 hn5 hd5 hBt hr hR hP hX hU
 replace hn:=hn5;replace hd:=hd5.trans hd
 have ne4_8:(gs1 2)≠gs5 0:=by have h1:=b4.lt;have h2:=(hX 0 _ rfl).2.2.1 (by simp);omega
 have ne4_9:(gs1 2)≠gs5 1:=by have h1:=b4.lt;have h2:=(hX 1 _ rfl).2.2.1 (by simp);omega
 replace b4:=b4.keep hBt ⟨someNe,someNe,trivial⟩
 replace b6:=b6.keep hBt ⟨someNe,someNe,trivial⟩
 replace b7:=b7.keep hBt ⟨someNe,someNe,trivial⟩
 obtain ⟨n_6,a_6,m_6,c_6,r_6,e18,A6,l6⟩:IsW ((tp pu qu)) ((Bu)+2) (a5.eval (.tmp 18)) w5:=hP 3 (by decide)
 have b8:BoxV W2 w5 (gs5 0) (.agg #[.bool n_6,.slice a_6 m_6 c_6]):=boxv_of (hX 0 _ rfl).2.2.2 e18
 have f8:=(hX 0 _ rfl).1
 have u8:w.heap.size≤gs5 0:=Nat.le_trans HB.size ((hX 0 _ rfl).2.2.1 (by simp))
 obtain ⟨n_7,a_7,m_7,c_7,r_7,e19,A7,l7⟩:IsW ((tq qu)) ((Bu)+2) (a5.eval (.tmp 19)) w5:=hP 4 (by decide)
 have b9:BoxV W2 w5 (gs5 1) (.agg #[.bool n_7,.slice a_7 m_7 c_7]):=boxv_of (hX 1 _ rfl).2.2.2 e19
 have f9:=(hX 1 _ rfl).1
 have u9:w.heap.size≤gs5 1:=Nat.le_trans HB.size ((hX 1 _ rfl).2.2.1 (by simp))
 replace f4:=(hR 4 rfl).trans f4
 replace f5:=(hR 5 rfl).trans f5
 replace f6:=(hR 6 rfl).trans f6
 replace f7:=(hR 7 rfl).trans f7
 replace Ar:=Ar.rl hr
 replace Sr:=Sr.rl hr
 replace Dr:=Dr.rl hr
 replace Au:=Au.rl hr
 replace Su:=Su.rl hr
 replace Du:=Du.rl hr
 replace A3:=A3.rl hr
 replace A4:=A4.rl hr
 replace HB:=HB.trans (hBt.below HB.size (UpOld.all (bx:=[⟨W2,some 5,0,8,.agg #[.bool false,.slice none 0 0],some (7,18,3),[]⟩,⟨W2,some 6,0,9,.agg #[.bool false,.slice none 0 0],some (8,19,4),[]⟩]) ⟨someNe,someNe,trivial⟩))
 clear hBt hr hR hP hX hU
 refine wp_seq ?_
 refine region4 [some 20,some 21,some 22,some 23,some 24,some 25,some 26,some 27,some 28,none,some 5] [Eqs (.agg #[.bool n_3,.slice a_3 m_3 c_3]),Eqs (.agg #[.bool n_7,.slice a_7 m_7 c_7]),OutW (((tp pr qr)*(tq qu))) (((Br)+2)+((Bu)+2)),Eqs (.agg #[.bool n_4,.slice a_4 m_4 c_4]),Eqs (.agg #[.bool n_6,.slice a_6 m_6 c_6]),OutW (((tq qr)*(tp pu qu))) (((Br)+2)+((Bu)+2)),Tup2 (FrR (w.heap.size) ((nm ((tp pr qr)*(tq qu)) ((tq qr)*(tp pu qu)))) ((dn ((tp pr qr)*(tq qu)) ((tq qr)*(tp pu qu)))) ((((Br)+2)+((Bu)+2))+(((Br)+2)+((Bu)+2)))) (Eqs (.int .i64 0)),FrR (w.heap.size) ((nm ((tp pr qr)*(tq qu)) ((tq qr)*(tp pu qu)))) ((dn ((tp pr qr)*(tq qu)) ((tq qr)*(tp pu qu)))) ((((Br)+2)+((Bu)+2))+(((Br)+2)+((Bu)+2))),Eqs (.int .i64 0),Tt,Eqs (.int .i64 0)] [⟨R3,none,(gs1 2),4,.agg #[.bool false,.slice none 0 0,.slice none 0 0],some (9,27,7),[]⟩] [] (by kernel_rfl) hn rfl (by kernel_rfl) (by kernel_rfl) (by kernel_rfl) (by kernel_rfl) (by kernel_rfl) (by kernel_rfl) ⟨Eqs.mono4 _,Eqs.mono4 _,OutW.mono4 _ _,Eqs.mono4 _,Eqs.mono4 _,OutW.mono4 _ _,Tup2.mono4 (FrR.mono4 _ _ _ _) (Eqs.mono4 _),FrR.mono4 _ _ _ _,Eqs.mono4 _,True.mono4,Eqs.mono4 _,trivial⟩ (ok_cons R3ok ok_nil) (IsOld.all (bx:=[⟨R3,none,(gs1 2),4,.agg #[.bool false,.slice none 0 0,.slice none 0 0],some (9,27,7),[]⟩]) ⟨fun _=>⟨f4,b4⟩,trivial⟩) (DisOld.all (bx:=[⟨R3,none,(gs1 2),4,.agg #[.bool false,.slice none 0 0,.slice none 0 0],some (9,27,7),[]⟩]) ⟨fun _=>trivial,trivial⟩) ?_ ?_
 ·exact ⟨.norm 20 rfl rfl rfl (fun a_ w_ _ t r R D _ _=>op_loadv W2ok ((R 6 rfl).trans f6) (b6.keep t ⟨fun _=>ne4_6,trivial⟩)),.norm 21 rfl rfl rfl (fun a_ w_ _ t r R D _ _=>op_loadv W2ok ((R 9 rfl).trans f9) (b9.keep t ⟨fun _=>ne4_9,trivial⟩)),.norm 22 rfl rfl rfl (fun a_ w_ _ t r R D _ _=>op_mul (L1:=(Br)+2) (L2:=(Bu)+2) (isw_eq (show a_.eval (.tmp 20)=.agg #[.bool n_3,.slice a_3 m_3 c_3] from D 0 rfl) (A3.rl r) l3) (isw_eq (show a_.eval (.tmp 21)=.agg #[.bool n_7,.slice a_7 m_7 c_7] from D 1 rfl) (A7.rl r) l7) (by omega) (by omega)),.norm 23 rfl rfl rfl (fun a_ w_ _ t r R D _ _=>op_loadv W2ok ((R 7 rfl).trans f7) (b7.keep t ⟨fun _=>ne4_7,trivial⟩)),.norm 24 rfl rfl rfl (fun a_ w_ _ t r R D _ _=>op_loadv W2ok ((R 8 rfl).trans f8) (b8.keep t ⟨fun _=>ne4_8,trivial⟩)),.norm 25 rfl rfl rfl (fun a_ w_ _ t r R D _ _=>op_mul (L1:=(Br)+2) (L2:=(Bu)+2) (isw_eq (show a_.eval (.tmp 23)=.agg #[.bool n_4,.slice a_4 m_4 c_4] from D 3 rfl) (A4.rl r) l4) (isw_eq (show a_.eval (.tmp 24)=.agg #[.bool n_6,.slice a_6 m_6 c_6] from D 4 rfl) (A6.rl r) l6) (by omega) (by omega)),.norm 26 rfl rfl rfl (fun a_ w_ _ t r R D _ _=>frlow2 (Nat.le_trans HB.size r.size) (op_rofF (show OutW (((tp pr qr)*(tq qu))) (((Br)+2)+((Bu)+2)) (a_.eval (.tmp 22)) w_ from D 2 rfl).is (show OutW (((tq qr)*(tp pu qu))) (((Br)+2)+((Bu)+2)) (a_.eval (.tmp 25)) w_ from D 5 rfl).is (by omega) (mul_ne (tq_ne _) hu0))),.norm 27 rfl rfl rfl (fun a_ w_ _ t r R D _ _=>op_ex20 (show Tup2 (FrR (w.heap.size) ((nm ((tp pr qr)*(tq qu)) ((tq qr)*(tp pu qu)))) ((dn ((tp pr qr)*(tq qu)) ((tq qr)*(tp pu qu)))) ((((Br)+2)+((Bu)+2))+(((Br)+2)+((Bu)+2)))) (Eqs (.int .i64 0)) (a_.eval (.tmp 26)) w_ from D 6 rfl)),.norm 28 rfl rfl rfl (fun a_ w_ _ t r R D _ _=>op_ex21 (show Tup2 (FrR (w.heap.size) ((nm ((tp pr qr)*(tq qu)) ((tq qr)*(tp pu qu)))) ((dn ((tp pr qr)*(tq qu)) ((tq qr)*(tp pu qu)))) ((((Br)+2)+((Bu)+2))+(((Br)+2)+((Bu)+2)))) (Eqs (.int .i64 0)) (a_.eval (.tmp 26)) w_ from D 6 rfl)),.store 0 _ _ _ rfl rfl rfl rfl rfl rfl rfl (fun ia h=>by cases h) rfl rfl rfl FrR.cs,.norm 5 rfl rfl rfl (fun a_ w_ _ t r R D _ _=>op_assign (show a_.eval (.tmp 28)=.int .i64 0 from D 8 rfl)),trivial⟩
 intro a8 w8 gs8 hn8 hd8 hBt hr hR hP hX hU
 replace hn:=hn8;replace hd:=hd8.trans hd
 obtain ⟨T9,ft9,n_9,a_9,c_9,r_9,b_9,d_9,s_9,Bp9,Tp9,Bq9,Tq9,e27,F9,H9,fb9,fd9,l9,k9⟩:FrR (w.heap.size) ((nm ((tp pr qr)*(tq qu)) ((tq qr)*(tp pu qu)))) ((dn ((tp pr qr)*(tq qu)) ((tq qr)*(tp pu qu)))) ((((Br)+2)+((Bu)+2))+(((Br)+2)+((Bu)+2))) (a8.eval (.tmp 27)) w8:=hP 7 (by decide)
 have G9:=F9.wh;have K9:=H9.got;have A9:=G9.ag;have S9:=K9.sl;have V9:=K9.val;have HT9:SzGe T9 w8:=ft9
 have b4:BoxV R3 w8 ((gs1 2)) (.agg #[.bool n_9,.slice a_9 r_9.length c_9,.slice b_9 s_9.length d_9]):=boxv_old ((hX 0 _ rfl).2.1 rfl) (hX 0 _ rfl).2.2.2 e27
 replace f4:a8.eval (.tmp 4) = _:=(hR 4 rfl).trans f4
 have e5:a8.eval (.tmp 5)=.int .i64 0:=hP 10 (by decide)
 have f5:=e5
 replace Ar:=Ar.rl hr
 replace Sr:=Sr.rl hr
 replace Dr:=Dr.rl hr
 replace Au:=Au.rl hr
 replace Su:=Su.rl hr
 replace Du:=Du.rl hr
 replace A3:=A3.rl hr
 replace A4:=A4.rl hr
 replace A6:=A6.rl hr
 replace A7:=A7.rl hr
 replace HB:=HB.trans (hBt.below HB.size (UpOld.all (bx:=[⟨R3,none,(gs1 2),4,.agg #[.bool false,.slice none 0 0,.slice none 0 0],some (9,27,7),[]⟩]) ⟨fun _=>u4,trivial⟩))
 clear hBt hr hR hP hX hU
 refine wp_ret ?_
 repeat (first | refine then_ret ?_ | refine scope_ret ?_ | refine block_ret ?_)
 exact bodyPost_ret (v:=.tuple #[.agg #[.bool n_9,.slice a_9 r_9.length c_9,.slice b_9 s_9.length d_9],.int .i64 0]) (res_ct rfl f4 (lv_R3 b4) f5) hd ⟨_,rfl,⟨_,_,rfl,FrR.to ⟨_,HT9.le,_,_,_,_,_,_,_,_,_,_,_,rfl,F9,H9,fb9,fd9,l9,k9⟩ rfl rfl (by omega),rfl⟩,HB⟩
theorem has_rdivF:Has Tryz.prog 11:=by unfold Has;kernel_rfl
theorem op_rdivF {dst:Option Tmp} {ty:TypeId} {pos:String} {after:Array Edge} {guard:Option (Nat × Bool)} {a:Act} {w:World} {ats:Array TypeId} {i j:Nat} {Br:Nat} {pr qr:Int} (Hr:IsR pr qr Br (a.eval (.tmp i)) w) {Bu:Nat} {pu qu:Int} (Hu:IsR pu qu Bu (a.eval (.tmp j)) w) (hL:2*(Br+Bu+4)≤100000) (hu0:tp pu qu≠0) :
  Does Tryz.prog { dst,op:=.call { callee:=.value (.func 11),args:=#[.tmp i,.tmp j],argTypes:=ats },type:=ty,pos,after,guard } a.eval w fun v w'=>Below w.heap.size w w'∧(Tup2 (FrR w.heap.size (nm (tp pr qr*tq qu) (tq qr*tp pu qu)) (dn (tp pr qr*tq qu) (tq qr*tp pu qu)) (2*(Br+Bu+4))) (Eqs (.int .i64 0))) v w' := by
 obtain ⟨nr,ar,mr,cr,rs,br,kr,dr,rt,er,Ar,Sr,Vr,Lr,Mr⟩:=Hr
 obtain ⟨nu,au,mu,cu,us,bu,ku,du,ut,eu,Au,Su,Vu,Lu,Mu⟩:=Hu
 refine does_call has_rdivF _ (by simp only [List.map_toArray,List.map_cons,List.map_nil,er,eu]) ((rdivF_z w Br _ _ _ _ _ _ Ar Lr _ _ _ _ _ Sr Vr Mr Bu _ _ _ _ _ _ Au Lu _ _ _ _ _ Su Vu Mu hL hu0).mono ?_)
 rintro e w' ⟨v,rfl,h1,hb⟩
 exact ⟨_,rfl,hb,h1⟩
end Lm
end Go.Proofs.YtpofkigboedliaaGreat

namespace Go.Proofs.YtpofkigboedliaaGreat
namespace Lm
open Go Go.RowKit
set_option maxRecDepth 20000 in
set_option maxHeartbeats 2000000 in
theorem qplus_z (w:World) (Bx:Nat) (nx:Bool) (ax:Option Addr) (cx:Nat) (xs:List Int) (px:Int) (Gx:Dm.Wh w nx ax cx xs px) (Lx:xs.length≤Bx) (ox:Bool) (bx:Option Addr) (dx:Nat) (xt:List Int) (qx:Int) (Kx:Dm.Wh w ox bx dx xt qx) (Mx:xt.length≤Bx) (Bv:Nat) (nv:Bool) (av:Option Addr) (cv:Nat) (vs:List Int) (pv:Int) (Gv:Dm.Wh w nv av cv vs pv) (Lv:vs.length≤Bv) (ov:Bool) (bv:Option Addr) (dv:Nat) (vt:List Int) (qv:Int) (Kv:Dm.Wh w ov bv dv vt qv) (Mv:vt.length≤Bv) (hL:Bx+Bv≤50000) (hx0:qx≠0) (hv0:qv≠0) :
  Calls Tryz.prog 42 #[.agg #[.bool nx,.slice ax xs.length cx,.bool ox,.slice bx xt.length dx],.agg #[.bool nv,.slice av vs.length cv,.bool ov,.slice bv vt.length dv]] w fun e w'=>∃ v,e=.returned v∧(OutQ (nm (px*qv+pv*qx) (qx*qv)) (dn (px*qv+pv*qx) (qx*qv)) (3*(Bx+Bv)+4)) v w'∧Below w.heap.size w w' := by
 go_enter Tryz.func42,Tryz.ntmps42
 generalize hA:(Act.mk _ _)=aa
 have hn:aa.tmps.size=22:=by rw [←hA];rfl
 have hd:aa.defers = []:=by rw [←hA]
 have f0:aa.eval (.tmp 0)=.agg #[.bool nx,.slice ax xs.length cx,.bool ox,.slice bx xt.length dx]:=by rw [←hA];rfl
 have f1:aa.eval (.tmp 1)=.agg #[.bool nv,.slice av vs.length cv,.bool ov,.slice bv vt.length dv]:=by rw [←hA];rfl
 clear hA
 have HB:Below w.heap.size w w:=Below.refl _ _
 refine wp_seq ?_
 refine region4 [some 2,some 3,some 4] [Tt,Tt,Tt] [⟨Q4,some 0,0,2,.agg #[.bool nx,.slice ax xs.length cx,.bool ox,.slice bx xt.length dx],none,[]⟩,⟨Q4,some 1,0,3,.agg #[.bool nv,.slice av vs.length cv,.bool ov,.slice bv vt.length dv],none,[]⟩,⟨Q4,some 2,0,4,.agg #[.bool false,.slice none 0 0,.bool false,.slice none 0 0],none,[]⟩] [] (by kernel_rfl) hn rfl (by kernel_rfl) (by kernel_rfl) (by kernel_rfl) (by kernel_rfl) (by kernel_rfl) (by kernel_rfl) ⟨True.mono4,True.mono4,True.mono4,trivial⟩ (ok_cons Q4ok (ok_cons Q4ok (ok_cons Q4ok ok_nil))) (IsOld.all (bx:=[⟨Q4,some 0,0,2,.agg #[.bool nx,.slice ax xs.length cx,.bool ox,.slice bx xt.length dx],none,[]⟩,⟨Q4,some 1,0,3,.agg #[.bool nv,.slice av vs.length cv,.bool ov,.slice bv vt.length dv],none,[]⟩,⟨Q4,some 2,0,4,.agg #[.bool false,.slice none 0 0,.bool false,.slice none 0 0],none,[]⟩]) ⟨someNe,someNe,someNe,trivial⟩) (DisOld.all (bx:=[⟨Q4,some 0,0,2,.agg #[.bool nx,.slice ax xs.length cx,.bool ox,.slice bx xt.length dx],none,[]⟩,⟨Q4,some 1,0,3,.agg #[.bool nv,.slice av vs.length cv,.bool ov,.slice bv vt.length dv],none,[]⟩,⟨Q4,some 2,0,4,.agg #[.bool false,.slice none 0 0,.bool false,.slice none 0 0],none,[]⟩]) ⟨someNe,someNe,someNe,trivial⟩) ?_ ?_
 ·exact ⟨.alloc 0 _ rfl rfl (.inr ⟨_,rfl,q4_cs,fun a_ hR=>(hR 0 rfl).trans f0⟩) rfl rfl rfl rfl rfl,.alloc 1 _ rfl rfl (.inr ⟨_,rfl,q4_cs,fun a_ hR=>(hR 1 rfl).trans f1⟩) rfl rfl rfl rfl rfl,.alloc 2 _ rfl rfl (.inl ⟨rfl,rfl⟩) rfl rfl rfl rfl rfl,trivial⟩
 intro a1 w1 gs1 hn1 hd1 hBt hr hR hP hX hU
 replace hn:=hn1;replace hd:=hd1.trans hd
 have ne2_4:gs1 0≠gs1 2:=hU 0 2 (by simp) (by simp) (by decide)
 have ne3_4:gs1 1≠gs1 2:=hU 1 2 (by simp) (by simp) (by decide)
 have b2:BoxV Q4 w1 (gs1 0) (.agg #[.bool nx,.slice ax xs.length cx,.bool ox,.slice bx xt.length dx]):=(hX 0 _ rfl).2.2.2
 have f2:=(hX 0 _ rfl).1
 have u2:w.heap.size≤gs1 0:=Nat.le_trans HB.size ((hX 0 _ rfl).2.2.1 (by simp))
 have b3:BoxV Q4 w1 (gs1 1) (.agg #[.bool nv,.slice av vs.length cv,.bool ov,.slice bv vt.length dv]):=(hX 1 _ rfl).2.2.2
 have f3:=(hX 1 _ rfl).1
 have u3:w.heap.size≤gs1 1:=Nat.le_trans HB.size ((hX 1 _ rfl).2.2.1 (by simp))
 have b4:BoxV Q4 w1 (gs1 2) (.agg #[.bool false,.slice none 0 0,.bool false,.slice none 0 0]):=(hX 2 _ rfl).2.2.2
 have f4:=(hX 2 _ rfl).1
 have u4:w.heap.size≤gs1 2:=Nat.le_trans HB.size ((hX 2 _ rfl).2.2.1 (by simp))
 replace Gx:=Gx.rl hr
 replace Kx:=Kx.rl hr
 replace Gv:=Gv.rl hr
 replace Kv:=Kv.rl hr
 replace HB:=HB.trans (hBt.below HB.size (UpOld.all (bx:=[⟨Q4,some 0,0,2,.agg #[.bool nx,.slice ax xs.length cx,.bool ox,.slice bx xt.length dx],none,[]⟩,⟨Q4,some 1,0,3,.agg #[.bool nv,.slice av vs.length cv,.bool ov,.slice bv vt.length dv],none,[]⟩,⟨Q4,some 2,0,4,.agg #[.bool false,.slice none 0 0,.bool false,.slice none 0 0],none,[]⟩]) ⟨someNe,someNe,someNe,trivial⟩))
 clear hBt hr hR hP hX hU
 refine wp_seq ?_
 refine region4 [some 5,some 6,some 7,some 8,some 9,some 10,some 11,some 12,some 13,some 14,some 15,some 16,some 17,some 18,some 19,some 20,some 21,none] [Eqs (.pointer (some ⟨gs1 0,0,none⟩)),Eqs (.agg #[.bool nx,.slice ax xs.length cx]),Eqs (.pointer (some ⟨gs1 1,2,none⟩)),Eqs (.agg #[.bool ov,.slice bv vt.length dv]),OutN ((px*qv)) ((Bx)+(Bv)+1),Eqs (.pointer (some ⟨gs1 1,0,none⟩)),Eqs (.agg #[.bool nv,.slice av vs.length cv]),Eqs (.pointer (some ⟨gs1 0,2,none⟩)),Eqs (.agg #[.bool ox,.slice bx xt.length dx]),OutN ((pv*qx)) ((Bv)+(Bx)+1),OutN (((px*qv)+(pv*qx))) (((Bx)+(Bv)+1)+((Bv)+(Bx)+1)+1),Eqs (.pointer (some ⟨gs1 0,2,none⟩)),Eqs (.agg #[.bool ox,.slice bx xt.length dx]),Eqs (.pointer (some ⟨gs1 1,2,none⟩)),Eqs (.agg #[.bool ov,.slice bv vt.length dv]),OutN ((qx*qv)) ((Bx)+(Bv)+1),OutQ ((nm ((px*qv)+(pv*qx)) (qx*qv))) ((dn ((px*qv)+(pv*qx)) (qx*qv))) ((((Bx)+(Bv)+1)+((Bv)+(Bx)+1)+1)+((Bx)+(Bv)+1)),Tt] [⟨Q4,none,(gs1 2),4,.agg #[.bool false,.slice none 0 0,.bool false,.slice none 0 0],some (17,21,16),[]⟩] [] (by kernel_rfl) hn rfl (by kernel_rfl) (by kernel_rfl) (by kernel_rfl) (by kernel_rfl) (by kernel_rfl) (by kernel_rfl) ⟨Eqs.mono4 _,Eqs.mono4 _,Eqs.mono4 _,Eqs.mono4 _,OutN.mono4 _ _,Eqs.mono4 _,Eqs.mono4 _,Eqs.mono4 _,Eqs.mono4 _,OutN.mono4 _ _,OutN.mono4 _ _,Eqs.mono4 _,Eqs.mono4 _,Eqs.mono4 _,Eqs.mono4 _,OutN.mono4 _ _,OutQ.mono4 _ _ _,True.mono4,trivial⟩ (ok_cons Q4ok ok_nil) (IsOld.all (bx:=[⟨Q4,none,(gs1 2),4,.agg #[.bool false,.slice none 0 0,.bool false,.slice none 0 0],some (17,21,16),[]⟩]) ⟨fun _=>⟨f4,b4⟩,trivial⟩) (DisOld.all (bx:=[⟨Q4,none,(gs1 2),4,.agg #[.bool false,.slice none 0 0,.bool false,.slice none 0 0],some (17,21,16),[]⟩]) ⟨fun _=>trivial,trivial⟩) ?_ ?_
 ·exact ⟨.norm 5 rfl rfl rfl (fun a_ w_ _ t r R D _ _=>op_faQ fa_q0 ((R 2 rfl).trans f2)),.norm 6 rfl rfl rfl (fun a_ w_ _ t r R D _ _=>op_ldq0 (show a_.eval (.tmp 5)=.pointer (some ⟨gs1 0,0,none⟩) from D 0 rfl) (b2.keep t ⟨fun _=>ne2_4.symm,trivial⟩)),.norm 7 rfl rfl rfl (fun a_ w_ _ t r R D _ _=>op_faQ fa_q1 ((R 3 rfl).trans f3)),.norm 8 rfl rfl rfl (fun a_ w_ _ t r R D _ _=>op_ldq1 (show a_.eval (.tmp 7)=.pointer (some ⟨gs1 1,2,none⟩) from D 2 rfl) (b3.keep t ⟨fun _=>ne3_4.symm,trivial⟩)),.norm 9 rfl rfl rfl (fun a_ w_ _ t r R D _ _=>op_nmul (outn_eq (show a_.eval (.tmp 6)=.agg #[.bool nx,.slice ax xs.length cx] from D 1 rfl) (Gx.rl r) Lx) (outn_eq (show a_.eval (.tmp 8)=.agg #[.bool ov,.slice bv vt.length dv] from D 3 rfl) (Kv.rl r) Mv) (by omega) (by omega)),.norm 10 rfl rfl rfl (fun a_ w_ _ t r R D _ _=>op_faQ fa_q0 ((R 3 rfl).trans f3)),.norm 11 rfl rfl rfl (fun a_ w_ _ t r R D _ _=>op_ldq0 (show a_.eval (.tmp 10)=.pointer (some ⟨gs1 1,0,none⟩) from D 5 rfl) (b3.keep t ⟨fun _=>ne3_4.symm,trivial⟩)),.norm 12 rfl rfl rfl (fun a_ w_ _ t r R D _ _=>op_faQ fa_q1 ((R 2 rfl).trans f2)),.norm 13 rfl rfl rfl (fun a_ w_ _ t r R D _ _=>op_ldq1 (show a_.eval (.tmp 12)=.pointer (some ⟨gs1 0,2,none⟩) from D 7 rfl) (b2.keep t ⟨fun _=>ne2_4.symm,trivial⟩)),.norm 14 rfl rfl rfl (fun a_ w_ _ t r R D _ _=>op_nmul (outn_eq (show a_.eval (.tmp 11)=.agg #[.bool nv,.slice av vs.length cv] from D 6 rfl) (Gv.rl r) Lv) (outn_eq (show a_.eval (.tmp 13)=.agg #[.bool ox,.slice bx xt.length dx] from D 8 rfl) (Kx.rl r) Mx) (by omega) (by omega)),.norm 15 rfl rfl rfl (fun a_ w_ _ t r R D _ _=>op_nadd (show OutN ((px*qv)) ((Bx)+(Bv)+1) (a_.eval (.tmp 9)) w_ from D 4 rfl) (show OutN ((pv*qx)) ((Bv)+(Bx)+1) (a_.eval (.tmp 14)) w_ from D 9 rfl) (by omega) (by omega)),.norm 16 rfl rfl rfl (fun a_ w_ _ t r R D _ _=>op_faQ fa_q1 ((R 2 rfl).trans f2)),.norm 17 rfl rfl rfl (fun a_ w_ _ t r R D _ _=>op_ldq1 (show a_.eval (.tmp 16)=.pointer (some ⟨gs1 0,2,none⟩) from D 11 rfl) (b2.keep t ⟨fun _=>ne2_4.symm,trivial⟩)),.norm 18 rfl rfl rfl (fun a_ w_ _ t r R D _ _=>op_faQ fa_q1 ((R 3 rfl).trans f3)),.norm 19 rfl rfl rfl (fun a_ w_ _ t r R D _ _=>op_ldq1 (show a_.eval (.tmp 18)=.pointer (some ⟨gs1 1,2,none⟩) from D 13 rfl) (b3.keep t ⟨fun _=>ne3_4.symm,trivial⟩)),.norm 20 rfl rfl rfl (fun a_ w_ _ t r R D _ _=>op_nmul (outn_eq (show a_.eval (.tmp 17)=.agg #[.bool ox,.slice bx xt.length dx] from D 12 rfl) (Kx.rl r) Mx) (outn_eq (show a_.eval (.tmp 19)=.agg #[.bool ov,.slice bv vt.length dv] from D 14 rfl) (Kv.rl r) Mv) (by omega) (by omega)),.norm 21 rfl rfl rfl (fun a_ w_ _ t r R D _ _=>op_qmake (Bx:=((Bx)+(Bv)+1)+((Bv)+(Bx)+1)+1) (By:=(Bx)+(Bv)+1) (show OutN (((px*qv)+(pv*qx))) (((Bx)+(Bv)+1)+((Bv)+(Bx)+1)+1) (a_.eval (.tmp 15)) w_ from D 10 rfl) (show OutN ((qx*qv)) ((Bx)+(Bv)+1) (a_.eval (.tmp 20)) w_ from D 15 rfl) (by omega) (Int.mul_ne_zero hx0 hv0)),.store 0 _ _ _ rfl rfl rfl rfl rfl rfl rfl (fun ia h=>by cases h) rfl rfl rfl OutQ.cs,trivial⟩
 intro a2 w2 gs2 hn2 hd2 hBt hr hR hP hX hU
 replace hn:=hn2;replace hd:=hd2.trans hd
 obtain ⟨n_3,a_3,c_3,r_3,o_3,b_3,d_3,s_3,e21,G3,K3,l3,k3⟩:OutQ ((nm ((px*qv)+(pv*qx)) (qx*qv))) ((dn ((px*qv)+(pv*qx)) (qx*qv))) ((((Bx)+(Bv)+1)+((Bv)+(Bx)+1)+1)+((Bx)+(Bv)+1)) (a2.eval (.tmp 21)) w2:=hP 16 (by decide)
 have b4:BoxV Q4 w2 ((gs1 2)) (.agg #[.bool n_3,.slice a_3 r_3.length c_3,.bool o_3,.slice b_3 s_3.length d_3]):=boxv_old ((hX 0 _ rfl).2.1 rfl) (hX 0 _ rfl).2.2.2 e21
 replace f4:a2.eval (.tmp 4) = _:=(hR 4 rfl).trans f4
 replace Gx:=Gx.rl hr
 replace Kx:=Kx.rl hr
 replace Gv:=Gv.rl hr
 replace Kv:=Kv.rl hr
 replace HB:=HB.trans (hBt.below HB.size (UpOld.all (bx:=[⟨Q4,none,(gs1 2),4,.agg #[.bool false,.slice none 0 0,.bool false,.slice none 0 0],some (17,21,16),[]⟩]) ⟨fun _=>u4,trivial⟩))
 clear hBt hr hR hP hX hU
 refine wp_ret ?_
 repeat (first | refine then_ret ?_ | refine scope_ret ?_ | refine block_ret ?_)
 exact bodyPost_ret (v:=.agg #[.bool n_3,.slice a_3 r_3.length c_3,.bool o_3,.slice b_3 s_3.length d_3]) (res_c rfl f4 (lv_Q4 b4)) hd ⟨_,rfl,OutQ.to (outq_eq rfl G3 K3 l3 k3) rfl rfl (by omega),HB⟩
theorem has_qplus:Has Tryz.prog 42:=by unfold Has;kernel_rfl
theorem op_qplus {dst:Option Tmp} {ty:TypeId} {pos:String} {after:Array Edge} {guard:Option (Nat × Bool)} {a:Act} {w:World} {ats:Array TypeId} {i j:Nat} {Bx:Nat} {px qx:Int} (Hx:OutQ px qx Bx (a.eval (.tmp i)) w) {Bv:Nat} {pv qv:Int} (Hv:OutQ pv qv Bv (a.eval (.tmp j)) w) (hL:Bx+Bv≤50000) (hx0:qx≠0) (hv0:qv≠0) :
  Does Tryz.prog { dst,op:=.call { callee:=.value (.func 42),args:=#[.tmp i,.tmp j],argTypes:=ats },type:=ty,pos,after,guard } a.eval w fun v w'=>Below w.heap.size w w'∧(OutQ (nm (px*qv+pv*qx) (qx*qv)) (dn (px*qv+pv*qx) (qx*qv)) (3*(Bx+Bv)+4)) v w' := by
 obtain ⟨nx,ax,cx,xs,ox,bx,dx,xt,ex,Gx,Kx,Lx,Mx⟩:=Hx
 obtain ⟨nv,av,cv,vs,ov,bv,dv,vt,ev,Gv,Kv,Lv,Mv⟩:=Hv
 refine does_call has_qplus _ (by simp only [List.map_toArray,List.map_cons,List.map_nil,ex,ev]) ((qplus_z w Bx _ _ _ _ _ Gx Lx _ _ _ _ _ Kx Mx Bv _ _ _ _ _ Gv Lv _ _ _ _ _ Kv Mv hL hx0 hv0).mono ?_)
 rintro e w' ⟨v,rfl,h1,hb⟩
 exact ⟨_,rfl,hb,h1⟩
set_option maxRecDepth 20000 in
set_option maxHeartbeats 2000000 in
theorem qtimes_z (w:World) (Bx:Nat) (nx:Bool) (ax:Option Addr) (cx:Nat) (xs:List Int) (px:Int) (Gx:Dm.Wh w nx ax cx xs px) (Lx:xs.length≤Bx) (ox:Bool) (bx:Option Addr) (dx:Nat) (xt:List Int) (qx:Int) (Kx:Dm.Wh w ox bx dx xt qx) (Mx:xt.length≤Bx) (Bv:Nat) (nv:Bool) (av:Option Addr) (cv:Nat) (vs:List Int) (pv:Int) (Gv:Dm.Wh w nv av cv vs pv) (Lv:vs.length≤Bv) (ov:Bool) (bv:Option Addr) (dv:Nat) (vt:List Int) (qv:Int) (Kv:Dm.Wh w ov bv dv vt qv) (Mv:vt.length≤Bv) (hL:Bx+Bv≤50000) (hx0:qx≠0) (hv0:qv≠0) :
  Calls Tryz.prog 44 #[.agg #[.bool nx,.slice ax xs.length cx,.bool ox,.slice bx xt.length dx],.agg #[.bool nv,.slice av vs.length cv,.bool ov,.slice bv vt.length dv]] w fun e w'=>∃ v,e=.returned v∧(OutQ (nm (px*pv) (qx*qv)) (dn (px*pv) (qx*qv)) (2*(Bx+Bv)+2)) v w'∧Below w.heap.size w w' := by
 go_enter Tryz.func44,Tryz.ntmps44
 generalize hA:(Act.mk _ _)=aa
 have hn:aa.tmps.size=16:=by rw [←hA];rfl
 have hd:aa.defers = []:=by rw [←hA]
 have f0:aa.eval (.tmp 0)=.agg #[.bool nx,.slice ax xs.length cx,.bool ox,.slice bx xt.length dx]:=by rw [←hA];rfl
 have f1:aa.eval (.tmp 1)=.agg #[.bool nv,.slice av vs.length cv,.bool ov,.slice bv vt.length dv]:=by rw [←hA];rfl
 clear hA
 have HB:Below w.heap.size w w:=Below.refl _ _
 refine wp_seq ?_
 refine region4 [some 2,some 3,some 4] [Tt,Tt,Tt] [⟨Q4,some 0,0,2,.agg #[.bool nx,.slice ax xs.length cx,.bool ox,.slice bx xt.length dx],none,[]⟩,⟨Q4,some 1,0,3,.agg #[.bool nv,.slice av vs.length cv,.bool ov,.slice bv vt.length dv],none,[]⟩,⟨Q4,some 2,0,4,.agg #[.bool false,.slice none 0 0,.bool false,.slice none 0 0],none,[]⟩] [] (by kernel_rfl) hn rfl (by kernel_rfl) (by kernel_rfl) (by kernel_rfl) (by kernel_rfl) (by kernel_rfl) (by kernel_rfl) ⟨True.mono4,True.mono4,True.mono4,trivial⟩ (ok_cons Q4ok (ok_cons Q4ok (ok_cons Q4ok ok_nil))) (IsOld.all (bx:=[⟨Q4,some 0,0,2,.agg #[.bool nx,.slice ax xs.length cx,.bool ox,.slice bx xt.length dx],none,[]⟩,⟨Q4,some 1,0,3,.agg #[.bool nv,.slice av vs.length cv,.bool ov,.slice bv vt.length dv],none,[]⟩,⟨Q4,some 2,0,4,.agg #[.bool false,.slice none 0 0,.bool false,.slice none 0 0],none,[]⟩]) ⟨someNe,someNe,someNe,trivial⟩) (DisOld.all (bx:=[⟨Q4,some 0,0,2,.agg #[.bool nx,.slice ax xs.length cx,.bool ox,.slice bx xt.length dx],none,[]⟩,⟨Q4,some 1,0,3,.agg #[.bool nv,.slice av vs.length cv,.bool ov,.slice bv vt.length dv],none,[]⟩,⟨Q4,some 2,0,4,.agg #[.bool false,.slice none 0 0,.bool false,.slice none 0 0],none,[]⟩]) ⟨someNe,someNe,someNe,trivial⟩) ?_ ?_
 ·exact ⟨.alloc 0 _ rfl rfl (.inr ⟨_,rfl,q4_cs,fun a_ hR=>(hR 0 rfl).trans f0⟩) rfl rfl rfl rfl rfl,.alloc 1 _ rfl rfl (.inr ⟨_,rfl,q4_cs,fun a_ hR=>(hR 1 rfl).trans f1⟩) rfl rfl rfl rfl rfl,.alloc 2 _ rfl rfl (.inl ⟨rfl,rfl⟩) rfl rfl rfl rfl rfl,trivial⟩
 intro a1 w1 gs1 hn1 hd1 hBt hr hR hP hX hU
 replace hn:=hn1;replace hd:=hd1.trans hd
 have ne2_4:gs1 0≠gs1 2:=hU 0 2 (by simp) (by simp) (by decide)
 have ne3_4:gs1 1≠gs1 2:=hU 1 2 (by simp) (by simp) (by decide)
 have b2:BoxV Q4 w1 (gs1 0) (.agg #[.bool nx,.slice ax xs.length cx,.bool ox,.slice bx xt.length dx]):=(hX 0 _ rfl).2.2.2
 have f2:=(hX 0 _ rfl).1
 have u2:w.heap.size≤gs1 0:=Nat.le_trans HB.size ((hX 0 _ rfl).2.2.1 (by simp))
 have b3:BoxV Q4 w1 (gs1 1) (.agg #[.bool nv,.slice av vs.length cv,.bool ov,.slice bv vt.length dv]):=(hX 1 _ rfl).2.2.2
 have f3:=(hX 1 _ rfl).1
 have u3:w.heap.size≤gs1 1:=Nat.le_trans HB.size ((hX 1 _ rfl).2.2.1 (by simp))
 have b4:BoxV Q4 w1 (gs1 2) (.agg #[.bool false,.slice none 0 0,.bool false,.slice none 0 0]):=(hX 2 _ rfl).2.2.2
 have f4:=(hX 2 _ rfl).1
 have u4:w.heap.size≤gs1 2:=Nat.le_trans HB.size ((hX 2 _ rfl).2.2.1 (by simp))
 replace Gx:=Gx.rl hr
 replace Kx:=Kx.rl hr
 replace Gv:=Gv.rl hr
 replace Kv:=Kv.rl hr
 replace HB:=HB.trans (hBt.below HB.size (UpOld.all (bx:=[⟨Q4,some 0,0,2,.agg #[.bool nx,.slice ax xs.length cx,.bool ox,.slice bx xt.length dx],none,[]⟩,⟨Q4,some 1,0,3,.agg #[.bool nv,.slice av vs.length cv,.bool ov,.slice bv vt.length dv],none,[]⟩,⟨Q4,some 2,0,4,.agg #[.bool false,.slice none 0 0,.bool false,.slice none 0 0],none,[]⟩]) ⟨someNe,someNe,someNe,trivial⟩))
 clear hBt hr hR hP hX hU
 refine wp_seq ?_
 refine region4 [some 5,some 6,some 7,some 8,some 9,some 10,some 11,some 12,some 13,some 14,some 15,none] [Eqs (.pointer (some ⟨gs1 0,0,none⟩)),Eqs (.agg #[.bool nx,.slice ax xs.length cx]),Eqs (.pointer (some ⟨gs1 1,0,none⟩)),Eqs (.agg #[.bool nv,.slice av vs.length cv]),OutN ((px*pv)) ((Bx)+(Bv)+1),Eqs (.pointer (some ⟨gs1 0,2,none⟩)),Eqs (.agg #[.bool ox,.slice bx xt.length dx]),Eqs (.pointer (some ⟨gs1 1,2,none⟩)),Eqs (.agg #[.bool ov,.slice bv vt.length dv]),OutN ((qx*qv)) ((Bx)+(Bv)+1),OutQ ((nm (px*pv) (qx*qv))) ((dn (px*pv) (qx*qv))) (((Bx)+(Bv)+1)+((Bx)+(Bv)+1)),Tt] [⟨Q4,none,(gs1 2),4,.agg #[.bool false,.slice none 0 0,.bool false,.slice none 0 0],some (11,15,10),[]⟩] [] (by kernel_rfl) hn rfl (by kernel_rfl) (by kernel_rfl) (by kernel_rfl) (by kernel_rfl) (by kernel_rfl) (by kernel_rfl) ⟨Eqs.mono4 _,Eqs.mono4 _,Eqs.mono4 _,Eqs.mono4 _,OutN.mono4 _ _,Eqs.mono4 _,Eqs.mono4 _,Eqs.mono4 _,Eqs.mono4 _,OutN.mono4 _ _,OutQ.mono4 _ _ _,True.mono4,trivial⟩ (ok_cons Q4ok ok_nil) (IsOld.all (bx:=[⟨Q4,none,(gs1 2),4,.agg #[.bool false,.slice none 0 0,.bool false,.slice none 0 0],some (11,15,10),[]⟩]) ⟨fun _=>⟨f4,b4⟩,trivial⟩) (DisOld.all (bx:=[⟨Q4,none,(gs1 2),4,.agg #[.bool false,.slice none 0 0,.bool false,.slice none 0 0],some (11,15,10),[]⟩]) ⟨fun _=>trivial,trivial⟩) ?_ ?_
 ·exact ⟨.norm 5 rfl rfl rfl (fun a_ w_ _ t r R D _ _=>op_faQ fa_q0 ((R 2 rfl).trans f2)),.norm 6 rfl rfl rfl (fun a_ w_ _ t r R D _ _=>op_ldq0 (show a_.eval (.tmp 5)=.pointer (some ⟨gs1 0,0,none⟩) from D 0 rfl) (b2.keep t ⟨fun _=>ne2_4.symm,trivial⟩)),.norm 7 rfl rfl rfl (fun a_ w_ _ t r R D _ _=>op_faQ fa_q0 ((R 3 rfl).trans f3)),.norm 8 rfl rfl rfl (fun a_ w_ _ t r R D _ _=>op_ldq0 (show a_.eval (.tmp 7)=.pointer (some ⟨gs1 1,0,none⟩) from D 2 rfl) (b3.keep t ⟨fun _=>ne3_4.symm,trivial⟩)),.norm 9 rfl rfl rfl (fun a_ w_ _ t r R D _ _=>op_nmul (outn_eq (show a_.eval (.tmp 6)=.agg #[.bool nx,.slice ax xs.length cx] from D 1 rfl) (Gx.rl r) Lx) (outn_eq (show a_.eval (.tmp 8)=.agg #[.bool nv,.slice av vs.length cv] from D 3 rfl) (Gv.rl r) Lv) (by omega) (by omega)),.norm 10 rfl rfl rfl (fun a_ w_ _ t r R D _ _=>op_faQ fa_q1 ((R 2 rfl).trans f2)),.norm 11 rfl rfl rfl (fun a_ w_ _ t r R D _ _=>op_ldq1 (show a_.eval (.tmp 10)=.pointer (some ⟨gs1 0,2,none⟩) from D 5 rfl) (b2.keep t ⟨fun _=>ne2_4.symm,trivial⟩)),.norm 12 rfl rfl rfl (fun a_ w_ _ t r R D _ _=>op_faQ fa_q1 ((R 3 rfl).trans f3)),.norm 13 rfl rfl rfl (fun a_ w_ _ t r R D _ _=>op_ldq1 (show a_.eval (.tmp 12)=.pointer (some ⟨gs1 1,2,none⟩) from D 7 rfl) (b3.keep t ⟨fun _=>ne3_4.symm,trivial⟩)),.norm 14 rfl rfl rfl (fun a_ w_ _ t r R D _ _=>op_nmul (outn_eq (show a_.eval (.tmp 11)=.agg #[.bool ox,.slice bx xt.length dx] from D 6 rfl) (Kx.rl r) Mx) (outn_eq (show a_.eval (.tmp 13)=.agg #[.bool ov,.slice bv vt.length dv] from D 8 rfl) (Kv.rl r) Mv) (by omega) (by omega)),.norm 15 rfl rfl rfl (fun a_ w_ _ t r R D _ _=>op_qmake (Bx:=(Bx)+(Bv)+1) (By:=(Bx)+(Bv)+1) (show OutN ((px*pv)) ((Bx)+(Bv)+1) (a_.eval (.tmp 9)) w_ from D 4 rfl) (show OutN ((qx*qv)) ((Bx)+(Bv)+1) (a_.eval (.tmp 14)) w_ from D 9 rfl) (by omega) (Int.mul_ne_zero hx0 hv0)),.store 0 _ _ _ rfl rfl rfl rfl rfl rfl rfl (fun ia h=>by cases h) rfl rfl rfl OutQ.cs,trivial⟩
 intro a2 w2 gs2 hn2 hd2 hBt hr hR hP hX hU
 replace hn:=hn2;replace hd:=hd2.trans hd
 obtain ⟨n_3,a_3,c_3,r_3,o_3,b_3,d_3,s_3,e15,G3,K3,l3,k3⟩:OutQ ((nm (px*pv) (qx*qv))) ((dn (px*pv) (qx*qv))) (((Bx)+(Bv)+1)+((Bx)+(Bv)+1)) (a2.eval (.tmp 15)) w2:=hP 10 (by decide)
 have b4:BoxV Q4 w2 ((gs1 2)) (.agg #[.bool n_3,.slice a_3 r_3.length c_3,.bool o_3,.slice b_3 s_3.length d_3]):=boxv_old ((hX 0 _ rfl).2.1 rfl) (hX 0 _ rfl).2.2.2 e15
 replace f4:a2.eval (.tmp 4) = _:=(hR 4 rfl).trans f4
 replace Gx:=Gx.rl hr
 replace Kx:=Kx.rl hr
 replace Gv:=Gv.rl hr
 replace Kv:=Kv.rl hr
 replace HB:=HB.trans (hBt.below HB.size (UpOld.all (bx:=[⟨Q4,none,(gs1 2),4,.agg #[.bool false,.slice none 0 0,.bool false,.slice none 0 0],some (11,15,10),[]⟩]) ⟨fun _=>u4,trivial⟩))
 clear hBt hr hR hP hX hU
 refine wp_ret ?_
 repeat (first | refine then_ret ?_ | refine scope_ret ?_ | refine block_ret ?_)
 exact bodyPost_ret (v:=.agg #[.bool n_3,.slice a_3 r_3.length c_3,.bool o_3,.slice b_3 s_3.length d_3]) (res_c rfl f4 (lv_Q4 b4)) hd ⟨_,rfl,OutQ.to (outq_eq rfl G3 K3 l3 k3) rfl rfl (by omega),HB⟩
theorem has_qtimes:Has Tryz.prog 44:=by unfold Has;kernel_rfl
theorem op_qtimes {dst:Option Tmp} {ty:TypeId} {pos:String} {after:Array Edge} {guard:Option (Nat × Bool)} {a:Act} {w:World} {ats:Array TypeId} {i j:Nat} {Bx:Nat} {px qx:Int} (Hx:OutQ px qx Bx (a.eval (.tmp i)) w) {Bv:Nat} {pv qv:Int} (Hv:OutQ pv qv Bv (a.eval (.tmp j)) w) (hL:Bx+Bv≤50000) (hx0:qx≠0) (hv0:qv≠0) :
  Does Tryz.prog { dst,op:=.call { callee:=.value (.func 44),args:=#[.tmp i,.tmp j],argTypes:=ats },type:=ty,pos,after,guard } a.eval w fun v w'=>Below w.heap.size w w'∧(OutQ (nm (px*pv) (qx*qv)) (dn (px*pv) (qx*qv)) (2*(Bx+Bv)+2)) v w' := by
 obtain ⟨nx,ax,cx,xs,ox,bx,dx,xt,ex,Gx,Kx,Lx,Mx⟩:=Hx
 obtain ⟨nv,av,cv,vs,ov,bv,dv,vt,ev,Gv,Kv,Lv,Mv⟩:=Hv
 refine does_call has_qtimes _ (by simp only [List.map_toArray,List.map_cons,List.map_nil,ex,ev]) ((qtimes_z w Bx _ _ _ _ _ Gx Lx _ _ _ _ _ Kx Mx Bv _ _ _ _ _ Gv Lv _ _ _ _ _ Kv Mv hL hx0 hv0).mono ?_)
 rintro e w' ⟨v,rfl,h1,hb⟩
 exact ⟨_,rfl,hb,h1⟩
set_option maxRecDepth 20000 in
set_option maxHeartbeats 2000000 in
theorem qorder_z (w:World) (Bx:Nat) (nx:Bool) (ax:Option Addr) (cx:Nat) (xs:List Int) (px:Int) (Gx:Dm.Wh w nx ax cx xs px) (Lx:xs.length≤Bx) (ox:Bool) (bx:Option Addr) (dx:Nat) (xt:List Int) (qx:Int) (Kx:Dm.Wh w ox bx dx xt qx) (Mx:xt.length≤Bx) (Bv:Nat) (nv:Bool) (av:Option Addr) (cv:Nat) (vs:List Int) (pv:Int) (Gv:Dm.Wh w nv av cv vs pv) (Lv:vs.length≤Bv) (ov:Bool) (bv:Option Addr) (dv:Nat) (vt:List Int) (qv:Int) (Kv:Dm.Wh w ov bv dv vt qv) (Mv:vt.length≤Bv) (hL:Bx+Bv≤50000) :
  Calls Tryz.prog 39 #[.agg #[.bool nx,.slice ax xs.length cx,.bool ox,.slice bx xt.length dx],.agg #[.bool nv,.slice av vs.length cv,.bool ov,.slice bv vt.length dv]] w fun e w'=>∃ v,e=.returned v∧(Eqs (.int .i64 (cmpI (px*qv) (pv*qx)))) v w'∧Below w.heap.size w w' := by
 go_enter Tryz.func39,Tryz.ntmps39
 generalize hA:(Act.mk _ _)=aa
 have hn:aa.tmps.size=16:=by rw [←hA];rfl
 have hd:aa.defers = []:=by rw [←hA]
 have f0:aa.eval (.tmp 0)=.agg #[.bool nx,.slice ax xs.length cx,.bool ox,.slice bx xt.length dx]:=by rw [←hA];rfl
 have f1:aa.eval (.tmp 1)=.agg #[.bool nv,.slice av vs.length cv,.bool ov,.slice bv vt.length dv]:=by rw [←hA];rfl
 clear hA
 have HB:Below w.heap.size w w:=Below.refl _ _
 refine wp_seq ?_
 refine region4 [some 2,some 3,some 4] [Tt,Tt,Eqs ((.int .i64 0))] [⟨Q4,some 0,0,2,.agg #[.bool nx,.slice ax xs.length cx,.bool ox,.slice bx xt.length dx],none,[]⟩,⟨Q4,some 1,0,3,.agg #[.bool nv,.slice av vs.length cv,.bool ov,.slice bv vt.length dv],none,[]⟩] [] (by kernel_rfl) hn rfl (by kernel_rfl) (by kernel_rfl) (by kernel_rfl) (by kernel_rfl) (by kernel_rfl) (by kernel_rfl) ⟨True.mono4,True.mono4,Eqs.mono4 _,trivial⟩ (ok_cons Q4ok (ok_cons Q4ok ok_nil)) (IsOld.all (bx:=[⟨Q4,some 0,0,2,.agg #[.bool nx,.slice ax xs.length cx,.bool ox,.slice bx xt.length dx],none,[]⟩,⟨Q4,some 1,0,3,.agg #[.bool nv,.slice av vs.length cv,.bool ov,.slice bv vt.length dv],none,[]⟩]) ⟨someNe,someNe,trivial⟩) (DisOld.all (bx:=[⟨Q4,some 0,0,2,.agg #[.bool nx,.slice ax xs.length cx,.bool ox,.slice bx xt.length dx],none,[]⟩,⟨Q4,some 1,0,3,.agg #[.bool nv,.slice av vs.length cv,.bool ov,.slice bv vt.length dv],none,[]⟩]) ⟨someNe,someNe,trivial⟩) ?_ ?_
 ·exact ⟨.alloc 0 _ rfl rfl (.inr ⟨_,rfl,q4_cs,fun a_ hR=>(hR 0 rfl).trans f0⟩) rfl rfl rfl rfl rfl,.alloc 1 _ rfl rfl (.inr ⟨_,rfl,q4_cs,fun a_ hR=>(hR 1 rfl).trans f1⟩) rfl rfl rfl rfl rfl,.norm 4 rfl rfl rfl (fun a_ w_ _ t r R D _ _=>op_assign rfl),trivial⟩
 intro a1 w1 gs1 hn1 hd1 hBt hr hR hP hX hU
 replace hn:=hn1;replace hd:=hd1.trans hd
 have b2:BoxV Q4 w1 (gs1 0) (.agg #[.bool nx,.slice ax xs.length cx,.bool ox,.slice bx xt.length dx]):=(hX 0 _ rfl).2.2.2
 have f2:=(hX 0 _ rfl).1
 have u2:w.heap.size≤gs1 0:=Nat.le_trans HB.size ((hX 0 _ rfl).2.2.1 (by simp))
 have b3:BoxV Q4 w1 (gs1 1) (.agg #[.bool nv,.slice av vs.length cv,.bool ov,.slice bv vt.length dv]):=(hX 1 _ rfl).2.2.2
 have f3:=(hX 1 _ rfl).1
 have u3:w.heap.size≤gs1 1:=Nat.le_trans HB.size ((hX 1 _ rfl).2.2.1 (by simp))
 have e4:a1.eval (.tmp 4)=(.int .i64 0):=hP 2 (by decide)
 have f4:=e4
 replace Gx:=Gx.rl hr
 replace Kx:=Kx.rl hr
 replace Gv:=Gv.rl hr
 replace Kv:=Kv.rl hr
 replace HB:=HB.trans (hBt.below HB.size (UpOld.all (bx:=[⟨Q4,some 0,0,2,.agg #[.bool nx,.slice ax xs.length cx,.bool ox,.slice bx xt.length dx],none,[]⟩,⟨Q4,some 1,0,3,.agg #[.bool nv,.slice av vs.length cv,.bool ov,.slice bv vt.length dv],none,[]⟩]) ⟨someNe,someNe,trivial⟩))
 clear hBt hr hR hP hX hU
 refine wp_seq ?_
 refine region4 [some 5,some 6,some 7,some 8,some 9,some 10,some 11,some 12,some 13,some 14,some 15,some 4] [Eqs (.pointer (some ⟨gs1 0,0,none⟩)),Eqs (.agg #[.bool nx,.slice ax xs.length cx]),Eqs (.pointer (some ⟨gs1 1,2,none⟩)),Eqs (.agg #[.bool ov,.slice bv vt.length dv]),OutN ((px*qv)) ((Bx)+(Bv)+1),Eqs (.pointer (some ⟨gs1 1,0,none⟩)),Eqs (.agg #[.bool nv,.slice av vs.length cv]),Eqs (.pointer (some ⟨gs1 0,2,none⟩)),Eqs (.agg #[.bool ox,.slice bx xt.length dx]),OutN ((pv*qx)) ((Bv)+(Bx)+1),Eqs (.int .i64 (cmpI (px*qv) (pv*qx))),Eqs (.int .i64 (cmpI (px*qv) (pv*qx)))] [] [] (by kernel_rfl) hn rfl (by kernel_rfl) (by kernel_rfl) (by kernel_rfl) (by kernel_rfl) (by kernel_rfl) (by kernel_rfl) ⟨Eqs.mono4 _,Eqs.mono4 _,Eqs.mono4 _,Eqs.mono4 _,OutN.mono4 _ _,Eqs.mono4 _,Eqs.mono4 _,Eqs.mono4 _,Eqs.mono4 _,OutN.mono4 _ _,Eqs.mono4 _,Eqs.mono4 _,trivial⟩ ok_nil (IsOld.all (bx:=[]) trivial) (DisOld.all (bx:=[]) trivial) ?_ ?_
 ·exact ⟨.norm 5 rfl rfl rfl (fun a_ w_ _ t r R D _ _=>op_faQ fa_q0 ((R 2 rfl).trans f2)),.norm 6 rfl rfl rfl (fun a_ w_ _ t r R D _ _=>op_ldq0 (show a_.eval (.tmp 5)=.pointer (some ⟨gs1 0,0,none⟩) from D 0 rfl) (b2.keep t trivial)),.norm 7 rfl rfl rfl (fun a_ w_ _ t r R D _ _=>op_faQ fa_q1 ((R 3 rfl).trans f3)),.norm 8 rfl rfl rfl (fun a_ w_ _ t r R D _ _=>op_ldq1 (show a_.eval (.tmp 7)=.pointer (some ⟨gs1 1,2,none⟩) from D 2 rfl) (b3.keep t trivial)),.norm 9 rfl rfl rfl (fun a_ w_ _ t r R D _ _=>op_nmul (outn_eq (show a_.eval (.tmp 6)=.agg #[.bool nx,.slice ax xs.length cx] from D 1 rfl) (Gx.rl r) Lx) (outn_eq (show a_.eval (.tmp 8)=.agg #[.bool ov,.slice bv vt.length dv] from D 3 rfl) (Kv.rl r) Mv) (by omega) (by omega)),.norm 10 rfl rfl rfl (fun a_ w_ _ t r R D _ _=>op_faQ fa_q0 ((R 3 rfl).trans f3)),.norm 11 rfl rfl rfl (fun a_ w_ _ t r R D _ _=>op_ldq0 (show a_.eval (.tmp 10)=.pointer (some ⟨gs1 1,0,none⟩) from D 5 rfl) (b3.keep t trivial)),.norm 12 rfl rfl rfl (fun a_ w_ _ t r R D _ _=>op_faQ fa_q1 ((R 2 rfl).trans f2)),.norm 13 rfl rfl rfl (fun a_ w_ _ t r R D _ _=>op_ldq1 (show a_.eval (.tmp 12)=.pointer (some ⟨gs1 0,2,none⟩) from D 7 rfl) (b2.keep t trivial)),.norm 14 rfl rfl rfl (fun a_ w_ _ t r R D _ _=>op_nmul (outn_eq (show a_.eval (.tmp 11)=.agg #[.bool nv,.slice av vs.length cv] from D 6 rfl) (Gv.rl r) Lv) (outn_eq (show a_.eval (.tmp 13)=.agg #[.bool ox,.slice bx xt.length dx] from D 8 rfl) (Kx.rl r) Mx) (by omega) (by omega)),.norm 15 rfl rfl rfl (fun a_ w_ _ t r R D _ _=>op_ncmp (show OutN ((px*qv)) ((Bx)+(Bv)+1) (a_.eval (.tmp 9)) w_ from D 4 rfl) (show OutN ((pv*qx)) ((Bv)+(Bx)+1) (a_.eval (.tmp 14)) w_ from D 9 rfl)),.norm 4 rfl rfl rfl (fun a_ w_ _ t r R D _ _=>op_assign (show a_.eval (.tmp 15)=.int .i64 (cmpI (px*qv) (pv*qx)) from D 10 rfl)),trivial⟩
 intro a2 w2 gs2 hn2 hd2 hBt hr hR hP hX hU
 replace hn:=hn2;replace hd:=hd2.trans hd
 have e4:a2.eval (.tmp 4)=.int .i64 (cmpI (px*qv) (pv*qx)):=hP 11 (by decide)
 have f4:=e4
 replace Gx:=Gx.rl hr
 replace Kx:=Kx.rl hr
 replace Gv:=Gv.rl hr
 replace Kv:=Kv.rl hr
 replace HB:=HB.trans (hBt.below HB.size (UpOld.all (bx:=[]) trivial))
 clear hBt hr hR hP hX hU
 refine wp_ret ?_
 repeat (first | refine then_ret ?_ | refine scope_ret ?_ | refine block_ret ?_)
 exact bodyPost_ret (v:=.int .i64 (cmpI (px*qv) (pv*qx))) (res_t rfl f4) hd ⟨_,rfl,rfl,HB⟩
theorem has_qorder:Has Tryz.prog 39:=by unfold Has;kernel_rfl
theorem op_qorder {dst:Option Tmp} {ty:TypeId} {pos:String} {after:Array Edge} {guard:Option (Nat × Bool)} {a:Act} {w:World} {ats:Array TypeId} {i j:Nat} {Bx:Nat} {px qx:Int} (Hx:OutQ px qx Bx (a.eval (.tmp i)) w) {Bv:Nat} {pv qv:Int} (Hv:OutQ pv qv Bv (a.eval (.tmp j)) w) (hL:Bx+Bv≤50000) :
  Does Tryz.prog { dst,op:=.call { callee:=.value (.func 39),args:=#[.tmp i,.tmp j],argTypes:=ats },type:=ty,pos,after,guard } a.eval w fun v w'=>Below w.heap.size w w'∧(Eqs (.int .i64 (cmpI (px*qv) (pv*qx)))) v w' := by
 obtain ⟨nx,ax,cx,xs,ox,bx,dx,xt,ex,Gx,Kx,Lx,Mx⟩:=Hx
 obtain ⟨nv,av,cv,vs,ov,bv,dv,vt,ev,Gv,Kv,Lv,Mv⟩:=Hv
 refine does_call has_qorder _ (by simp only [List.map_toArray,List.map_cons,List.map_nil,ex,ev]) ((qorder_z w Bx _ _ _ _ _ Gx Lx _ _ _ _ _ Kx Mx Bv _ _ _ _ _ Gv Lv _ _ _ _ _ Kv Mv hL).mono ?_)
 rintro e w' ⟨v,rfl,h1,hb⟩
 exact ⟨_,rfl,hb,h1⟩
set_option maxRecDepth 20000 in
set_option maxHeartbeats 2000000 in
theorem q3cmp_z (w:World) (Br:Nat) (nr:Bool) (ar:Option Addr) (mr cr:Nat) (rs:List Int) (pr:Int) (Ar:Ag w nr ar mr cr rs pr) (Lr:rs.length≤Br) (br:Option Addr) (kr dr:Nat) (rt:List Int) (qr:Int) (Sr:Sl w (.slice br kr dr) rt) (Vr:val rt=qr) (Mr:rt.length≤Br) (Bu:Nat) (nu:Bool) (au:Option Addr) (mu cu:Nat) (us:List Int) (pu:Int) (Au:Ag w nu au mu cu us pu) (Lu:us.length≤Bu) (bu:Option Addr) (ku du:Nat) (ut:List Int) (qu:Int) (Su:Sl w (.slice bu ku du) ut) (Vu:val ut=qu) (Mu:ut.length≤Bu) (hL:Br+Bu≤3000) :
  Calls Tryz.prog 14 #[.agg #[.bool nr,.slice ar mr cr,.slice br kr dr],.agg #[.bool nu,.slice au mu cu,.slice bu ku du]] w fun e w'=>∃ v,e=.returned v∧(Eqs (.int .i64 (cmpI ((nm (tp pr qr) (tq qr))*(dn (tp pu qu) (tq qu))) ((nm (tp pu qu) (tq qu))*(dn (tp pr qr) (tq qr)))))) v w'∧Below w.heap.size w w' := by
 go_enter Tryz.func14,Tryz.ntmps14
 generalize hA:(Act.mk _ _)=aa
 have hn:aa.tmps.size=10:=by rw [←hA];rfl
 have hd:aa.defers = []:=by rw [←hA]
 have f0:aa.eval (.tmp 0)=.agg #[.bool nr,.slice ar mr cr,.slice br kr dr]:=by rw [←hA];rfl
 have f1:aa.eval (.tmp 1)=.agg #[.bool nu,.slice au mu cu,.slice bu ku du]:=by rw [←hA];rfl
 clear hA
 have HB:Below w.heap.size w w:=Below.refl _ _
 have Dr:Ag w false br kr dr rt qr:=⟨Sr,Vr⟩
 have Du:Ag w false bu ku du ut qu:=⟨Su,Vu⟩
 refine wp_seq ?_
 refine region4 [some 2,some 3,some 4] [Tt,Tt,Eqs ((.int .i64 0))] [⟨R3,some 0,0,2,.agg #[.bool nr,.slice ar mr cr,.slice br kr dr],none,[]⟩,⟨R3,some 1,0,3,.agg #[.bool nu,.slice au mu cu,.slice bu ku du],none,[]⟩] [] (by kernel_rfl) hn rfl (by kernel_rfl) (by kernel_rfl) (by kernel_rfl) (by kernel_rfl) (by kernel_rfl) (by kernel_rfl) ⟨True.mono4,True.mono4,Eqs.mono4 _,trivial⟩ (ok_cons R3ok (ok_cons R3ok ok_nil)) (IsOld.all (bx:=[⟨R3,some 0,0,2,.agg #[.bool nr,.slice ar mr cr,.slice br kr dr],none,[]⟩,⟨R3,some 1,0,3,.agg #[.bool nu,.slice au mu cu,.slice bu ku du],none,[]⟩]) ⟨someNe,someNe,trivial⟩) (DisOld.all (bx:=[⟨R3,some 0,0,2,.agg #[.bool nr,.slice ar mr cr,.slice br kr dr],none,[]⟩,⟨R3,some 1,0,3,.agg #[.bool nu,.slice au mu cu,.slice bu ku du],none,[]⟩]) ⟨someNe,someNe,trivial⟩) ?_ ?_
 ·exact ⟨.alloc 0 _ rfl rfl (.inr ⟨_,rfl,r3_cs,fun a_ hR=>(hR 0 rfl).trans f0⟩) rfl rfl rfl rfl rfl,.alloc 1 _ rfl rfl (.inr ⟨_,rfl,r3_cs,fun a_ hR=>(hR 1 rfl).trans f1⟩) rfl rfl rfl rfl rfl,.norm 4 rfl rfl rfl (fun a_ w_ _ t r R D _ _=>op_assign rfl),trivial⟩
 intro a1 w1 gs1 hn1 hd1 hBt hr hR hP hX hU
 replace hn:=hn1;replace hd:=hd1.trans hd
 have b2:BoxV R3 w1 (gs1 0) (.agg #[.bool nr,.slice ar mr cr,.slice br kr dr]):=(hX 0 _ rfl).2.2.2
 have f2:=(hX 0 _ rfl).1
 have u2:w.heap.size≤gs1 0:=Nat.le_trans HB.size ((hX 0 _ rfl).2.2.1 (by simp))
 have b3:BoxV R3 w1 (gs1 1) (.agg #[.bool nu,.slice au mu cu,.slice bu ku du]):=(hX 1 _ rfl).2.2.2
 have f3:=(hX 1 _ rfl).1
 have u3:w.heap.size≤gs1 1:=Nat.le_trans HB.size ((hX 1 _ rfl).2.2.1 (by simp))
 have e4:a1.eval (.tmp 4)=(.int .i64 0):=hP 2 (by decide)
 have f4:=e4
 replace Ar:=Ar.rl hr
 replace Sr:=Sr.rl hr
 replace Dr:=Dr.rl hr
 replace Au:=Au.rl hr
 replace Su:=Su.rl hr
 replace Du:=Du.rl hr
 replace HB:=HB.trans (hBt.below HB.size (UpOld.all (bx:=[⟨R3,some 0,0,2,.agg #[.bool nr,.slice ar mr cr,.slice br kr dr],none,[]⟩,⟨R3,some 1,0,3,.agg #[.bool nu,.slice au mu cu,.slice bu ku du],none,[]⟩]) ⟨someNe,someNe,trivial⟩))
 clear hBt hr hR hP hX hU
 refine wp_seq ?_
 refine region4 [some 5,some 6,some 7,some 8,some 9,some 4] [Eqs (.agg #[.bool nr,.slice ar mr cr,.slice br kr dr]),OutQ ((nm (tp pr qr) (tq qr))) ((dn (tp pr qr) (tq qr))) (6*(Br)+10),Eqs (.agg #[.bool nu,.slice au mu cu,.slice bu ku du]),OutQ ((nm (tp pu qu) (tq qu))) ((dn (tp pu qu) (tq qu))) (6*(Bu)+10),Eqs (.int .i64 (cmpI ((nm (tp pr qr) (tq qr))*(dn (tp pu qu) (tq qu))) ((nm (tp pu qu) (tq qu))*(dn (tp pr qr) (tq qr))))),Eqs (.int .i64 (cmpI ((nm (tp pr qr) (tq qr))*(dn (tp pu qu) (tq qu))) ((nm (tp pu qu) (tq qu))*(dn (tp pr qr) (tq qr)))))] [] [] (by kernel_rfl) hn rfl (by kernel_rfl) (by kernel_rfl) (by kernel_rfl) (by kernel_rfl) (by kernel_rfl) (by kernel_rfl) ⟨Eqs.mono4 _,OutQ.mono4 _ _ _,Eqs.mono4 _,OutQ.mono4 _ _ _,Eqs.mono4 _,Eqs.mono4 _,trivial⟩ ok_nil (IsOld.all (bx:=[]) trivial) (DisOld.all (bx:=[]) trivial) ?_ ?_
 ·exact ⟨.norm 5 rfl rfl rfl (fun a_ w_ _ t r R D _ _=>op_loadv R3ok ((R 2 rfl).trans f2) (b2.keep t trivial)),.norm 6 rfl rfl rfl (fun a_ w_ _ t r R D _ _=>op_qread (Br:=Br) (isr_eq (show a_.eval (.tmp 5)=.agg #[.bool nr,.slice ar mr cr,.slice br kr dr] from D 0 rfl) (Ar.rl r) (Sr.rl r) Vr Lr Mr) (by omega)),.norm 7 rfl rfl rfl (fun a_ w_ _ t r R D _ _=>op_loadv R3ok ((R 3 rfl).trans f3) (b3.keep t trivial)),.norm 8 rfl rfl rfl (fun a_ w_ _ t r R D _ _=>op_qread (Br:=Bu) (isr_eq (show a_.eval (.tmp 7)=.agg #[.bool nu,.slice au mu cu,.slice bu ku du] from D 2 rfl) (Au.rl r) (Su.rl r) Vu Lu Mu) (by omega)),.norm 9 rfl rfl rfl (fun a_ w_ _ t r R D _ _=>op_qorder (Bx:=6*(Br)+10) (Bv:=6*(Bu)+10) (show OutQ ((nm (tp pr qr) (tq qr))) ((dn (tp pr qr) (tq qr))) (6*(Br)+10) (a_.eval (.tmp 6)) w_ from D 1 rfl) (show OutQ ((nm (tp pu qu) (tq qu))) ((dn (tp pu qu) (tq qu))) (6*(Bu)+10) (a_.eval (.tmp 8)) w_ from D 3 rfl) (by omega)),.norm 4 rfl rfl rfl (fun a_ w_ _ t r R D _ _=>op_assign (show a_.eval (.tmp 9)=.int .i64 (cmpI ((nm (tp pr qr) (tq qr))*(dn (tp pu qu) (tq qu))) ((nm (tp pu qu) (tq qu))*(dn (tp pr qr) (tq qr)))) from D 4 rfl)),trivial⟩
 intro a2 w2 gs2 hn2 hd2 hBt hr hR hP hX hU
 replace hn:=hn2;replace hd:=hd2.trans hd
 have e4:a2.eval (.tmp 4)=.int .i64 (cmpI ((nm (tp pr qr) (tq qr))*(dn (tp pu qu) (tq qu))) ((nm (tp pu qu) (tq qu))*(dn (tp pr qr) (tq qr)))):=hP 5 (by decide)
 have f4:=e4
 replace Ar:=Ar.rl hr
 replace Sr:=Sr.rl hr
 replace Dr:=Dr.rl hr
 replace Au:=Au.rl hr
 replace Su:=Su.rl hr
 replace Du:=Du.rl hr
 replace HB:=HB.trans (hBt.below HB.size (UpOld.all (bx:=[]) trivial))
 clear hBt hr hR hP hX hU
 refine wp_ret ?_
 repeat (first | refine then_ret ?_ | refine scope_ret ?_ | refine block_ret ?_)
 exact bodyPost_ret (v:=.int .i64 (cmpI ((nm (tp pr qr) (tq qr))*(dn (tp pu qu) (tq qu))) ((nm (tp pu qu) (tq qu))*(dn (tp pr qr) (tq qr))))) (res_t rfl f4) hd ⟨_,rfl,rfl,HB⟩
theorem has_q3cmp:Has Tryz.prog 14:=by unfold Has;kernel_rfl
theorem op_q3cmp {dst:Option Tmp} {ty:TypeId} {pos:String} {after:Array Edge} {guard:Option (Nat × Bool)} {a:Act} {w:World} {ats:Array TypeId} {i j:Nat} {Br:Nat} {pr qr:Int} (Hr:IsR pr qr Br (a.eval (.tmp i)) w) {Bu:Nat} {pu qu:Int} (Hu:IsR pu qu Bu (a.eval (.tmp j)) w) (hL:Br+Bu≤3000) :
  Does Tryz.prog { dst,op:=.call { callee:=.value (.func 14),args:=#[.tmp i,.tmp j],argTypes:=ats },type:=ty,pos,after,guard } a.eval w fun v w'=>Below w.heap.size w w'∧(Eqs (.int .i64 (cmpI ((nm (tp pr qr) (tq qr))*(dn (tp pu qu) (tq qu))) ((nm (tp pu qu) (tq qu))*(dn (tp pr qr) (tq qr)))))) v w' := by
 obtain ⟨nr,ar,mr,cr,rs,br,kr,dr,rt,er,Ar,Sr,Vr,Lr,Mr⟩:=Hr
 obtain ⟨nu,au,mu,cu,us,bu,ku,du,ut,eu,Au,Su,Vu,Lu,Mu⟩:=Hu
 refine does_call has_q3cmp _ (by simp only [List.map_toArray,List.map_cons,List.map_nil,er,eu]) ((q3cmp_z w Br _ _ _ _ _ _ Ar Lr _ _ _ _ _ Sr Vr Mr Bu _ _ _ _ _ _ Au Lu _ _ _ _ _ Su Vu Mu hL).mono ?_)
 rintro e w' ⟨v,rfl,h1,hb⟩
 exact ⟨_,rfl,hb,h1⟩
set_option maxRecDepth 20000 in
set_option maxHeartbeats 2000000 in
theorem q3add_z (w:World) (Br:Nat) (nr:Bool) (ar:Option Addr) (mr cr:Nat) (rs:List Int) (pr:Int) (Ar:Ag w nr ar mr cr rs pr) (Lr:rs.length≤Br) (br:Option Addr) (kr dr:Nat) (rt:List Int) (qr:Int) (Sr:Sl w (.slice br kr dr) rt) (Vr:val rt=qr) (Mr:rt.length≤Br) (Bu:Nat) (nu:Bool) (au:Option Addr) (mu cu:Nat) (us:List Int) (pu:Int) (Au:Ag w nu au mu cu us pu) (Lu:us.length≤Bu) (bu:Option Addr) (ku du:Nat) (ut:List Int) (qu:Int) (Su:Sl w (.slice bu ku du) ut) (Vu:val ut=qu) (Mu:ut.length≤Bu) (hL:Br+Bu≤3000) :
  Calls Tryz.prog 17 #[.agg #[.bool nr,.slice ar mr cr,.slice br kr dr],.agg #[.bool nu,.slice au mu cu,.slice bu ku du]] w fun e w'=>∃ v,e=.returned v∧(OutR (nm ((nm (tp pr qr) (tq qr))*(dn (tp pu qu) (tq qu))+(nm (tp pu qu) (tq qu))*(dn (tp pr qr) (tq qr))) ((dn (tp pr qr) (tq qr))*(dn (tp pu qu) (tq qu)))) (dn ((nm (tp pr qr) (tq qr))*(dn (tp pu qu) (tq qu))+(nm (tp pu qu) (tq qu))*(dn (tp pr qr) (tq qr))) ((dn (tp pr qr) (tq qr))*(dn (tp pu qu) (tq qu)))) (36*(Br+Bu)+130)) v w'∧Below w.heap.size w w' := by
 go_enter Tryz.func17,Tryz.ntmps17
 generalize hA:(Act.mk _ _)=aa
 have hn:aa.tmps.size=11:=by rw [←hA];rfl
 have hd:aa.defers = []:=by rw [←hA]
 have f0:aa.eval (.tmp 0)=.agg #[.bool nr,.slice ar mr cr,.slice br kr dr]:=by rw [←hA];rfl
 have f1:aa.eval (.tmp 1)=.agg #[.bool nu,.slice au mu cu,.slice bu ku du]:=by rw [←hA];rfl
 clear hA
 have HB:Below w.heap.size w w:=Below.refl _ _
 have Dr:Ag w false br kr dr rt qr:=⟨Sr,Vr⟩
 have Du:Ag w false bu ku du ut qu:=⟨Su,Vu⟩
 refine wp_seq ?_
 refine region4 [some 2,some 3,some 4] [Tt,Tt,Tt] [⟨R3,some 0,0,2,.agg #[.bool nr,.slice ar mr cr,.slice br kr dr],none,[]⟩,⟨R3,some 1,0,3,.agg #[.bool nu,.slice au mu cu,.slice bu ku du],none,[]⟩,⟨R3,some 2,0,4,.agg #[.bool false,.slice none 0 0,.slice none 0 0],none,[]⟩] [] (by kernel_rfl) hn rfl (by kernel_rfl) (by kernel_rfl) (by kernel_rfl) (by kernel_rfl) (by kernel_rfl) (by kernel_rfl) ⟨True.mono4,True.mono4,True.mono4,trivial⟩ (ok_cons R3ok (ok_cons R3ok (ok_cons R3ok ok_nil))) (IsOld.all (bx:=[⟨R3,some 0,0,2,.agg #[.bool nr,.slice ar mr cr,.slice br kr dr],none,[]⟩,⟨R3,some 1,0,3,.agg #[.bool nu,.slice au mu cu,.slice bu ku du],none,[]⟩,⟨R3,some 2,0,4,.agg #[.bool false,.slice none 0 0,.slice none 0 0],none,[]⟩]) ⟨someNe,someNe,someNe,trivial⟩) (DisOld.all (bx:=[⟨R3,some 0,0,2,.agg #[.bool nr,.slice ar mr cr,.slice br kr dr],none,[]⟩,⟨R3,some 1,0,3,.agg #[.bool nu,.slice au mu cu,.slice bu ku du],none,[]⟩,⟨R3,some 2,0,4,.agg #[.bool false,.slice none 0 0,.slice none 0 0],none,[]⟩]) ⟨someNe,someNe,someNe,trivial⟩) ?_ ?_
 ·exact ⟨.alloc 0 _ rfl rfl (.inr ⟨_,rfl,r3_cs,fun a_ hR=>(hR 0 rfl).trans f0⟩) rfl rfl rfl rfl rfl,.alloc 1 _ rfl rfl (.inr ⟨_,rfl,r3_cs,fun a_ hR=>(hR 1 rfl).trans f1⟩) rfl rfl rfl rfl rfl,.alloc 2 _ rfl rfl (.inl ⟨rfl,rfl⟩) rfl rfl rfl rfl rfl,trivial⟩
 intro a1 w1 gs1 hn1 hd1 hBt hr hR hP hX hU
 replace hn:=hn1;replace hd:=hd1.trans hd
 have ne2_4:gs1 0≠gs1 2:=hU 0 2 (by simp) (by simp) (by decide)
 have ne3_4:gs1 1≠gs1 2:=hU 1 2 (by simp) (by simp) (by decide)
 have b2:BoxV R3 w1 (gs1 0) (.agg #[.bool nr,.slice ar mr cr,.slice br kr dr]):=(hX 0 _ rfl).2.2.2
 have f2:=(hX 0 _ rfl).1
 have u2:w.heap.size≤gs1 0:=Nat.le_trans HB.size ((hX 0 _ rfl).2.2.1 (by simp))
 have b3:BoxV R3 w1 (gs1 1) (.agg #[.bool nu,.slice au mu cu,.slice bu ku du]):=(hX 1 _ rfl).2.2.2
 have f3:=(hX 1 _ rfl).1
 have u3:w.heap.size≤gs1 1:=Nat.le_trans HB.size ((hX 1 _ rfl).2.2.1 (by simp))
 have b4:BoxV R3 w1 (gs1 2) (.agg #[.bool false,.slice none 0 0,.slice none 0 0]):=(hX 2 _ rfl).2.2.2
 have f4:=(hX 2 _ rfl).1
 have u4:w.heap.size≤gs1 2:=Nat.le_trans HB.size ((hX 2 _ rfl).2.2.1 (by simp))
 replace Ar:=Ar.rl hr
 replace Sr:=Sr.rl hr
 replace Dr:=Dr.rl hr
 replace Au:=Au.rl hr
 replace Su:=Su.rl hr
 replace Du:=Du.rl hr
 replace HB:=HB.trans (hBt.below HB.size (UpOld.all (bx:=[⟨R3,some 0,0,2,.agg #[.bool nr,.slice ar mr cr,.slice br kr dr],none,[]⟩,⟨R3,some 1,0,3,.agg #[.bool nu,.slice au mu cu,.slice bu ku du],none,[]⟩,⟨R3,some 2,0,4,.agg #[.bool false,.slice none 0 0,.slice none 0 0],none,[]⟩]) ⟨someNe,someNe,someNe,trivial⟩))
 clear hBt hr hR hP hX hU
 refine wp_seq ?_
 refine region4 [some 5,some 6,some 7,some 8,some 9,some 10,none] [Eqs (.agg #[.bool nr,.slice ar mr cr,.slice br kr dr]),OutQ ((nm (tp pr qr) (tq qr))) ((dn (tp pr qr) (tq qr))) (6*(Br)+10),Eqs (.agg #[.bool nu,.slice au mu cu,.slice bu ku du]),OutQ ((nm (tp pu qu) (tq qu))) ((dn (tp pu qu) (tq qu))) (6*(Bu)+10),OutQ ((nm ((nm (tp pr qr) (tq qr))*(dn (tp pu qu) (tq qu))+(nm (tp pu qu) (tq qu))*(dn (tp pr qr) (tq qr))) ((dn (tp pr qr) (tq qr))*(dn (tp pu qu) (tq qu))))) ((dn ((nm (tp pr qr) (tq qr))*(dn (tp pu qu) (tq qu))+(nm (tp pu qu) (tq qu))*(dn (tp pr qr) (tq qr))) ((dn (tp pr qr) (tq qr))*(dn (tp pu qu) (tq qu))))) (3*((6*(Br)+10)+(6*(Bu)+10))+4),OutR ((nm ((nm (tp pr qr) (tq qr))*(dn (tp pu qu) (tq qu))+(nm (tp pu qu) (tq qu))*(dn (tp pr qr) (tq qr))) ((dn (tp pr qr) (tq qr))*(dn (tp pu qu) (tq qu))))) ((dn ((nm (tp pr qr) (tq qr))*(dn (tp pu qu) (tq qu))+(nm (tp pu qu) (tq qu))*(dn (tp pr qr) (tq qr))) ((dn (tp pr qr) (tq qr))*(dn (tp pu qu) (tq qu))))) (2*(3*((6*(Br)+10)+(6*(Bu)+10))+4)),Tt] [⟨R3,none,(gs1 2),4,.agg #[.bool false,.slice none 0 0,.slice none 0 0],some (6,10,5),[]⟩] [] (by kernel_rfl) hn rfl (by kernel_rfl) (by kernel_rfl) (by kernel_rfl) (by kernel_rfl) (by kernel_rfl) (by kernel_rfl) ⟨Eqs.mono4 _,OutQ.mono4 _ _ _,Eqs.mono4 _,OutQ.mono4 _ _ _,OutQ.mono4 _ _ _,OutR.mono4 _ _ _,True.mono4,trivial⟩ (ok_cons R3ok ok_nil) (IsOld.all (bx:=[⟨R3,none,(gs1 2),4,.agg #[.bool false,.slice none 0 0,.slice none 0 0],some (6,10,5),[]⟩]) ⟨fun _=>⟨f4,b4⟩,trivial⟩) (DisOld.all (bx:=[⟨R3,none,(gs1 2),4,.agg #[.bool false,.slice none 0 0,.slice none 0 0],some (6,10,5),[]⟩]) ⟨fun _=>trivial,trivial⟩) ?_ ?_
 ·exact ⟨.norm 5 rfl rfl rfl (fun a_ w_ _ t r R D _ _=>op_loadv R3ok ((R 2 rfl).trans f2) (b2.keep t ⟨fun _=>ne2_4.symm,trivial⟩)),.norm 6 rfl rfl rfl (fun a_ w_ _ t r R D _ _=>op_qread (Br:=Br) (isr_eq (show a_.eval (.tmp 5)=.agg #[.bool nr,.slice ar mr cr,.slice br kr dr] from D 0 rfl) (Ar.rl r) (Sr.rl r) Vr Lr Mr) (by omega)),.norm 7 rfl rfl rfl (fun a_ w_ _ t r R D _ _=>op_loadv R3ok ((R 3 rfl).trans f3) (b3.keep t ⟨fun _=>ne3_4.symm,trivial⟩)),.norm 8 rfl rfl rfl (fun a_ w_ _ t r R D _ _=>op_qread (Br:=Bu) (isr_eq (show a_.eval (.tmp 7)=.agg #[.bool nu,.slice au mu cu,.slice bu ku du] from D 2 rfl) (Au.rl r) (Su.rl r) Vu Lu Mu) (by omega)),.norm 9 rfl rfl rfl (fun a_ w_ _ t r R D _ _=>op_qplus (Bx:=6*(Br)+10) (Bv:=6*(Bu)+10) (show OutQ ((nm (tp pr qr) (tq qr))) ((dn (tp pr qr) (tq qr))) (6*(Br)+10) (a_.eval (.tmp 6)) w_ from D 1 rfl) (show OutQ ((nm (tp pu qu) (tq qu))) ((dn (tp pu qu) (tq qu))) (6*(Bu)+10) (a_.eval (.tmp 8)) w_ from D 3 rfl) (by omega) (dn_ne _ (tq_ne _)) (dn_ne _ (tq_ne _))),.norm 10 rfl rfl rfl (fun a_ w_ _ t r R D _ _=>op_qtold (Bx:=3*((6*(Br)+10)+(6*(Bu)+10))+4) (show OutQ ((nm ((nm (tp pr qr) (tq qr))*(dn (tp pu qu) (tq qu))+(nm (tp pu qu) (tq qu))*(dn (tp pr qr) (tq qr))) ((dn (tp pr qr) (tq qr))*(dn (tp pu qu) (tq qu))))) ((dn ((nm (tp pr qr) (tq qr))*(dn (tp pu qu) (tq qu))+(nm (tp pu qu) (tq qu))*(dn (tp pr qr) (tq qr))) ((dn (tp pr qr) (tq qr))*(dn (tp pu qu) (tq qu))))) (3*((6*(Br)+10)+(6*(Bu)+10))+4) (a_.eval (.tmp 9)) w_ from D 4 rfl) (by omega) (dn_pos _ (Int.mul_ne_zero (dn_ne _ (tq_ne _)) (dn_ne _ (tq_ne _))))),.store 0 _ _ _ rfl rfl rfl rfl rfl rfl rfl (fun ia h=>by cases h) rfl rfl rfl OutR.cs,trivial⟩
 intro a2 w2 gs2 hn2 hd2 hBt hr hR hP hX hU
 replace hn:=hn2;replace hd:=hd2.trans hd
 obtain ⟨n_3,a_3,c_3,r_3,b_3,d_3,s_3,e10,G3,K3,l3,k3⟩:OutR ((nm ((nm (tp pr qr) (tq qr))*(dn (tp pu qu) (tq qu))+(nm (tp pu qu) (tq qu))*(dn (tp pr qr) (tq qr))) ((dn (tp pr qr) (tq qr))*(dn (tp pu qu) (tq qu))))) ((dn ((nm (tp pr qr) (tq qr))*(dn (tp pu qu) (tq qu))+(nm (tp pu qu) (tq qu))*(dn (tp pr qr) (tq qr))) ((dn (tp pr qr) (tq qr))*(dn (tp pu qu) (tq qu))))) (2*(3*((6*(Br)+10)+(6*(Bu)+10))+4)) (a2.eval (.tmp 10)) w2:=hP 5 (by decide)
 have A3:=G3.ag;have S3:=K3.sl;have V3:=K3.val
 have b4:BoxV R3 w2 ((gs1 2)) (.agg #[.bool n_3,.slice a_3 r_3.length c_3,.slice b_3 s_3.length d_3]):=boxv_old ((hX 0 _ rfl).2.1 rfl) (hX 0 _ rfl).2.2.2 e10
 replace f4:a2.eval (.tmp 4) = _:=(hR 4 rfl).trans f4
 replace Ar:=Ar.rl hr
 replace Sr:=Sr.rl hr
 replace Dr:=Dr.rl hr
 replace Au:=Au.rl hr
 replace Su:=Su.rl hr
 replace Du:=Du.rl hr
 replace HB:=HB.trans (hBt.below HB.size (UpOld.all (bx:=[⟨R3,none,(gs1 2),4,.agg #[.bool false,.slice none 0 0,.slice none 0 0],some (6,10,5),[]⟩]) ⟨fun _=>u4,trivial⟩))
 clear hBt hr hR hP hX hU
 refine wp_ret ?_
 repeat (first | refine then_ret ?_ | refine scope_ret ?_ | refine block_ret ?_)
 exact bodyPost_ret (v:=.agg #[.bool n_3,.slice a_3 r_3.length c_3,.slice b_3 s_3.length d_3]) (res_c rfl f4 (lv_R3 b4)) hd ⟨_,rfl,OutR.to (outr_eq rfl G3 K3 l3 k3) rfl rfl (by omega),HB⟩
theorem has_q3add:Has Tryz.prog 17:=by unfold Has;kernel_rfl
theorem op_q3add {dst:Option Tmp} {ty:TypeId} {pos:String} {after:Array Edge} {guard:Option (Nat × Bool)} {a:Act} {w:World} {ats:Array TypeId} {i j:Nat} {Br:Nat} {pr qr:Int} (Hr:IsR pr qr Br (a.eval (.tmp i)) w) {Bu:Nat} {pu qu:Int} (Hu:IsR pu qu Bu (a.eval (.tmp j)) w) (hL:Br+Bu≤3000) :
  Does Tryz.prog { dst,op:=.call { callee:=.value (.func 17),args:=#[.tmp i,.tmp j],argTypes:=ats },type:=ty,pos,after,guard } a.eval w fun v w'=>Below w.heap.size w w'∧(OutR (nm ((nm (tp pr qr) (tq qr))*(dn (tp pu qu) (tq qu))+(nm (tp pu qu) (tq qu))*(dn (tp pr qr) (tq qr))) ((dn (tp pr qr) (tq qr))*(dn (tp pu qu) (tq qu)))) (dn ((nm (tp pr qr) (tq qr))*(dn (tp pu qu) (tq qu))+(nm (tp pu qu) (tq qu))*(dn (tp pr qr) (tq qr))) ((dn (tp pr qr) (tq qr))*(dn (tp pu qu) (tq qu)))) (36*(Br+Bu)+130)) v w' := by
 obtain ⟨nr,ar,mr,cr,rs,br,kr,dr,rt,er,Ar,Sr,Vr,Lr,Mr⟩:=Hr
 obtain ⟨nu,au,mu,cu,us,bu,ku,du,ut,eu,Au,Su,Vu,Lu,Mu⟩:=Hu
 refine does_call has_q3add _ (by simp only [List.map_toArray,List.map_cons,List.map_nil,er,eu]) ((q3add_z w Br _ _ _ _ _ _ Ar Lr _ _ _ _ _ Sr Vr Mr Bu _ _ _ _ _ _ Au Lu _ _ _ _ _ Su Vu Mu hL).mono ?_)
 rintro e w' ⟨v,rfl,h1,hb⟩
 exact ⟨_,rfl,hb,h1⟩
set_option maxRecDepth 20000 in
set_option maxHeartbeats 2000000 in
theorem q3sub_z (w:World) (Br:Nat) (nr:Bool) (ar:Option Addr) (mr cr:Nat) (rs:List Int) (pr:Int) (Ar:Ag w nr ar mr cr rs pr) (Lr:rs.length≤Br) (br:Option Addr) (kr dr:Nat) (rt:List Int) (qr:Int) (Sr:Sl w (.slice br kr dr) rt) (Vr:val rt=qr) (Mr:rt.length≤Br) (Bu:Nat) (nu:Bool) (au:Option Addr) (mu cu:Nat) (us:List Int) (pu:Int) (Au:Ag w nu au mu cu us pu) (Lu:us.length≤Bu) (bu:Option Addr) (ku du:Nat) (ut:List Int) (qu:Int) (Su:Sl w (.slice bu ku du) ut) (Vu:val ut=qu) (Mu:ut.length≤Bu) (hL:Br+Bu≤3000) :
  Calls Tryz.prog 18 #[.agg #[.bool nr,.slice ar mr cr,.slice br kr dr],.agg #[.bool nu,.slice au mu cu,.slice bu ku du]] w fun e w'=>∃ v,e=.returned v∧(OutR (nm ((nm (tp pr qr) (tq qr))*(dn (tp pu qu) (tq qu))+(-(nm (tp pu qu) (tq qu)))*(dn (tp pr qr) (tq qr))) ((dn (tp pr qr) (tq qr))*(dn (tp pu qu) (tq qu)))) (dn ((nm (tp pr qr) (tq qr))*(dn (tp pu qu) (tq qu))+(-(nm (tp pu qu) (tq qu)))*(dn (tp pr qr) (tq qr))) ((dn (tp pr qr) (tq qr))*(dn (tp pu qu) (tq qu)))) (72*(Br+Bu)+240)) v w'∧Below w.heap.size w w' := by
 go_enter Tryz.func18,Tryz.ntmps18
 generalize hA:(Act.mk _ _)=aa
 have hn:aa.tmps.size=12:=by rw [←hA];rfl
 have hd:aa.defers = []:=by rw [←hA]
 have f0:aa.eval (.tmp 0)=.agg #[.bool nr,.slice ar mr cr,.slice br kr dr]:=by rw [←hA];rfl
 have f1:aa.eval (.tmp 1)=.agg #[.bool nu,.slice au mu cu,.slice bu ku du]:=by rw [←hA];rfl
 clear hA
 have HB:Below w.heap.size w w:=Below.refl _ _
 have Dr:Ag w false br kr dr rt qr:=⟨Sr,Vr⟩
 have Du:Ag w false bu ku du ut qu:=⟨Su,Vu⟩
 refine wp_seq ?_
 refine region4 [some 2,some 3,some 4] [Tt,Tt,Tt] [⟨R3,some 0,0,2,.agg #[.bool nr,.slice ar mr cr,.slice br kr dr],none,[]⟩,⟨R3,some 1,0,3,.agg #[.bool nu,.slice au mu cu,.slice bu ku du],none,[]⟩,⟨R3,some 2,0,4,.agg #[.bool false,.slice none 0 0,.slice none 0 0],none,[]⟩] [] (by kernel_rfl) hn rfl (by kernel_rfl) (by kernel_rfl) (by kernel_rfl) (by kernel_rfl) (by kernel_rfl) (by kernel_rfl) ⟨True.mono4,True.mono4,True.mono4,trivial⟩ (ok_cons R3ok (ok_cons R3ok (ok_cons R3ok ok_nil))) (IsOld.all (bx:=[⟨R3,some 0,0,2,.agg #[.bool nr,.slice ar mr cr,.slice br kr dr],none,[]⟩,⟨R3,some 1,0,3,.agg #[.bool nu,.slice au mu cu,.slice bu ku du],none,[]⟩,⟨R3,some 2,0,4,.agg #[.bool false,.slice none 0 0,.slice none 0 0],none,[]⟩]) ⟨someNe,someNe,someNe,trivial⟩) (DisOld.all (bx:=[⟨R3,some 0,0,2,.agg #[.bool nr,.slice ar mr cr,.slice br kr dr],none,[]⟩,⟨R3,some 1,0,3,.agg #[.bool nu,.slice au mu cu,.slice bu ku du],none,[]⟩,⟨R3,some 2,0,4,.agg #[.bool false,.slice none 0 0,.slice none 0 0],none,[]⟩]) ⟨someNe,someNe,someNe,trivial⟩) ?_ ?_
 ·exact ⟨.alloc 0 _ rfl rfl (.inr ⟨_,rfl,r3_cs,fun a_ hR=>(hR 0 rfl).trans f0⟩) rfl rfl rfl rfl rfl,.alloc 1 _ rfl rfl (.inr ⟨_,rfl,r3_cs,fun a_ hR=>(hR 1 rfl).trans f1⟩) rfl rfl rfl rfl rfl,.alloc 2 _ rfl rfl (.inl ⟨rfl,rfl⟩) rfl rfl rfl rfl rfl,trivial⟩
 intro a1 w1 gs1 hn1 hd1 hBt hr hR hP hX hU
 replace hn:=hn1;replace hd:=hd1.trans hd
 have ne2_4:gs1 0≠gs1 2:=hU 0 2 (by simp) (by simp) (by decide)
 have ne3_4:gs1 1≠gs1 2:=hU 1 2 (by simp) (by simp) (by decide)
 have b2:BoxV R3 w1 (gs1 0) (.agg #[.bool nr,.slice ar mr cr,.slice br kr dr]):=(hX 0 _ rfl).2.2.2
 have f2:=(hX 0 _ rfl).1
 have u2:w.heap.size≤gs1 0:=Nat.le_trans HB.size ((hX 0 _ rfl).2.2.1 (by simp))
 have b3:BoxV R3 w1 (gs1 1) (.agg #[.bool nu,.slice au mu cu,.slice bu ku du]):=(hX 1 _ rfl).2.2.2
 have f3:=(hX 1 _ rfl).1
 have u3:w.heap.size≤gs1 1:=Nat.le_trans HB.size ((hX 1 _ rfl).2.2.1 (by simp))
 have b4:BoxV R3 w1 (gs1 2) (.agg #[.bool false,.slice none 0 0,.slice none 0 0]):=(hX 2 _ rfl).2.2.2
 have f4:=(hX 2 _ rfl).1
 have u4:w.heap.size≤gs1 2:=Nat.le_trans HB.size ((hX 2 _ rfl).2.2.1 (by simp))
 replace Ar:=Ar.rl hr
 replace Sr:=Sr.rl hr
 replace Dr:=Dr.rl hr
 replace Au:=Au.rl hr
 replace Su:=Su.rl hr
 replace Du:=Du.rl hr
 replace HB:=HB.trans (hBt.below HB.size (UpOld.all (bx:=[⟨R3,some 0,0,2,.agg #[.bool nr,.slice ar mr cr,.slice br kr dr],none,[]⟩,⟨R3,some 1,0,3,.agg #[.bool nu,.slice au mu cu,.slice bu ku du],none,[]⟩,⟨R3,some 2,0,4,.agg #[.bool false,.slice none 0 0,.slice none 0 0],none,[]⟩]) ⟨someNe,someNe,someNe,trivial⟩))
 clear hBt hr hR hP hX hU
 refine wp_seq ?_
 refine region4 [some 5,some 6,some 7,some 8,some 9,some 10,some 11,none] [Eqs (.agg #[.bool nr,.slice ar mr cr,.slice br kr dr]),OutQ ((nm (tp pr qr) (tq qr))) ((dn (tp pr qr) (tq qr))) (6*(Br)+10),Eqs (.agg #[.bool nu,.slice au mu cu,.slice bu ku du]),OutQ ((nm (tp pu qu) (tq qu))) ((dn (tp pu qu) (tq qu))) (6*(Bu)+10),OutQ ((-(nm (tp pu qu) (tq qu)))) ((dn (tp pu qu) (tq qu))) (2*(6*(Bu)+10)),OutQ ((nm ((nm (tp pr qr) (tq qr))*(dn (tp pu qu) (tq qu))+(-(nm (tp pu qu) (tq qu)))*(dn (tp pr qr) (tq qr))) ((dn (tp pr qr) (tq qr))*(dn (tp pu qu) (tq qu))))) ((dn ((nm (tp pr qr) (tq qr))*(dn (tp pu qu) (tq qu))+(-(nm (tp pu qu) (tq qu)))*(dn (tp pr qr) (tq qr))) ((dn (tp pr qr) (tq qr))*(dn (tp pu qu) (tq qu))))) (3*((6*(Br)+10)+(2*(6*(Bu)+10)))+4),OutR ((nm ((nm (tp pr qr) (tq qr))*(dn (tp pu qu) (tq qu))+(-(nm (tp pu qu) (tq qu)))*(dn (tp pr qr) (tq qr))) ((dn (tp pr qr) (tq qr))*(dn (tp pu qu) (tq qu))))) ((dn ((nm (tp pr qr) (tq qr))*(dn (tp pu qu) (tq qu))+(-(nm (tp pu qu) (tq qu)))*(dn (tp pr qr) (tq qr))) ((dn (tp pr qr) (tq qr))*(dn (tp pu qu) (tq qu))))) (2*(3*((6*(Br)+10)+(2*(6*(Bu)+10)))+4)),Tt] [⟨R3,none,(gs1 2),4,.agg #[.bool false,.slice none 0 0,.slice none 0 0],some (7,11,6),[]⟩] [] (by kernel_rfl) hn rfl (by kernel_rfl) (by kernel_rfl) (by kernel_rfl) (by kernel_rfl) (by kernel_rfl) (by kernel_rfl) ⟨Eqs.mono4 _,OutQ.mono4 _ _ _,Eqs.mono4 _,OutQ.mono4 _ _ _,OutQ.mono4 _ _ _,OutQ.mono4 _ _ _,OutR.mono4 _ _ _,True.mono4,trivial⟩ (ok_cons R3ok ok_nil) (IsOld.all (bx:=[⟨R3,none,(gs1 2),4,.agg #[.bool false,.slice none 0 0,.slice none 0 0],some (7,11,6),[]⟩]) ⟨fun _=>⟨f4,b4⟩,trivial⟩) (DisOld.all (bx:=[⟨R3,none,(gs1 2),4,.agg #[.bool false,.slice none 0 0,.slice none 0 0],some (7,11,6),[]⟩]) ⟨fun _=>trivial,trivial⟩) ?_ ?_
 ·exact ⟨.norm 5 rfl rfl rfl (fun a_ w_ _ t r R D _ _=>op_loadv R3ok ((R 2 rfl).trans f2) (b2.keep t ⟨fun _=>ne2_4.symm,trivial⟩)),.norm 6 rfl rfl rfl (fun a_ w_ _ t r R D _ _=>op_qread (Br:=Br) (isr_eq (show a_.eval (.tmp 5)=.agg #[.bool nr,.slice ar mr cr,.slice br kr dr] from D 0 rfl) (Ar.rl r) (Sr.rl r) Vr Lr Mr) (by omega)),.norm 7 rfl rfl rfl (fun a_ w_ _ t r R D _ _=>op_loadv R3ok ((R 3 rfl).trans f3) (b3.keep t ⟨fun _=>ne3_4.symm,trivial⟩)),.norm 8 rfl rfl rfl (fun a_ w_ _ t r R D _ _=>op_qread (Br:=Bu) (isr_eq (show a_.eval (.tmp 7)=.agg #[.bool nu,.slice au mu cu,.slice bu ku du] from D 2 rfl) (Au.rl r) (Su.rl r) Vu Lu Mu) (by omega)),.norm 9 rfl rfl rfl (fun a_ w_ _ t r R D _ _=>op_qminus (Bx:=6*(Bu)+10) (show OutQ ((nm (tp pu qu) (tq qu))) ((dn (tp pu qu) (tq qu))) (6*(Bu)+10) (a_.eval (.tmp 8)) w_ from D 3 rfl) (by omega)),.norm 10 rfl rfl rfl (fun a_ w_ _ t r R D _ _=>op_qplus (Bx:=6*(Br)+10) (Bv:=2*(6*(Bu)+10)) (show OutQ ((nm (tp pr qr) (tq qr))) ((dn (tp pr qr) (tq qr))) (6*(Br)+10) (a_.eval (.tmp 6)) w_ from D 1 rfl) (show OutQ ((-(nm (tp pu qu) (tq qu)))) ((dn (tp pu qu) (tq qu))) (2*(6*(Bu)+10)) (a_.eval (.tmp 9)) w_ from D 4 rfl) (by omega) (dn_ne _ (tq_ne _)) (dn_ne _ (tq_ne _))),.norm 11 rfl rfl rfl (fun a_ w_ _ t r R D _ _=>op_qtold (Bx:=3*((6*(Br)+10)+(2*(6*(Bu)+10)))+4) (show OutQ ((nm ((nm (tp pr qr) (tq qr))*(dn (tp pu qu) (tq qu))+(-(nm (tp pu qu) (tq qu)))*(dn (tp pr qr) (tq qr))) ((dn (tp pr qr) (tq qr))*(dn (tp pu qu) (tq qu))))) ((dn ((nm (tp pr qr) (tq qr))*(dn (tp pu qu) (tq qu))+(-(nm (tp pu qu) (tq qu)))*(dn (tp pr qr) (tq qr))) ((dn (tp pr qr) (tq qr))*(dn (tp pu qu) (tq qu))))) (3*((6*(Br)+10)+(2*(6*(Bu)+10)))+4) (a_.eval (.tmp 10)) w_ from D 5 rfl) (by omega) (dn_pos _ (Int.mul_ne_zero (dn_ne _ (tq_ne _)) (dn_ne _ (tq_ne _))))),.store 0 _ _ _ rfl rfl rfl rfl rfl rfl rfl (fun ia h=>by cases h) rfl rfl rfl OutR.cs,trivial⟩
 intro a2 w2 gs2 hn2 hd2 hBt hr hR hP hX hU
 replace hn:=hn2;replace hd:=hd2.trans hd
 obtain ⟨n_3,a_3,c_3,r_3,b_3,d_3,s_3,e11,G3,K3,l3,k3⟩:OutR ((nm ((nm (tp pr qr) (tq qr))*(dn (tp pu qu) (tq qu))+(-(nm (tp pu qu) (tq qu)))*(dn (tp pr qr) (tq qr))) ((dn (tp pr qr) (tq qr))*(dn (tp pu qu) (tq qu))))) ((dn ((nm (tp pr qr) (tq qr))*(dn (tp pu qu) (tq qu))+(-(nm (tp pu qu) (tq qu)))*(dn (tp pr qr) (tq qr))) ((dn (tp pr qr) (tq qr))*(dn (tp pu qu) (tq qu))))) (2*(3*((6*(Br)+10)+(2*(6*(Bu)+10)))+4)) (a2.eval (.tmp 11)) w2:=hP 6 (by decide)
 have A3:=G3.ag;have S3:=K3.sl;have V3:=K3.val
 have b4:BoxV R3 w2 ((gs1 2)) (.agg #[.bool n_3,.slice a_3 r_3.length c_3,.slice b_3 s_3.length d_3]):=boxv_old ((hX 0 _ rfl).2.1 rfl) (hX 0 _ rfl).2.2.2 e11
 replace f4:a2.eval (.tmp 4) = _:=(hR 4 rfl).trans f4
 replace Ar:=Ar.rl hr
 replace Sr:=Sr.rl hr
 replace Dr:=Dr.rl hr
 replace Au:=Au.rl hr
 replace Su:=Su.rl hr
 replace Du:=Du.rl hr
 replace HB:=HB.trans (hBt.below HB.size (UpOld.all (bx:=[⟨R3,none,(gs1 2),4,.agg #[.bool false,.slice none 0 0,.slice none 0 0],some (7,11,6),[]⟩]) ⟨fun _=>u4,trivial⟩))
 clear hBt hr hR hP hX hU
 refine wp_ret ?_
 repeat (first | refine then_ret ?_ | refine scope_ret ?_ | refine block_ret ?_)
 exact bodyPost_ret (v:=.agg #[.bool n_3,.slice a_3 r_3.length c_3,.slice b_3 s_3.length d_3]) (res_c rfl f4 (lv_R3 b4)) hd ⟨_,rfl,OutR.to (outr_eq rfl G3 K3 l3 k3) rfl rfl (by omega),HB⟩
theorem has_q3sub:Has Tryz.prog 18:=by unfold Has;kernel_rfl
theorem op_q3sub {dst:Option Tmp} {ty:TypeId} {pos:String} {after:Array Edge} {guard:Option (Nat × Bool)} {a:Act} {w:World} {ats:Array TypeId} {i j:Nat} {Br:Nat} {pr qr:Int} (Hr:IsR pr qr Br (a.eval (.tmp i)) w) {Bu:Nat} {pu qu:Int} (Hu:IsR pu qu Bu (a.eval (.tmp j)) w) (hL:Br+Bu≤3000) :
  Does Tryz.prog { dst,op:=.call { callee:=.value (.func 18),args:=#[.tmp i,.tmp j],argTypes:=ats },type:=ty,pos,after,guard } a.eval w fun v w'=>Below w.heap.size w w'∧(OutR (nm ((nm (tp pr qr) (tq qr))*(dn (tp pu qu) (tq qu))+(-(nm (tp pu qu) (tq qu)))*(dn (tp pr qr) (tq qr))) ((dn (tp pr qr) (tq qr))*(dn (tp pu qu) (tq qu)))) (dn ((nm (tp pr qr) (tq qr))*(dn (tp pu qu) (tq qu))+(-(nm (tp pu qu) (tq qu)))*(dn (tp pr qr) (tq qr))) ((dn (tp pr qr) (tq qr))*(dn (tp pu qu) (tq qu)))) (72*(Br+Bu)+240)) v w' := by
 obtain ⟨nr,ar,mr,cr,rs,br,kr,dr,rt,er,Ar,Sr,Vr,Lr,Mr⟩:=Hr
 obtain ⟨nu,au,mu,cu,us,bu,ku,du,ut,eu,Au,Su,Vu,Lu,Mu⟩:=Hu
 refine does_call has_q3sub _ (by simp only [List.map_toArray,List.map_cons,List.map_nil,er,eu]) ((q3sub_z w Br _ _ _ _ _ _ Ar Lr _ _ _ _ _ Sr Vr Mr Bu _ _ _ _ _ _ Au Lu _ _ _ _ _ Su Vu Mu hL).mono ?_)
 rintro e w' ⟨v,rfl,h1,hb⟩
 exact ⟨_,rfl,hb,h1⟩
set_option maxRecDepth 20000 in
set_option maxHeartbeats 2000000 in
theorem q3mul_z (w:World) (Br:Nat) (nr:Bool) (ar:Option Addr) (mr cr:Nat) (rs:List Int) (pr:Int) (Ar:Ag w nr ar mr cr rs pr) (Lr:rs.length≤Br) (br:Option Addr) (kr dr:Nat) (rt:List Int) (qr:Int) (Sr:Sl w (.slice br kr dr) rt) (Vr:val rt=qr) (Mr:rt.length≤Br) (Bu:Nat) (nu:Bool) (au:Option Addr) (mu cu:Nat) (us:List Int) (pu:Int) (Au:Ag w nu au mu cu us pu) (Lu:us.length≤Bu) (bu:Option Addr) (ku du:Nat) (ut:List Int) (qu:Int) (Su:Sl w (.slice bu ku du) ut) (Vu:val ut=qu) (Mu:ut.length≤Bu) (hL:Br+Bu≤3000) :
  Calls Tryz.prog 19 #[.agg #[.bool nr,.slice ar mr cr,.slice br kr dr],.agg #[.bool nu,.slice au mu cu,.slice bu ku du]] w fun e w'=>∃ v,e=.returned v∧(OutR (nm ((nm (tp pr qr) (tq qr))*(nm (tp pu qu) (tq qu))) ((dn (tp pr qr) (tq qr))*(dn (tp pu qu) (tq qu)))) (dn ((nm (tp pr qr) (tq qr))*(nm (tp pu qu) (tq qu))) ((dn (tp pr qr) (tq qr))*(dn (tp pu qu) (tq qu)))) (24*(Br+Bu)+100)) v w'∧Below w.heap.size w w' := by
 go_enter Tryz.func19,Tryz.ntmps19
 generalize hA:(Act.mk _ _)=aa
 have hn:aa.tmps.size=11:=by rw [←hA];rfl
 have hd:aa.defers = []:=by rw [←hA]
 have f0:aa.eval (.tmp 0)=.agg #[.bool nr,.slice ar mr cr,.slice br kr dr]:=by rw [←hA];rfl
 have f1:aa.eval (.tmp 1)=.agg #[.bool nu,.slice au mu cu,.slice bu ku du]:=by rw [←hA];rfl
 clear hA
 have HB:Below w.heap.size w w:=Below.refl _ _
 have Dr:Ag w false br kr dr rt qr:=⟨Sr,Vr⟩
 have Du:Ag w false bu ku du ut qu:=⟨Su,Vu⟩
 refine wp_seq ?_
 refine region4 [some 2,some 3,some 4] [Tt,Tt,Tt] [⟨R3,some 0,0,2,.agg #[.bool nr,.slice ar mr cr,.slice br kr dr],none,[]⟩,⟨R3,some 1,0,3,.agg #[.bool nu,.slice au mu cu,.slice bu ku du],none,[]⟩,⟨R3,some 2,0,4,.agg #[.bool false,.slice none 0 0,.slice none 0 0],none,[]⟩] [] (by kernel_rfl) hn rfl (by kernel_rfl) (by kernel_rfl) (by kernel_rfl) (by kernel_rfl) (by kernel_rfl) (by kernel_rfl) ⟨True.mono4,True.mono4,True.mono4,trivial⟩ (ok_cons R3ok (ok_cons R3ok (ok_cons R3ok ok_nil))) (IsOld.all (bx:=[⟨R3,some 0,0,2,.agg #[.bool nr,.slice ar mr cr,.slice br kr dr],none,[]⟩,⟨R3,some 1,0,3,.agg #[.bool nu,.slice au mu cu,.slice bu ku du],none,[]⟩,⟨R3,some 2,0,4,.agg #[.bool false,.slice none 0 0,.slice none 0 0],none,[]⟩]) ⟨someNe,someNe,someNe,trivial⟩) (DisOld.all (bx:=[⟨R3,some 0,0,2,.agg #[.bool nr,.slice ar mr cr,.slice br kr dr],none,[]⟩,⟨R3,some 1,0,3,.agg #[.bool nu,.slice au mu cu,.slice bu ku du],none,[]⟩,⟨R3,some 2,0,4,.agg #[.bool false,.slice none 0 0,.slice none 0 0],none,[]⟩]) ⟨someNe,someNe,someNe,trivial⟩) ?_ ?_
 ·exact ⟨.alloc 0 _ rfl rfl (.inr ⟨_,rfl,r3_cs,fun a_ hR=>(hR 0 rfl).trans f0⟩) rfl rfl rfl rfl rfl,.alloc 1 _ rfl rfl (.inr ⟨_,rfl,r3_cs,fun a_ hR=>(hR 1 rfl).trans f1⟩) rfl rfl rfl rfl rfl,.alloc 2 _ rfl rfl (.inl ⟨rfl,rfl⟩) rfl rfl rfl rfl rfl,trivial⟩
 intro a1 w1 gs1 hn1 hd1 hBt hr hR hP hX hU
 replace hn:=hn1;replace hd:=hd1.trans hd
 have ne2_4:gs1 0≠gs1 2:=hU 0 2 (by simp) (by simp) (by decide)
 have ne3_4:gs1 1≠gs1 2:=hU 1 2 (by simp) (by simp) (by decide)
 have b2:BoxV R3 w1 (gs1 0) (.agg #[.bool nr,.slice ar mr cr,.slice br kr dr]):=(hX 0 _ rfl).2.2.2
 have f2:=(hX 0 _ rfl).1
 have u2:w.heap.size≤gs1 0:=Nat.le_trans HB.size ((hX 0 _ rfl).2.2.1 (by simp))
 have b3:BoxV R3 w1 (gs1 1) (.agg #[.bool nu,.slice au mu cu,.slice bu ku du]):=(hX 1 _ rfl).2.2.2
 have f3:=(hX 1 _ rfl).1
 have u3:w.heap.size≤gs1 1:=Nat.le_trans HB.size ((hX 1 _ rfl).2.2.1 (by simp))
 have b4:BoxV R3 w1 (gs1 2) (.agg #[.bool false,.slice none 0 0,.slice none 0 0]):=(hX 2 _ rfl).2.2.2
 have f4:=(hX 2 _ rfl).1
 have u4:w.heap.size≤gs1 2:=Nat.le_trans HB.size ((hX 2 _ rfl).2.2.1 (by simp))
 replace Ar:=Ar.rl hr
 replace Sr:=Sr.rl hr
 replace Dr:=Dr.rl hr
 replace Au:=Au.rl hr
 replace Su:=Su.rl hr
 replace Du:=Du.rl hr
 replace HB:=HB.trans (hBt.below HB.size (UpOld.all (bx:=[⟨R3,some 0,0,2,.agg #[.bool nr,.slice ar mr cr,.slice br kr dr],none,[]⟩,⟨R3,some 1,0,3,.agg #[.bool nu,.slice au mu cu,.slice bu ku du],none,[]⟩,⟨R3,some 2,0,4,.agg #[.bool false,.slice none 0 0,.slice none 0 0],none,[]⟩]) ⟨someNe,someNe,someNe,trivial⟩))
 clear hBt hr hR hP hX hU
 refine wp_seq ?_
 refine region4 [some 5,some 6,some 7,some 8,some 9,some 10,none] [Eqs (.agg #[.bool nr,.slice ar mr cr,.slice br kr dr]),OutQ ((nm (tp pr qr) (tq qr))) ((dn (tp pr qr) (tq qr))) (6*(Br)+10),Eqs (.agg #[.bool nu,.slice au mu cu,.slice bu ku du]),OutQ ((nm (tp pu qu) (tq qu))) ((dn (tp pu qu) (tq qu))) (6*(Bu)+10),OutQ ((nm ((nm (tp pr qr) (tq qr))*(nm (tp pu qu) (tq qu))) ((dn (tp pr qr) (tq qr))*(dn (tp pu qu) (tq qu))))) ((dn ((nm (tp pr qr) (tq qr))*(nm (tp pu qu) (tq qu))) ((dn (tp pr qr) (tq qr))*(dn (tp pu qu) (tq qu))))) (2*((6*(Br)+10)+(6*(Bu)+10))+2),OutR ((nm ((nm (tp pr qr) (tq qr))*(nm (tp pu qu) (tq qu))) ((dn (tp pr qr) (tq qr))*(dn (tp pu qu) (tq qu))))) ((dn ((nm (tp pr qr) (tq qr))*(nm (tp pu qu) (tq qu))) ((dn (tp pr qr) (tq qr))*(dn (tp pu qu) (tq qu))))) (2*(2*((6*(Br)+10)+(6*(Bu)+10))+2)),Tt] [⟨R3,none,(gs1 2),4,.agg #[.bool false,.slice none 0 0,.slice none 0 0],some (6,10,5),[]⟩] [] (by kernel_rfl) hn rfl (by kernel_rfl) (by kernel_rfl) (by kernel_rfl) (by kernel_rfl) (by kernel_rfl) (by kernel_rfl) ⟨Eqs.mono4 _,OutQ.mono4 _ _ _,Eqs.mono4 _,OutQ.mono4 _ _ _,OutQ.mono4 _ _ _,OutR.mono4 _ _ _,True.mono4,trivial⟩ (ok_cons R3ok ok_nil) (IsOld.all (bx:=[⟨R3,none,(gs1 2),4,.agg #[.bool false,.slice none 0 0,.slice none 0 0],some (6,10,5),[]⟩]) ⟨fun _=>⟨f4,b4⟩,trivial⟩) (DisOld.all (bx:=[⟨R3,none,(gs1 2),4,.agg #[.bool false,.slice none 0 0,.slice none 0 0],some (6,10,5),[]⟩]) ⟨fun _=>trivial,trivial⟩) ?_ ?_
 ·exact ⟨.norm 5 rfl rfl rfl (fun a_ w_ _ t r R D _ _=>op_loadv R3ok ((R 2 rfl).trans f2) (b2.keep t ⟨fun _=>ne2_4.symm,trivial⟩)),.norm 6 rfl rfl rfl (fun a_ w_ _ t r R D _ _=>op_qread (Br:=Br) (isr_eq (show a_.eval (.tmp 5)=.agg #[.bool nr,.slice ar mr cr,.slice br kr dr] from D 0 rfl) (Ar.rl r) (Sr.rl r) Vr Lr Mr) (by omega)),.norm 7 rfl rfl rfl (fun a_ w_ _ t r R D _ _=>op_loadv R3ok ((R 3 rfl).trans f3) (b3.keep t ⟨fun _=>ne3_4.symm,trivial⟩)),.norm 8 rfl rfl rfl (fun a_ w_ _ t r R D _ _=>op_qread (Br:=Bu) (isr_eq (show a_.eval (.tmp 7)=.agg #[.bool nu,.slice au mu cu,.slice bu ku du] from D 2 rfl) (Au.rl r) (Su.rl r) Vu Lu Mu) (by omega)),.norm 9 rfl rfl rfl (fun a_ w_ _ t r R D _ _=>op_qtimes (Bx:=6*(Br)+10) (Bv:=6*(Bu)+10) (show OutQ ((nm (tp pr qr) (tq qr))) ((dn (tp pr qr) (tq qr))) (6*(Br)+10) (a_.eval (.tmp 6)) w_ from D 1 rfl) (show OutQ ((nm (tp pu qu) (tq qu))) ((dn (tp pu qu) (tq qu))) (6*(Bu)+10) (a_.eval (.tmp 8)) w_ from D 3 rfl) (by omega) (dn_ne _ (tq_ne _)) (dn_ne _ (tq_ne _))),.norm 10 rfl rfl rfl (fun a_ w_ _ t r R D _ _=>op_qtold (Bx:=2*((6*(Br)+10)+(6*(Bu)+10))+2) (show OutQ ((nm ((nm (tp pr qr) (tq qr))*(nm (tp pu qu) (tq qu))) ((dn (tp pr qr) (tq qr))*(dn (tp pu qu) (tq qu))))) ((dn ((nm (tp pr qr) (tq qr))*(nm (tp pu qu) (tq qu))) ((dn (tp pr qr) (tq qr))*(dn (tp pu qu) (tq qu))))) (2*((6*(Br)+10)+(6*(Bu)+10))+2) (a_.eval (.tmp 9)) w_ from D 4 rfl) (by omega) (dn_pos _ (Int.mul_ne_zero (dn_ne _ (tq_ne _)) (dn_ne _ (tq_ne _))))),.store 0 _ _ _ rfl rfl rfl rfl rfl rfl rfl (fun ia h=>by cases h) rfl rfl rfl OutR.cs,trivial⟩
 intro a2 w2 gs2 hn2 hd2 hBt hr hR hP hX hU
 replace hn:=hn2;replace hd:=hd2.trans hd
 obtain ⟨n_3,a_3,c_3,r_3,b_3,d_3,s_3,e10,G3,K3,l3,k3⟩:OutR ((nm ((nm (tp pr qr) (tq qr))*(nm (tp pu qu) (tq qu))) ((dn (tp pr qr) (tq qr))*(dn (tp pu qu) (tq qu))))) ((dn ((nm (tp pr qr) (tq qr))*(nm (tp pu qu) (tq qu))) ((dn (tp pr qr) (tq qr))*(dn (tp pu qu) (tq qu))))) (2*(2*((6*(Br)+10)+(6*(Bu)+10))+2)) (a2.eval (.tmp 10)) w2:=hP 5 (by decide)
 have A3:=G3.ag;have S3:=K3.sl;have V3:=K3.val
 have b4:BoxV R3 w2 ((gs1 2)) (.agg #[.bool n_3,.slice a_3 r_3.length c_3,.slice b_3 s_3.length d_3]):=boxv_old ((hX 0 _ rfl).2.1 rfl) (hX 0 _ rfl).2.2.2 e10
 replace f4:a2.eval (.tmp 4) = _:=(hR 4 rfl).trans f4
 replace Ar:=Ar.rl hr
 replace Sr:=Sr.rl hr
 replace Dr:=Dr.rl hr
 replace Au:=Au.rl hr
 replace Su:=Su.rl hr
 replace Du:=Du.rl hr
 replace HB:=HB.trans (hBt.below HB.size (UpOld.all (bx:=[⟨R3,none,(gs1 2),4,.agg #[.bool false,.slice none 0 0,.slice none 0 0],some (6,10,5),[]⟩]) ⟨fun _=>u4,trivial⟩))
 clear hBt hr hR hP hX hU
 refine wp_ret ?_
 repeat (first | refine then_ret ?_ | refine scope_ret ?_ | refine block_ret ?_)
 exact bodyPost_ret (v:=.agg #[.bool n_3,.slice a_3 r_3.length c_3,.slice b_3 s_3.length d_3]) (res_c rfl f4 (lv_R3 b4)) hd ⟨_,rfl,OutR.to (outr_eq rfl G3 K3 l3 k3) rfl rfl (by omega),HB⟩
theorem has_q3mul:Has Tryz.prog 19:=by unfold Has;kernel_rfl
theorem op_q3mul {dst:Option Tmp} {ty:TypeId} {pos:String} {after:Array Edge} {guard:Option (Nat × Bool)} {a:Act} {w:World} {ats:Array TypeId} {i j:Nat} {Br:Nat} {pr qr:Int} (Hr:IsR pr qr Br (a.eval (.tmp i)) w) {Bu:Nat} {pu qu:Int} (Hu:IsR pu qu Bu (a.eval (.tmp j)) w) (hL:Br+Bu≤3000) :
  Does Tryz.prog { dst,op:=.call { callee:=.value (.func 19),args:=#[.tmp i,.tmp j],argTypes:=ats },type:=ty,pos,after,guard } a.eval w fun v w'=>Below w.heap.size w w'∧(OutR (nm ((nm (tp pr qr) (tq qr))*(nm (tp pu qu) (tq qu))) ((dn (tp pr qr) (tq qr))*(dn (tp pu qu) (tq qu)))) (dn ((nm (tp pr qr) (tq qr))*(nm (tp pu qu) (tq qu))) ((dn (tp pr qr) (tq qr))*(dn (tp pu qu) (tq qu)))) (24*(Br+Bu)+100)) v w' := by
 obtain ⟨nr,ar,mr,cr,rs,br,kr,dr,rt,er,Ar,Sr,Vr,Lr,Mr⟩:=Hr
 obtain ⟨nu,au,mu,cu,us,bu,ku,du,ut,eu,Au,Su,Vu,Lu,Mu⟩:=Hu
 refine does_call has_q3mul _ (by simp only [List.map_toArray,List.map_cons,List.map_nil,er,eu]) ((q3mul_z w Br _ _ _ _ _ _ Ar Lr _ _ _ _ _ Sr Vr Mr Bu _ _ _ _ _ _ Au Lu _ _ _ _ _ Su Vu Mu hL).mono ?_)
 rintro e w' ⟨v,rfl,h1,hb⟩
 exact ⟨_,rfl,hb,h1⟩
set_option maxRecDepth 20000 in
set_option maxHeartbeats 2000000 in
theorem q3div_z (w:World) (Br:Nat) (nr:Bool) (ar:Option Addr) (mr cr:Nat) (rs:List Int) (pr:Int) (Ar:Ag w nr ar mr cr rs pr) (Lr:rs.length≤Br) (br:Option Addr) (kr dr:Nat) (rt:List Int) (qr:Int) (Sr:Sl w (.slice br kr dr) rt) (Vr:val rt=qr) (Mr:rt.length≤Br) (Bu:Nat) (nu:Bool) (au:Option Addr) (mu cu:Nat) (us:List Int) (pu:Int) (Au:Ag w nu au mu cu us pu) (Lu:us.length≤Bu) (bu:Option Addr) (ku du:Nat) (ut:List Int) (qu:Int) (Su:Sl w (.slice bu ku du) ut) (Vu:val ut=qu) (Mu:ut.length≤Bu) (hL:Br+Bu≤3000) (hz:(nm (tp pu qu) (tq qu))≠0) :
  Calls Tryz.prog 6 #[.agg #[.bool nr,.slice ar mr cr,.slice br kr dr],.agg #[.bool nu,.slice au mu cu,.slice bu ku du]] w fun e w'=>∃ v,e=.returned v∧(Tup2 (OutR (nm ((nm (tp pr qr) (tq qr))*(dn (tp pu qu) (tq qu))) ((dn (tp pr qr) (tq qr))*(nm (tp pu qu) (tq qu)))) (dn ((nm (tp pr qr) (tq qr))*(dn (tp pu qu) (tq qu))) ((dn (tp pr qr) (tq qr))*(nm (tp pu qu) (tq qu)))) (24*(Br+Bu)+100)) (Eqs (.int .i64 0))) v w'∧Below w.heap.size w w' := by
 go_enter Tryz.func6,Tryz.ntmps6
 generalize hA:(Act.mk _ _)=aa
 have hn:aa.tmps.size=29:=by rw [←hA];rfl
 have hd:aa.defers = []:=by rw [←hA]
 have f0:aa.eval (.tmp 0)=.agg #[.bool nr,.slice ar mr cr,.slice br kr dr]:=by rw [←hA];rfl
 have f1:aa.eval (.tmp 1)=.agg #[.bool nu,.slice au mu cu,.slice bu ku du]:=by rw [←hA];rfl
 clear hA
 have HB:Below w.heap.size w w:=Below.refl _ _
 have Dr:Ag w false br kr dr rt qr:=⟨Sr,Vr⟩
 have Du:Ag w false bu ku du ut qu:=⟨Su,Vu⟩
 refine wp_seq ?_
 refine region4 [some 2,some 3,some 4,some 5] [Tt,Tt,Tt,Eqs ((.int .i64 0))] [⟨R3,some 0,0,2,.agg #[.bool nr,.slice ar mr cr,.slice br kr dr],none,[]⟩,⟨R3,some 1,0,3,.agg #[.bool nu,.slice au mu cu,.slice bu ku du],none,[]⟩,⟨R3,some 2,0,4,.agg #[.bool false,.slice none 0 0,.slice none 0 0],none,[]⟩] [] (by kernel_rfl) hn rfl (by kernel_rfl) (by kernel_rfl) (by kernel_rfl) (by kernel_rfl) (by kernel_rfl) (by kernel_rfl) ⟨True.mono4,True.mono4,True.mono4,Eqs.mono4 _,trivial⟩ (ok_cons R3ok (ok_cons R3ok (ok_cons R3ok ok_nil))) (IsOld.all (bx:=[⟨R3,some 0,0,2,.agg #[.bool nr,.slice ar mr cr,.slice br kr dr],none,[]⟩,⟨R3,some 1,0,3,.agg #[.bool nu,.slice au mu cu,.slice bu ku du],none,[]⟩,⟨R3,some 2,0,4,.agg #[.bool false,.slice none 0 0,.slice none 0 0],none,[]⟩]) ⟨someNe,someNe,someNe,trivial⟩) (DisOld.all (bx:=[⟨R3,some 0,0,2,.agg #[.bool nr,.slice ar mr cr,.slice br kr dr],none,[]⟩,⟨R3,some 1,0,3,.agg #[.bool nu,.slice au mu cu,.slice bu ku du],none,[]⟩,⟨R3,some 2,0,4,.agg #[.bool false,.slice none 0 0,.slice none 0 0],none,[]⟩]) ⟨someNe,someNe,someNe,trivial⟩) ?_ ?_
 ·exact ⟨.alloc 0 _ rfl rfl (.inr ⟨_,rfl,r3_cs,fun a_ hR=>(hR 0 rfl).trans f0⟩) rfl rfl rfl rfl rfl,.alloc 1 _ rfl rfl (.inr ⟨_,rfl,r3_cs,fun a_ hR=>(hR 1 rfl).trans f1⟩) rfl rfl rfl rfl rfl,.alloc 2 _ rfl rfl (.inl ⟨rfl,rfl⟩) rfl rfl rfl rfl rfl,.norm 5 rfl rfl rfl (fun a_ w_ _ t r R D _ _=>op_assign rfl),trivial⟩
 intro a1 w1 gs1 hn1 hd1 hBt hr hR hP hX hU
 replace hn:=hn1;replace hd:=hd1.trans hd
 have ne2_4:gs1 0≠gs1 2:=hU 0 2 (by simp) (by simp) (by decide)
 have ne3_4:gs1 1≠gs1 2:=hU 1 2 (by simp) (by simp) (by decide)
 have b2:BoxV R3 w1 (gs1 0) (.agg #[.bool nr,.slice ar mr cr,.slice br kr dr]):=(hX 0 _ rfl).2.2.2
 have f2:=(hX 0 _ rfl).1
 have u2:w.heap.size≤gs1 0:=Nat.le_trans HB.size ((hX 0 _ rfl).2.2.1 (by simp))
 have b3:BoxV R3 w1 (gs1 1) (.agg #[.bool nu,.slice au mu cu,.slice bu ku du]):=(hX 1 _ rfl).2.2.2
 have f3:=(hX 1 _ rfl).1
 have u3:w.heap.size≤gs1 1:=Nat.le_trans HB.size ((hX 1 _ rfl).2.2.1 (by simp))
 have b4:BoxV R3 w1 (gs1 2) (.agg #[.bool false,.slice none 0 0,.slice none 0 0]):=(hX 2 _ rfl).2.2.2
 have f4:=(hX 2 _ rfl).1
 have u4:w.heap.size≤gs1 2:=Nat.le_trans HB.size ((hX 2 _ rfl).2.2.1 (by simp))
 have e5:a1.eval (.tmp 5)=(.int .i64 0):=hP 3 (by decide)
 have f5:=e5
 replace Ar:=Ar.rl hr
 replace Sr:=Sr.rl hr
 replace Dr:=Dr.rl hr
 replace Au:=Au.rl hr
 replace Su:=Su.rl hr
 replace Du:=Du.rl hr
 replace HB:=HB.trans (hBt.below HB.size (UpOld.all (bx:=[⟨R3,some 0,0,2,.agg #[.bool nr,.slice ar mr cr,.slice br kr dr],none,[]⟩,⟨R3,some 1,0,3,.agg #[.bool nu,.slice au mu cu,.slice bu ku du],none,[]⟩,⟨R3,some 2,0,4,.agg #[.bool false,.slice none 0 0,.slice none 0 0],none,[]⟩]) ⟨someNe,someNe,someNe,trivial⟩))
 clear hBt hr hR hP hX hU
 refine wp_seq ?_
 refine region4 [some 8,some 9,some 6,none] [Eqs (.agg #[.bool nu,.slice au mu cu,.slice bu ku du]),OutQ ((nm (tp pu qu) (tq qu))) ((dn (tp pu qu) (tq qu))) (6*(Bu)+10),Tt,Tt] [⟨Q4,some 2,0,6,.agg #[.bool false,.slice none 0 0,.bool false,.slice none 0 0],some (3,9,1),[]⟩] [] (by kernel_rfl) hn rfl (by kernel_rfl) (by kernel_rfl) (by kernel_rfl) (by kernel_rfl) (by kernel_rfl) (by kernel_rfl) ⟨Eqs.mono4 _,OutQ.mono4 _ _ _,True.mono4,True.mono4,trivial⟩ (ok_cons Q4ok ok_nil) (IsOld.all (bx:=[⟨Q4,some 2,0,6,.agg #[.bool false,.slice none 0 0,.bool false,.slice none 0 0],some (3,9,1),[]⟩]) ⟨someNe,trivial⟩) (DisOld.all (bx:=[⟨Q4,some 2,0,6,.agg #[.bool false,.slice none 0 0,.bool false,.slice none 0 0],some (3,9,1),[]⟩]) ⟨someNe,trivial⟩) ?_ ?_
 ·exact ⟨.norm 8 rfl rfl rfl (fun a_ w_ _ t r R D _ _=>op_loadv R3ok ((R 3 rfl).trans f3) (b3.keep t ⟨someNe,trivial⟩)),.norm 9 rfl rfl rfl (fun a_ w_ _ t r R D _ _=>op_qread (Br:=Bu) (isr_eq (show a_.eval (.tmp 8)=.agg #[.bool nu,.slice au mu cu,.slice bu ku du] from D 0 rfl) (Au.rl r) (Su.rl r) Vu Lu Mu) (by omega)),.alloc 0 _ rfl rfl (.inl ⟨rfl,rfl⟩) rfl rfl rfl rfl rfl,.store 0 _ _ _ rfl rfl rfl rfl rfl rfl rfl (fun ia h=>by cases h;rfl) rfl rfl rfl OutQ.cs,trivial⟩
 intro a2 w2 gs2 hn2 hd2 hBt hr hR hP hX hU
 replace hn:=hn2;replace hd:=hd2.trans hd
 have ne4_6:(gs1 2)≠gs2 0:=by have h1:=b4.lt;have h2:=(hX 0 _ rfl).2.2.1 (by simp);omega
 replace b2:=b2.keep hBt ⟨someNe,trivial⟩
 replace b4:=b4.keep hBt ⟨someNe,trivial⟩
 obtain ⟨n_3,a_3,c_3,r_3,o_3,b_3,d_3,s_3,e9,G3,K3,l3,k3⟩:OutQ ((nm (tp pu qu) (tq qu))) ((dn (tp pu qu) (tq qu))) (6*(Bu)+10) (a2.eval (.tmp 9)) w2:=hP 1 (by decide)
 have b6:BoxV Q4 w2 (gs2 0) (.agg #[.bool n_3,.slice a_3 r_3.length c_3,.bool o_3,.slice b_3 s_3.length d_3]):=boxv_of (hX 0 _ rfl).2.2.2 e9
 have f6:=(hX 0 _ rfl).1
 have u6:w.heap.size≤gs2 0:=Nat.le_trans HB.size ((hX 0 _ rfl).2.2.1 (by simp))
 replace f2:=(hR 2 rfl).trans f2
 replace f4:=(hR 4 rfl).trans f4
 replace f5:=(hR 5 rfl).trans f5
 replace Ar:=Ar.rl hr
 replace Sr:=Sr.rl hr
 replace Dr:=Dr.rl hr
 replace Au:=Au.rl hr
 replace Su:=Su.rl hr
 replace Du:=Du.rl hr
 replace HB:=HB.trans (hBt.below HB.size (UpOld.all (bx:=[⟨Q4,some 2,0,6,.agg #[.bool false,.slice none 0 0,.bool false,.slice none 0 0],some (3,9,1),[]⟩]) ⟨someNe,trivial⟩))
 clear hBt hr hR hP hX hU
 refine wp_seq ?_
 refine wp_seq ?_
 refine region4 [some 10,some 11,some 12,some 13] [Eqs (.pointer (some ⟨gs2 0,0,none⟩)),Eqs (.agg #[.bool n_3,.slice a_3 r_3.length c_3]),Eqs (.int .i64 (Int.sign (nm (tp pu qu) (tq qu)))),Eqs (.bool (decide ((Int.sign (nm (tp pu qu) (tq qu)))=0)))] [] [] (by kernel_rfl) hn rfl (by kernel_rfl) (by kernel_rfl) (by kernel_rfl) (by kernel_rfl) (by kernel_rfl) (by kernel_rfl) ⟨Eqs.mono4 _,Eqs.mono4 _,Eqs.mono4 _,Eqs.mono4 _,trivial⟩ ok_nil (IsOld.all (bx:=[]) trivial) (DisOld.all (bx:=[]) trivial) ?_ ?_
 ·exact ⟨.norm 10 rfl rfl rfl (fun a_ w_ _ t r R D _ _=>op_faQ fa_q0 ((R 6 rfl).trans f6)),.norm 11 rfl rfl rfl (fun a_ w_ _ t r R D _ _=>op_ldq0 (show a_.eval (.tmp 10)=.pointer (some ⟨gs2 0,0,none⟩) from D 0 rfl) (b6.keep t trivial)),.norm 12 rfl rfl rfl (fun a_ w_ _ t r R D _ _=>op_nsign (outn_eq (show a_.eval (.tmp 11)=.agg #[.bool n_3,.slice a_3 r_3.length c_3] from D 1 rfl) (G3.rl r) l3)),.norm 13 rfl rfl rfl (fun a_ w_ _ t r R D _ _=>op_eqlk (show a_.eval (.tmp 12)=.int .i64 (Int.sign (nm (tp pu qu) (tq qu))) from D 2 rfl)),trivial⟩
 intro a4 w4 gs4 hn4 hd4 hBt hr hR hP hX hU
 replace hn:=hn4;replace hd:=hd4.trans hd
 replace b2:=b2.keep hBt trivial
 replace b4:=b4.keep hBt trivial
 replace b6:=b6.keep hBt trivial
 replace f2:=(hR 2 rfl).trans f2
 replace f4:=(hR 4 rfl).trans f4
 replace f5:=(hR 5 rfl).trans f5
 replace f6:=(hR 6 rfl).trans f6
 have e13:a4.eval (.tmp 13)=.bool (decide ((Int.sign (nm (tp pu qu) (tq qu)))=0)):=hP 3 (by decide)
 have f13:=e13
 replace Ar:=Ar.rl hr
 replace Sr:=Sr.rl hr
 replace Dr:=Dr.rl hr
 replace Au:=Au.rl hr
 replace Su:=Su.rl hr
 replace Du:=Du.rl hr
 replace G3:=G3.rl hr
 replace K3:=K3.rl hr
 replace HB:=HB.trans (hBt.below HB.size (UpOld.all (bx:=[]) trivial))
 clear hBt hr hR hP hX hU
 refine wp_cond_split f13 (fun hc13=>?_) (fun hc13=>?_)
 ·skip
  exact absurd (sign_zero_iff.1 (of_decide_eq_true hc13)) hz
 ·skip
  refine wp_skip ?_
  refine wp_seq ?_
  refine region4 [some 15,some 16,some 7,none] [Eqs (.agg #[.bool nr,.slice ar mr cr,.slice br kr dr]),OutQ ((nm (tp pr qr) (tq qr))) ((dn (tp pr qr) (tq qr))) (6*(Br)+10),Tt,Tt] [⟨Q4,some 2,0,7,.agg #[.bool false,.slice none 0 0,.bool false,.slice none 0 0],some (3,16,1),[]⟩] [] (by kernel_rfl) hn rfl (by kernel_rfl) (by kernel_rfl) (by kernel_rfl) (by kernel_rfl) (by kernel_rfl) (by kernel_rfl) ⟨Eqs.mono4 _,OutQ.mono4 _ _ _,True.mono4,True.mono4,trivial⟩ (ok_cons Q4ok ok_nil) (IsOld.all (bx:=[⟨Q4,some 2,0,7,.agg #[.bool false,.slice none 0 0,.bool false,.slice none 0 0],some (3,16,1),[]⟩]) ⟨someNe,trivial⟩) (DisOld.all (bx:=[⟨Q4,some 2,0,7,.agg #[.bool false,.slice none 0 0,.bool false,.slice none 0 0],some (3,16,1),[]⟩]) ⟨someNe,trivial⟩) ?_ ?_
  ·exact ⟨.norm 15 rfl rfl rfl (fun a_ w_ _ t r R D _ _=>op_loadv R3ok ((R 2 rfl).trans f2) (b2.keep t ⟨someNe,trivial⟩)),.norm 16 rfl rfl rfl (fun a_ w_ _ t r R D _ _=>op_qread (Br:=Br) (isr_eq (show a_.eval (.tmp 15)=.agg #[.bool nr,.slice ar mr cr,.slice br kr dr] from D 0 rfl) (Ar.rl r) (Sr.rl r) Vr Lr Mr) (by omega)),.alloc 0 _ rfl rfl (.inl ⟨rfl,rfl⟩) rfl rfl rfl rfl rfl,.store 0 _ _ _ rfl rfl rfl rfl rfl rfl rfl (fun ia h=>by cases h;rfl) rfl rfl rfl OutQ.cs,trivial⟩
  intro a5 w5 gs5 hn5 hd5 hBt hr hR hP hX hU
  replace hn:=hn5;replace hd:=hd5.trans hd
  have ne4_7:(gs1 2)≠gs5 0:=by have h1:=b4.lt;have h2:=(hX 0 _ rfl).2.2.1 (by simp);omega
  replace b4:=b4.keep hBt ⟨someNe,trivial⟩
  replace b6:=b6.keep hBt ⟨someNe,trivial⟩
  obtain ⟨n_6,a_6,c_6,r_6,o_6,b_6,d_6,s_6,e16,G6,K6,l6,k6⟩:OutQ ((nm (tp pr qr) (tq qr))) ((dn (tp pr qr) (tq qr))) (6*(Br)+10) (a5.eval (.tmp 16)) w5:=hP 1 (by decide)
  have b7:BoxV Q4 w5 (gs5 0) (.agg #[.bool n_6,.slice a_6 r_6.length c_6,.bool o_6,.slice b_6 s_6.length d_6]):=boxv_of (hX 0 _ rfl).2.2.2 e16
  have f7:=(hX 0 _ rfl).1
  have u7:w.heap.size≤gs5 0:=Nat.le_trans HB.size ((hX 0 _ rfl).2.2.1 (by simp))
  replace f4:=(hR 4 rfl).trans f4
  replace f5:=(hR 5 rfl).trans f5
  replace f6:=(hR 6 rfl).trans f6
  replace Ar:=Ar.rl hr
  replace Sr:=Sr.rl hr
  replace Dr:=Dr.rl hr
  replace Au:=Au.rl hr
  replace Su:=Su.rl hr
  replace Du:=Du.rl hr
  replace G3:=G3.rl hr
  replace K3:=K3.rl hr
  replace HB:=HB.trans (hBt.below HB.size (UpOld.all (bx:=[⟨Q4,some 2,0,7,.agg #[.bool false,.slice none 0 0,.bool false,.slice none 0 0],some (3,16,1),[]⟩]) ⟨someNe,trivial⟩))
  clear hBt hr hR hP hX hU
  refine wp_seq ?_
  refine region4 [some 17,some 18,some 19,some 20,some 21,some 22,some 23,some 24,some 25,some 26,some 27,some 28,none,some 5] [Eqs (.pointer (some ⟨gs5 0,0,none⟩)),Eqs (.agg #[.bool n_6,.slice a_6 r_6.length c_6]),Eqs (.pointer (some ⟨gs2 0,2,none⟩)),Eqs (.agg #[.bool o_3,.slice b_3 s_3.length d_3]),OutN (((nm (tp pr qr) (tq qr))*(dn (tp pu qu) (tq qu)))) ((6*(Br)+10)+(6*(Bu)+10)+1),Eqs (.pointer (some ⟨gs5 0,2,none⟩)),Eqs (.agg #[.bool o_6,.slice b_6 s_6.length d_6]),Eqs (.pointer (some ⟨gs2 0,0,none⟩)),Eqs (.agg #[.bool n_3,.slice a_3 r_3.length c_3]),OutN (((dn (tp pr qr) (tq qr))*(nm (tp pu qu) (tq qu)))) ((6*(Br)+10)+(6*(Bu)+10)+1),OutQ ((nm ((nm (tp pr qr) (tq qr))*(dn (tp pu qu) (tq qu))) ((dn (tp pr qr) (tq qr))*(nm (tp pu qu) (tq qu))))) ((dn ((nm (tp pr qr) (tq qr))*(dn (tp pu qu) (tq qu))) ((dn (tp pr qr) (tq qr))*(nm (tp pu qu) (tq qu))))) (((6*(Br)+10)+(6*(Bu)+10)+1)+((6*(Br)+10)+(6*(Bu)+10)+1)),OutR ((nm ((nm (tp pr qr) (tq qr))*(dn (tp pu qu) (tq qu))) ((dn (tp pr qr) (tq qr))*(nm (tp pu qu) (tq qu))))) ((dn ((nm (tp pr qr) (tq qr))*(dn (tp pu qu) (tq qu))) ((dn (tp pr qr) (tq qr))*(nm (tp pu qu) (tq qu))))) (2*(((6*(Br)+10)+(6*(Bu)+10)+1)+((6*(Br)+10)+(6*(Bu)+10)+1))),Tt,Eqs ((.int .i64 0))] [⟨R3,none,(gs1 2),4,.agg #[.bool false,.slice none 0 0,.slice none 0 0],some (12,28,11),[]⟩] [] (by kernel_rfl) hn rfl (by kernel_rfl) (by kernel_rfl) (by kernel_rfl) (by kernel_rfl) (by kernel_rfl) (by kernel_rfl) ⟨Eqs.mono4 _,Eqs.mono4 _,Eqs.mono4 _,Eqs.mono4 _,OutN.mono4 _ _,Eqs.mono4 _,Eqs.mono4 _,Eqs.mono4 _,Eqs.mono4 _,OutN.mono4 _ _,OutQ.mono4 _ _ _,OutR.mono4 _ _ _,True.mono4,Eqs.mono4 _,trivial⟩ (ok_cons R3ok ok_nil) (IsOld.all (bx:=[⟨R3,none,(gs1 2),4,.agg #[.bool false,.slice none 0 0,.slice none 0 0],some (12,28,11),[]⟩]) ⟨fun _=>⟨f4,b4⟩,trivial⟩) (DisOld.all (bx:=[⟨R3,none,(gs1 2),4,.agg #[.bool false,.slice none 0 0,.slice none 0 0],some (12,28,11),[]⟩]) ⟨fun _=>trivial,trivial⟩) ?_ ?_
  ·exact ⟨.norm 17 rfl rfl rfl (fun a_ w_ _ t r R D _ _=>op_faQ fa_q0 ((R 7 rfl).trans f7)),.norm 18 rfl rfl rfl (fun a_ w_ _ t r R D _ _=>op_ldq0 (show a_.eval (.tmp 17)=.pointer (some ⟨gs5 0,0,none⟩) from D 0 rfl) (b7.keep t ⟨fun _=>ne4_7,trivial⟩)),.norm 19 rfl rfl rfl (fun a_ w_ _ t r R D _ _=>op_faQ fa_q1 ((R 6 rfl).trans f6)),.norm 20 rfl rfl rfl (fun a_ w_ _ t r R D _ _=>op_ldq1 (show a_.eval (.tmp 19)=.pointer (some ⟨gs2 0,2,none⟩) from D 2 rfl) (b6.keep t ⟨fun _=>ne4_6,trivial⟩)),.norm 21 rfl rfl rfl (fun a_ w_ _ t r R D _ _=>op_nmul (outn_eq (show a_.eval (.tmp 18)=.agg #[.bool n_6,.slice a_6 r_6.length c_6] from D 1 rfl) (G6.rl r) l6) (outn_eq (show a_.eval (.tmp 20)=.agg #[.bool o_3,.slice b_3 s_3.length d_3] from D 3 rfl) (K3.rl r) k3) (by omega) (by omega)),.norm 22 rfl rfl rfl (fun a_ w_ _ t r R D _ _=>op_faQ fa_q1 ((R 7 rfl).trans f7)),.norm 23 rfl rfl rfl (fun a_ w_ _ t r R D _ _=>op_ldq1 (show a_.eval (.tmp 22)=.pointer (some ⟨gs5 0,2,none⟩) from D 5 rfl) (b7.keep t ⟨fun _=>ne4_7,trivial⟩)),.norm 24 rfl rfl rfl (fun a_ w_ _ t r R D _ _=>op_faQ fa_q0 ((R 6 rfl).trans f6)),.norm 25 rfl rfl rfl (fun a_ w_ _ t r R D _ _=>op_ldq0 (show a_.eval (.tmp 24)=.pointer (some ⟨gs2 0,0,none⟩) from D 7 rfl) (b6.keep t ⟨fun _=>ne4_6,trivial⟩)),.norm 26 rfl rfl rfl (fun a_ w_ _ t r R D _ _=>op_nmul (outn_eq (show a_.eval (.tmp 23)=.agg #[.bool o_6,.slice b_6 s_6.length d_6] from D 6 rfl) (K6.rl r) k6) (outn_eq (show a_.eval (.tmp 25)=.agg #[.bool n_3,.slice a_3 r_3.length c_3] from D 8 rfl) (G3.rl r) l3) (by omega) (by omega)),.norm 27 rfl rfl rfl (fun a_ w_ _ t r R D _ _=>op_qmake (Bx:=(6*(Br)+10)+(6*(Bu)+10)+1) (By:=(6*(Br)+10)+(6*(Bu)+10)+1) (show OutN (((nm (tp pr qr) (tq qr))*(dn (tp pu qu) (tq qu)))) ((6*(Br)+10)+(6*(Bu)+10)+1) (a_.eval (.tmp 21)) w_ from D 4 rfl) (show OutN (((dn (tp pr qr) (tq qr))*(nm (tp pu qu) (tq qu)))) ((6*(Br)+10)+(6*(Bu)+10)+1) (a_.eval (.tmp 26)) w_ from D 9 rfl) (by omega) (Int.mul_ne_zero (dn_ne _ (tq_ne _)) hz)),.norm 28 rfl rfl rfl (fun a_ w_ _ t r R D _ _=>op_qtold (Bx:=((6*(Br)+10)+(6*(Bu)+10)+1)+((6*(Br)+10)+(6*(Bu)+10)+1)) (show OutQ ((nm ((nm (tp pr qr) (tq qr))*(dn (tp pu qu) (tq qu))) ((dn (tp pr qr) (tq qr))*(nm (tp pu qu) (tq qu))))) ((dn ((nm (tp pr qr) (tq qr))*(dn (tp pu qu) (tq qu))) ((dn (tp pr qr) (tq qr))*(nm (tp pu qu) (tq qu))))) (((6*(Br)+10)+(6*(Bu)+10)+1)+((6*(Br)+10)+(6*(Bu)+10)+1)) (a_.eval (.tmp 27)) w_ from D 10 rfl) (by omega) (dn_pos _ (Int.mul_ne_zero (dn_ne _ (tq_ne _)) hz))),.store 0 _ _ _ rfl rfl rfl rfl rfl rfl rfl (fun ia h=>by cases h) rfl rfl rfl OutR.cs,.norm 5 rfl rfl rfl (fun a_ w_ _ t r R D _ _=>op_assign rfl),trivial⟩
  intro a7 w7 gs7 hn7 hd7 hBt hr hR hP hX hU
  replace hn:=hn7;replace hd:=hd7.trans hd
  obtain ⟨n_8,a_8,c_8,r_8,b_8,d_8,s_8,e28,G8,K8,l8,k8⟩:OutR ((nm ((nm (tp pr qr) (tq qr))*(dn (tp pu qu) (tq qu))) ((dn (tp pr qr) (tq qr))*(nm (tp pu qu) (tq qu))))) ((dn ((nm (tp pr qr) (tq qr))*(dn (tp pu qu) (tq qu))) ((dn (tp pr qr) (tq qr))*(nm (tp pu qu) (tq qu))))) (2*(((6*(Br)+10)+(6*(Bu)+10)+1)+((6*(Br)+10)+(6*(Bu)+10)+1))) (a7.eval (.tmp 28)) w7:=hP 11 (by decide)
  have A8:=G8.ag;have S8:=K8.sl;have V8:=K8.val
  have b4:BoxV R3 w7 ((gs1 2)) (.agg #[.bool n_8,.slice a_8 r_8.length c_8,.slice b_8 s_8.length d_8]):=boxv_old ((hX 0 _ rfl).2.1 rfl) (hX 0 _ rfl).2.2.2 e28
  replace f4:a7.eval (.tmp 4) = _:=(hR 4 rfl).trans f4
  have e5:a7.eval (.tmp 5)=(.int .i64 0):=hP 13 (by decide)
  have f5:=e5
  replace Ar:=Ar.rl hr
  replace Sr:=Sr.rl hr
  replace Dr:=Dr.rl hr
  replace Au:=Au.rl hr
  replace Su:=Su.rl hr
  replace Du:=Du.rl hr
  replace G3:=G3.rl hr
  replace K3:=K3.rl hr
  replace G6:=G6.rl hr
  replace K6:=K6.rl hr
  replace HB:=HB.trans (hBt.below HB.size (UpOld.all (bx:=[⟨R3,none,(gs1 2),4,.agg #[.bool false,.slice none 0 0,.slice none 0 0],some (12,28,11),[]⟩]) ⟨fun _=>u4,trivial⟩))
  clear hBt hr hR hP hX hU
  refine wp_ret ?_
  repeat (first | refine then_ret ?_ | refine scope_ret ?_ | refine block_ret ?_)
  exact bodyPost_ret (v:=.tuple #[.agg #[.bool n_8,.slice a_8 r_8.length c_8,.slice b_8 s_8.length d_8],(.int .i64 0)]) (res_ct rfl f4 (lv_R3 b4) f5) hd ⟨_,rfl,⟨_,_,rfl,OutR.to (outr_eq rfl G8 K8 l8 k8) rfl rfl (by omega),rfl⟩,HB⟩
theorem has_q3div:Has Tryz.prog 6:=by unfold Has;kernel_rfl
theorem op_q3div {dst:Option Tmp} {ty:TypeId} {pos:String} {after:Array Edge} {guard:Option (Nat × Bool)} {a:Act} {w:World} {ats:Array TypeId} {i j:Nat} {Br:Nat} {pr qr:Int} (Hr:IsR pr qr Br (a.eval (.tmp i)) w) {Bu:Nat} {pu qu:Int} (Hu:IsR pu qu Bu (a.eval (.tmp j)) w) (hL:Br+Bu≤3000) (hz:(nm (tp pu qu) (tq qu))≠0) :
  Does Tryz.prog { dst,op:=.call { callee:=.value (.func 6),args:=#[.tmp i,.tmp j],argTypes:=ats },type:=ty,pos,after,guard } a.eval w fun v w'=>Below w.heap.size w w'∧(Tup2 (OutR (nm ((nm (tp pr qr) (tq qr))*(dn (tp pu qu) (tq qu))) ((dn (tp pr qr) (tq qr))*(nm (tp pu qu) (tq qu)))) (dn ((nm (tp pr qr) (tq qr))*(dn (tp pu qu) (tq qu))) ((dn (tp pr qr) (tq qr))*(nm (tp pu qu) (tq qu)))) (24*(Br+Bu)+100)) (Eqs (.int .i64 0))) v w' := by
 obtain ⟨nr,ar,mr,cr,rs,br,kr,dr,rt,er,Ar,Sr,Vr,Lr,Mr⟩:=Hr
 obtain ⟨nu,au,mu,cu,us,bu,ku,du,ut,eu,Au,Su,Vu,Lu,Mu⟩:=Hu
 refine does_call has_q3div _ (by simp only [List.map_toArray,List.map_cons,List.map_nil,er,eu]) ((q3div_z w Br _ _ _ _ _ _ Ar Lr _ _ _ _ _ Sr Vr Mr Bu _ _ _ _ _ _ Au Lu _ _ _ _ _ Su Vu Mu hL hz).mono ?_)
 rintro e w' ⟨v,rfl,h1,hb⟩
 exact ⟨_,rfl,hb,h1⟩
set_option maxRecDepth 20000 in
set_option maxHeartbeats 2000000 in
theorem q3div0_z (w:World) (Br:Nat) (nr:Bool) (ar:Option Addr) (mr cr:Nat) (rs:List Int) (pr:Int) (Ar:Ag w nr ar mr cr rs pr) (Lr:rs.length≤Br) (br:Option Addr) (kr dr:Nat) (rt:List Int) (qr:Int) (Sr:Sl w (.slice br kr dr) rt) (Vr:val rt=qr) (_Mr:rt.length≤Br) (Bu:Nat) (nu:Bool) (au:Option Addr) (mu cu:Nat) (us:List Int) (pu:Int) (Au:Ag w nu au mu cu us pu) (Lu:us.length≤Bu) (bu:Option Addr) (ku du:Nat) (ut:List Int) (qu:Int) (Su:Sl w (.slice bu ku du) ut) (Vu:val ut=qu) (Mu:ut.length≤Bu) (hL:Br+Bu≤3000) (hz:(nm (tp pu qu) (tq qu))=0) :
  Calls Tryz.prog 6 #[.agg #[.bool nr,.slice ar mr cr,.slice br kr dr],.agg #[.bool nu,.slice au mu cu,.slice bu ku du]] w fun e w'=>∃ v,e=.returned v∧(Tup2 (Eqs (.agg #[.bool false,.slice none 0 0,.slice none 0 0])) (Eqs (.int .i64 20))) v w'∧Below w.heap.size w w' := by
 go_enter Tryz.func6,Tryz.ntmps6
 generalize hA:(Act.mk _ _)=aa
 have hn:aa.tmps.size=29:=by rw [←hA];rfl
 have hd:aa.defers = []:=by rw [←hA]
 have f0:aa.eval (.tmp 0)=.agg #[.bool nr,.slice ar mr cr,.slice br kr dr]:=by rw [←hA];rfl
 have f1:aa.eval (.tmp 1)=.agg #[.bool nu,.slice au mu cu,.slice bu ku du]:=by rw [←hA];rfl
 clear hA
 have HB:Below w.heap.size w w:=Below.refl _ _
 have Dr:Ag w false br kr dr rt qr:=⟨Sr,Vr⟩
 have Du:Ag w false bu ku du ut qu:=⟨Su,Vu⟩
 refine wp_seq ?_
 refine region4 [some 2,some 3,some 4,some 5] [Tt,Tt,Tt,Eqs ((.int .i64 0))] [⟨R3,some 0,0,2,.agg #[.bool nr,.slice ar mr cr,.slice br kr dr],none,[]⟩,⟨R3,some 1,0,3,.agg #[.bool nu,.slice au mu cu,.slice bu ku du],none,[]⟩,⟨R3,some 2,0,4,.agg #[.bool false,.slice none 0 0,.slice none 0 0],none,[]⟩] [] (by kernel_rfl) hn rfl (by kernel_rfl) (by kernel_rfl) (by kernel_rfl) (by kernel_rfl) (by kernel_rfl) (by kernel_rfl) ⟨True.mono4,True.mono4,True.mono4,Eqs.mono4 _,trivial⟩ (ok_cons R3ok (ok_cons R3ok (ok_cons R3ok ok_nil))) (IsOld.all (bx:=[⟨R3,some 0,0,2,.agg #[.bool nr,.slice ar mr cr,.slice br kr dr],none,[]⟩,⟨R3,some 1,0,3,.agg #[.bool nu,.slice au mu cu,.slice bu ku du],none,[]⟩,⟨R3,some 2,0,4,.agg #[.bool false,.slice none 0 0,.slice none 0 0],none,[]⟩]) ⟨someNe,someNe,someNe,trivial⟩) (DisOld.all (bx:=[⟨R3,some 0,0,2,.agg #[.bool nr,.slice ar mr cr,.slice br kr dr],none,[]⟩,⟨R3,some 1,0,3,.agg #[.bool nu,.slice au mu cu,.slice bu ku du],none,[]⟩,⟨R3,some 2,0,4,.agg #[.bool false,.slice none 0 0,.slice none 0 0],none,[]⟩]) ⟨someNe,someNe,someNe,trivial⟩) ?_ ?_
 ·exact ⟨.alloc 0 _ rfl rfl (.inr ⟨_,rfl,r3_cs,fun a_ hR=>(hR 0 rfl).trans f0⟩) rfl rfl rfl rfl rfl,.alloc 1 _ rfl rfl (.inr ⟨_,rfl,r3_cs,fun a_ hR=>(hR 1 rfl).trans f1⟩) rfl rfl rfl rfl rfl,.alloc 2 _ rfl rfl (.inl ⟨rfl,rfl⟩) rfl rfl rfl rfl rfl,.norm 5 rfl rfl rfl (fun a_ w_ _ t r R D _ _=>op_assign rfl),trivial⟩
 intro a1 w1 gs1 hn1 hd1 hBt hr hR hP hX hU
 replace hn:=hn1;replace hd:=hd1.trans hd
 have ne2_4:gs1 0≠gs1 2:=hU 0 2 (by simp) (by simp) (by decide)
 have ne3_4:gs1 1≠gs1 2:=hU 1 2 (by simp) (by simp) (by decide)
 have b2:BoxV R3 w1 (gs1 0) (.agg #[.bool nr,.slice ar mr cr,.slice br kr dr]):=(hX 0 _ rfl).2.2.2
 have f2:=(hX 0 _ rfl).1
 have u2:w.heap.size≤gs1 0:=Nat.le_trans HB.size ((hX 0 _ rfl).2.2.1 (by simp))
 have b3:BoxV R3 w1 (gs1 1) (.agg #[.bool nu,.slice au mu cu,.slice bu ku du]):=(hX 1 _ rfl).2.2.2
 have f3:=(hX 1 _ rfl).1
 have u3:w.heap.size≤gs1 1:=Nat.le_trans HB.size ((hX 1 _ rfl).2.2.1 (by simp))
 have b4:BoxV R3 w1 (gs1 2) (.agg #[.bool false,.slice none 0 0,.slice none 0 0]):=(hX 2 _ rfl).2.2.2
 have f4:=(hX 2 _ rfl).1
 have u4:w.heap.size≤gs1 2:=Nat.le_trans HB.size ((hX 2 _ rfl).2.2.1 (by simp))
 have e5:a1.eval (.tmp 5)=(.int .i64 0):=hP 3 (by decide)
 have f5:=e5
 replace Ar:=Ar.rl hr
 replace Sr:=Sr.rl hr
 replace Dr:=Dr.rl hr
 replace Au:=Au.rl hr
 replace Su:=Su.rl hr
 replace Du:=Du.rl hr
 replace HB:=HB.trans (hBt.below HB.size (UpOld.all (bx:=[⟨R3,some 0,0,2,.agg #[.bool nr,.slice ar mr cr,.slice br kr dr],none,[]⟩,⟨R3,some 1,0,3,.agg #[.bool nu,.slice au mu cu,.slice bu ku du],none,[]⟩,⟨R3,some 2,0,4,.agg #[.bool false,.slice none 0 0,.slice none 0 0],none,[]⟩]) ⟨someNe,someNe,someNe,trivial⟩))
 clear hBt hr hR hP hX hU
 refine wp_seq ?_
 refine region4 [some 8,some 9,some 6,none] [Eqs (.agg #[.bool nu,.slice au mu cu,.slice bu ku du]),OutQ ((nm (tp pu qu) (tq qu))) ((dn (tp pu qu) (tq qu))) (6*(Bu)+10),Tt,Tt] [⟨Q4,some 2,0,6,.agg #[.bool false,.slice none 0 0,.bool false,.slice none 0 0],some (3,9,1),[]⟩] [] (by kernel_rfl) hn rfl (by kernel_rfl) (by kernel_rfl) (by kernel_rfl) (by kernel_rfl) (by kernel_rfl) (by kernel_rfl) ⟨Eqs.mono4 _,OutQ.mono4 _ _ _,True.mono4,True.mono4,trivial⟩ (ok_cons Q4ok ok_nil) (IsOld.all (bx:=[⟨Q4,some 2,0,6,.agg #[.bool false,.slice none 0 0,.bool false,.slice none 0 0],some (3,9,1),[]⟩]) ⟨someNe,trivial⟩) (DisOld.all (bx:=[⟨Q4,some 2,0,6,.agg #[.bool false,.slice none 0 0,.bool false,.slice none 0 0],some (3,9,1),[]⟩]) ⟨someNe,trivial⟩) ?_ ?_
 ·exact ⟨.norm 8 rfl rfl rfl (fun a_ w_ _ t r R D _ _=>op_loadv R3ok ((R 3 rfl).trans f3) (b3.keep t ⟨someNe,trivial⟩)),.norm 9 rfl rfl rfl (fun a_ w_ _ t r R D _ _=>op_qread (Br:=Bu) (isr_eq (show a_.eval (.tmp 8)=.agg #[.bool nu,.slice au mu cu,.slice bu ku du] from D 0 rfl) (Au.rl r) (Su.rl r) Vu Lu Mu) (by omega)),.alloc 0 _ rfl rfl (.inl ⟨rfl,rfl⟩) rfl rfl rfl rfl rfl,.store 0 _ _ _ rfl rfl rfl rfl rfl rfl rfl (fun ia h=>by cases h;rfl) rfl rfl rfl OutQ.cs,trivial⟩
 intro a2 w2 gs2 hn2 hd2 hBt hr hR hP hX hU
 replace hn:=hn2;replace hd:=hd2.trans hd
 have ne4_6:(gs1 2)≠gs2 0:=by have h1:=b4.lt;have h2:=(hX 0 _ rfl).2.2.1 (by simp);omega
 replace b2:=b2.keep hBt ⟨someNe,trivial⟩
 replace b4:=b4.keep hBt ⟨someNe,trivial⟩
 obtain ⟨n_3,a_3,c_3,r_3,o_3,b_3,d_3,s_3,e9,G3,K3,l3,k3⟩:OutQ ((nm (tp pu qu) (tq qu))) ((dn (tp pu qu) (tq qu))) (6*(Bu)+10) (a2.eval (.tmp 9)) w2:=hP 1 (by decide)
 have b6:BoxV Q4 w2 (gs2 0) (.agg #[.bool n_3,.slice a_3 r_3.length c_3,.bool o_3,.slice b_3 s_3.length d_3]):=boxv_of (hX 0 _ rfl).2.2.2 e9
 have f6:=(hX 0 _ rfl).1
 have u6:w.heap.size≤gs2 0:=Nat.le_trans HB.size ((hX 0 _ rfl).2.2.1 (by simp))
 replace f2:=(hR 2 rfl).trans f2
 replace f4:=(hR 4 rfl).trans f4
 replace f5:=(hR 5 rfl).trans f5
 replace Ar:=Ar.rl hr
 replace Sr:=Sr.rl hr
 replace Dr:=Dr.rl hr
 replace Au:=Au.rl hr
 replace Su:=Su.rl hr
 replace Du:=Du.rl hr
 replace HB:=HB.trans (hBt.below HB.size (UpOld.all (bx:=[⟨Q4,some 2,0,6,.agg #[.bool false,.slice none 0 0,.bool false,.slice none 0 0],some (3,9,1),[]⟩]) ⟨someNe,trivial⟩))
 clear hBt hr hR hP hX hU
 refine wp_seq ?_
 refine wp_seq ?_
 refine region4 [some 10,some 11,some 12,some 13] [Eqs (.pointer (some ⟨gs2 0,0,none⟩)),Eqs (.agg #[.bool n_3,.slice a_3 r_3.length c_3]),Eqs (.int .i64 (Int.sign (nm (tp pu qu) (tq qu)))),Eqs (.bool (decide ((Int.sign (nm (tp pu qu) (tq qu)))=0)))] [] [] (by kernel_rfl) hn rfl (by kernel_rfl) (by kernel_rfl) (by kernel_rfl) (by kernel_rfl) (by kernel_rfl) (by kernel_rfl) ⟨Eqs.mono4 _,Eqs.mono4 _,Eqs.mono4 _,Eqs.mono4 _,trivial⟩ ok_nil (IsOld.all (bx:=[]) trivial) (DisOld.all (bx:=[]) trivial) ?_ ?_
 ·exact ⟨.norm 10 rfl rfl rfl (fun a_ w_ _ t r R D _ _=>op_faQ fa_q0 ((R 6 rfl).trans f6)),.norm 11 rfl rfl rfl (fun a_ w_ _ t r R D _ _=>op_ldq0 (show a_.eval (.tmp 10)=.pointer (some ⟨gs2 0,0,none⟩) from D 0 rfl) (b6.keep t trivial)),.norm 12 rfl rfl rfl (fun a_ w_ _ t r R D _ _=>op_nsign (outn_eq (show a_.eval (.tmp 11)=.agg #[.bool n_3,.slice a_3 r_3.length c_3] from D 1 rfl) (G3.rl r) l3)),.norm 13 rfl rfl rfl (fun a_ w_ _ t r R D _ _=>op_eqlk (show a_.eval (.tmp 12)=.int .i64 (Int.sign (nm (tp pu qu) (tq qu))) from D 2 rfl)),trivial⟩
 intro a4 w4 gs4 hn4 hd4 hBt hr hR hP hX hU
 replace hn:=hn4;replace hd:=hd4.trans hd
 replace b2:=b2.keep hBt trivial
 replace b4:=b4.keep hBt trivial
 replace b6:=b6.keep hBt trivial
 replace f2:=(hR 2 rfl).trans f2
 replace f4:=(hR 4 rfl).trans f4
 replace f5:=(hR 5 rfl).trans f5
 replace f6:=(hR 6 rfl).trans f6
 have e13:a4.eval (.tmp 13)=.bool (decide ((Int.sign (nm (tp pu qu) (tq qu)))=0)):=hP 3 (by decide)
 have f13:=e13
 replace Ar:=Ar.rl hr
 replace Sr:=Sr.rl hr
 replace Dr:=Dr.rl hr
 replace Au:=Au.rl hr
 replace Su:=Su.rl hr
 replace Du:=Du.rl hr
 replace G3:=G3.rl hr
 replace K3:=K3.rl hr
 replace HB:=HB.trans (hBt.below HB.size (UpOld.all (bx:=[]) trivial))
 clear hBt hr hR hP hX hU
 refine wp_cond_split f13 (fun hc13=>?_) (fun hc13=>?_)
 ·skip
  refine wp_seq ?_
  refine region4 [some 14,none,some 5] [Eqs (.agg #[.bool false,.slice none 0 0,.slice none 0 0]),Tt,Eqs ((.int .i64 20))] [⟨R3,none,(gs1 2),4,.agg #[.bool false,.slice none 0 0,.slice none 0 0],some (1,14,0),[]⟩] [] (by kernel_rfl) hn rfl (by kernel_rfl) (by kernel_rfl) (by kernel_rfl) (by kernel_rfl) (by kernel_rfl) (by kernel_rfl) ⟨Eqs.mono4 _,True.mono4,Eqs.mono4 _,trivial⟩ (ok_cons R3ok ok_nil) (IsOld.all (bx:=[⟨R3,none,(gs1 2),4,.agg #[.bool false,.slice none 0 0,.slice none 0 0],some (1,14,0),[]⟩]) ⟨fun _=>⟨f4,b4⟩,trivial⟩) (DisOld.all (bx:=[⟨R3,none,(gs1 2),4,.agg #[.bool false,.slice none 0 0,.slice none 0 0],some (1,14,0),[]⟩]) ⟨fun _=>trivial,trivial⟩) ?_ ?_
  ·exact ⟨.norm 14 rfl rfl rfl (fun a_ w_ _ t r R D _ _=>op_bR0),.store 0 _ _ _ rfl rfl rfl rfl rfl rfl rfl (fun ia h=>by cases h) rfl rfl rfl (eqs_cs r3_cs),.norm 5 rfl rfl rfl (fun a_ w_ _ t r R D _ _=>op_assign rfl),trivial⟩
  intro a5 w5 gs5 hn5 hd5 hBt hr hR hP hX hU
  replace hn:=hn5;replace hd:=hd5.trans hd
  replace b2:=b2.keep hBt ⟨fun _=>ne2_4.symm,trivial⟩
  replace b6:=b6.keep hBt ⟨fun _=>ne4_6,trivial⟩
  have e14:a5.eval (.tmp 14)=.agg #[.bool false,.slice none 0 0,.slice none 0 0]:=hP 0 (by decide)
  have b4:BoxV R3 w5 ((gs1 2)) (.agg #[.bool false,.slice none 0 0,.slice none 0 0]):=boxv_old ((hX 0 _ rfl).2.1 rfl) (hX 0 _ rfl).2.2.2 e14
  replace f4:a5.eval (.tmp 4) = _:=(hR 4 rfl).trans f4
  replace f2:=(hR 2 rfl).trans f2
  replace f6:=(hR 6 rfl).trans f6
  have e5:a5.eval (.tmp 5)=(.int .i64 20):=hP 2 (by decide)
  have f5:=e5
  replace Ar:=Ar.rl hr
  replace Sr:=Sr.rl hr
  replace Dr:=Dr.rl hr
  replace Au:=Au.rl hr
  replace Su:=Su.rl hr
  replace Du:=Du.rl hr
  replace G3:=G3.rl hr
  replace K3:=K3.rl hr
  replace HB:=HB.trans (hBt.below HB.size (UpOld.all (bx:=[⟨R3,none,(gs1 2),4,.agg #[.bool false,.slice none 0 0,.slice none 0 0],some (1,14,0),[]⟩]) ⟨fun _=>u4,trivial⟩))
  clear hBt hr hR hP hX hU
  refine wp_ret ?_
  repeat (first | refine then_ret ?_ | refine scope_ret ?_ | refine block_ret ?_)
  exact bodyPost_ret (v:=.tuple #[.agg #[.bool false,.slice none 0 0,.slice none 0 0],(.int .i64 20)]) (res_ct rfl f4 (lv_R3 b4) f5) hd ⟨_,rfl,⟨_,_,rfl,rfl,rfl⟩,HB⟩
 ·skip
  exact absurd (sign_zero_iff.2 hz) (of_decide_eq_false hc13)
theorem op_q3div0 {dst:Option Tmp} {ty:TypeId} {pos:String} {after:Array Edge} {guard:Option (Nat × Bool)} {a:Act} {w:World} {ats:Array TypeId} {i j:Nat} {Br:Nat} {pr qr:Int} (Hr:IsR pr qr Br (a.eval (.tmp i)) w) {Bu:Nat} {pu qu:Int} (Hu:IsR pu qu Bu (a.eval (.tmp j)) w) (hL:Br+Bu≤3000) (hz:(nm (tp pu qu) (tq qu))=0) :
  Does Tryz.prog { dst,op:=.call { callee:=.value (.func 6),args:=#[.tmp i,.tmp j],argTypes:=ats },type:=ty,pos,after,guard } a.eval w fun v w'=>Below w.heap.size w w'∧(Tup2 (Eqs (.agg #[.bool false,.slice none 0 0,.slice none 0 0])) (Eqs (.int .i64 20))) v w' := by
 obtain ⟨nr,ar,mr,cr,rs,br,kr,dr,rt,er,Ar,Sr,Vr,Lr,Mr⟩:=Hr
 obtain ⟨nu,au,mu,cu,us,bu,ku,du,ut,eu,Au,Su,Vu,Lu,Mu⟩:=Hu
 refine does_call has_q3div _ (by simp only [List.map_toArray,List.map_cons,List.map_nil,er,eu]) ((q3div0_z w Br _ _ _ _ _ _ Ar Lr _ _ _ _ _ Sr Vr Mr Bu _ _ _ _ _ _ Au Lu _ _ _ _ _ Su Vu Mu hL hz).mono ?_)
 rintro e w' ⟨v,rfl,h1,hb⟩
 exact ⟨_,rfl,hb,h1⟩
end Lm
end Go.Proofs.YtpofkigboedliaaGreat

namespace Go.Proofs.YtpofkigboedliaaGreat
namespace Lm
open Go Go.RowKit
structure Bw (w1 w:World):Prop where
  h:Below w1.heap.size w1 w
theorem Bw.below {w1 w w' : World} (b:Bw w1 w) (hb:Below w.heap.size w w'):Bw w1 w' := ⟨b.h.trans (hb.mono b.h.size)⟩
theorem Bw.touch {w1 w w' : World} {M:Nat} (b:Bw w1 w) (t:Touch w w' M) (hM:w1.heap.size≤M):Bw w1 w' := ⟨b.h.trans (t.below hM b.h.size)⟩
theorem Bw.touch2 {w1 w w' : World} {L M:Nat} (b:Bw w1 w) (t:Touch2 w w' L M) (hL:w1.heap.size≤L) (hM:w1.heap.size≤M):Bw w1 w' := ⟨b.h.trans (t.below hL hM b.h.size)⟩
theorem Bw.kp {w1 w w' : World} {p:Nat} {bs:List Nat} (b:Bw w1 w) (k:Kp w w' p bs) (hp:w1.heap.size≤p) (hj:∀ j,j ∈ bs→w1.heap.size≤j):Bw w1 w' := ⟨b.h.trans (k.below hp hj b.h.size)⟩
theorem LendN.touch2 {w w' : World} {L M N:Nat} (h:LendN w L) (t:Touch2 w w' M N) (h1:L≠M) (h2:L≠N):LendN w' L:=(t.other L h.lt h1 h2).trans h
theorem LendS.touch2 {w w' : World} {L g M N:Nat} {xs:List Int} (h:LendS w L g xs) (t:Touch2 w w' M N) (h1:L≠M) (h2:L≠N) (h3:g≠M) (h4:g≠N):LendS w' L g xs:=by
  obtain ⟨h5,cur,hh,r⟩:=h
  exact ⟨by rw [t.other L (lt_of_heap h5) h1 h2];exact h5,cur,by rw [t.other g (lt_of_heap hh) h3 h4];exact hh,r⟩
theorem Bs.touch2 {w w' : World} {p Q n L M:Nat} {bs:List Nat} (h:Bs w p Q bs n) (t:Touch2 w w' L M) (h1:p≠L) (h2:p≠M) (h3:L ∉ bs) (h4:M ∉ bs):Bs w' p Q bs n:=by
  obtain ⟨rv,lv,mv,e,hk⟩:=h
  exact ⟨rv,lv,mv,e,hk.kept (t.other p hk.lt h1 h2) (fun j hj=>t.other j (hk.low j hj).2 (fun e=>h3 (e ▸ hj)) (fun e=>h4 (e ▸ hj))) t.size⟩
theorem pne {a a' : Act} {d k:Nat} {v x:Value} (h:Act.put a (some d) v=a') (hk:d≠k) (f:a.eval (.tmp k)=x):a'.eval (.tmp k)=x:=by
  rw [←h]
  exact (eval_put_ne hk).trans f
theorem add_eq (a c:Int) {b d:Int} (hb:b≠0) (hd:d≠0):nm (a*d+c*b) (b*d)=nm (nm a b*dn c d+nm c d*dn a b) (dn a b*dn c d)∧dn (a*d+c*b) (b*d)=dn (nm a b*dn c d+nm c d*dn a b) (dn a b*dn c d):=by
  refine low_eq (Int.mul_ne_zero hb hd) (Int.mul_ne_zero (dn_ne a hb) (dn_ne c hd)) ?_
  have h1:=low_cross a hb
  have h2:=low_cross c hd
  grind
theorem sub_eq (a c:Int) {b d:Int} (hb:b≠0) (hd:d≠0):nm (a*d - c*b) (b*d)=nm (nm a b*dn c d+-nm c d*dn a b) (dn a b*dn c d)∧dn (a*d - c*b) (b*d)=dn (nm a b*dn c d+-nm c d*dn a b) (dn a b*dn c d):=by
  refine low_eq (Int.mul_ne_zero hb hd) (Int.mul_ne_zero (dn_ne a hb) (dn_ne c hd)) ?_
  have h1:=low_cross a hb
  have h2:=low_cross c hd
  grind
theorem mul_eq (a c:Int) {b d:Int} (hb:b≠0) (hd:d≠0):nm (a*c) (b*d)=nm (nm a b*nm c d) (dn a b*dn c d)∧dn (a*c) (b*d)=dn (nm a b*nm c d) (dn a b*dn c d):=by
  refine low_eq (Int.mul_ne_zero hb hd) (Int.mul_ne_zero (dn_ne a hb) (dn_ne c hd)) ?_
  have h1:=low_cross a hb
  have h2:=low_cross c hd
  grind
theorem nm_zero_iff {c d:Int} (hd:d≠0):nm c d=0↔c=0:=by
  have h:=low_cross c hd
  have h2:=dn_ne c hd
  constructor
  · intro e
    rw [e,Int.zero_mul] at h
    rcases Int.mul_eq_zero.1 h.symm with h3 | h3
    · exact h3
    · exact absurd h3 h2
  · intro e
    rw [e,Int.zero_mul] at h
    rcases Int.mul_eq_zero.1 h with h3 | h3
    · rw [e];exact h3
    · exact absurd h3 hd
theorem div_eq (a:Int) {b c d:Int} (hb:b≠0) (hd:d≠0) (hc:c≠0):nm (a*d) (b*c)=nm (nm a b*dn c d) (dn a b*nm c d)∧dn (a*d) (b*c)=dn (nm a b*dn c d) (dn a b*nm c d):=by
  refine low_eq (Int.mul_ne_zero hb hc) (Int.mul_ne_zero (dn_ne a hb) (fun e=>hc ((nm_zero_iff hd).1 e))) ?_
  have h1:=low_cross a hb
  have h2:=low_cross c hd
  grind
theorem cmpI_scale {k x y:Int} (hk:0<k):cmpI (k*x) (k*y)=cmpI x y:=by
  refine cmpI_same ?_ ?_
  · exact Int.mul_lt_mul_left hk
  · exact Int.mul_eq_mul_left_iff (by omega)
theorem cmp_low (a c:Int) {b d:Int} (hb:0<b) (hd:0<d):cmpI (nm a b*dn c d) (nm c d*dn a b)=cmpI (a*d) (c*b):=by
  obtain ⟨g,a',b',hg,rfl,rfl,e1,e2,_⟩:=nd_pos (x:=a) hb
  obtain ⟨h,c',d',hh,rfl,rfl,e3,e4,_⟩:=nd_pos (x:=c) hd
  rw [e1,e2,e3,e4,←cmpI_scale (Int.mul_pos hg hh) (x:=a'*d')]
  congr 1 <;> grind
def dP (a b c d:Int):Int:=if c=0 then 0 else nm (a*d) (b*c)
def dQ (a b c d:Int):Int:=if c=0 then 0 else dn (a*d) (b*c)
def dE (c:Int):Int:=if c=0 then 20 else 0
theorem frr_zero {L:Nat} (w' : World) {K:Nat} (hK:K≤w'.heap.size):FrR K 0 0 L (.agg #[.bool false,.slice none 0 0,.slice none 0 0]) w' :=
  ⟨w'.heap.size,Nat.le_refl _,false,none,0,[],none,0,[],w'.heap.size,w'.heap.size,w'.heap.size,w'.heap.size,rfl,(li_nil _ _ _).wfr (wh_nil _),((li_nil _ _ _).wfr (wh_nil _)).fr,⟨hK,Nat.le_refl _,hK,Nat.le_refl _⟩,.inl (Nat.le_refl _),by simp,by simp⟩
section
variable {dst:Option Tmp} {ty:TypeId} {pos:String} {after:Array Edge} {guard:Option (Nat × Bool)} {a:Act} {w:World} {ats:Array TypeId} {i j:Nat} {Br Bu:Nat} {pr qr pu qu:Int}
theorem op_rdivU (Hr:IsR pr qr Br (a.eval (.tmp i)) w) (Hu:IsR pu qu Bu (a.eval (.tmp j)) w) (hL:2*(Br+Bu+4)≤100000) :
    Does Tryz.prog { dst,op:=.call { callee:=.value (.func 11),args:=#[.tmp i,.tmp j],argTypes:=ats },type:=ty,pos,after,guard } a.eval w fun v w'=>Below w.heap.size w w'∧(Tup2 (FrR w.heap.size (dP (tp pr qr) (tq qr) (tp pu qu) (tq qu)) (dQ (tp pr qr) (tq qr) (tp pu qu) (tq qu)) (2*(Br+Bu+4))) (Eqs (.int .i64 (dE (tp pu qu))))) v w' := by
  by_cases h0:tp pu qu=0
  · refine (op_rdiv0 Hr Hu hL h0).mono ?_
    rintro v w' ⟨hb,x,y,e,h1,h2⟩
    cases h1
    simp only [dP,dQ,dE,if_pos h0]
    exact ⟨hb,_,y,e,frr_zero _ hb.size,h2⟩
  · have:=op_rdivF (dst:=dst) (ty:=ty) (pos:=pos) (after:=after) (guard:=guard) (ats:=ats) Hr Hu hL h0
    simpa only [dP,dQ,dE,if_neg h0] using this
theorem op_q3divU (Hr:IsR pr qr Br (a.eval (.tmp i)) w) (Hu:IsR pu qu Bu (a.eval (.tmp j)) w) (hL:Br+Bu≤3000) :
    Does Tryz.prog { dst,op:=.call { callee:=.value (.func 6),args:=#[.tmp i,.tmp j],argTypes:=ats },type:=ty,pos,after,guard } a.eval w fun v w'=>Below w.heap.size w w'∧(Tup2 (OutR (dP (tp pr qr) (tq qr) (tp pu qu) (tq qu)) (dQ (tp pr qr) (tq qr) (tp pu qu) (tq qu)) (24*(Br+Bu)+100)) (Eqs (.int .i64 (dE (tp pu qu))))) v w' := by
  by_cases h0:tp pu qu=0
  · refine (op_q3div0 Hr Hu hL ((nm_zero_iff (tq_ne qu)).2 h0)).mono ?_
    rintro v w' ⟨hb,x,y,e,h1,h2⟩
    cases h1
    simp only [dP,dQ,dE,if_pos h0]
    obtain ⟨_,_,o⟩:=frr_zero (L:=24*(Br+Bu)+100) w' (Nat.le_refl _)
    exact ⟨hb,_,y,e,o.out,h2⟩
  · have:=op_q3div (dst:=dst) (ty:=ty) (pos:=pos) (after:=after) (guard:=guard) (ats:=ats) Hr Hu hL (fun e=>h0 ((nm_zero_iff (tq_ne qu)).1 e))
    rw [←(div_eq (tp pr qr) (tq_ne qr) (tq_ne qu) h0).1,←(div_eq (tp pr qr) (tq_ne qr) (tq_ne qu) h0).2] at this
    simpa only [dP,dQ,dE,if_neg h0] using this
theorem numr_z (w:World) (u:Int):Calls Tryz.prog 15 #[.int .i64 u] w fun e w'=>e=.returned (.int .i64 u)∧w' = w:=by
  go_enter Tryz.func15,Tryz.ntmps15
  go_wp2
  go_ret
  exact ⟨rfl,rfl⟩
theorem has_numr:Has Tryz.prog 15:=by unfold Has;kernel_rfl
theorem op_numr {u:Int} (h:a.eval (.tmp i)=.int .i64 u) :
    Does Tryz.prog { dst,op:=.call { callee:=.value (.func 15),args:=#[.tmp i],argTypes:=ats },type:=ty,pos,after,guard } a.eval w fun v w'=>Below w.heap.size w w'∧Eqs (.int .i64 u) v w' := by
  refine does_call has_numr _ (by simp only [List.map_toArray,List.map_cons,List.map_nil,h]) ((numr_z w u).mono ?_)
  rintro e w' ⟨rfl,rfl⟩
  exact ⟨_,rfl,Below.refl _ _,rfl⟩
end
end Lm
end Go.Proofs.YtpofkigboedliaaGreat

