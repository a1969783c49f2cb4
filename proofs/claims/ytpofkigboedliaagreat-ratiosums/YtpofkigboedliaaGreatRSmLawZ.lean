/-
  The given statement on RatioSums, for every input: the call answers true, and each argument reads behind it as it read before. No condition beyond the statement's own. Beside it: RatioSums answers true, whatever two fractions it is handed.
-/
import Derived.Deep.LoopGhost
import Derived.Test.YtpofkigboedliaaGreatRows
import Derived.ProofKit
import Derived.OpenShut
import Derived.ShutString
import Derived.ChangeOld
import Derived.SizedLaws
import Derived.Lib.SmallJoins
import Derived.Test.YtpofkigboedliaaGreatRSmLawZ4
namespace Go.Proofs.YtpofkigboedliaaGreat
namespace Lm
open Go Go.RowKit
set_option maxRecDepth 20000 in
set_option maxHeartbeats 8000000 in
theorem rsums_law (w:World) (nr:Bool) (ar:Option Addr) (mr cr:Nat) (rs:List Int) (pr:Int) (br:Option Addr) (kr dr:Nat) (rt:List Int) (qr:Int) (nu:Bool) (au:Option Addr) (mu cu:Nat) (us:List Int) (pu:Int) (bu:Option Addr) (ku du:Nat) (ut:List Int) (qu:Int) (Ar:Ag w nr ar mr cr rs pr) (Sr:Sl w (.slice br kr dr) rt) (Vr:val rt=qr) (Au:Ag w nu au mu cu us pu) (Su:Sl w (.slice bu ku du) ut) (Vu:val ut=qu) (gr35:mr≤35184372088832) (jr35:kr≤35184372088832) (gu35:mu≤35184372088832) (ju35:ku≤35184372088832) :
  Calls Tryz.prog 3 #[.agg #[.bool nr,.slice ar mr cr,.slice br kr dr],.agg #[.bool nu,.slice au mu cu,.slice bu ku du]] w fun e w'=>e=.returned (.bool true)∧Below w.heap.size w w' := by
 go_enter Tryz.func3,Tryz.ntmps3
 generalize hA:(Act.mk _ _)=aa
 have hn:aa.tmps.size=152:=by rw [←hA];rfl
 have hd:aa.defers = []:=by rw [←hA]
 have f0:aa.eval (.tmp 0)=.agg #[.bool nr,.slice ar mr cr,.slice br kr dr]:=by rw [←hA];rfl
 have f1:aa.eval (.tmp 1)=.agg #[.bool nu,.slice au mu cu,.slice bu ku du]:=by rw [←hA];rfl
 clear hA
 have HB:Below w.heap.size w w:=Below.refl _ _
 have Tr:=Ar.sl;have Dr:Ag w false br kr dr rt qr:=⟨Sr,Vr⟩
 have Ar0:=Ar;have Sr0:=Sr
 have hqr:0<tq qr:=tq_gt (by rw [←Vr];exact (val_bounds Sr.parts.2.2.2).1)
 have Tu:=Au.sl;have Du:Ag w false bu ku du ut qu:=⟨Su,Vu⟩
 have Au0:=Au;have Su0:=Su
 have hqu:0<tq qu:=tq_gt (by rw [←Vu];exact (val_bounds Su.parts.2.2.2).1)
 refine wp_seq ?_
 refine region4 [some 2,some 3,some 4] [Tt,Tt,Eqs ((.bool false))] [⟨R3,some 0,0,2,.agg #[.bool nr,.slice ar mr cr,.slice br kr dr],none,[]⟩,⟨R3,some 1,0,3,.agg #[.bool nu,.slice au mu cu,.slice bu ku du],none,[]⟩] [] (by kernel_rfl) hn rfl (by kernel_rfl) (by kernel_rfl) (by kernel_rfl) (by kernel_rfl) (by kernel_rfl) (by kernel_rfl) ⟨True.mono4,True.mono4,Eqs.mono4 _,trivial⟩ (ok_cons R3ok (ok_cons R3ok ok_nil)) (IsOld.all (bx:=[⟨R3,some 0,0,2,.agg #[.bool nr,.slice ar mr cr,.slice br kr dr],none,[]⟩,⟨R3,some 1,0,3,.agg #[.bool nu,.slice au mu cu,.slice bu ku du],none,[]⟩]) ⟨someNe,someNe,trivial⟩) (DisOld.all (bx:=[⟨R3,some 0,0,2,.agg #[.bool nr,.slice ar mr cr,.slice br kr dr],none,[]⟩,⟨R3,some 1,0,3,.agg #[.bool nu,.slice au mu cu,.slice bu ku du],none,[]⟩]) ⟨someNe,someNe,trivial⟩) ?_ ?_
 ·exact ⟨.alloc 0 _ rfl rfl (.inr ⟨_,rfl,r3_cs,fun a_ hR=>(hR 0 rfl).trans f0⟩) rfl rfl rfl rfl rfl,.alloc 1 _ rfl rfl (.inr ⟨_,rfl,r3_cs,fun a_ hR=>(hR 1 rfl).trans f1⟩) rfl rfl rfl rfl rfl,.norm 4 rfl rfl rfl (fun a_ w_ _ t r R D _ _=>op_assign rfl),trivial⟩
 intro a1 w1 gs1 hn1 hd1 hBt hr hR hP hX hU
 replace hn:=hn1;replace hd:=hd1.trans hd
 have b2:BoxV R3 w1 (gs1 0) (.agg #[.bool nr,.slice ar mr cr,.slice br kr dr]):=(hX 0 _ rfl).2.2.2
 have f2:=(hX 0 _ rfl).1
 have u2:w.heap.size≤gs1 0:=Nat.le_trans HB.size ((hX 0 _ rfl).2.2.1 (by simp))
 have v2:=(hX 0 _ rfl).2.2.1 (by simp)
 have b3:BoxV R3 w1 (gs1 1) (.agg #[.bool nu,.slice au mu cu,.slice bu ku du]):=(hX 1 _ rfl).2.2.2
 have f3:=(hX 1 _ rfl).1
 have u3:w.heap.size≤gs1 1:=Nat.le_trans HB.size ((hX 1 _ rfl).2.2.1 (by simp))
 have v3:=(hX 1 _ rfl).2.2.1 (by simp)
 have e4:a1.eval (.tmp 4)=(.bool false):=hP 2 (by decide)
 have f4:=e4
 replace Ar:=Ar.rl hr
 replace Sr:=Sr.rl hr
 replace Dr:=Dr.rl hr
 replace Tr:=Tr.rl hr
 replace Au:=Au.rl hr
 replace Su:=Su.rl hr
 replace Du:=Du.rl hr
 replace Tu:=Tu.rl hr
 replace HB:=HB.trans (hBt.below HB.size (UpOld.all (bx:=[⟨R3,some 0,0,2,.agg #[.bool nr,.slice ar mr cr,.slice br kr dr],none,[]⟩,⟨R3,some 1,0,3,.agg #[.bool nu,.slice au mu cu,.slice bu ku du],none,[]⟩]) ⟨someNe,someNe,trivial⟩))
 clear hBt hr hR hP hX hU
 refine wp_seq ?_
 refine wp_seq ?_
 refine region4 [some 21,some 22] [Eqs (.bool true),Eqs (.bool false)] [] [] (by kernel_rfl) hn rfl (by kernel_rfl) (by kernel_rfl) (by kernel_rfl) (by kernel_rfl) (by kernel_rfl) (by kernel_rfl) ⟨Eqs.mono4 _,Eqs.mono4 _,trivial⟩ ok_nil (IsOld.all (bx:=[]) trivial) (DisOld.all (bx:=[]) trivial) ?_ ?_
 ·exact ⟨.norm 21 rfl rfl rfl (fun a_ w_ _ t r R D _ _=>op_rawake),.norm 22 rfl rfl rfl (fun a_ w_ _ t r R D _ _=>op_not (show a_.eval (.tmp 21)=.bool true from D 0 rfl)),trivial⟩
 intro a2 w2 gs2 hn2 hd2 hBt hr hR hP hX hU
 replace hn:=hn2;replace hd:=hd2.trans hd
 replace b2:=b2.keep hBt trivial
 replace b3:=b3.keep hBt trivial
 replace f2:=(hR 2 rfl).trans f2
 replace f3:=(hR 3 rfl).trans f3
 replace f4:=(hR 4 rfl).trans f4
 have e22:a2.eval (.tmp 22)=.bool false:=hP 1 (by decide)
 have f22:=e22
 replace Ar:=Ar.rl hr
 replace Sr:=Sr.rl hr
 replace Dr:=Dr.rl hr
 replace Tr:=Tr.rl hr
 replace Au:=Au.rl hr
 replace Su:=Su.rl hr
 replace Du:=Du.rl hr
 replace Tu:=Tu.rl hr
 replace HB:=HB.trans (hBt.below HB.size (UpOld.all (bx:=[]) trivial))
 clear hBt hr hR hP hX hU
 refine wp_cond_false f22 ?_
 refine wp_skip ?_
 refine wp_seq ?_
 refine wp_seq ?_
 refine region4 [some 23,some 24,some 25,some 26,some 27,some 28] [Eqs (.agg #[.bool nr,.slice ar mr cr,.slice br kr dr]),Eqs (.int .i64 (1+(mr:Int)+(kr:Int))),Eqs (.agg #[.bool nu,.slice au mu cu,.slice bu ku du]),Eqs (.int .i64 (1+(mu:Int)+(ku:Int))),Eqs (.int .i64 ((1+(mr:Int)+(kr:Int))+(1+(mu:Int)+(ku:Int)))),Eqs (.bool (decide (1500<((1+(mr:Int)+(kr:Int))+(1+(mu:Int)+(ku:Int))))))] [] [] (by kernel_rfl) hn rfl (by kernel_rfl) (by kernel_rfl) (by kernel_rfl) (by kernel_rfl) (by kernel_rfl) (by kernel_rfl) ⟨Eqs.mono4 _,Eqs.mono4 _,Eqs.mono4 _,Eqs.mono4 _,Eqs.mono4 _,Eqs.mono4 _,trivial⟩ ok_nil (IsOld.all (bx:=[]) trivial) (DisOld.all (bx:=[]) trivial) ?_ ?_
 ·exact ⟨.norm 23 rfl rfl rfl (fun a_ w_ _ t r R D _ _=>op_loadv R3ok ((R 2 rfl).trans f2) (b2.keep t trivial)),.norm 24 rfl rfl rfl (fun a_ w_ _ t r R D _ _=>op_rlen (show a_.eval (.tmp 23)=.agg #[.bool nr,.slice ar mr cr,.slice br kr dr] from D 0 rfl) (by omega) (by omega)),.norm 25 rfl rfl rfl (fun a_ w_ _ t r R D _ _=>op_loadv R3ok ((R 3 rfl).trans f3) (b3.keep t trivial)),.norm 26 rfl rfl rfl (fun a_ w_ _ t r R D _ _=>op_rlen (show a_.eval (.tmp 25)=.agg #[.bool nu,.slice au mu cu,.slice bu ku du] from D 2 rfl) (by omega) (by omega)),.norm 27 rfl rfl rfl (fun a_ w_ _ t r R D _ _=>op_plus (show a_.eval (.tmp 24)=.int .i64 (1+(mr:Int)+(kr:Int)) from D 1 rfl) (show a_.eval (.tmp 26)=.int .i64 (1+(mu:Int)+(ku:Int)) from D 3 rfl) (by omega)),.norm 28 rfl rfl rfl (fun a_ w_ _ t r R D _ _=>op_gtrk (show a_.eval (.tmp 27)=.int .i64 ((1+(mr:Int)+(kr:Int))+(1+(mu:Int)+(ku:Int))) from D 4 rfl)),trivial⟩
 intro a3 w3 gs3 hn3 hd3 hBt hr hR hP hX hU
 replace hn:=hn3;replace hd:=hd3.trans hd
 replace b2:=b2.keep hBt trivial
 replace b3:=b3.keep hBt trivial
 replace f2:=(hR 2 rfl).trans f2
 replace f3:=(hR 3 rfl).trans f3
 replace f4:=(hR 4 rfl).trans f4
 have e28:a3.eval (.tmp 28)=.bool (decide (1500<((1+(mr:Int)+(kr:Int))+(1+(mu:Int)+(ku:Int))))):=hP 5 (by decide)
 have f28:=e28
 replace Ar:=Ar.rl hr
 replace Sr:=Sr.rl hr
 replace Dr:=Dr.rl hr
 replace Tr:=Tr.rl hr
 replace Au:=Au.rl hr
 replace Su:=Su.rl hr
 replace Du:=Du.rl hr
 replace Tu:=Tu.rl hr
 replace HB:=HB.trans (hBt.below HB.size (UpOld.all (bx:=[]) trivial))
 clear hBt hr hR hP hX hU
 refine wp_cond_split f28 (fun hc28=>?_) (fun hc28=>?_)
 ·skip
  refine wp_seq ?_
  refine region4 [some 4] [Eqs ((.bool true))] [] [] (by kernel_rfl) hn rfl (by kernel_rfl) (by kernel_rfl) (by kernel_rfl) (by kernel_rfl) (by kernel_rfl) (by kernel_rfl) ⟨Eqs.mono4 _,trivial⟩ ok_nil (IsOld.all (bx:=[]) trivial) (DisOld.all (bx:=[]) trivial) ?_ ?_
  ·exact ⟨.norm 4 rfl rfl rfl (fun a_ w_ _ t r R D _ _=>op_assign rfl),trivial⟩
  intro a4 w4 gs4 hn4 hd4 hBt hr hR hP hX hU
  replace hn:=hn4;replace hd:=hd4.trans hd
  replace b2:=b2.keep hBt trivial
  replace b3:=b3.keep hBt trivial
  replace f2:=(hR 2 rfl).trans f2
  replace f3:=(hR 3 rfl).trans f3
  have e4:a4.eval (.tmp 4)=(.bool true):=hP 0 (by decide)
  have f4:=e4
  replace Ar:=Ar.rl hr
  replace Sr:=Sr.rl hr
  replace Dr:=Dr.rl hr
  replace Tr:=Tr.rl hr
  replace Au:=Au.rl hr
  replace Su:=Su.rl hr
  replace Du:=Du.rl hr
  replace Tu:=Tu.rl hr
  replace HB:=HB.trans (hBt.below HB.size (UpOld.all (bx:=[]) trivial))
  clear hBt hr hR hP hX hU
  refine wp_ret ?_
  repeat (first | refine then_ret ?_ | refine scope_ret ?_ | refine block_ret ?_)
  exact bodyPost_ret (v:=.bool true) (res_t rfl f4) hd ⟨rfl,HB⟩
 ·skip
  have hlen:=of_decide_eq_false hc28
  have or_:=Ar.sl.parts.1;have yr_:=Sr.parts.1;have Lr:rs.length≤1500:=(by omega);have Mr:rt.length≤1500:=(by omega)
  have ou_:=Au.sl.parts.1;have yu_:=Su.parts.1;have Lu:us.length≤1500:=(by omega);have Mu:ut.length≤1500:=(by omega)
  refine wp_skip ?_
  refine wp_seq ?_
  refine region4 [some 30,some 31,some 32,some 29,some 33,some 34,some 5,none,some 6] [Eqs (.agg #[.bool nr,.slice ar mr cr,.slice br kr dr]),Eqs (.agg #[.bool nu,.slice au mu cu,.slice bu ku du]),Tup2 (OutR ((dP (tp pr qr) (tq qr) (tp pu qu) (tq qu))) ((dQ (tp pr qr) (tq qr) (tp pu qu) (tq qu))) (24*(1500+1500)+100)) (Eqs (.int .i64 (dE (tp pu qu)))),Tup2 (OutR ((dP (tp pr qr) (tq qr) (tp pu qu) (tq qu))) ((dQ (tp pr qr) (tq qr) (tp pu qu) (tq qu))) (24*(1500+1500)+100)) (Eqs (.int .i64 (dE (tp pu qu)))),OutR ((dP (tp pr qr) (tq qr) (tp pu qu) (tq qu))) ((dQ (tp pr qr) (tq qr) (tp pu qu) (tq qu))) (24*(1500+1500)+100),Eqs (.int .i64 (dE (tp pu qu))),Tt,Tt,Eqs (.int .i64 (dE (tp pu qu)))] [⟨R3,some 6,0,5,.agg #[.bool false,.slice none 0 0,.slice none 0 0],some (7,33,4),[]⟩] [] (by kernel_rfl) hn rfl (by kernel_rfl) (by kernel_rfl) (by kernel_rfl) (by kernel_rfl) (by kernel_rfl) (by kernel_rfl) ⟨Eqs.mono4 _,Eqs.mono4 _,Tup2.mono4 (OutR.mono4 _ _ _) (Eqs.mono4 _),Tup2.mono4 (OutR.mono4 _ _ _) (Eqs.mono4 _),OutR.mono4 _ _ _,Eqs.mono4 _,True.mono4,True.mono4,Eqs.mono4 _,trivial⟩ (ok_cons R3ok ok_nil) (IsOld.all (bx:=[⟨R3,some 6,0,5,.agg #[.bool false,.slice none 0 0,.slice none 0 0],some (7,33,4),[]⟩]) ⟨someNe,trivial⟩) (DisOld.all (bx:=[⟨R3,some 6,0,5,.agg #[.bool false,.slice none 0 0,.slice none 0 0],some (7,33,4),[]⟩]) ⟨someNe,trivial⟩) ?_ ?_
  ·exact ⟨.norm 30 rfl rfl rfl (fun a_ w_ _ t r R D _ _=>op_loadv R3ok ((R 2 rfl).trans f2) (b2.keep t ⟨someNe,trivial⟩)),.norm 31 rfl rfl rfl (fun a_ w_ _ t r R D _ _=>op_loadv R3ok ((R 3 rfl).trans f3) (b3.keep t ⟨someNe,trivial⟩)),.norm 32 rfl rfl rfl (fun a_ w_ _ t r R D _ _=>op_q3divU (Br:=1500) (Bu:=1500) (isr_eq (show a_.eval (.tmp 30)=.agg #[.bool nr,.slice ar mr cr,.slice br kr dr] from D 0 rfl) (Ar.rl r) (Sr.rl r) Vr Lr Mr) (isr_eq (show a_.eval (.tmp 31)=.agg #[.bool nu,.slice au mu cu,.slice bu ku du] from D 1 rfl) (Au.rl r) (Su.rl r) Vu Lu Mu) (by omega)),.norm 29 rfl rfl rfl (fun a_ w_ _ t r R D _ _=>op_mvp (p:=Tup2 (OutR ((dP (tp pr qr) (tq qr) (tp pu qu) (tq qu))) ((dQ (tp pr qr) (tq qr) (tp pu qu) (tq qu))) (24*(1500+1500)+100)) (Eqs (.int .i64 (dE (tp pu qu))))) (show Tup2 (OutR ((dP (tp pr qr) (tq qr) (tp pu qu) (tq qu))) ((dQ (tp pr qr) (tq qr) (tp pu qu) (tq qu))) (24*(1500+1500)+100)) (Eqs (.int .i64 (dE (tp pu qu)))) (a_.eval (.tmp 32)) w_ from D 2 rfl)),.norm 33 rfl rfl rfl (fun a_ w_ _ t r R D _ _=>op_ex20 (show Tup2 (OutR ((dP (tp pr qr) (tq qr) (tp pu qu) (tq qu))) ((dQ (tp pr qr) (tq qr) (tp pu qu) (tq qu))) (24*(1500+1500)+100)) (Eqs (.int .i64 (dE (tp pu qu)))) (a_.eval (.tmp 29)) w_ from D 3 rfl)),.norm 34 rfl rfl rfl (fun a_ w_ _ t r R D _ _=>op_ex21 (show Tup2 (OutR ((dP (tp pr qr) (tq qr) (tp pu qu) (tq qu))) ((dQ (tp pr qr) (tq qr) (tp pu qu) (tq qu))) (24*(1500+1500)+100)) (Eqs (.int .i64 (dE (tp pu qu)))) (a_.eval (.tmp 29)) w_ from D 3 rfl)),.alloc 0 _ rfl rfl (.inl ⟨rfl,rfl⟩) rfl rfl rfl rfl rfl,.store 0 _ _ _ rfl rfl rfl rfl rfl rfl rfl (fun ia h=>by cases h;rfl) rfl rfl rfl OutR.cs,.norm 6 rfl rfl rfl (fun a_ w_ _ t r R D _ _=>op_assign (show a_.eval (.tmp 34)=.int .i64 (dE (tp pu qu)) from D 5 rfl)),trivial⟩
  intro a5 w5 gs5 hn5 hd5 hBt hr hR hP hX hU
  replace hn:=hn5;replace hd:=hd5.trans hd
  replace b2:=b2.keep hBt ⟨someNe,trivial⟩
  replace b3:=b3.keep hBt ⟨someNe,trivial⟩
  obtain ⟨n_6,a_6,c_6,r_6,b_6,d_6,s_6,e33,G6,K6,l6,k6⟩:OutR ((dP (tp pr qr) (tq qr) (tp pu qu) (tq qu))) ((dQ (tp pr qr) (tq qr) (tp pu qu) (tq qu))) (24*(1500+1500)+100) (a5.eval (.tmp 33)) w5:=hP 4 (by decide)
  have A6:=G6.ag;have S6:=K6.sl;have V6:=K6.val
  have b5:BoxV R3 w5 (gs5 0) (.agg #[.bool n_6,.slice a_6 r_6.length c_6,.slice b_6 s_6.length d_6]):=boxv_of (hX 0 _ rfl).2.2.2 e33
  have f5:=(hX 0 _ rfl).1
  have u5:w.heap.size≤gs5 0:=Nat.le_trans HB.size ((hX 0 _ rfl).2.2.1 (by simp))
  have v5:=(hX 0 _ rfl).2.2.1 (by simp)
  replace f2:=(hR 2 rfl).trans f2
  replace f3:=(hR 3 rfl).trans f3
  replace f4:=(hR 4 rfl).trans f4
  have e6:a5.eval (.tmp 6)=.int .i64 (dE (tp pu qu)):=hP 8 (by decide)
  have f6:=e6
  replace Ar:=Ar.rl hr
  replace Sr:=Sr.rl hr
  replace Dr:=Dr.rl hr
  replace Tr:=Tr.rl hr
  replace Au:=Au.rl hr
  replace Su:=Su.rl hr
  replace Du:=Du.rl hr
  replace Tu:=Tu.rl hr
  replace HB:=HB.trans (hBt.below HB.size (UpOld.all (bx:=[⟨R3,some 6,0,5,.agg #[.bool false,.slice none 0 0,.slice none 0 0],some (7,33,4),[]⟩]) ⟨someNe,trivial⟩))
  clear hBt hr hR hP hX hU
  refine wp_seq ?_
  have G6_0:=G6
  have A6_0:=A6
  have K6_0:=K6
  have S6_0:=S6
  have BW:Bw w5 w5:=⟨Below.refl _ _⟩
  refine wp_of_good (by kernel_rfl) (by kernel_rfl) (fun w_0 hb_0=>?_)
  replace b2:=b2.below hb_0
  replace b3:=b3.below hb_0
  replace b5:=b5.below hb_0
  replace Ar:=Ar.below hb_0
  replace Sr:=Sr.below hb_0
  replace Dr:=Dr.below hb_0
  replace Tr:=Tr.below hb_0
  replace Au:=Au.below hb_0
  replace Su:=Su.below hb_0
  replace Du:=Du.below hb_0
  replace Tu:=Tu.below hb_0
  replace G6:=G6.below hb_0
  replace A6:=A6.below hb_0
  replace K6:=K6.below hb_0
  replace S6:=S6.below hb_0
  replace BW:=BW.below hb_0
  replace HB:=HB.trans (hb_0.mono HB.size);clear hb_0
  refine good6 0 1 (some 1) [some 35,some 36,some 7] [Eqs (.agg #[.slice none 0 0,.slice none 0 0]),Tt,Tt] [] [] [] [] [] (by kernel_rfl) hn rfl (by kernel_rfl) (by kernel_rfl) (by kernel_rfl) (by kernel_rfl) (by kernel_rfl) (by kernel_rfl) (by kernel_rfl) (by kernel_rfl) (by kernel_rfl) (by decide) ⟨Eqs.mono5 _,True.mono5,True.mono5,trivial⟩ trivial xok_nil ok_nil (IsOld.all (bx:=[]) trivial) (DisOld.all (bx:=[]) trivial) trivial ?_ ?_ ?_
  ·exact ⟨.inr (.norm 35 rfl rfl (nxt rfl) rfl (fun a_ w_ _ t r R D _ _=>d6 rfl op_bBook)),.inl rfl,.inl rfl,trivial⟩
  rotate_left
  ·exact fun h=>by cases h
  intro t_ o_ ht_ ho_ a7 w7 gs7 B7 T7 F_
  obtain rfl:=Option.some.inj ht_;obtain rfl:=Option.some.inj ho_;clear ht_ ho_
  obtain ⟨hn7,hd7,hBt,hr,hR,hP,hTs,hLi,hX,hU,hRel,hSl⟩:=F_
  replace hn:=hn7;replace hd:=hd7.trans hd
  replace b2:=b2.keep5 hBt trivial trivial
  replace b3:=b3.keep5 hBt trivial trivial
  replace b5:=b5.keep5 hBt trivial trivial
  replace f2:=(hR 2 rfl).trans f2
  replace f3:=(hR 3 rfl).trans f3
  replace f4:=(hR 4 rfl).trans f4
  replace f5:=(hR 5 rfl).trans f5
  replace f6:=(hR 6 rfl).trans f6
  have e35:a7.eval (.tmp 35)=.agg #[.slice none 0 0,.slice none 0 0]:=hP 0 (by decide)
  have f35:=e35
  have hBl_:=hBt.below (Nat.le_refl _) (UpOld.all (bx:=[]) trivial) (UpX.all (bx:=[]) trivial)
  replace Ar:=Ar.ru hr
  replace Sr:=Sr.ru hr
  replace Dr:=Dr.ru hr
  replace Tr:=Tr.ru hr
  replace Au:=Au.ru hr
  replace Su:=Su.ru hr
  replace Du:=Du.ru hr
  replace Tu:=Tu.ru hr
  replace G6:=G6.ru hr
  replace A6:=A6.ru hr
  replace K6:=K6.ru hr
  replace S6:=S6.ru hr
  replace BW:=BW.below hBl_
  replace HB:=HB.trans (hBt.below HB.size (UpOld.all (bx:=[]) trivial) (UpX.all (bx:=[]) trivial))
  clear hBt hr hR hP hTs hLi hX hU hRel hSl
  have upB1_:w5.heap.size≤w7.heap.size:=BW.h.size
  refine ⟨trivial,(op_bookn (Q:=w.heap.size) f35).mono ?_⟩
  rintro v_ w8 ⟨rfl,BK,hbN⟩
  obtain ⟨pB,hpB⟩:∃ g,g=w7.heap.size:=⟨_,rfl⟩
  rw [←hpB] at BK ⊢
  have upB:w.heap.size≤pB:=by rw [hpB];exact HB.size
  replace b2:=b2.below hbN
  replace b3:=b3.below hbN
  replace b5:=b5.below hbN
  replace Ar:=Ar.below hbN
  replace Sr:=Sr.below hbN
  replace Dr:=Dr.below hbN
  replace Tr:=Tr.below hbN
  replace Au:=Au.below hbN
  replace Su:=Su.below hbN
  replace Du:=Du.below hbN
  replace Tu:=Tu.below hbN
  replace G6:=G6.below hbN
  replace A6:=A6.below hbN
  replace K6:=K6.below hbN
  replace S6:=S6.below hbN
  replace BW:=BW.below hbN
  replace HB:=HB.trans (hbN.mono HB.size);clear hbN
  change Good _ _ _ _ _ (Act.put a7 (some 36) (.pointer (some ⟨pB,0,none⟩))) _
  have q_:36<a7.tmps.size:=by rw [hn];decide
  generalize hA_:Act.put a7 (some 36) (.pointer (some ⟨pB,0,none⟩))=a9
  replace hn:a9.tmps.size=152:=by rw [←hA_,put_tmps];simp [hn]
  replace hd:a9.defers = []:=by rw [←hA_];exact hd
  replace f2:=pne hA_ (by decide) f2
  replace f3:=pne hA_ (by decide) f3
  replace f4:=pne hA_ (by decide) f4
  replace f5:=pne hA_ (by decide) f5
  replace f6:=pne hA_ (by decide) f6
  replace f35:=pne hA_ (by decide) f35
  have f36:a9.eval (.tmp 36)=.pointer (some ⟨pB,0,none⟩):=by rw [←hA_];exact eval_put_same q_
  clear q_
  clear hA_
  have upB1:w5.heap.size≤pB:=by omega
  refine good6 2 3 none [some 35,some 36,some 7] [Eqs (.agg #[.slice none 0 0,.slice none 0 0]),Eqs (.pointer (some ⟨pB,0,none⟩)),Eqs (.pointer (some ⟨pB,0,none⟩))] [] [] [] [] [] (by kernel_rfl) hn rfl (by kernel_rfl) (by kernel_rfl) (by kernel_rfl) (by kernel_rfl) (by kernel_rfl) (by kernel_rfl) (by kernel_rfl) (by kernel_rfl) (by kernel_rfl) (by decide) ⟨Eqs.mono5 _,Eqs.mono5 _,Eqs.mono5 _,trivial⟩ trivial xok_nil ok_nil (IsOld.all (bx:=[]) trivial) (DisOld.all (bx:=[]) trivial) ⟨⟨trivial,f35⟩,f36⟩ ?_ ?_ ?_
  ·exact ⟨.inl rfl,.inl rfl,.inr (.norm 7 rfl rfl (nxt rfl) rfl (fun a_ w_ _ t r R D _ _=>d6 rfl (op_assign (show a_.eval (.tmp 36)=.pointer (some ⟨pB,0,none⟩) from D 1 rfl)))),trivial⟩
  ·exact fun _ _ h=>by cases h
  intro _ a10 w10 gs10 B10 T10 F_
  obtain ⟨hn10,hd10,hBt,hr,hR,hP,hTs,hLi,hX,hU,hRel,hSl⟩:=F_
  replace hn:=hn10;replace hd:=hd10.trans hd
  have lq10BK:=BK.lt.2
  replace b2:=b2.keep5 hBt trivial trivial
  replace b3:=b3.keep5 hBt trivial trivial
  replace b5:=b5.keep5 hBt trivial trivial
  replace f2:=(hR 2 rfl).trans f2
  replace f3:=(hR 3 rfl).trans f3
  replace f4:=(hR 4 rfl).trans f4
  replace f5:=(hR 5 rfl).trans f5
  replace f6:=(hR 6 rfl).trans f6
  have e7:a10.eval (.tmp 7)=.pointer (some ⟨pB,0,none⟩):=hP 2 (by decide)
  have f7:=e7
  have hBl_:=hBt.below (Nat.le_refl _) (UpOld.all (bx:=[]) trivial) (UpX.all (bx:=[]) trivial)
  replace Ar:=Ar.ru hr
  replace Sr:=Sr.ru hr
  replace Dr:=Dr.ru hr
  replace Tr:=Tr.ru hr
  replace Au:=Au.ru hr
  replace Su:=Su.ru hr
  replace Du:=Du.ru hr
  replace Tu:=Tu.ru hr
  replace G6:=G6.ru hr
  replace A6:=A6.ru hr
  replace K6:=K6.ru hr
  replace S6:=S6.ru hr
  replace BW:=BW.below hBl_
  replace BK:=BK.below hBl_
  replace HB:=HB.trans (hBt.below HB.size (UpOld.all (bx:=[]) trivial) (UpX.all (bx:=[]) trivial))
  clear hBt hr hR hP hTs hLi hX hU hRel hSl
  refine wp_seq ?_
  refine wp_seq ?_
  refine wp_of_good (by kernel_rfl) (by kernel_rfl) (fun w_0 hb_0=>?_)
  replace b2:=b2.below hb_0
  replace b3:=b3.below hb_0
  replace b5:=b5.below hb_0
  replace Ar:=Ar.below hb_0
  replace Sr:=Sr.below hb_0
  replace Dr:=Dr.below hb_0
  replace Tr:=Tr.below hb_0
  replace Au:=Au.below hb_0
  replace Su:=Su.below hb_0
  replace Du:=Du.below hb_0
  replace Tu:=Tu.below hb_0
  replace G6:=G6.below hb_0
  replace A6:=A6.below hb_0
  replace K6:=K6.below hb_0
  replace S6:=S6.below hb_0
  replace BW:=BW.below hb_0
  replace BK:=BK.below hb_0
  replace HB:=HB.trans (hb_0.mono HB.size);clear hb_0
  refine good6 0 1 none [some 8] [Eqs ((.int .i64 0))] [] [] [] [] [] (by kernel_rfl) hn rfl (by kernel_rfl) (by kernel_rfl) (by kernel_rfl) (by kernel_rfl) (by kernel_rfl) (by kernel_rfl) (by kernel_rfl) (by kernel_rfl) (by kernel_rfl) (by decide) ⟨Eqs.mono5 _,trivial⟩ trivial xok_nil ok_nil (IsOld.all (bx:=[]) trivial) (DisOld.all (bx:=[]) trivial) trivial ?_ ?_ ?_
  ·exact ⟨.inr (.norm 8 rfl rfl (nxt rfl) rfl (fun a_ w_ _ t r R D _ _=>d6 rfl (op_assign rfl))),trivial⟩
  ·exact fun _ _ h=>by cases h
  intro _ a11 w11 gs11 B11 T11 F_
  obtain ⟨hn11,hd11,hBt,hr,hR,hP,hTs,hLi,hX,hU,hRel,hSl⟩:=F_
  replace hn:=hn11;replace hd:=hd11.trans hd
  have lq11BK:=BK.lt.2
  replace b2:=b2.keep5 hBt trivial trivial
  replace b3:=b3.keep5 hBt trivial trivial
  replace b5:=b5.keep5 hBt trivial trivial
  replace f2:=(hR 2 rfl).trans f2
  replace f3:=(hR 3 rfl).trans f3
  replace f4:=(hR 4 rfl).trans f4
  replace f5:=(hR 5 rfl).trans f5
  replace f6:=(hR 6 rfl).trans f6
  replace f7:=(hR 7 rfl).trans f7
  have e8:a11.eval (.tmp 8)=(.int .i64 0):=hP 0 (by decide)
  have f8:=e8
  have hBl_:=hBt.below (Nat.le_refl _) (UpOld.all (bx:=[]) trivial) (UpX.all (bx:=[]) trivial)
  replace Ar:=Ar.ru hr
  replace Sr:=Sr.ru hr
  replace Dr:=Dr.ru hr
  replace Tr:=Tr.ru hr
  replace Au:=Au.ru hr
  replace Su:=Su.ru hr
  replace Du:=Du.ru hr
  replace Tu:=Tu.ru hr
  replace G6:=G6.ru hr
  replace A6:=A6.ru hr
  replace K6:=K6.ru hr
  replace S6:=S6.ru hr
  replace BW:=BW.below hBl_
  replace BK:=BK.below hBl_
  replace HB:=HB.trans (hBt.below HB.size (UpOld.all (bx:=[]) trivial) (UpX.all (bx:=[]) trivial))
  clear hBt hr hR hP hTs hLi hX hU hRel hSl
  refine wp_block ?_
  obtain ⟨K0,hK0⟩:∃ k,k=w11.heap.size:=⟨_,rfl⟩
  have HK:SzGe K0 w11:=Nat.le_of_eq hK0
  have hWK:w.heap.size≤K0:=by rw [hK0];exact HB.size
  have h1K:w5.heap.size≤K0:=by rw [hK0];exact BW.h.size
  have hpK:pB<K0:=by rw [hK0];exact BK.lt.2
  have k2:(gs1 0)<K0:=by rw [hK0];exact b2.lt
  have k3:(gs1 1)<K0:=by rw [hK0];exact b3.lt
  have k5:(gs5 0)<K0:=by rw [hK0];exact b5.lt
  refine wp_loop_ghost (fun n a w'=>a.tmps.size=152∧a.defers = []∧a.eval (.tmp 2)=.pointer (some ⟨gs1 0,0,none⟩)∧a.eval (.tmp 3)=.pointer (some ⟨gs1 1,0,none⟩)∧a.eval (.tmp 5)=.pointer (some ⟨gs5 0,0,none⟩)∧a.eval (.tmp 6)=.int .i64 (dE (tp pu qu))∧a.eval (.tmp 7)=.pointer (some ⟨pB,0,none⟩)∧BoxV R3 w' (gs1 0) (.agg #[.bool nr,.slice ar mr cr,.slice br kr dr])∧BoxV R3 w' (gs1 1) (.agg #[.bool nu,.slice au mu cu,.slice bu ku du])∧BoxV R3 w' (gs5 0) (.agg #[.bool n_6,.slice a_6 r_6.length c_6,.slice b_6 s_6.length d_6])∧Below w.heap.size w w'∧SzGe K0 w'∧Bw w5 w'∧∃ ii:Nat,n+ii=2∧a.eval (.tmp 8)=.int .i64 (ii:Int)∧∃ bs,Bs w' pB w.heap.size bs (8*ii)∧∀ j ∈ bs,K0≤j) 2 ⟨hn,hd,f2,f3,f5,f6,f7,b2,b3,b5,HB,HK,BW,0,rfl,f8,[],BK,fun j hj=>by cases hj⟩ ?_
  clear hn hd f2 f3 f5 f6 f7 b2 b3 b5 HB HK f8 BK BW Ar Sr Dr Tr Au Su Du Tu G6 A6 K6 S6
  rintro n a12 w12 ⟨hn,hd,f2,f3,f5,f6,f7,b2,b3,b5,HB,HK,BW,ii,hii,f8,bs,BK,hbs0⟩
  obtain ⟨KR,hKR⟩:∃ k,k=w12.heap.size:=⟨_,rfl⟩
  have HR:SzGe KR w12:=Nat.le_of_eq hKR
  have hKKR:K0≤KR:=by rw [hKR];exact HK
  have hWKR:w.heap.size≤KR:=Nat.le_trans hWK hKKR
  have hbs:∀ j ∈ bs,K0≤j∧j<KR:=fun j hj=>⟨hbs0 j hj,by rw [hKR];exact (BK.low j hj).2⟩
  have Ar:=Ar0.below HB;have Sr:=Sr0.below HB;have Dr:Ag _ false br kr dr rt qr:=⟨Sr,Vr⟩;have Tr:=Ar.sl
  have Au:=Au0.below HB;have Su:=Su0.below HB;have Du:Ag _ false bu ku du ut qu:=⟨Su,Vu⟩;have Tu:=Au.sl
  have G6:=G6_0.below BW.h
  have A6:=A6_0.below BW.h
  have K6:=K6_0.below BW.h
  have S6:=S6_0.below BW.h
  refine wp_seq ?_
  refine wp_seq ?_
  refine region4 [some 37,some 38] [Eqs (.int .i64 (ii:Int)),Eqs (.bool (decide ((ii:Int)<2)))] [] [] (by kernel_rfl) hn rfl (by kernel_rfl) (by kernel_rfl) (by kernel_rfl) (by kernel_rfl) (by kernel_rfl) (by kernel_rfl) ⟨Eqs.mono4 _,Eqs.mono4 _,trivial⟩ ok_nil (IsOld.all (bx:=[]) trivial) (DisOld.all (bx:=[]) trivial) ?_ ?_
  ·exact ⟨.norm 37 rfl rfl rfl (fun a_ w_ _ t r R D _ _=>op_mv ((R 8 rfl).trans f8)),.norm 38 rfl rfl rfl (fun a_ w_ _ t r R D _ _=>op_lssk (show a_.eval (.tmp 37)=.int .i64 (ii:Int) from D 0 rfl)),trivial⟩
  intro a13 w13 gs13 hn13 hd13 hBt hr hR hP hX hU
  replace hn:=hn13;replace hd:=hd13.trans hd
  replace b2:=b2.keep hBt trivial
  replace b3:=b3.keep hBt trivial
  replace b5:=b5.keep hBt trivial
  replace f2:=(hR 2 rfl).trans f2
  replace f3:=(hR 3 rfl).trans f3
  replace f5:=(hR 5 rfl).trans f5
  replace f6:=(hR 6 rfl).trans f6
  replace f7:=(hR 7 rfl).trans f7
  replace f8:=(hR 8 rfl).trans f8
  have e38:a13.eval (.tmp 38)=.bool (decide ((ii:Int)<2)):=hP 1 (by decide)
  have f38:=e38
  replace Ar:=Ar.rl hr
  replace Sr:=Sr.rl hr
  replace Dr:=Dr.rl hr
  replace Tr:=Tr.rl hr
  replace Au:=Au.rl hr
  replace Su:=Su.rl hr
  replace Du:=Du.rl hr
  replace Tu:=Tu.rl hr
  replace G6:=G6.rl hr
  replace A6:=A6.rl hr
  replace K6:=K6.rl hr
  replace S6:=S6.rl hr
  replace HK:=HK.rl hr
  replace HR:=HR.rl hr
  replace HB:=HB.trans (hBt.below HB.size (UpOld.all (bx:=[]) trivial))
  have hBl_:=hBt.below (Nat.le_refl _) (UpOld.all (bx:=[]) trivial)
  replace BK:=BK.below hBl_
  replace BW:=BW.below hBl_
  clear hBt hr hR hP hX hU
  refine wp_cond_split f38 (fun hc38=>?_) (fun hc38=>?_)
  ·skip
   have hc38' := of_decide_eq_true hc38
   refine wp_skip ?_
   refine wp_seq ?_
   refine wp_block ?_
   refine wp_seq ?_
   refine wp_of_good (by kernel_rfl) (by kernel_rfl) (fun w_0 hb_0=>?_)
   replace b2:=b2.below hb_0
   replace b3:=b3.below hb_0
   replace b5:=b5.below hb_0
   replace Ar:=Ar.below hb_0
   replace Sr:=Sr.below hb_0
   replace Dr:=Dr.below hb_0
   replace Tr:=Tr.below hb_0
   replace Au:=Au.below hb_0
   replace Su:=Su.below hb_0
   replace Du:=Du.below hb_0
   replace Tu:=Tu.below hb_0
   replace G6:=G6.below hb_0
   replace A6:=A6.below hb_0
   replace K6:=K6.below hb_0
   replace S6:=S6.below hb_0
   replace HK:=HK.below hb_0
   replace HR:=HR.below hb_0
   replace BK:=BK.below hb_0
   replace BW:=BW.below hb_0
   replace HB:=HB.trans (hb_0.mono HB.size);clear hb_0
   refine good6 0 0 (some 0) [some 9,some 10,some 11,some 12] [Tt,Tt,Tt,Tt] [] [] [] [] [] (by kernel_rfl) hn rfl (by kernel_rfl) (by kernel_rfl) (by kernel_rfl) (by kernel_rfl) (by kernel_rfl) (by kernel_rfl) (by kernel_rfl) (by kernel_rfl) (by kernel_rfl) (by decide) ⟨True.mono5,True.mono5,True.mono5,True.mono5,trivial⟩ trivial xok_nil ok_nil (IsOld.all (bx:=[]) trivial) (DisOld.all (bx:=[]) trivial) trivial ?_ ?_ ?_
   ·exact ⟨.inl rfl,.inl rfl,.inl rfl,.inl rfl,trivial⟩
   rotate_left
   ·exact fun h=>by cases h
   intro t_ o_ ht_ ho_ a14 w14 gs14 B14 T14 F_
   obtain rfl:=Option.some.inj ht_;obtain rfl:=Option.some.inj ho_;clear ht_ ho_
   obtain ⟨hn14,hd14,hBt,hr,hR,hP,hTs,hLi,hX,hU,hRel,hSl⟩:=F_
   replace hn:=hn14;replace hd:=hd14.trans hd
   have lq14HK:=HK.le
   have lq14HR:=HR.le
   have lq14BK:=BK.lt.2
   replace b2:=b2.keep5 hBt trivial trivial
   replace b3:=b3.keep5 hBt trivial trivial
   replace b5:=b5.keep5 hBt trivial trivial
   replace f2:=(hR 2 rfl).trans f2
   replace f3:=(hR 3 rfl).trans f3
   replace f5:=(hR 5 rfl).trans f5
   replace f6:=(hR 6 rfl).trans f6
   replace f7:=(hR 7 rfl).trans f7
   replace f8:=(hR 8 rfl).trans f8
   have hBl_:=hBt.below (Nat.le_refl _) (UpOld.all (bx:=[]) trivial) (UpX.all (bx:=[]) trivial)
   replace Ar:=Ar.ru hr
   replace Sr:=Sr.ru hr
   replace Dr:=Dr.ru hr
   replace Tr:=Tr.ru hr
   replace Au:=Au.ru hr
   replace Su:=Su.ru hr
   replace Du:=Du.ru hr
   replace Tu:=Tu.ru hr
   replace G6:=G6.ru hr
   replace A6:=A6.ru hr
   replace K6:=K6.ru hr
   replace S6:=S6.ru hr
   replace HK:=HK.ru hr
   replace HR:=HR.ru hr
   replace BK:=BK.below hBl_
   replace BW:=BW.below hBl_
   replace HB:=HB.trans (hBt.below HB.size (UpOld.all (bx:=[]) trivial) (UpX.all (bx:=[]) trivial))
   clear hBt hr hR hP hTs hLi hX hU hRel hSl
   refine ⟨trivial,op_lendn.mono ?_⟩
   rintro v_ w15 ⟨rfl,LNa,hbN⟩
   obtain ⟨gLa,hga⟩:∃ g,g=w14.heap.size:=⟨_,rfl⟩
   rw [←hga] at LNa ⊢
   have uLa:w.heap.size≤gLa:=by rw [hga];exact HB.size
   have kLa:KR≤gLa:=by rw [hga];exact HR
   clear hga
   replace b2:=b2.below hbN
   replace b3:=b3.below hbN
   replace b5:=b5.below hbN
   replace Ar:=Ar.below hbN
   replace Sr:=Sr.below hbN
   replace Dr:=Dr.below hbN
   replace Tr:=Tr.below hbN
   replace Au:=Au.below hbN
   replace Su:=Su.below hbN
   replace Du:=Du.below hbN
   replace Tu:=Tu.below hbN
   replace G6:=G6.below hbN
   replace A6:=A6.below hbN
   replace K6:=K6.below hbN
   replace S6:=S6.below hbN
   replace HK:=HK.below hbN
   replace HR:=HR.below hbN
   replace BK:=BK.below hbN
   replace BW:=BW.below hbN
   replace HB:=HB.trans (hbN.mono HB.size);clear hbN
   change Good _ _ _ _ _ (Act.put a14 (some 9) (.pointer (some ⟨gLa,0,none⟩))) _
   have q_:9<a14.tmps.size:=by rw [hn];decide
   generalize hA_:Act.put a14 (some 9) (.pointer (some ⟨gLa,0,none⟩))=a16
   replace hn:a16.tmps.size=152:=by rw [←hA_,put_tmps];simp [hn]
   replace hd:a16.defers = []:=by rw [←hA_];exact hd
   replace f2:=pne hA_ (by decide) f2
   replace f3:=pne hA_ (by decide) f3
   replace f5:=pne hA_ (by decide) f5
   replace f6:=pne hA_ (by decide) f6
   replace f7:=pne hA_ (by decide) f7
   replace f8:=pne hA_ (by decide) f8
   have f9:a16.eval (.tmp 9)=.pointer (some ⟨gLa,0,none⟩):=by rw [←hA_];exact eval_put_same q_
   clear q_
   clear hA_
   refine good6 1 1 (some 1) [some 9,some 10,some 11,some 12] [Eqs (.pointer (some ⟨gLa,0,none⟩)),Tt,Tt,Tt] [] [] [] [] [] (by kernel_rfl) hn rfl (by kernel_rfl) (by kernel_rfl) (by kernel_rfl) (by kernel_rfl) (by kernel_rfl) (by kernel_rfl) (by kernel_rfl) (by kernel_rfl) (by kernel_rfl) (by decide) ⟨Eqs.mono5 _,True.mono5,True.mono5,True.mono5,trivial⟩ trivial xok_nil ok_nil (IsOld.all (bx:=[]) trivial) (DisOld.all (bx:=[]) trivial) ⟨trivial,f9⟩ ?_ ?_ ?_
   ·exact ⟨.inl rfl,.inl rfl,.inl rfl,.inl rfl,trivial⟩
   rotate_left
   ·exact fun h=>by cases h
   intro t_ o_ ht_ ho_ a17 w17 gs17 B17 T17 F_
   obtain rfl:=Option.some.inj ht_;obtain rfl:=Option.some.inj ho_;clear ht_ ho_
   obtain ⟨hn17,hd17,hBt,hr,hR,hP,hTs,hLi,hX,hU,hRel,hSl⟩:=F_
   replace hn:=hn17;replace hd:=hd17.trans hd
   have lq17HK:=HK.le
   have lq17HR:=HR.le
   have lq17BK:=BK.lt.2
   replace b2:=b2.keep5 hBt trivial trivial
   replace b3:=b3.keep5 hBt trivial trivial
   replace b5:=b5.keep5 hBt trivial trivial
   replace f2:=(hR 2 rfl).trans f2
   replace f3:=(hR 3 rfl).trans f3
   replace f5:=(hR 5 rfl).trans f5
   replace f6:=(hR 6 rfl).trans f6
   replace f7:=(hR 7 rfl).trans f7
   replace f8:=(hR 8 rfl).trans f8
   have e9:a17.eval (.tmp 9)=.pointer (some ⟨gLa,0,none⟩):=hP 0 (by decide)
   have f9:=e9
   have hBl_:=hBt.below (Nat.le_refl _) (UpOld.all (bx:=[]) trivial) (UpX.all (bx:=[]) trivial)
   replace Ar:=Ar.ru hr
   replace Sr:=Sr.ru hr
   replace Dr:=Dr.ru hr
   replace Tr:=Tr.ru hr
   replace Au:=Au.ru hr
   replace Su:=Su.ru hr
   replace Du:=Du.ru hr
   replace Tu:=Tu.ru hr
   replace G6:=G6.ru hr
   replace A6:=A6.ru hr
   replace K6:=K6.ru hr
   replace S6:=S6.ru hr
   replace HK:=HK.ru hr
   replace HR:=HR.ru hr
   replace BK:=BK.below hBl_
   replace BW:=BW.below hBl_
   replace LNa:=LNa.below hBl_
   replace HB:=HB.trans (hBt.below HB.size (UpOld.all (bx:=[]) trivial) (UpX.all (bx:=[]) trivial))
   clear hBt hr hR hP hTs hLi hX hU hRel hSl
   refine ⟨trivial,op_lendn.mono ?_⟩
   rintro v_ w18 ⟨rfl,LNb,hbN⟩
   obtain ⟨gLb,hgb⟩:∃ g,g=w17.heap.size:=⟨_,rfl⟩
   rw [←hgb] at LNb ⊢
   have uLb:w.heap.size≤gLb:=by rw [hgb];exact HB.size
   have kLb:KR≤gLb:=by rw [hgb];exact HR
   have lLb:gLa<gLb:=by rw [hgb];exact LNa.lt
   clear hgb
   replace b2:=b2.below hbN
   replace b3:=b3.below hbN
   replace b5:=b5.below hbN
   replace Ar:=Ar.below hbN
   replace Sr:=Sr.below hbN
   replace Dr:=Dr.below hbN
   replace Tr:=Tr.below hbN
   replace Au:=Au.below hbN
   replace Su:=Su.below hbN
   replace Du:=Du.below hbN
   replace Tu:=Tu.below hbN
   replace G6:=G6.below hbN
   replace A6:=A6.below hbN
   replace K6:=K6.below hbN
   replace S6:=S6.below hbN
   replace HK:=HK.below hbN
   replace HR:=HR.below hbN
   replace BK:=BK.below hbN
   replace BW:=BW.below hbN
   replace LNa:=LNa.below hbN
   replace HB:=HB.trans (hbN.mono HB.size);clear hbN
   change Good _ _ _ _ _ (Act.put a17 (some 10) (.pointer (some ⟨gLb,0,none⟩))) _
   have q_:10<a17.tmps.size:=by rw [hn];decide
   generalize hA_:Act.put a17 (some 10) (.pointer (some ⟨gLb,0,none⟩))=a19
   replace hn:a19.tmps.size=152:=by rw [←hA_,put_tmps];simp [hn]
   replace hd:a19.defers = []:=by rw [←hA_];exact hd
   replace f2:=pne hA_ (by decide) f2
   replace f3:=pne hA_ (by decide) f3
   replace f5:=pne hA_ (by decide) f5
   replace f6:=pne hA_ (by decide) f6
   replace f7:=pne hA_ (by decide) f7
   replace f8:=pne hA_ (by decide) f8
   replace f9:=pne hA_ (by decide) f9
   have f10:a19.eval (.tmp 10)=.pointer (some ⟨gLb,0,none⟩):=by rw [←hA_];exact eval_put_same q_
   clear q_
   clear hA_
   refine good6 2 2 (some 2) [some 9,some 10,some 11,some 12] [Eqs (.pointer (some ⟨gLa,0,none⟩)),Eqs (.pointer (some ⟨gLb,0,none⟩)),Tt,Tt] [] [] [] [] [] (by kernel_rfl) hn rfl (by kernel_rfl) (by kernel_rfl) (by kernel_rfl) (by kernel_rfl) (by kernel_rfl) (by kernel_rfl) (by kernel_rfl) (by kernel_rfl) (by kernel_rfl) (by decide) ⟨Eqs.mono5 _,Eqs.mono5 _,True.mono5,True.mono5,trivial⟩ trivial xok_nil ok_nil (IsOld.all (bx:=[]) trivial) (DisOld.all (bx:=[]) trivial) ⟨⟨trivial,f9⟩,f10⟩ ?_ ?_ ?_
   ·exact ⟨.inl rfl,.inl rfl,.inl rfl,.inl rfl,trivial⟩
   rotate_left
   ·exact fun h=>by cases h
   intro t_ o_ ht_ ho_ a20 w20 gs20 B20 T20 F_
   obtain rfl:=Option.some.inj ht_;obtain rfl:=Option.some.inj ho_;clear ht_ ho_
   obtain ⟨hn20,hd20,hBt,hr,hR,hP,hTs,hLi,hX,hU,hRel,hSl⟩:=F_
   replace hn:=hn20;replace hd:=hd20.trans hd
   have lq20HK:=HK.le
   have lq20HR:=HR.le
   have lq20BK:=BK.lt.2
   replace b2:=b2.keep5 hBt trivial trivial
   replace b3:=b3.keep5 hBt trivial trivial
   replace b5:=b5.keep5 hBt trivial trivial
   replace f2:=(hR 2 rfl).trans f2
   replace f3:=(hR 3 rfl).trans f3
   replace f5:=(hR 5 rfl).trans f5
   replace f6:=(hR 6 rfl).trans f6
   replace f7:=(hR 7 rfl).trans f7
   replace f8:=(hR 8 rfl).trans f8
   have e9:a20.eval (.tmp 9)=.pointer (some ⟨gLa,0,none⟩):=hP 0 (by decide)
   have f9:=e9
   have e10:a20.eval (.tmp 10)=.pointer (some ⟨gLb,0,none⟩):=hP 1 (by decide)
   have f10:=e10
   have hBl_:=hBt.below (Nat.le_refl _) (UpOld.all (bx:=[]) trivial) (UpX.all (bx:=[]) trivial)
   replace Ar:=Ar.ru hr
   replace Sr:=Sr.ru hr
   replace Dr:=Dr.ru hr
   replace Tr:=Tr.ru hr
   replace Au:=Au.ru hr
   replace Su:=Su.ru hr
   replace Du:=Du.ru hr
   replace Tu:=Tu.ru hr
   replace G6:=G6.ru hr
   replace A6:=A6.ru hr
   replace K6:=K6.ru hr
   replace S6:=S6.ru hr
   replace HK:=HK.ru hr
   replace HR:=HR.ru hr
   replace BK:=BK.below hBl_
   replace BW:=BW.below hBl_
   replace LNa:=LNa.below hBl_
   replace LNb:=LNb.below hBl_
   replace HB:=HB.trans (hBt.below HB.size (UpOld.all (bx:=[]) trivial) (UpX.all (bx:=[]) trivial))
   clear hBt hr hR hP hTs hLi hX hU hRel hSl
   refine ⟨trivial,op_lendn.mono ?_⟩
   rintro v_ w21 ⟨rfl,LNc,hbN⟩
   obtain ⟨gLc,hgc⟩:∃ g,g=w20.heap.size:=⟨_,rfl⟩
   rw [←hgc] at LNc ⊢
   have uLc:w.heap.size≤gLc:=by rw [hgc];exact HB.size
   have kLc:KR≤gLc:=by rw [hgc];exact HR
   have lLc:gLb<gLc:=by rw [hgc];exact LNb.lt
   clear hgc
   replace b2:=b2.below hbN
   replace b3:=b3.below hbN
   replace b5:=b5.below hbN
   replace Ar:=Ar.below hbN
   replace Sr:=Sr.below hbN
   replace Dr:=Dr.below hbN
   replace Tr:=Tr.below hbN
   replace Au:=Au.below hbN
   replace Su:=Su.below hbN
   replace Du:=Du.below hbN
   replace Tu:=Tu.below hbN
   replace G6:=G6.below hbN
   replace A6:=A6.below hbN
   replace K6:=K6.below hbN
   replace S6:=S6.below hbN
   replace HK:=HK.below hbN
   replace HR:=HR.below hbN
   replace BK:=BK.below hbN
   replace BW:=BW.below hbN
   replace LNa:=LNa.below hbN
   replace LNb:=LNb.below hbN
   replace HB:=HB.trans (hbN.mono HB.size);clear hbN
   change Good _ _ _ _ _ (Act.put a20 (some 11) (.pointer (some ⟨gLc,0,none⟩))) _
   have q_:11<a20.tmps.size:=by rw [hn];decide
   generalize hA_:Act.put a20 (some 11) (.pointer (some ⟨gLc,0,none⟩))=a22
   replace hn:a22.tmps.size=152:=by rw [←hA_,put_tmps];simp [hn]
   replace hd:a22.defers = []:=by rw [←hA_];exact hd
   replace f2:=pne hA_ (by decide) f2
   replace f3:=pne hA_ (by decide) f3
   replace f5:=pne hA_ (by decide) f5
   replace f6:=pne hA_ (by decide) f6
   replace f7:=pne hA_ (by decide) f7
   replace f8:=pne hA_ (by decide) f8
   replace f9:=pne hA_ (by decide) f9
   replace f10:=pne hA_ (by decide) f10
   have f11:a22.eval (.tmp 11)=.pointer (some ⟨gLc,0,none⟩):=by rw [←hA_];exact eval_put_same q_
   clear q_
   clear hA_
   refine good6 3 3 (some 3) [some 9,some 10,some 11,some 12] [Eqs (.pointer (some ⟨gLa,0,none⟩)),Eqs (.pointer (some ⟨gLb,0,none⟩)),Eqs (.pointer (some ⟨gLc,0,none⟩)),Tt] [] [] [] [] [] (by kernel_rfl) hn rfl (by kernel_rfl) (by kernel_rfl) (by kernel_rfl) (by kernel_rfl) (by kernel_rfl) (by kernel_rfl) (by kernel_rfl) (by kernel_rfl) (by kernel_rfl) (by decide) ⟨Eqs.mono5 _,Eqs.mono5 _,Eqs.mono5 _,True.mono5,trivial⟩ trivial xok_nil ok_nil (IsOld.all (bx:=[]) trivial) (DisOld.all (bx:=[]) trivial) ⟨⟨⟨trivial,f9⟩,f10⟩,f11⟩ ?_ ?_ ?_
   ·exact ⟨.inl rfl,.inl rfl,.inl rfl,.inl rfl,trivial⟩
   rotate_left
   ·exact fun h=>by cases h
   intro t_ o_ ht_ ho_ a23 w23 gs23 B23 T23 F_
   obtain rfl:=Option.some.inj ht_;obtain rfl:=Option.some.inj ho_;clear ht_ ho_
   obtain ⟨hn23,hd23,hBt,hr,hR,hP,hTs,hLi,hX,hU,hRel,hSl⟩:=F_
   replace hn:=hn23;replace hd:=hd23.trans hd
   have lq23HK:=HK.le
   have lq23HR:=HR.le
   have lq23BK:=BK.lt.2
   replace b2:=b2.keep5 hBt trivial trivial
   replace b3:=b3.keep5 hBt trivial trivial
   replace b5:=b5.keep5 hBt trivial trivial
   replace f2:=(hR 2 rfl).trans f2
   replace f3:=(hR 3 rfl).trans f3
   replace f5:=(hR 5 rfl).trans f5
   replace f6:=(hR 6 rfl).trans f6
   replace f7:=(hR 7 rfl).trans f7
   replace f8:=(hR 8 rfl).trans f8
   have e9:a23.eval (.tmp 9)=.pointer (some ⟨gLa,0,none⟩):=hP 0 (by decide)
   have f9:=e9
   have e10:a23.eval (.tmp 10)=.pointer (some ⟨gLb,0,none⟩):=hP 1 (by decide)
   have f10:=e10
   have e11:a23.eval (.tmp 11)=.pointer (some ⟨gLc,0,none⟩):=hP 2 (by decide)
   have f11:=e11
   have hBl_:=hBt.below (Nat.le_refl _) (UpOld.all (bx:=[]) trivial) (UpX.all (bx:=[]) trivial)
   replace Ar:=Ar.ru hr
   replace Sr:=Sr.ru hr
   replace Dr:=Dr.ru hr
   replace Tr:=Tr.ru hr
   replace Au:=Au.ru hr
   replace Su:=Su.ru hr
   replace Du:=Du.ru hr
   replace Tu:=Tu.ru hr
   replace G6:=G6.ru hr
   replace A6:=A6.ru hr
   replace K6:=K6.ru hr
   replace S6:=S6.ru hr
   replace HK:=HK.ru hr
   replace HR:=HR.ru hr
   replace BK:=BK.below hBl_
   replace BW:=BW.below hBl_
   replace LNa:=LNa.below hBl_
   replace LNb:=LNb.below hBl_
   replace LNc:=LNc.below hBl_
   replace HB:=HB.trans (hBt.below HB.size (UpOld.all (bx:=[]) trivial) (UpX.all (bx:=[]) trivial))
   clear hBt hr hR hP hTs hLi hX hU hRel hSl
   refine ⟨trivial,op_lendn.mono ?_⟩
   rintro v_ w24 ⟨rfl,LNd,hbN⟩
   obtain ⟨gLd,hgd⟩:∃ g,g=w23.heap.size:=⟨_,rfl⟩
   rw [←hgd] at LNd ⊢
   have uLd:w.heap.size≤gLd:=by rw [hgd];exact HB.size
   have kLd:KR≤gLd:=by rw [hgd];exact HR
   have lLd:gLc<gLd:=by rw [hgd];exact LNc.lt
   clear hgd
   replace b2:=b2.below hbN
   replace b3:=b3.below hbN
   replace b5:=b5.below hbN
   replace Ar:=Ar.below hbN
   replace Sr:=Sr.below hbN
   replace Dr:=Dr.below hbN
   replace Tr:=Tr.below hbN
   replace Au:=Au.below hbN
   replace Su:=Su.below hbN
   replace Du:=Du.below hbN
   replace Tu:=Tu.below hbN
   replace G6:=G6.below hbN
   replace A6:=A6.below hbN
   replace K6:=K6.below hbN
   replace S6:=S6.below hbN
   replace HK:=HK.below hbN
   replace HR:=HR.below hbN
   replace BK:=BK.below hbN
   replace BW:=BW.below hbN
   replace LNa:=LNa.below hbN
   replace LNb:=LNb.below hbN
   replace LNc:=LNc.below hbN
   replace HB:=HB.trans (hbN.mono HB.size);clear hbN
   change Good _ _ _ _ _ (Act.put a23 (some 12) (.pointer (some ⟨gLd,0,none⟩))) _
   have q_:12<a23.tmps.size:=by rw [hn];decide
   generalize hA_:Act.put a23 (some 12) (.pointer (some ⟨gLd,0,none⟩))=a25
   replace hn:a25.tmps.size=152:=by rw [←hA_,put_tmps];simp [hn]
   replace hd:a25.defers = []:=by rw [←hA_];exact hd
   replace f2:=pne hA_ (by decide) f2
   replace f3:=pne hA_ (by decide) f3
   replace f5:=pne hA_ (by decide) f5
   replace f6:=pne hA_ (by decide) f6
   replace f7:=pne hA_ (by decide) f7
   replace f8:=pne hA_ (by decide) f8
   replace f9:=pne hA_ (by decide) f9
   replace f10:=pne hA_ (by decide) f10
   replace f11:=pne hA_ (by decide) f11
   have f12:a25.eval (.tmp 12)=.pointer (some ⟨gLd,0,none⟩):=by rw [←hA_];exact eval_put_same q_
   clear q_
   clear hA_
   refine good6 4 4 none [some 9,some 10,some 11,some 12] [Eqs (.pointer (some ⟨gLa,0,none⟩)),Eqs (.pointer (some ⟨gLb,0,none⟩)),Eqs (.pointer (some ⟨gLc,0,none⟩)),Eqs (.pointer (some ⟨gLd,0,none⟩))] [] [] [] [] [] (by kernel_rfl) hn rfl (by kernel_rfl) (by kernel_rfl) (by kernel_rfl) (by kernel_rfl) (by kernel_rfl) (by kernel_rfl) (by kernel_rfl) (by kernel_rfl) (by kernel_rfl) (by decide) ⟨Eqs.mono5 _,Eqs.mono5 _,Eqs.mono5 _,Eqs.mono5 _,trivial⟩ trivial xok_nil ok_nil (IsOld.all (bx:=[]) trivial) (DisOld.all (bx:=[]) trivial) ⟨⟨⟨⟨trivial,f9⟩,f10⟩,f11⟩,f12⟩ ?_ ?_ ?_
   ·exact ⟨.inl rfl,.inl rfl,.inl rfl,.inl rfl,trivial⟩
   ·exact fun _ _ h=>by cases h
   intro _ a26 w26 gs26 B26 T26 F_
   obtain ⟨hn26,hd26,hBt,hr,hR,hP,hTs,hLi,hX,hU,hRel,hSl⟩:=F_
   replace hn:=hn26;replace hd:=hd26.trans hd
   have lq26HK:=HK.le
   have lq26HR:=HR.le
   have lq26BK:=BK.lt.2
   replace b2:=b2.keep5 hBt trivial trivial
   replace b3:=b3.keep5 hBt trivial trivial
   replace b5:=b5.keep5 hBt trivial trivial
   replace f2:=(hR 2 rfl).trans f2
   replace f3:=(hR 3 rfl).trans f3
   replace f5:=(hR 5 rfl).trans f5
   replace f6:=(hR 6 rfl).trans f6
   replace f7:=(hR 7 rfl).trans f7
   replace f8:=(hR 8 rfl).trans f8
   have e9:a26.eval (.tmp 9)=.pointer (some ⟨gLa,0,none⟩):=hP 0 (by decide)
   have f9:=e9
   have e10:a26.eval (.tmp 10)=.pointer (some ⟨gLb,0,none⟩):=hP 1 (by decide)
   have f10:=e10
   have e11:a26.eval (.tmp 11)=.pointer (some ⟨gLc,0,none⟩):=hP 2 (by decide)
   have f11:=e11
   have e12:a26.eval (.tmp 12)=.pointer (some ⟨gLd,0,none⟩):=hP 3 (by decide)
   have f12:=e12
   have hBl_:=hBt.below (Nat.le_refl _) (UpOld.all (bx:=[]) trivial) (UpX.all (bx:=[]) trivial)
   replace Ar:=Ar.ru hr
   replace Sr:=Sr.ru hr
   replace Dr:=Dr.ru hr
   replace Tr:=Tr.ru hr
   replace Au:=Au.ru hr
   replace Su:=Su.ru hr
   replace Du:=Du.ru hr
   replace Tu:=Tu.ru hr
   replace G6:=G6.ru hr
   replace A6:=A6.ru hr
   replace K6:=K6.ru hr
   replace S6:=S6.ru hr
   replace HK:=HK.ru hr
   replace HR:=HR.ru hr
   replace BK:=BK.below hBl_
   replace BW:=BW.below hBl_
   replace LNa:=LNa.below hBl_
   replace LNb:=LNb.below hBl_
   replace LNc:=LNc.below hBl_
   replace LNd:=LNd.below hBl_
   replace HB:=HB.trans (hBt.below HB.size (UpOld.all (bx:=[]) trivial) (UpX.all (bx:=[]) trivial))
   clear hBt hr hR hP hTs hLi hX hU hRel hSl
   refine wp_seq ?_
   refine wp_of_good (by kernel_rfl) (by kernel_rfl) (fun w_0 hb_0=>?_)
   replace b2:=b2.below hb_0
   replace b3:=b3.below hb_0
   replace b5:=b5.below hb_0
   replace Ar:=Ar.below hb_0
   replace Sr:=Sr.below hb_0
   replace Dr:=Dr.below hb_0
   replace Tr:=Tr.below hb_0
   replace Au:=Au.below hb_0
   replace Su:=Su.below hb_0
   replace Du:=Du.below hb_0
   replace Tu:=Tu.below hb_0
   replace G6:=G6.below hb_0
   replace A6:=A6.below hb_0
   replace K6:=K6.below hb_0
   replace S6:=S6.below hb_0
   replace HK:=HK.below hb_0
   replace HR:=HR.below hb_0
   replace BK:=BK.below hb_0
   replace BW:=BW.below hb_0
   replace LNa:=LNa.below hb_0
   replace LNb:=LNb.below hb_0
   replace LNc:=LNc.below hb_0
   replace LNd:=LNd.below hb_0
   replace HB:=HB.trans (hb_0.mono HB.size);clear hb_0
   refine good6 0 1 (some 1) [some 41,some 42,some 13,none] [Eqs (.agg #[.bool nr,.slice ar mr cr,.slice br kr dr]),Tt,Tt,Tt] [] [] [] [] [] (by kernel_rfl) hn rfl (by kernel_rfl) (by kernel_rfl) (by kernel_rfl) (by kernel_rfl) (by kernel_rfl) (by kernel_rfl) (by kernel_rfl) (by kernel_rfl) (by kernel_rfl) (by decide) ⟨Eqs.mono5 _,True.mono5,True.mono5,True.mono5,trivial⟩ trivial xok_nil ok_nil (IsOld.all (bx:=[]) trivial) (DisOld.all (bx:=[]) trivial) trivial ?_ ?_ ?_
   ·exact ⟨.inr (.norm 41 rfl rfl (nxt rfl) rfl (fun a_ w_ _ t r R D _ _=>d6 rfl (op_loadv R3ok ((R 2 rfl).trans f2) (b2.keep5 t trivial trivial)))),.inl rfl,.inl rfl,.inl rfl,trivial⟩
   rotate_left
   ·exact fun h=>by cases h
   intro t_ o_ ht_ ho_ a27 w27 gs27 B27 T27 F_
   obtain rfl:=Option.some.inj ht_;obtain rfl:=Option.some.inj ho_;clear ht_ ho_
   obtain ⟨hn27,hd27,hBt,hr,hR,hP,hTs,hLi,hX,hU,hRel,hSl⟩:=F_
   replace hn:=hn27;replace hd:=hd27.trans hd
   have lq27HK:=HK.le
   have lq27HR:=HR.le
   have lq27BK:=BK.lt.2
   replace b2:=b2.keep5 hBt trivial trivial
   replace b3:=b3.keep5 hBt trivial trivial
   replace b5:=b5.keep5 hBt trivial trivial
   replace f2:=(hR 2 rfl).trans f2
   replace f3:=(hR 3 rfl).trans f3
   replace f5:=(hR 5 rfl).trans f5
   replace f6:=(hR 6 rfl).trans f6
   replace f7:=(hR 7 rfl).trans f7
   replace f8:=(hR 8 rfl).trans f8
   replace f9:=(hR 9 rfl).trans f9
   replace f10:=(hR 10 rfl).trans f10
   replace f11:=(hR 11 rfl).trans f11
   replace f12:=(hR 12 rfl).trans f12
   have e41:a27.eval (.tmp 41)=.agg #[.bool nr,.slice ar mr cr,.slice br kr dr]:=hP 0 (by decide)
   have f41:=e41
   have hBl_:=hBt.below (Nat.le_refl _) (UpOld.all (bx:=[]) trivial) (UpX.all (bx:=[]) trivial)
   replace Ar:=Ar.ru hr
   replace Sr:=Sr.ru hr
   replace Dr:=Dr.ru hr
   replace Tr:=Tr.ru hr
   replace Au:=Au.ru hr
   replace Su:=Su.ru hr
   replace Du:=Du.ru hr
   replace Tu:=Tu.ru hr
   replace G6:=G6.ru hr
   replace A6:=A6.ru hr
   replace K6:=K6.ru hr
   replace S6:=S6.ru hr
   replace HK:=HK.ru hr
   replace HR:=HR.ru hr
   replace BK:=BK.below hBl_
   replace BW:=BW.below hBl_
   replace LNa:=LNa.below hBl_
   replace LNb:=LNb.below hBl_
   replace LNc:=LNc.below hBl_
   replace LNd:=LNd.below hBl_
   replace HB:=HB.trans (hBt.below HB.size (UpOld.all (bx:=[]) trivial) (UpX.all (bx:=[]) trivial))
   clear hBt hr hR hP hTs hLi hX hU hRel hSl
   refine ⟨trivial,(op_lent f41 f9 f10 LNa LNb (Nat.ne_of_lt lLb) Ar Lr Sr Vr Mr).mono ?_⟩
   rintro v_ w28 ⟨ga,gb,rfl,LSa,LSb,uga,ugb,hgab,t2_⟩
   have hsz_:=HR.le;have hh_:=hide hgab;clear hgab;have hgab:=hh_;clear hh_
   have kga:KR≤ga:=(by omega);have kgb:KR≤gb:=(by omega)
   have ngac:gLc<ga∧gLc<gb:=by have:=LNc.lt;omega
   have ngad:gLd<ga∧gLd<gb:=by have:=LNd.lt;omega
   replace b2:=b2.touch2 t2_ (lendn_box (by decide) LNa b2) (lendn_box (by decide) LNb b2)
   replace b3:=b3.touch2 t2_ (lendn_box (by decide) LNa b3) (lendn_box (by decide) LNb b3)
   replace b5:=b5.touch2 t2_ (lendn_box (by decide) LNa b5) (lendn_box (by decide) LNb b5)
   have uwa:w.heap.size≤ga:=(by omega);have uwb:w.heap.size≤gb:=(by omega)
   replace LNc:=LNc.touch2 t2_ (by omega) (by omega)
   replace LNd:=LNd.touch2 t2_ (by omega) (by omega)
   replace HK:SzGe _ w28:=Nat.le_trans HK t2_.size
   replace HR:SzGe _ w28:=Nat.le_trans HR t2_.size
   replace BK:=BK.touch2 t2_ (by omega) (by omega) (fun h=>by have:=hbs _ h;omega) (fun h=>by have:=hbs _ h;omega)
   replace BW:=BW.touch2 t2_ (by omega) (by omega)
   replace HB:=HB.trans (t2_.below uLa uLb HB.size);clear t2_ hsz_ LNa LNb
   replace Ar:=Ar0.below HB;replace Sr:=Sr0.below HB;replace Dr:Ag _ false br kr dr rt qr:=⟨Sr,Vr⟩;replace Tr:=Ar.sl
   replace Au:=Au0.below HB;replace Su:=Su0.below HB;replace Du:Ag _ false bu ku du ut qu:=⟨Su,Vu⟩;replace Tu:=Au.sl
   replace G6:=G6_0.below BW.h
   replace A6:=A6_0.below BW.h
   replace K6:=K6_0.below BW.h
   replace S6:=S6_0.below BW.h
   have ALr:Ag w28 nr (some ⟨ga,5,none⟩) rs.length (rs.length+5) rs pr:=⟨LSa.sl (by omega),Ar0.worth⟩;have SLr:=LSb.sl (by omega)
   change Good _ _ _ _ _ (Act.put a27 (some 42) (.agg #[.bool nr,.slice (some ⟨ga,5,none⟩) rs.length (rs.length+5),.slice (some ⟨gb,5,none⟩) rt.length (rt.length+5)])) _
   have q_:42<a27.tmps.size:=by rw [hn];decide
   generalize hA_:Act.put a27 (some 42) (.agg #[.bool nr,.slice (some ⟨ga,5,none⟩) rs.length (rs.length+5),.slice (some ⟨gb,5,none⟩) rt.length (rt.length+5)])=a29
   replace hn:a29.tmps.size=152:=by rw [←hA_,put_tmps];simp [hn]
   replace hd:a29.defers = []:=by rw [←hA_];exact hd
   replace f2:=pne hA_ (by decide) f2
   replace f3:=pne hA_ (by decide) f3
   replace f5:=pne hA_ (by decide) f5
   replace f6:=pne hA_ (by decide) f6
   replace f7:=pne hA_ (by decide) f7
   replace f8:=pne hA_ (by decide) f8
   replace f9:=pne hA_ (by decide) f9
   replace f10:=pne hA_ (by decide) f10
   replace f11:=pne hA_ (by decide) f11
   replace f12:=pne hA_ (by decide) f12
   replace f41:=pne hA_ (by decide) f41
   have f42:a29.eval (.tmp 42)=.agg #[.bool nr,.slice (some ⟨ga,5,none⟩) rs.length (rs.length+5),.slice (some ⟨gb,5,none⟩) rt.length (rt.length+5)]:=by rw [←hA_];exact eval_put_same q_
   clear q_
   clear hA_
   refine good6 2 4 none [some 41,some 42,some 13,none] [Eqs (.agg #[.bool nr,.slice ar mr cr,.slice br kr dr]),Eqs (.agg #[.bool nr,.slice (some ⟨ga,5,none⟩) rs.length (rs.length+5),.slice (some ⟨gb,5,none⟩) rt.length (rt.length+5)]),Tt,Tt] [] [] [⟨R3,some 2,0,13,.agg #[.bool false,.slice none 0 0,.slice none 0 0],some (3,42,1),[]⟩] [] [] (by kernel_rfl) hn rfl (by kernel_rfl) (by kernel_rfl) (by kernel_rfl) (by kernel_rfl) (by kernel_rfl) (by kernel_rfl) (by kernel_rfl) (by kernel_rfl) (by kernel_rfl) (by decide) ⟨Eqs.mono5 _,Eqs.mono5 _,True.mono5,True.mono5,trivial⟩ trivial xok_nil (ok_cons R3ok ok_nil) (IsOld.all (bx:=[⟨R3,some 2,0,13,.agg #[.bool false,.slice none 0 0,.slice none 0 0],some (3,42,1),[]⟩]) ⟨someNe,trivial⟩) (DisOld.all (bx:=[⟨R3,some 2,0,13,.agg #[.bool false,.slice none 0 0,.slice none 0 0],some (3,42,1),[]⟩]) ⟨someNe,trivial⟩) ⟨⟨trivial,f41⟩,f42⟩ ?_ ?_ ?_
   ·exact ⟨.inl rfl,.inl rfl,.inr (.alloc 0 _ rfl rfl (.inl ⟨rfl,rfl⟩) rfl rfl rfl rfl rfl (nxt rfl) rfl rfl),.inr (.store 0 _ _ _ rfl rfl rfl rfl rfl rfl rfl rfl rfl (nxt rfl) (fun ia h=>by cases h;rfl) rfl rfl rfl (eqs_cs r3_cs)),trivial⟩
   ·exact fun _ _ h=>by cases h
   intro _ a30 w30 gs30 B30 T30 F_
   obtain ⟨hn30,hd30,hBt,hr,hR,hP,hTs,hLi,hX,hU,hRel,hSl⟩:=F_
   replace hn:=hn30;replace hd:=hd30.trans hd
   have lq30HK:=HK.le
   have lq30HR:=HR.le
   have lq30BK:=BK.lt.2
   have lq30LSa:=LSa.lt
   have lq30LSb:=LSb.lt
   replace b2:=b2.keep5 hBt ⟨someNe,trivial⟩ trivial
   replace b3:=b3.keep5 hBt ⟨someNe,trivial⟩ trivial
   replace b5:=b5.keep5 hBt ⟨someNe,trivial⟩ trivial
   have e42:a30.eval (.tmp 42)=.agg #[.bool nr,.slice (some ⟨ga,5,none⟩) rs.length (rs.length+5),.slice (some ⟨gb,5,none⟩) rt.length (rt.length+5)]:=hP 1 (by decide)
   have b13:BoxV R3 w30 (gs30 0) (.agg #[.bool nr,.slice (some ⟨ga,5,none⟩) rs.length (rs.length+5),.slice (some ⟨gb,5,none⟩) rt.length (rt.length+5)]):=boxv_of (hX 0 _ rfl).2.2.2 e42
   have f13:=(hX 0 _ rfl).1
   have v13:=(hX 0 _ rfl).2.2.1 (by simp)
   have u13:w.heap.size≤gs30 0:=Nat.le_trans HB.size v13
   replace f2:=(hR 2 rfl).trans f2
   replace f3:=(hR 3 rfl).trans f3
   replace f5:=(hR 5 rfl).trans f5
   replace f6:=(hR 6 rfl).trans f6
   replace f7:=(hR 7 rfl).trans f7
   replace f8:=(hR 8 rfl).trans f8
   replace f9:=(hR 9 rfl).trans f9
   replace f10:=(hR 10 rfl).trans f10
   replace f11:=(hR 11 rfl).trans f11
   replace f12:=(hR 12 rfl).trans f12
   have hBl_:=hBt.below (Nat.le_refl _) (UpOld.all (bx:=[⟨R3,some 2,0,13,.agg #[.bool false,.slice none 0 0,.slice none 0 0],some (3,42,1),[]⟩]) ⟨someNe,trivial⟩) (UpX.all (bx:=[]) trivial)
   replace Ar:=Ar.ru hr
   replace Sr:=Sr.ru hr
   replace Dr:=Dr.ru hr
   replace Tr:=Tr.ru hr
   replace Au:=Au.ru hr
   replace Su:=Su.ru hr
   replace Du:=Du.ru hr
   replace Tu:=Tu.ru hr
   replace G6:=G6.ru hr
   replace A6:=A6.ru hr
   replace K6:=K6.ru hr
   replace S6:=S6.ru hr
   replace HK:=HK.ru hr
   replace HR:=HR.ru hr
   replace BK:=BK.below hBl_
   replace BW:=BW.below hBl_
   replace LNc:=LNc.below hBl_
   replace LNd:=LNd.below hBl_
   replace LSa:=LSa.below hBl_
   replace LSb:=LSb.below hBl_
   replace ALr:=ALr.ru hr
   replace SLr:=SLr.ru hr
   replace HB:=HB.trans (hBt.below HB.size (UpOld.all (bx:=[⟨R3,some 2,0,13,.agg #[.bool false,.slice none 0 0,.slice none 0 0],some (3,42,1),[]⟩]) ⟨someNe,trivial⟩) (UpX.all (bx:=[]) trivial))
   clear hBt hr hR hP hTs hLi hX hU hRel hSl
   refine wp_seq ?_
   refine wp_of_good (by kernel_rfl) (by kernel_rfl) (fun w_0 hb_0=>?_)
   replace b2:=b2.below hb_0
   replace b3:=b3.below hb_0
   replace b5:=b5.below hb_0
   replace b13:=b13.below hb_0
   replace Ar:=Ar.below hb_0
   replace Sr:=Sr.below hb_0
   replace Dr:=Dr.below hb_0
   replace Tr:=Tr.below hb_0
   replace Au:=Au.below hb_0
   replace Su:=Su.below hb_0
   replace Du:=Du.below hb_0
   replace Tu:=Tu.below hb_0
   replace G6:=G6.below hb_0
   replace A6:=A6.below hb_0
   replace K6:=K6.below hb_0
   replace S6:=S6.below hb_0
   replace HK:=HK.below hb_0
   replace HR:=HR.below hb_0
   replace BK:=BK.below hb_0
   replace BW:=BW.below hb_0
   replace LNc:=LNc.below hb_0
   replace LNd:=LNd.below hb_0
   replace LSa:=LSa.below hb_0
   replace LSb:=LSb.below hb_0
   replace ALr:=ALr.below hb_0
   replace SLr:=SLr.below hb_0
   replace HB:=HB.trans (hb_0.mono HB.size);clear hb_0
   refine good6 0 1 (some 1) [some 43,some 44,some 14,none] [Eqs (.agg #[.bool nu,.slice au mu cu,.slice bu ku du]),Tt,Tt,Tt] [] [] [] [] [] (by kernel_rfl) hn rfl (by kernel_rfl) (by kernel_rfl) (by kernel_rfl) (by kernel_rfl) (by kernel_rfl) (by kernel_rfl) (by kernel_rfl) (by kernel_rfl) (by kernel_rfl) (by decide) ⟨Eqs.mono5 _,True.mono5,True.mono5,True.mono5,trivial⟩ trivial xok_nil ok_nil (IsOld.all (bx:=[]) trivial) (DisOld.all (bx:=[]) trivial) trivial ?_ ?_ ?_
   ·exact ⟨.inr (.norm 43 rfl rfl (nxt rfl) rfl (fun a_ w_ _ t r R D _ _=>d6 rfl (op_loadv R3ok ((R 3 rfl).trans f3) (b3.keep5 t trivial trivial)))),.inl rfl,.inl rfl,.inl rfl,trivial⟩
   rotate_left
   ·exact fun h=>by cases h
   intro t_ o_ ht_ ho_ a31 w31 gs31 B31 T31 F_
   obtain rfl:=Option.some.inj ht_;obtain rfl:=Option.some.inj ho_;clear ht_ ho_
   obtain ⟨hn31,hd31,hBt,hr,hR,hP,hTs,hLi,hX,hU,hRel,hSl⟩:=F_
   replace hn:=hn31;replace hd:=hd31.trans hd
   have lq31HK:=HK.le
   have lq31HR:=HR.le
   have lq31BK:=BK.lt.2
   have lq31LSa:=LSa.lt
   have lq31LSb:=LSb.lt
   replace b2:=b2.keep5 hBt trivial trivial
   replace b3:=b3.keep5 hBt trivial trivial
   replace b5:=b5.keep5 hBt trivial trivial
   replace b13:=b13.keep5 hBt trivial trivial
   replace f2:=(hR 2 rfl).trans f2
   replace f3:=(hR 3 rfl).trans f3
   replace f5:=(hR 5 rfl).trans f5
   replace f6:=(hR 6 rfl).trans f6
   replace f7:=(hR 7 rfl).trans f7
   replace f8:=(hR 8 rfl).trans f8
   replace f9:=(hR 9 rfl).trans f9
   replace f10:=(hR 10 rfl).trans f10
   replace f11:=(hR 11 rfl).trans f11
   replace f12:=(hR 12 rfl).trans f12
   replace f13:=(hR 13 rfl).trans f13
   have e43:a31.eval (.tmp 43)=.agg #[.bool nu,.slice au mu cu,.slice bu ku du]:=hP 0 (by decide)
   have f43:=e43
   have hBl_:=hBt.below (Nat.le_refl _) (UpOld.all (bx:=[]) trivial) (UpX.all (bx:=[]) trivial)
   replace Ar:=Ar.ru hr
   replace Sr:=Sr.ru hr
   replace Dr:=Dr.ru hr
   replace Tr:=Tr.ru hr
   replace Au:=Au.ru hr
   replace Su:=Su.ru hr
   replace Du:=Du.ru hr
   replace Tu:=Tu.ru hr
   replace G6:=G6.ru hr
   replace A6:=A6.ru hr
   replace K6:=K6.ru hr
   replace S6:=S6.ru hr
   replace HK:=HK.ru hr
   replace HR:=HR.ru hr
   replace BK:=BK.below hBl_
   replace BW:=BW.below hBl_
   replace LNc:=LNc.below hBl_
   replace LNd:=LNd.below hBl_
   replace LSa:=LSa.below hBl_
   replace LSb:=LSb.below hBl_
   replace ALr:=ALr.ru hr
   replace SLr:=SLr.ru hr
   replace HB:=HB.trans (hBt.below HB.size (UpOld.all (bx:=[]) trivial) (UpX.all (bx:=[]) trivial))
   clear hBt hr hR hP hTs hLi hX hU hRel hSl
   refine ⟨trivial,(op_lent f43 f11 f12 LNc LNd (Nat.ne_of_lt lLd) Au Lu Su Vu Mu).mono ?_⟩
   rintro v_ w32 ⟨gc,gd,rfl,LSc,LSd,ugc,ugd,hgcd,t2_⟩
   have hsz_:=HR.le;have hh_:=hide hgcd;clear hgcd;have hgcd:=hh_;clear hh_
   have kgc:KR≤gc:=(by omega);have kgd:KR≤gd:=(by omega)
   have hgac:ga<gc∧ga<gd:=by have:=LSa.lt;omega
   have hgbc:gb<gc∧gb<gd:=by have:=LSb.lt;omega
   replace b2:=b2.touch2 t2_ (lendn_box (by decide) LNc b2) (lendn_box (by decide) LNd b2)
   replace b3:=b3.touch2 t2_ (lendn_box (by decide) LNc b3) (lendn_box (by decide) LNd b3)
   replace b5:=b5.touch2 t2_ (lendn_box (by decide) LNc b5) (lendn_box (by decide) LNd b5)
   replace b13:=b13.touch2 t2_ (lendn_box (by decide) LNc b13) (lendn_box (by decide) LNd b13)
   have uwc:w.heap.size≤gc:=(by omega);have uwd:w.heap.size≤gd:=(by omega)
   replace LSa:=LSa.touch2 t2_ (by omega) (by omega) (by omega) (by omega)
   replace LSb:=LSb.touch2 t2_ (by omega) (by omega) (by omega) (by omega)
   replace HK:SzGe _ w32:=Nat.le_trans HK t2_.size
   replace HR:SzGe _ w32:=Nat.le_trans HR t2_.size
   replace BK:=BK.touch2 t2_ (by omega) (by omega) (fun h=>by have:=hbs _ h;omega) (fun h=>by have:=hbs _ h;omega)
   replace BW:=BW.touch2 t2_ (by omega) (by omega)
   replace HB:=HB.trans (t2_.below uLc uLd HB.size);clear t2_ hsz_ LNc LNd
   replace Ar:=Ar0.below HB;replace Sr:=Sr0.below HB;replace Dr:Ag _ false br kr dr rt qr:=⟨Sr,Vr⟩;replace Tr:=Ar.sl
   replace Au:=Au0.below HB;replace Su:=Su0.below HB;replace Du:Ag _ false bu ku du ut qu:=⟨Su,Vu⟩;replace Tu:=Au.sl
   replace G6:=G6_0.below BW.h
   replace A6:=A6_0.below BW.h
   replace K6:=K6_0.below BW.h
   replace S6:=S6_0.below BW.h
   replace ALr:Ag w32 nr (some ⟨ga,5,none⟩) rs.length (rs.length+5) rs pr:=⟨LSa.sl (by omega),Ar0.worth⟩;replace SLr:=LSb.sl (by omega)
   have ALu:Ag w32 nu (some ⟨gc,5,none⟩) us.length (us.length+5) us pu:=⟨LSc.sl (by omega),Au0.worth⟩;have SLu:=LSd.sl (by omega)
   change Good _ _ _ _ _ (Act.put a31 (some 44) (.agg #[.bool nu,.slice (some ⟨gc,5,none⟩) us.length (us.length+5),.slice (some ⟨gd,5,none⟩) ut.length (ut.length+5)])) _
   have q_:44<a31.tmps.size:=by rw [hn];decide
   generalize hA_:Act.put a31 (some 44) (.agg #[.bool nu,.slice (some ⟨gc,5,none⟩) us.length (us.length+5),.slice (some ⟨gd,5,none⟩) ut.length (ut.length+5)])=a33
   replace hn:a33.tmps.size=152:=by rw [←hA_,put_tmps];simp [hn]
   replace hd:a33.defers = []:=by rw [←hA_];exact hd
   replace f2:=pne hA_ (by decide) f2
   replace f3:=pne hA_ (by decide) f3
   replace f5:=pne hA_ (by decide) f5
   replace f6:=pne hA_ (by decide) f6
   replace f7:=pne hA_ (by decide) f7
   replace f8:=pne hA_ (by decide) f8
   replace f9:=pne hA_ (by decide) f9
   replace f10:=pne hA_ (by decide) f10
   replace f11:=pne hA_ (by decide) f11
   replace f12:=pne hA_ (by decide) f12
   replace f13:=pne hA_ (by decide) f13
   replace f43:=pne hA_ (by decide) f43
   have f44:a33.eval (.tmp 44)=.agg #[.bool nu,.slice (some ⟨gc,5,none⟩) us.length (us.length+5),.slice (some ⟨gd,5,none⟩) ut.length (ut.length+5)]:=by rw [←hA_];exact eval_put_same q_
   clear q_
   clear hA_
   refine good6 2 4 none [some 43,some 44,some 14,none] [Eqs (.agg #[.bool nu,.slice au mu cu,.slice bu ku du]),Eqs (.agg #[.bool nu,.slice (some ⟨gc,5,none⟩) us.length (us.length+5),.slice (some ⟨gd,5,none⟩) ut.length (ut.length+5)]),Tt,Tt] [] [] [⟨R3,some 2,0,14,.agg #[.bool false,.slice none 0 0,.slice none 0 0],some (3,44,1),[]⟩] [] [] (by kernel_rfl) hn rfl (by kernel_rfl) (by kernel_rfl) (by kernel_rfl) (by kernel_rfl) (by kernel_rfl) (by kernel_rfl) (by kernel_rfl) (by kernel_rfl) (by kernel_rfl) (by decide) ⟨Eqs.mono5 _,Eqs.mono5 _,True.mono5,True.mono5,trivial⟩ trivial xok_nil (ok_cons R3ok ok_nil) (IsOld.all (bx:=[⟨R3,some 2,0,14,.agg #[.bool false,.slice none 0 0,.slice none 0 0],some (3,44,1),[]⟩]) ⟨someNe,trivial⟩) (DisOld.all (bx:=[⟨R3,some 2,0,14,.agg #[.bool false,.slice none 0 0,.slice none 0 0],some (3,44,1),[]⟩]) ⟨someNe,trivial⟩) ⟨⟨trivial,f43⟩,f44⟩ ?_ ?_ ?_
   ·exact ⟨.inl rfl,.inl rfl,.inr (.alloc 0 _ rfl rfl (.inl ⟨rfl,rfl⟩) rfl rfl rfl rfl rfl (nxt rfl) rfl rfl),.inr (.store 0 _ _ _ rfl rfl rfl rfl rfl rfl rfl rfl rfl (nxt rfl) (fun ia h=>by cases h;rfl) rfl rfl rfl (eqs_cs r3_cs)),trivial⟩
   ·exact fun _ _ h=>by cases h
   intro _ a34 w34 gs34 B34 T34 F_
   obtain ⟨hn34,hd34,hBt,hr,hR,hP,hTs,hLi,hX,hU,hRel,hSl⟩:=F_
   replace hn:=hn34;replace hd:=hd34.trans hd
   have lq34HK:=HK.le
   have lq34HR:=HR.le
   have lq34BK:=BK.lt.2
   have lq34LSa:=LSa.lt
   have lq34LSb:=LSb.lt
   have lq34LSc:=LSc.lt
   have lq34LSd:=LSd.lt
   replace b2:=b2.keep5 hBt ⟨someNe,trivial⟩ trivial
   replace b3:=b3.keep5 hBt ⟨someNe,trivial⟩ trivial
   replace b5:=b5.keep5 hBt ⟨someNe,trivial⟩ trivial
   replace b13:=b13.keep5 hBt ⟨someNe,trivial⟩ trivial
   have e44:a34.eval (.tmp 44)=.agg #[.bool nu,.slice (some ⟨gc,5,none⟩) us.length (us.length+5),.slice (some ⟨gd,5,none⟩) ut.length (ut.length+5)]:=hP 1 (by decide)
   have b14:BoxV R3 w34 (gs34 0) (.agg #[.bool nu,.slice (some ⟨gc,5,none⟩) us.length (us.length+5),.slice (some ⟨gd,5,none⟩) ut.length (ut.length+5)]):=boxv_of (hX 0 _ rfl).2.2.2 e44
   have f14:=(hX 0 _ rfl).1
   have v14:=(hX 0 _ rfl).2.2.1 (by simp)
   have u14:w.heap.size≤gs34 0:=Nat.le_trans HB.size v14
   replace f2:=(hR 2 rfl).trans f2
   replace f3:=(hR 3 rfl).trans f3
   replace f5:=(hR 5 rfl).trans f5
   replace f6:=(hR 6 rfl).trans f6
   replace f7:=(hR 7 rfl).trans f7
   replace f8:=(hR 8 rfl).trans f8
   replace f9:=(hR 9 rfl).trans f9
   replace f10:=(hR 10 rfl).trans f10
   replace f11:=(hR 11 rfl).trans f11
   replace f12:=(hR 12 rfl).trans f12
   replace f13:=(hR 13 rfl).trans f13
   have hBl_:=hBt.below (Nat.le_refl _) (UpOld.all (bx:=[⟨R3,some 2,0,14,.agg #[.bool false,.slice none 0 0,.slice none 0 0],some (3,44,1),[]⟩]) ⟨someNe,trivial⟩) (UpX.all (bx:=[]) trivial)
   replace Ar:=Ar.ru hr
   replace Sr:=Sr.ru hr
   replace Dr:=Dr.ru hr
   replace Tr:=Tr.ru hr
   replace Au:=Au.ru hr
   replace Su:=Su.ru hr
   replace Du:=Du.ru hr
   replace Tu:=Tu.ru hr
   replace G6:=G6.ru hr
   replace A6:=A6.ru hr
   replace K6:=K6.ru hr
   replace S6:=S6.ru hr
   replace HK:=HK.ru hr
   replace HR:=HR.ru hr
   replace BK:=BK.below hBl_
   replace BW:=BW.below hBl_
   replace LSa:=LSa.below hBl_
   replace LSb:=LSb.below hBl_
   replace ALr:=ALr.ru hr
   replace SLr:=SLr.ru hr
   replace LSc:=LSc.below hBl_
   replace LSd:=LSd.below hBl_
   replace ALu:=ALu.ru hr
   replace SLu:=SLu.ru hr
   replace HB:=HB.trans (hBt.below HB.size (UpOld.all (bx:=[⟨R3,some 2,0,14,.agg #[.bool false,.slice none 0 0,.slice none 0 0],some (3,44,1),[]⟩]) ⟨someNe,trivial⟩) (UpX.all (bx:=[]) trivial))
   clear hBt hr hR hP hTs hLi hX hU hRel hSl
   refine wp_seq ?_
   refine wp_of_good (by kernel_rfl) (by kernel_rfl) (fun w_0 hb_0=>?_)
   replace b2:=b2.below hb_0
   replace b3:=b3.below hb_0
   replace b5:=b5.below hb_0
   replace b13:=b13.below hb_0
   replace b14:=b14.below hb_0
   replace Ar:=Ar.below hb_0
   replace Sr:=Sr.below hb_0
   replace Dr:=Dr.below hb_0
   replace Tr:=Tr.below hb_0
   replace Au:=Au.below hb_0
   replace Su:=Su.below hb_0
   replace Du:=Du.below hb_0
   replace Tu:=Tu.below hb_0
   replace G6:=G6.below hb_0
   replace A6:=A6.below hb_0
   replace K6:=K6.below hb_0
   replace S6:=S6.below hb_0
   replace HK:=HK.below hb_0
   replace HR:=HR.below hb_0
   replace BK:=BK.below hb_0
   replace BW:=BW.below hb_0
   replace LSa:=LSa.below hb_0
   replace LSb:=LSb.below hb_0
   replace ALr:=ALr.below hb_0
   replace SLr:=SLr.below hb_0
   replace LSc:=LSc.below hb_0
   replace LSd:=LSd.below hb_0
   replace ALu:=ALu.below hb_0
   replace SLu:=SLu.below hb_0
   replace HB:=HB.trans (hb_0.mono HB.size);clear hb_0
   refine good6 0 15 none [some 45,some 46,some 47,some 48,some 49,some 50,some 51,some 52,some 53,some 15,some 16,some 17,none,none,none] [Eqs (.agg #[.bool nr,.slice (some ⟨ga,5,none⟩) rs.length (rs.length+5),.slice (some ⟨gb,5,none⟩) rt.length (rt.length+5)]),Eqs (.agg #[.bool nu,.slice (some ⟨gc,5,none⟩) us.length (us.length+5),.slice (some ⟨gd,5,none⟩) ut.length (ut.length+5)]),OutR ((nm ((tp pr qr)*(tq qu)+(tp pu qu)*(tq qr)) ((tq qr)*(tq qu)))) ((dn ((tp pr qr)*(tq qu)+(tp pu qu)*(tq qr)) ((tq qr)*(tq qu)))) (3*(1500+1500+4)+1),Eqs (.agg #[.bool nr,.slice (some ⟨ga,5,none⟩) rs.length (rs.length+5),.slice (some ⟨gb,5,none⟩) rt.length (rt.length+5)]),Eqs (.agg #[.bool nu,.slice (some ⟨gc,5,none⟩) us.length (us.length+5),.slice (some ⟨gd,5,none⟩) ut.length (ut.length+5)]),OutR ((nm ((tp pr qr)*(tq qu) - (tp pu qu)*(tq qr)) ((tq qr)*(tq qu)))) ((dn ((tp pr qr)*(tq qu) - (tp pu qu)*(tq qr)) ((tq qr)*(tq qu)))) (3*(1500+1500+4)+1),Eqs (.agg #[.bool nr,.slice (some ⟨ga,5,none⟩) rs.length (rs.length+5),.slice (some ⟨gb,5,none⟩) rt.length (rt.length+5)]),Eqs (.agg #[.bool nu,.slice (some ⟨gc,5,none⟩) us.length (us.length+5),.slice (some ⟨gd,5,none⟩) ut.length (ut.length+5)]),OutR ((nm ((tp pr qr)*(tp pu qu)) ((tq qr)*(tq qu)))) ((dn ((tp pr qr)*(tp pu qu)) ((tq qr)*(tq qu)))) (2*(1500+1500+4)),Tt,Tt,Tt,Tt,Tt,Tt] [TrI,TrI,OwnRI ((nm ((tp pr qr)*(tq qu)+(tp pu qu)*(tq qr)) ((tq qr)*(tq qu)))) ((dn ((tp pr qr)*(tq qu)+(tp pu qu)*(tq qr)) ((tq qr)*(tq qu)))) (3*(1500+1500+4)+1),TrI,TrI,OwnRI ((nm ((tp pr qr)*(tq qu) - (tp pu qu)*(tq qr)) ((tq qr)*(tq qu)))) ((dn ((tp pr qr)*(tq qu) - (tp pu qu)*(tq qr)) ((tq qr)*(tq qu)))) (3*(1500+1500+4)+1),TrI,TrI,OwnRI ((nm ((tp pr qr)*(tp pu qu)) ((tq qr)*(tq qu)))) ((dn ((tp pr qr)*(tp pu qu)) ((tq qr)*(tq qu)))) (2*(1500+1500+4)),TrI,TrI,TrI,TrI,TrI,TrI] [] [⟨R3,some 9,0,15,.agg #[.bool false,.slice none 0 0,.slice none 0 0],some (12,47,2),[]⟩,⟨R3,some 10,0,16,.agg #[.bool false,.slice none 0 0,.slice none 0 0],some (13,50,5),[]⟩,⟨R3,some 11,0,17,.agg #[.bool false,.slice none 0 0,.slice none 0 0],some (14,53,8),[]⟩] [] [] (by kernel_rfl) hn rfl (by kernel_rfl) (by kernel_rfl) (by kernel_rfl) (by kernel_rfl) (by kernel_rfl) (by kernel_rfl) (by kernel_rfl) (by kernel_rfl) (by kernel_rfl) (by decide) ⟨Eqs.mono5 _,Eqs.mono5 _,OutR.mono5 _ _ _,Eqs.mono5 _,Eqs.mono5 _,OutR.mono5 _ _ _,Eqs.mono5 _,Eqs.mono5 _,OutR.mono5 _ _ _,True.mono5,True.mono5,True.mono5,True.mono5,True.mono5,True.mono5,trivial⟩ ⟨TrI.mono6,TrI.mono6,OwnRI.mono6 _ _ _,TrI.mono6,TrI.mono6,OwnRI.mono6 _ _ _,TrI.mono6,TrI.mono6,OwnRI.mono6 _ _ _,TrI.mono6,TrI.mono6,TrI.mono6,TrI.mono6,TrI.mono6,TrI.mono6,trivial⟩ xok_nil (ok_cons R3ok (ok_cons R3ok (ok_cons R3ok ok_nil))) (IsOld.all (bx:=[⟨R3,some 9,0,15,.agg #[.bool false,.slice none 0 0,.slice none 0 0],some (12,47,2),[]⟩,⟨R3,some 10,0,16,.agg #[.bool false,.slice none 0 0,.slice none 0 0],some (13,50,5),[]⟩,⟨R3,some 11,0,17,.agg #[.bool false,.slice none 0 0,.slice none 0 0],some (14,53,8),[]⟩]) ⟨someNe,someNe,someNe,trivial⟩) (DisOld.all (bx:=[⟨R3,some 9,0,15,.agg #[.bool false,.slice none 0 0,.slice none 0 0],some (12,47,2),[]⟩,⟨R3,some 10,0,16,.agg #[.bool false,.slice none 0 0,.slice none 0 0],some (13,50,5),[]⟩,⟨R3,some 11,0,17,.agg #[.bool false,.slice none 0 0,.slice none 0 0],some (14,53,8),[]⟩]) ⟨someNe,someNe,someNe,trivial⟩) trivial ?_ ?_ ?_
   ·exact ⟨.inr (.norm 45 rfl rfl (nxt rfl) rfl (fun a_ w_ _ t r R D _ _=>d6 rfl (op_loadv R3ok ((R 13 rfl).trans f13) (b13.keep5 t ⟨someNe,someNe,someNe,trivial⟩ trivial)))),.inr (.norm 46 rfl rfl (nxt rfl) rfl (fun a_ w_ _ t r R D _ _=>d6 rfl (op_loadv R3ok ((R 14 rfl).trans f14) (b14.keep5 t ⟨someNe,someNe,someNe,trivial⟩ trivial)))),.inr (.norm 47 rfl rfl (nxt rfl) rfl (fun a_ w_ _ t r R D _ _=>d6q (fun _ _ _ _ h=>h.out) rfl (FrR.own (op_raddF (Br:=1500) (Bu:=1500) (isr_eq (show a_.eval (.tmp 45)=.agg #[.bool nr,.slice (some ⟨ga,5,none⟩) rs.length (rs.length+5),.slice (some ⟨gb,5,none⟩) rt.length (rt.length+5)] from D 0 rfl) (ALr.ru r) (SLr.ru r) Vr Lr Mr) (isr_eq (show a_.eval (.tmp 46)=.agg #[.bool nu,.slice (some ⟨gc,5,none⟩) us.length (us.length+5),.slice (some ⟨gd,5,none⟩) ut.length (ut.length+5)] from D 1 rfl) (ALu.ru r) (SLu.ru r) Vu Lu Mu) (by omega))))),.inr (.norm 48 rfl rfl (nxt rfl) rfl (fun a_ w_ _ t r R D _ _=>d6 rfl (op_loadv R3ok ((R 13 rfl).trans f13) (b13.keep5 t ⟨someNe,someNe,someNe,trivial⟩ trivial)))),.inr (.norm 49 rfl rfl (nxt rfl) rfl (fun a_ w_ _ t r R D _ _=>d6 rfl (op_loadv R3ok ((R 14 rfl).trans f14) (b14.keep5 t ⟨someNe,someNe,someNe,trivial⟩ trivial)))),.inr (.norm 50 rfl rfl (nxt rfl) rfl (fun a_ w_ _ t r R D _ _=>d6q (fun _ _ _ _ h=>h.out) rfl (FrR.own (op_rsubF (Br:=1500) (Bu:=1500) (isr_eq (show a_.eval (.tmp 48)=.agg #[.bool nr,.slice (some ⟨ga,5,none⟩) rs.length (rs.length+5),.slice (some ⟨gb,5,none⟩) rt.length (rt.length+5)] from D 3 rfl) (ALr.ru r) (SLr.ru r) Vr Lr Mr) (isr_eq (show a_.eval (.tmp 49)=.agg #[.bool nu,.slice (some ⟨gc,5,none⟩) us.length (us.length+5),.slice (some ⟨gd,5,none⟩) ut.length (ut.length+5)] from D 4 rfl) (ALu.ru r) (SLu.ru r) Vu Lu Mu) (by omega))))),.inr (.norm 51 rfl rfl (nxt rfl) rfl (fun a_ w_ _ t r R D _ _=>d6 rfl (op_loadv R3ok ((R 13 rfl).trans f13) (b13.keep5 t ⟨someNe,someNe,someNe,trivial⟩ trivial)))),.inr (.norm 52 rfl rfl (nxt rfl) rfl (fun a_ w_ _ t r R D _ _=>d6 rfl (op_loadv R3ok ((R 14 rfl).trans f14) (b14.keep5 t ⟨someNe,someNe,someNe,trivial⟩ trivial)))),.inr (.norm 53 rfl rfl (nxt rfl) rfl (fun a_ w_ _ t r R D _ _=>d6q (fun _ _ _ _ h=>h.out) rfl (FrR.own (op_rmulF (Br:=1500) (Bu:=1500) (isr_eq (show a_.eval (.tmp 51)=.agg #[.bool nr,.slice (some ⟨ga,5,none⟩) rs.length (rs.length+5),.slice (some ⟨gb,5,none⟩) rt.length (rt.length+5)] from D 6 rfl) (ALr.ru r) (SLr.ru r) Vr Lr Mr) (isr_eq (show a_.eval (.tmp 52)=.agg #[.bool nu,.slice (some ⟨gc,5,none⟩) us.length (us.length+5),.slice (some ⟨gd,5,none⟩) ut.length (ut.length+5)] from D 7 rfl) (ALu.ru r) (SLu.ru r) Vu Lu Mu) (by omega))))),.inr (.alloc 0 _ rfl rfl (.inl ⟨rfl,rfl⟩) rfl rfl rfl rfl rfl (nxt rfl) rfl rfl),.inr (.alloc 1 _ rfl rfl (.inl ⟨rfl,rfl⟩) rfl rfl rfl rfl rfl (nxt rfl) rfl rfl),.inr (.alloc 2 _ rfl rfl (.inl ⟨rfl,rfl⟩) rfl rfl rfl rfl rfl (nxt rfl) rfl rfl),.inr (.store 0 _ _ _ rfl rfl rfl rfl rfl rfl rfl rfl rfl (nxt rfl) (fun ia h=>by cases h;rfl) rfl rfl rfl OutR.cs),.inr (.store 1 _ _ _ rfl rfl rfl rfl rfl rfl rfl rfl rfl (nxt rfl) (fun ia h=>by cases h;rfl) rfl rfl rfl OutR.cs),.inr (.store 2 _ _ _ rfl rfl rfl rfl rfl rfl rfl rfl rfl (nxt rfl) (fun ia h=>by cases h;rfl) rfl rfl rfl OutR.cs),trivial⟩
   ·exact fun _ _ h=>by cases h
   intro _ a35 w35 gs35 B35 T35 F_
   obtain ⟨hn35,hd35,hBt,hr,hR,hP,hTs,hLi,hX,hU,hRel,hSl⟩:=F_
   replace hn:=hn35;replace hd:=hd35.trans hd
   have lq35HK:=HK.le
   have lq35HR:=HR.le
   have lq35BK:=BK.lt.2
   have lq35LSa:=LSa.lt
   have lq35LSb:=LSb.lt
   have lq35LSc:=LSc.lt
   have lq35LSd:=LSd.lt
   replace b2:=b2.keep5 hBt ⟨someNe,someNe,someNe,trivial⟩ trivial
   replace b3:=b3.keep5 hBt ⟨someNe,someNe,someNe,trivial⟩ trivial
   replace b5:=b5.keep5 hBt ⟨someNe,someNe,someNe,trivial⟩ trivial
   replace b13:=b13.keep5 hBt ⟨someNe,someNe,someNe,trivial⟩ trivial
   replace b14:=b14.keep5 hBt ⟨someNe,someNe,someNe,trivial⟩ trivial
   obtain ⟨lb36,lm36,lt36,⟨n_36,a_36,c_36,r_36,b_36,d_36,s_36,Bp36,Tp36,Bq36,Tq36,e47',F36,H36,fb36,fd36,l36,k36⟩,lj36⟩:=hLi 2 (by decide) (by decide)
   have e47:a35.eval (.tmp 47)=.agg #[.bool n_36,.slice a_36 r_36.length c_36,.slice b_36 s_36.length d_36]:=e47'
   have G36:=F36.wh;have K36:=H36.got;have A36:=G36.ag;have S36:=K36.sl;have V36:=K36.val;have HT36:SzGe (T35 2) w35:=lt36;have fd36' := hide fd36;clear fd36
   have b15:BoxV R3 w35 (gs35 0) (.agg #[.bool n_36,.slice a_36 r_36.length c_36,.slice b_36 s_36.length d_36]):=boxv_of (hX 0 _ rfl).2.2.2 e47
   have f15:=(hX 0 _ rfl).1
   have v15:=(hX 0 _ rfl).2.2.1 (by simp)
   have u15:w.heap.size≤gs35 0:=Nat.le_trans HB.size v15
   obtain ⟨lb37,lm37,lt37,⟨n_37,a_37,c_37,r_37,b_37,d_37,s_37,Bp37,Tp37,Bq37,Tq37,e50',F37,H37,fb37,fd37,l37,k37⟩,lj37⟩:=hLi 5 (by decide) (by decide)
   have e50:a35.eval (.tmp 50)=.agg #[.bool n_37,.slice a_37 r_37.length c_37,.slice b_37 s_37.length d_37]:=e50'
   have G37:=F37.wh;have K37:=H37.got;have A37:=G37.ag;have S37:=K37.sl;have V37:=K37.val;have HT37:SzGe (T35 5) w35:=lt37;have fd37' := hide fd37;clear fd37
   have b16:BoxV R3 w35 (gs35 1) (.agg #[.bool n_37,.slice a_37 r_37.length c_37,.slice b_37 s_37.length d_37]):=boxv_of (hX 1 _ rfl).2.2.2 e50
   have f16:=(hX 1 _ rfl).1
   have v16:=(hX 1 _ rfl).2.2.1 (by simp)
   have u16:w.heap.size≤gs35 1:=Nat.le_trans HB.size v16
   obtain ⟨lb38,lm38,lt38,⟨n_38,a_38,c_38,r_38,b_38,d_38,s_38,Bp38,Tp38,Bq38,Tq38,e53',F38,H38,fb38,fd38,l38,k38⟩,lj38⟩:=hLi 8 (by decide) (by decide)
   have e53:a35.eval (.tmp 53)=.agg #[.bool n_38,.slice a_38 r_38.length c_38,.slice b_38 s_38.length d_38]:=e53'
   have G38:=F38.wh;have K38:=H38.got;have A38:=G38.ag;have S38:=K38.sl;have V38:=K38.val;have HT38:SzGe (T35 8) w35:=lt38;have fd38' := hide fd38;clear fd38
   have b17:BoxV R3 w35 (gs35 2) (.agg #[.bool n_38,.slice a_38 r_38.length c_38,.slice b_38 s_38.length d_38]):=boxv_of (hX 2 _ rfl).2.2.2 e53
   have f17:=(hX 2 _ rfl).1
   have v17:=(hX 2 _ rfl).2.2.1 (by simp)
   have u17:w.heap.size≤gs35 2:=Nat.le_trans HB.size v17
   replace f2:=(hR 2 rfl).trans f2
   replace f3:=(hR 3 rfl).trans f3
   replace f5:=(hR 5 rfl).trans f5
   replace f6:=(hR 6 rfl).trans f6
   replace f7:=(hR 7 rfl).trans f7
   replace f8:=(hR 8 rfl).trans f8
   replace f9:=(hR 9 rfl).trans f9
   replace f10:=(hR 10 rfl).trans f10
   replace f11:=(hR 11 rfl).trans f11
   replace f12:=(hR 12 rfl).trans f12
   replace f13:=(hR 13 rfl).trans f13
   replace f14:=(hR 14 rfl).trans f14
   have hBl_:=hBt.below (Nat.le_refl _) (UpOld.all (bx:=[⟨R3,some 9,0,15,.agg #[.bool false,.slice none 0 0,.slice none 0 0],some (12,47,2),[]⟩,⟨R3,some 10,0,16,.agg #[.bool false,.slice none 0 0,.slice none 0 0],some (13,50,5),[]⟩,⟨R3,some 11,0,17,.agg #[.bool false,.slice none 0 0,.slice none 0 0],some (14,53,8),[]⟩]) ⟨someNe,someNe,someNe,trivial⟩) (UpX.all (bx:=[]) trivial)
   replace Ar:=Ar.ru hr
   replace Sr:=Sr.ru hr
   replace Dr:=Dr.ru hr
   replace Tr:=Tr.ru hr
   replace Au:=Au.ru hr
   replace Su:=Su.ru hr
   replace Du:=Du.ru hr
   replace Tu:=Tu.ru hr
   replace G6:=G6.ru hr
   replace A6:=A6.ru hr
   replace K6:=K6.ru hr
   replace S6:=S6.ru hr
   replace HK:=HK.ru hr
   replace HR:=HR.ru hr
   replace BK:=BK.below hBl_
   replace BW:=BW.below hBl_
   replace LSa:=LSa.below hBl_
   replace LSb:=LSb.below hBl_
   replace ALr:=ALr.ru hr
   replace SLr:=SLr.ru hr
   replace LSc:=LSc.below hBl_
   replace LSd:=LSd.below hBl_
   replace ALu:=ALu.ru hr
   replace SLu:=SLu.ru hr
   replace HB:=HB.trans (hBt.below HB.size (UpOld.all (bx:=[⟨R3,some 9,0,15,.agg #[.bool false,.slice none 0 0,.slice none 0 0],some (12,47,2),[]⟩,⟨R3,some 10,0,16,.agg #[.bool false,.slice none 0 0,.slice none 0 0],some (13,50,5),[]⟩,⟨R3,some 11,0,17,.agg #[.bool false,.slice none 0 0,.slice none 0 0],some (14,53,8),[]⟩]) ⟨someNe,someNe,someNe,trivial⟩) (UpX.all (bx:=[]) trivial))
   clear hBt hr hR hP hTs hLi hX hU hRel hSl
   have dj36_37:=hide (lj36 5 (by decide) (by decide) (by decide))
   have dj36_38:=hide (lj36 8 (by decide) (by decide) (by decide))
   have dj37_38:=hide (lj37 8 (by decide) (by decide) (by decide))
   refine wp_seq ?_
   refine region4 [some 55,some 56,some 57,some 54,some 58,some 59,some 18,none,some 19] [Eqs (.agg #[.bool nr,.slice (some ⟨ga,5,none⟩) rs.length (rs.length+5),.slice (some ⟨gb,5,none⟩) rt.length (rt.length+5)]),Eqs (.agg #[.bool nu,.slice (some ⟨gc,5,none⟩) us.length (us.length+5),.slice (some ⟨gd,5,none⟩) ut.length (ut.length+5)]),Tup2 (FrR (w35.heap.size) ((dP (tp pr qr) (tq qr) (tp pu qu) (tq qu))) ((dQ (tp pr qr) (tq qr) (tp pu qu) (tq qu))) (2*(1500+1500+4))) (Eqs (.int .i64 (dE (tp pu qu)))),Tup2 (FrR (w35.heap.size) ((dP (tp pr qr) (tq qr) (tp pu qu) (tq qu))) ((dQ (tp pr qr) (tq qr) (tp pu qu) (tq qu))) (2*(1500+1500+4))) (Eqs (.int .i64 (dE (tp pu qu)))),FrR (w35.heap.size) ((dP (tp pr qr) (tq qr) (tp pu qu) (tq qu))) ((dQ (tp pr qr) (tq qr) (tp pu qu) (tq qu))) (2*(1500+1500+4)),Eqs (.int .i64 (dE (tp pu qu))),Tt,Tt,Eqs (.int .i64 (dE (tp pu qu)))] [⟨R3,some 6,0,18,.agg #[.bool false,.slice none 0 0,.slice none 0 0],some (7,58,4),[]⟩] [] (by kernel_rfl) hn rfl (by kernel_rfl) (by kernel_rfl) (by kernel_rfl) (by kernel_rfl) (by kernel_rfl) (by kernel_rfl) ⟨Eqs.mono4 _,Eqs.mono4 _,Tup2.mono4 (FrR.mono4 _ _ _ _) (Eqs.mono4 _),Tup2.mono4 (FrR.mono4 _ _ _ _) (Eqs.mono4 _),FrR.mono4 _ _ _ _,Eqs.mono4 _,True.mono4,True.mono4,Eqs.mono4 _,trivial⟩ (ok_cons R3ok ok_nil) (IsOld.all (bx:=[⟨R3,some 6,0,18,.agg #[.bool false,.slice none 0 0,.slice none 0 0],some (7,58,4),[]⟩]) ⟨someNe,trivial⟩) (DisOld.all (bx:=[⟨R3,some 6,0,18,.agg #[.bool false,.slice none 0 0,.slice none 0 0],some (7,58,4),[]⟩]) ⟨someNe,trivial⟩) ?_ ?_
   ·exact ⟨.norm 55 rfl rfl rfl (fun a_ w_ _ t r R D _ _=>op_loadv R3ok ((R 13 rfl).trans f13) (b13.keep t ⟨someNe,trivial⟩)),.norm 56 rfl rfl rfl (fun a_ w_ _ t r R D _ _=>op_loadv R3ok ((R 14 rfl).trans f14) (b14.keep t ⟨someNe,trivial⟩)),.norm 57 rfl rfl rfl (fun a_ w_ _ t r R D _ _=>frlow2 r.size (op_rdivU (Br:=1500) (Bu:=1500) (isr_eq (show a_.eval (.tmp 55)=.agg #[.bool nr,.slice (some ⟨ga,5,none⟩) rs.length (rs.length+5),.slice (some ⟨gb,5,none⟩) rt.length (rt.length+5)] from D 0 rfl) (ALr.rl r) (SLr.rl r) Vr Lr Mr) (isr_eq (show a_.eval (.tmp 56)=.agg #[.bool nu,.slice (some ⟨gc,5,none⟩) us.length (us.length+5),.slice (some ⟨gd,5,none⟩) ut.length (ut.length+5)] from D 1 rfl) (ALu.rl r) (SLu.rl r) Vu Lu Mu) (by omega))),.norm 54 rfl rfl rfl (fun a_ w_ _ t r R D _ _=>op_mvp (p:=Tup2 (FrR (w35.heap.size) ((dP (tp pr qr) (tq qr) (tp pu qu) (tq qu))) ((dQ (tp pr qr) (tq qr) (tp pu qu) (tq qu))) (2*(1500+1500+4))) (Eqs (.int .i64 (dE (tp pu qu))))) (show Tup2 (FrR (w35.heap.size) ((dP (tp pr qr) (tq qr) (tp pu qu) (tq qu))) ((dQ (tp pr qr) (tq qr) (tp pu qu) (tq qu))) (2*(1500+1500+4))) (Eqs (.int .i64 (dE (tp pu qu)))) (a_.eval (.tmp 57)) w_ from D 2 rfl)),.norm 58 rfl rfl rfl (fun a_ w_ _ t r R D _ _=>op_ex20 (show Tup2 (FrR (w35.heap.size) ((dP (tp pr qr) (tq qr) (tp pu qu) (tq qu))) ((dQ (tp pr qr) (tq qr) (tp pu qu) (tq qu))) (2*(1500+1500+4))) (Eqs (.int .i64 (dE (tp pu qu)))) (a_.eval (.tmp 54)) w_ from D 3 rfl)),.norm 59 rfl rfl rfl (fun a_ w_ _ t r R D _ _=>op_ex21 (show Tup2 (FrR (w35.heap.size) ((dP (tp pr qr) (tq qr) (tp pu qu) (tq qu))) ((dQ (tp pr qr) (tq qr) (tp pu qu) (tq qu))) (2*(1500+1500+4))) (Eqs (.int .i64 (dE (tp pu qu)))) (a_.eval (.tmp 54)) w_ from D 3 rfl)),.alloc 0 _ rfl rfl (.inl ⟨rfl,rfl⟩) rfl rfl rfl rfl rfl,.store 0 _ _ _ rfl rfl rfl rfl rfl rfl rfl (fun ia h=>by cases h;rfl) rfl rfl rfl FrR.cs,.norm 19 rfl rfl rfl (fun a_ w_ _ t r R D _ _=>op_assign (show a_.eval (.tmp 59)=.int .i64 (dE (tp pu qu)) from D 5 rfl)),trivial⟩
   intro a39 w39 gs39 hn39 hd39 hBt hr hR hP hX hU
   replace hn:=hn39;replace hd:=hd39.trans hd
   replace b2:=b2.keep hBt ⟨someNe,trivial⟩
   replace b3:=b3.keep hBt ⟨someNe,trivial⟩
   replace b5:=b5.keep hBt ⟨someNe,trivial⟩
   replace b13:=b13.keep hBt ⟨someNe,trivial⟩
   replace b14:=b14.keep hBt ⟨someNe,trivial⟩
   replace b15:=b15.keep hBt ⟨someNe,trivial⟩
   replace b16:=b16.keep hBt ⟨someNe,trivial⟩
   replace b17:=b17.keep hBt ⟨someNe,trivial⟩
   obtain ⟨T40,ft40,n_40,a_40,c_40,r_40,b_40,d_40,s_40,Bp40,Tp40,Bq40,Tq40,e58,F40,H40,fb40,fd40,l40,k40⟩:FrR (w35.heap.size) ((dP (tp pr qr) (tq qr) (tp pu qu) (tq qu))) ((dQ (tp pr qr) (tq qr) (tp pu qu) (tq qu))) (2*(1500+1500+4)) (a39.eval (.tmp 58)) w39:=hP 4 (by decide)
   have G40:=F40.wh;have K40:=H40.got;have A40:=G40.ag;have S40:=K40.sl;have V40:=K40.val;have HT40:SzGe T40 w39:=ft40
   have fd40' := hide fd40;clear fd40
   have lq40LSa:=LSa.lt
   have lq40LSb:=LSb.lt
   have lq40LSc:=LSc.lt
   have lq40LSd:=LSd.lt
   have lq40HK:=HK.le
   have lq40HR:=HR.le
   have lq40HT36:=HT36.le
   have lq40HT37:=HT37.le
   have lq40HT38:=HT38.le
   have b18:BoxV R3 w39 (gs39 0) (.agg #[.bool n_40,.slice a_40 r_40.length c_40,.slice b_40 s_40.length d_40]):=boxv_of (hX 0 _ rfl).2.2.2 e58
   have f18:=(hX 0 _ rfl).1
   have u18:w.heap.size≤gs39 0:=Nat.le_trans HB.size ((hX 0 _ rfl).2.2.1 (by simp))
   have v18:=(hX 0 _ rfl).2.2.1 (by simp)
   replace f2:=(hR 2 rfl).trans f2
   replace f3:=(hR 3 rfl).trans f3
   replace f5:=(hR 5 rfl).trans f5
   replace f6:=(hR 6 rfl).trans f6
   replace f7:=(hR 7 rfl).trans f7
   replace f8:=(hR 8 rfl).trans f8
   replace f9:=(hR 9 rfl).trans f9
   replace f10:=(hR 10 rfl).trans f10
   replace f11:=(hR 11 rfl).trans f11
   replace f12:=(hR 12 rfl).trans f12
   replace f13:=(hR 13 rfl).trans f13
   replace f14:=(hR 14 rfl).trans f14
   replace f15:=(hR 15 rfl).trans f15
   replace f16:=(hR 16 rfl).trans f16
   replace f17:=(hR 17 rfl).trans f17
   have e19:a39.eval (.tmp 19)=.int .i64 (dE (tp pu qu)):=hP 8 (by decide)
   have f19:=e19
   replace Ar:=Ar.rl hr
   replace Sr:=Sr.rl hr
   replace Dr:=Dr.rl hr
   replace Tr:=Tr.rl hr
   replace Au:=Au.rl hr
   replace Su:=Su.rl hr
   replace Du:=Du.rl hr
   replace Tu:=Tu.rl hr
   replace G6:=G6.rl hr
   replace A6:=A6.rl hr
   replace K6:=K6.rl hr
   replace S6:=S6.rl hr
   replace HK:=HK.rl hr
   replace HR:=HR.rl hr
   replace ALr:=ALr.rl hr
   replace SLr:=SLr.rl hr
   replace ALu:=ALu.rl hr
   replace SLu:=SLu.rl hr
   replace F36:=F36.rl hr
   replace H36:=H36.rl hr
   replace G36:=G36.rl hr
   replace A36:=A36.rl hr
   replace K36:=K36.rl hr
   replace S36:=S36.rl hr
   replace HT36:=HT36.rl hr
   replace F37:=F37.rl hr
   replace H37:=H37.rl hr
   replace G37:=G37.rl hr
   replace A37:=A37.rl hr
   replace K37:=K37.rl hr
   replace S37:=S37.rl hr
   replace HT37:=HT37.rl hr
   replace F38:=F38.rl hr
   replace H38:=H38.rl hr
   replace G38:=G38.rl hr
   replace A38:=A38.rl hr
   replace K38:=K38.rl hr
   replace S38:=S38.rl hr
   replace HT38:=HT38.rl hr
   replace HB:=HB.trans (hBt.below HB.size (UpOld.all (bx:=[⟨R3,some 6,0,18,.agg #[.bool false,.slice none 0 0,.slice none 0 0],some (7,58,4),[]⟩]) ⟨someNe,trivial⟩))
   have hBl_:=hBt.below (Nat.le_refl _) (UpOld.all (bx:=[⟨R3,some 6,0,18,.agg #[.bool false,.slice none 0 0,.slice none 0 0],some (7,58,4),[]⟩]) ⟨someNe,trivial⟩)
   replace BK:=BK.below hBl_
   replace BW:=BW.below hBl_
   replace LSa:=LSa.below hBl_
   replace LSb:=LSb.below hBl_
   replace LSc:=LSc.below hBl_
   replace LSd:=LSd.below hBl_
   clear hBt hr hR hP hX hU
   refine wp_seq ?_
   refine region4 [some 60,some 61,some 62,some 20] [Eqs (.agg #[.bool nr,.slice (some ⟨ga,5,none⟩) rs.length (rs.length+5),.slice (some ⟨gb,5,none⟩) rt.length (rt.length+5)]),Eqs (.agg #[.bool nu,.slice (some ⟨gc,5,none⟩) us.length (us.length+5),.slice (some ⟨gd,5,none⟩) ut.length (ut.length+5)]),Eqs (.int .i64 (cmpI (tp pr qr*tq qu) (tp pu qu*tq qr))),Eqs (.int .i64 (cmpI (tp pr qr*tq qu) (tp pu qu*tq qr)))] [] [] (by kernel_rfl) hn rfl (by kernel_rfl) (by kernel_rfl) (by kernel_rfl) (by kernel_rfl) (by kernel_rfl) (by kernel_rfl) ⟨Eqs.mono4 _,Eqs.mono4 _,Eqs.mono4 _,Eqs.mono4 _,trivial⟩ ok_nil (IsOld.all (bx:=[]) trivial) (DisOld.all (bx:=[]) trivial) ?_ ?_
   ·exact ⟨.norm 60 rfl rfl rfl (fun a_ w_ _ t r R D _ _=>op_loadv R3ok ((R 13 rfl).trans f13) (b13.keep t trivial)),.norm 61 rfl rfl rfl (fun a_ w_ _ t r R D _ _=>op_loadv R3ok ((R 14 rfl).trans f14) (b14.keep t trivial)),.norm 62 rfl rfl rfl (fun a_ w_ _ t r R D _ _=>op_rcmp (Br:=1500) (Bu:=1500) (isr_eq (show a_.eval (.tmp 60)=.agg #[.bool nr,.slice (some ⟨ga,5,none⟩) rs.length (rs.length+5),.slice (some ⟨gb,5,none⟩) rt.length (rt.length+5)] from D 0 rfl) (ALr.rl r) (SLr.rl r) Vr Lr Mr) (isr_eq (show a_.eval (.tmp 61)=.agg #[.bool nu,.slice (some ⟨gc,5,none⟩) us.length (us.length+5),.slice (some ⟨gd,5,none⟩) ut.length (ut.length+5)] from D 1 rfl) (ALu.rl r) (SLu.rl r) Vu Lu Mu) (by omega)),.norm 20 rfl rfl rfl (fun a_ w_ _ t r R D _ _=>op_assign (show a_.eval (.tmp 62)=.int .i64 (cmpI (tp pr qr*tq qu) (tp pu qu*tq qr)) from D 2 rfl)),trivial⟩
   intro a41 w41 gs41 hn41 hd41 hBt hr hR hP hX hU
   replace hn:=hn41;replace hd:=hd41.trans hd
   replace b2:=b2.keep hBt trivial
   replace b3:=b3.keep hBt trivial
   replace b5:=b5.keep hBt trivial
   replace b15:=b15.keep hBt trivial
   replace b16:=b16.keep hBt trivial
   replace b17:=b17.keep hBt trivial
   replace b18:=b18.keep hBt trivial
   replace f2:=(hR 2 rfl).trans f2
   replace f3:=(hR 3 rfl).trans f3
   replace f5:=(hR 5 rfl).trans f5
   replace f6:=(hR 6 rfl).trans f6
   replace f7:=(hR 7 rfl).trans f7
   replace f8:=(hR 8 rfl).trans f8
   replace f9:=(hR 9 rfl).trans f9
   replace f10:=(hR 10 rfl).trans f10
   replace f11:=(hR 11 rfl).trans f11
   replace f12:=(hR 12 rfl).trans f12
   replace f15:=(hR 15 rfl).trans f15
   replace f16:=(hR 16 rfl).trans f16
   replace f17:=(hR 17 rfl).trans f17
   replace f18:=(hR 18 rfl).trans f18
   replace f19:=(hR 19 rfl).trans f19
   have e20:a41.eval (.tmp 20)=.int .i64 (cmpI (tp pr qr*tq qu) (tp pu qu*tq qr)):=hP 3 (by decide)
   have f20:=e20
   replace Ar:=Ar.rl hr
   replace Sr:=Sr.rl hr
   replace Dr:=Dr.rl hr
   replace Tr:=Tr.rl hr
   replace Au:=Au.rl hr
   replace Su:=Su.rl hr
   replace Du:=Du.rl hr
   replace Tu:=Tu.rl hr
   replace G6:=G6.rl hr
   replace A6:=A6.rl hr
   replace K6:=K6.rl hr
   replace S6:=S6.rl hr
   replace HK:=HK.rl hr
   replace HR:=HR.rl hr
   replace ALr:=ALr.rl hr
   replace SLr:=SLr.rl hr
   replace ALu:=ALu.rl hr
   replace SLu:=SLu.rl hr
   replace F36:=F36.rl hr
   replace H36:=H36.rl hr
   replace G36:=G36.rl hr
   replace A36:=A36.rl hr
   replace K36:=K36.rl hr
   replace S36:=S36.rl hr
   replace HT36:=HT36.rl hr
   replace F37:=F37.rl hr
   replace H37:=H37.rl hr
   replace G37:=G37.rl hr
   replace A37:=A37.rl hr
   replace K37:=K37.rl hr
   replace S37:=S37.rl hr
   replace HT37:=HT37.rl hr
   replace F38:=F38.rl hr
   replace H38:=H38.rl hr
   replace G38:=G38.rl hr
   replace A38:=A38.rl hr
   replace K38:=K38.rl hr
   replace S38:=S38.rl hr
   replace HT38:=HT38.rl hr
   replace F40:=F40.rl hr
   replace H40:=H40.rl hr
   replace G40:=G40.rl hr
   replace A40:=A40.rl hr
   replace K40:=K40.rl hr
   replace S40:=S40.rl hr
   replace HT40:=HT40.rl hr
   replace HB:=HB.trans (hBt.below HB.size (UpOld.all (bx:=[]) trivial))
   have hBl_:=hBt.below (Nat.le_refl _) (UpOld.all (bx:=[]) trivial)
   replace BK:=BK.below hBl_
   replace BW:=BW.below hBl_
   replace LSa:=LSa.below hBl_
   replace LSb:=LSb.below hBl_
   replace LSc:=LSc.below hBl_
   replace LSd:=LSd.below hBl_
   clear hBt hr hR hP hX hU
   refine wp_seq ?_
   refine wp_seq ?_
   refine wp_of_good (by kernel_rfl) (by kernel_rfl) (fun w_0 hb_0=>?_)
   replace b2:=b2.below hb_0
   replace b3:=b3.below hb_0
   replace b5:=b5.below hb_0
   replace b15:=b15.below hb_0
   replace b16:=b16.below hb_0
   replace b17:=b17.below hb_0
   replace b18:=b18.below hb_0
   replace Ar:=Ar.below hb_0
   replace Sr:=Sr.below hb_0
   replace Dr:=Dr.below hb_0
   replace Tr:=Tr.below hb_0
   replace Au:=Au.below hb_0
   replace Su:=Su.below hb_0
   replace Du:=Du.below hb_0
   replace Tu:=Tu.below hb_0
   replace G6:=G6.below hb_0
   replace A6:=A6.below hb_0
   replace K6:=K6.below hb_0
   replace S6:=S6.below hb_0
   replace HK:=HK.below hb_0
   replace HR:=HR.below hb_0
   replace ALr:=ALr.below hb_0
   replace SLr:=SLr.below hb_0
   replace ALu:=ALu.below hb_0
   replace SLu:=SLu.below hb_0
   replace F36:=F36.below hb_0
   replace H36:=H36.below hb_0
   replace G36:=G36.below hb_0
   replace A36:=A36.below hb_0
   replace K36:=K36.below hb_0
   replace S36:=S36.below hb_0
   replace HT36:=HT36.below hb_0
   replace F37:=F37.below hb_0
   replace H37:=H37.below hb_0
   replace G37:=G37.below hb_0
   replace A37:=A37.below hb_0
   replace K37:=K37.below hb_0
   replace S37:=S37.below hb_0
   replace HT37:=HT37.below hb_0
   replace F38:=F38.below hb_0
   replace H38:=H38.below hb_0
   replace G38:=G38.below hb_0
   replace A38:=A38.below hb_0
   replace K38:=K38.below hb_0
   replace S38:=S38.below hb_0
   replace HT38:=HT38.below hb_0
   replace F40:=F40.below hb_0
   replace H40:=H40.below hb_0
   replace G40:=G40.below hb_0
   replace A40:=A40.below hb_0
   replace K40:=K40.below hb_0
   replace S40:=S40.below hb_0
   replace HT40:=HT40.below hb_0
   replace BK:=BK.below hb_0
   replace BW:=BW.below hb_0
   replace LSa:=LSa.below hb_0
   replace LSb:=LSb.below hb_0
   replace LSc:=LSc.below hb_0
   replace LSd:=LSd.below hb_0
   replace HB:=HB.trans (hb_0.mono HB.size);clear hb_0
   refine good6 0 3 (some 3) [some 63,some 64,some 65,some 66,some 67,some 68,some 69,some 70,some 71,some 72,some 73,some 74,some 75,some 76,some 77,some 78,some 79,some 80,some 81,some 82,some 83,some 84,some 85,some 86,some 87,some 88,some 89,some 90,some 91,some 92,some 93,some 94,some 95,some 96,some 97,some 98,some 99] [Eqs (.pointer (some ⟨gs1 0,0,none⟩)),Eqs (.pointer (some ⟨gs1 0,1,none⟩)),Eqs (.slice ar mr cr),Tt,Tt,Tt,Tt,Tt,Tt,Tt,Tt,Tt,Tt,Tt,Tt,Tt,Tt,Tt,Tt,Tt,Tt,Tt,Tt,Tt,Tt,Tt,Tt,Tt,Tt,Tt,Tt,Tt,Tt,Tt,Tt,Tt,Tt] [] [] [] [] [] (by kernel_rfl) hn rfl (by kernel_rfl) (by kernel_rfl) (by kernel_rfl) (by kernel_rfl) (by kernel_rfl) (by kernel_rfl) (by kernel_rfl) (by kernel_rfl) (by kernel_rfl) (by decide) ⟨Eqs.mono5 _,Eqs.mono5 _,Eqs.mono5 _,True.mono5,True.mono5,True.mono5,True.mono5,True.mono5,True.mono5,True.mono5,True.mono5,True.mono5,True.mono5,True.mono5,True.mono5,True.mono5,True.mono5,True.mono5,True.mono5,True.mono5,True.mono5,True.mono5,True.mono5,True.mono5,True.mono5,True.mono5,True.mono5,True.mono5,True.mono5,True.mono5,True.mono5,True.mono5,True.mono5,True.mono5,True.mono5,True.mono5,True.mono5,trivial⟩ trivial xok_nil ok_nil (IsOld.all (bx:=[]) trivial) (DisOld.all (bx:=[]) trivial) trivial ?_ ?_ ?_
   ·exact ⟨.inr (.norm 63 rfl rfl (nxt rfl) rfl (fun a_ w_ _ t r R D _ _=>d6 rfl (op_faR fa_num ((R 2 rfl).trans f2)))),.inr (.norm 64 rfl rfl (nxt rfl) rfl (fun a_ w_ _ t r R D _ _=>d6 rfl (op_fa fa_mag (show a_.eval (.tmp 63)=.pointer (some ⟨gs1 0,0,none⟩) from D 0 rfl)))),.inr (.norm 65 rfl rfl (nxt rfl) rfl (fun a_ w_ _ t r R D _ _=>d6 rfl (op_ldrmag (show a_.eval (.tmp 64)=.pointer (some ⟨gs1 0,1,none⟩) from D 1 rfl) (b2.keep5 t trivial trivial)))),.inl rfl,.inl rfl,.inl rfl,.inl rfl,.inl rfl,.inl rfl,.inl rfl,.inl rfl,.inl rfl,.inl rfl,.inl rfl,.inl rfl,.inl rfl,.inl rfl,.inl rfl,.inl rfl,.inl rfl,.inl rfl,.inl rfl,.inl rfl,.inl rfl,.inl rfl,.inl rfl,.inl rfl,.inl rfl,.inl rfl,.inl rfl,.inl rfl,.inl rfl,.inl rfl,.inl rfl,.inl rfl,.inl rfl,.inl rfl,trivial⟩
   rotate_left
   ·exact fun h=>by cases h
   intro t_ o_ ht_ ho_ a42 w42 gs42 B42 T42 F_
   obtain rfl:=Option.some.inj ht_;obtain rfl:=Option.some.inj ho_;clear ht_ ho_
   obtain ⟨hn42,hd42,hBt,hr,hR,hP,hTs,hLi,hX,hU,hRel,hSl⟩:=F_
   replace hn:=hn42;replace hd:=hd42.trans hd
   have lq42HK:=HK.le
   have lq42HR:=HR.le
   have lq42HT36:=HT36.le
   have lq42HT37:=HT37.le
   have lq42HT38:=HT38.le
   have lq42HT40:=HT40.le
   have lq42BK:=BK.lt.2
   have lq42LSa:=LSa.lt
   have lq42LSb:=LSb.lt
   have lq42LSc:=LSc.lt
   have lq42LSd:=LSd.lt
   replace b2:=b2.keep5 hBt trivial trivial
   replace b3:=b3.keep5 hBt trivial trivial
   replace b5:=b5.keep5 hBt trivial trivial
   replace b15:=b15.keep5 hBt trivial trivial
   replace b16:=b16.keep5 hBt trivial trivial
   replace b17:=b17.keep5 hBt trivial trivial
   replace b18:=b18.keep5 hBt trivial trivial
   replace f2:=(hR 2 rfl).trans f2
   replace f3:=(hR 3 rfl).trans f3
   replace f5:=(hR 5 rfl).trans f5
   replace f6:=(hR 6 rfl).trans f6
   replace f7:=(hR 7 rfl).trans f7
   replace f8:=(hR 8 rfl).trans f8
   replace f9:=(hR 9 rfl).trans f9
   replace f10:=(hR 10 rfl).trans f10
   replace f11:=(hR 11 rfl).trans f11
   replace f12:=(hR 12 rfl).trans f12
   replace f15:=(hR 15 rfl).trans f15
   replace f16:=(hR 16 rfl).trans f16
   replace f17:=(hR 17 rfl).trans f17
   replace f18:=(hR 18 rfl).trans f18
   replace f19:=(hR 19 rfl).trans f19
   replace f20:=(hR 20 rfl).trans f20
   have e65:a42.eval (.tmp 65)=.slice ar mr cr:=hP 2 (by decide)
   have f65:=e65
   have hBl_:=hBt.below (Nat.le_refl _) (UpOld.all (bx:=[]) trivial) (UpX.all (bx:=[]) trivial)
   replace Ar:=Ar.ru hr
   replace Sr:=Sr.ru hr
   replace Dr:=Dr.ru hr
   replace Tr:=Tr.ru hr
   replace Au:=Au.ru hr
   replace Su:=Su.ru hr
   replace Du:=Du.ru hr
   replace Tu:=Tu.ru hr
   replace G6:=G6.ru hr
   replace A6:=A6.ru hr
   replace K6:=K6.ru hr
   replace S6:=S6.ru hr
   replace HK:=HK.ru hr
   replace HR:=HR.ru hr
   replace ALr:=ALr.ru hr
   replace SLr:=SLr.ru hr
   replace ALu:=ALu.ru hr
   replace SLu:=SLu.ru hr
   replace F36:=F36.ru hr
   replace H36:=H36.ru hr
   replace G36:=G36.ru hr
   replace A36:=A36.ru hr
   replace K36:=K36.ru hr
   replace S36:=S36.ru hr
   replace HT36:=HT36.ru hr
   replace F37:=F37.ru hr
   replace H37:=H37.ru hr
   replace G37:=G37.ru hr
   replace A37:=A37.ru hr
   replace K37:=K37.ru hr
   replace S37:=S37.ru hr
   replace HT37:=HT37.ru hr
   replace F38:=F38.ru hr
   replace H38:=H38.ru hr
   replace G38:=G38.ru hr
   replace A38:=A38.ru hr
   replace K38:=K38.ru hr
   replace S38:=S38.ru hr
   replace HT38:=HT38.ru hr
   replace F40:=F40.ru hr
   replace H40:=H40.ru hr
   replace G40:=G40.ru hr
   replace A40:=A40.ru hr
   replace K40:=K40.ru hr
   replace S40:=S40.ru hr
   replace HT40:=HT40.ru hr
   replace BK:=BK.below hBl_
   replace BW:=BW.below hBl_
   replace LSa:=LSa.below hBl_
   replace LSb:=LSb.below hBl_
   replace LSc:=LSc.below hBl_
   replace LSd:=LSd.below hBl_
   replace HB:=HB.trans (hBt.below HB.size (UpOld.all (bx:=[]) trivial) (UpX.all (bx:=[]) trivial))
   clear hBt hr hR hP hTs hLi hX hU hRel hSl
   refine ⟨trivial,(op_back f9 f65 LSa (Ar.sl) (by omega) (fun h0 b off e=>by have:=(Ar0.sl).lt h0 b off e;omega)).mono ?_⟩
   rintro v_ w43 ⟨rfl,hT_⟩
   replace b2:=b2.touch hT_ (lends_box (by decide) LSa b2)
   replace b3:=b3.touch hT_ (lends_box (by decide) LSa b3)
   replace b5:=b5.touch hT_ (lends_box (by decide) LSa b5)
   replace b15:=b15.touch hT_ (lends_box (by decide) LSa b15)
   replace b16:=b16.touch hT_ (lends_box (by decide) LSa b16)
   replace b17:=b17.touch hT_ (lends_box (by decide) LSa b17)
   replace b18:=b18.touch hT_ (lends_box (by decide) LSa b18)
   replace HK:=HK.touch hT_
   replace HR:=HR.touch hT_
   replace F36:=F36.touch hT_ (by omega)
   replace H36:=H36.touch hT_ (by omega)
   replace HT36:=HT36.touch hT_
   replace F37:=F37.touch hT_ (by omega)
   replace H37:=H37.touch hT_ (by omega)
   replace HT37:=HT37.touch hT_
   replace F38:=F38.touch hT_ (by omega)
   replace H38:=H38.touch hT_ (by omega)
   replace HT38:=HT38.touch hT_
   replace F40:=F40.touch hT_ (by omega)
   replace H40:=H40.touch hT_ (by omega)
   replace HT40:=HT40.touch hT_
   replace BK:=BK.touch hT_ (by omega) (fun h=>by have:=hbs _ h;omega)
   replace BW:=BW.touch hT_ (by omega)
   replace LSb:=LSb.touch hT_ (lends_ne LSa LSb).2 (Ne.symm hgab.out)
   replace LSc:=LSc.touch hT_ (lends_ne LSa LSc).2 (by omega)
   replace LSd:=LSd.touch hT_ (lends_ne LSa LSd).2 (by omega)
   replace G36:=F36.wh
   replace A36:=F36.wh.ag
   replace K36:=H36.got
   replace S36:=H36.got.sl
   replace G37:=F37.wh
   replace A37:=F37.wh.ag
   replace K37:=H37.got
   replace S37:=H37.got.sl
   replace G38:=F38.wh
   replace A38:=F38.wh.ag
   replace K38:=H38.got
   replace S38:=H38.got.sl
   replace G40:=F40.wh
   replace A40:=F40.wh.ag
   replace K40:=H40.got
   replace S40:=H40.got.sl
   replace HB:=HB.trans (hT_.below uwa HB.size);clear hT_ LSa ALr SLr ALu SLu
   replace Ar:=Ar0.below HB;replace Sr:=Sr0.below HB;replace Dr:Ag _ false br kr dr rt qr:=⟨Sr,Vr⟩;replace Tr:=Ar.sl
   replace Au:=Au0.below HB;replace Su:=Su0.below HB;replace Du:Ag _ false bu ku du ut qu:=⟨Su,Vu⟩;replace Tu:=Au.sl
   replace G6:=G6_0.below BW.h
   replace A6:=A6_0.below BW.h
   replace K6:=K6_0.below BW.h
   replace S6:=S6_0.below BW.h
   change Good _ _ _ _ _ (Act.put a42 (some 66) (.bool true)) _
   have q_:66<a42.tmps.size:=by rw [hn];decide
   generalize hA_:Act.put a42 (some 66) (.bool true)=a44
   replace hn:a44.tmps.size=152:=by rw [←hA_,put_tmps];simp [hn]
   replace hd:a44.defers = []:=by rw [←hA_];exact hd
   replace f2:=pne hA_ (by decide) f2
   replace f3:=pne hA_ (by decide) f3
   replace f5:=pne hA_ (by decide) f5
   replace f6:=pne hA_ (by decide) f6
   replace f7:=pne hA_ (by decide) f7
   replace f8:=pne hA_ (by decide) f8
   replace f9:=pne hA_ (by decide) f9
   replace f10:=pne hA_ (by decide) f10
   replace f11:=pne hA_ (by decide) f11
   replace f12:=pne hA_ (by decide) f12
   replace f15:=pne hA_ (by decide) f15
   replace f16:=pne hA_ (by decide) f16
   replace f17:=pne hA_ (by decide) f17
   replace f18:=pne hA_ (by decide) f18
   replace f19:=pne hA_ (by decide) f19
   replace f20:=pne hA_ (by decide) f20
   replace f65:=pne hA_ (by decide) f65
   have f66:a44.eval (.tmp 66)=.bool true:=by rw [←hA_];exact eval_put_same q_
   clear q_
   clear hA_
   refine good6 4 8 (some 8) [some 63,some 64,some 65,some 66,some 67,some 68,some 69,some 70,some 71,some 72,some 73,some 74,some 75,some 76,some 77,some 78,some 79,some 80,some 81,some 82,some 83,some 84,some 85,some 86,some 87,some 88,some 89,some 90,some 91,some 92,some 93,some 94,some 95,some 96,some 97,some 98,some 99] [Tt,Tt,Eqs (.slice ar mr cr),Eqs (.bool true),Eqs (.bool false),Eqs (.bool false),Eqs (.pointer (some ⟨gs1 0,2,none⟩)),Eqs (.slice br kr dr),Tt,Tt,Tt,Tt,Tt,Tt,Tt,Tt,Tt,Tt,Tt,Tt,Tt,Tt,Tt,Tt,Tt,Tt,Tt,Tt,Tt,Tt,Tt,Tt,Tt,Tt,Tt,Tt,Tt] [] [] [] [] [] (by kernel_rfl) hn rfl (by kernel_rfl) (by kernel_rfl) (by kernel_rfl) (by kernel_rfl) (by kernel_rfl) (by kernel_rfl) (by kernel_rfl) (by kernel_rfl) (by kernel_rfl) (by decide) ⟨True.mono5,True.mono5,Eqs.mono5 _,Eqs.mono5 _,Eqs.mono5 _,Eqs.mono5 _,Eqs.mono5 _,Eqs.mono5 _,True.mono5,True.mono5,True.mono5,True.mono5,True.mono5,True.mono5,True.mono5,True.mono5,True.mono5,True.mono5,True.mono5,True.mono5,True.mono5,True.mono5,True.mono5,True.mono5,True.mono5,True.mono5,True.mono5,True.mono5,True.mono5,True.mono5,True.mono5,True.mono5,True.mono5,True.mono5,True.mono5,True.mono5,True.mono5,trivial⟩ trivial xok_nil ok_nil (IsOld.all (bx:=[]) trivial) (DisOld.all (bx:=[]) trivial) ⟨⟨⟨⟨trivial,trivial⟩,trivial⟩,f65⟩,f66⟩ ?_ ?_ ?_
   ·exact ⟨.inl rfl,.inl rfl,.inl rfl,.inl rfl,.inr (.norm 67 rfl rfl (nxt rfl) rfl (fun a_ w_ _ t r R D _ _=>d6 rfl (op_not (show a_.eval (.tmp 66)=.bool true from D 3 rfl)))),.inr (.norm 68 rfl rfl (nxt rfl) rfl (fun a_ w_ _ t r R D _ _=>d6 rfl (op_mv (show a_.eval (.tmp 67)=.bool false from D 4 rfl)))),.inr (.norm 69 rfl rfl (nxt rfl) rfl (fun a_ w_ _ t r R D _ _=>⟨⟨_,rfl⟩,fun _=>d6 rfl (op_faR fa_den ((R 2 rfl).trans f2)),fun hne=>absurd (D 5 rfl) hne⟩)),.inr (.norm 70 rfl rfl (nxt rfl) rfl (fun a_ w_ _ t r R D _ _=>⟨⟨_,rfl⟩,fun _=>d6 rfl (op_ldden (show a_.eval (.tmp 69)=.pointer (some ⟨gs1 0,2,none⟩) from D 6 rfl) (b2.keep5 t trivial trivial)),fun hne=>absurd (D 5 rfl) hne⟩)),.inl rfl,.inl rfl,.inl rfl,.inl rfl,.inl rfl,.inl rfl,.inl rfl,.inl rfl,.inl rfl,.inl rfl,.inl rfl,.inl rfl,.inl rfl,.inl rfl,.inl rfl,.inl rfl,.inl rfl,.inl rfl,.inl rfl,.inl rfl,.inl rfl,.inl rfl,.inl rfl,.inl rfl,.inl rfl,.inl rfl,.inl rfl,.inl rfl,.inl rfl,trivial⟩
   rotate_left
   ·exact fun h=>by cases h
   intro t_ o_ ht_ ho_ a45 w45 gs45 B45 T45 F_
   obtain rfl:=Option.some.inj ht_;obtain rfl:=Option.some.inj ho_;clear ht_ ho_
   obtain ⟨hn45,hd45,hBt,hr,hR,hP,hTs,hLi,hX,hU,hRel,hSl⟩:=F_
   replace hn:=hn45;replace hd:=hd45.trans hd
   have lq45HK:=HK.le
   have lq45HR:=HR.le
   have lq45HT36:=HT36.le
   have lq45HT37:=HT37.le
   have lq45HT38:=HT38.le
   have lq45HT40:=HT40.le
   have lq45BK:=BK.lt.2
   have lq45LSb:=LSb.lt
   have lq45LSc:=LSc.lt
   have lq45LSd:=LSd.lt
   replace b2:=b2.keep5 hBt trivial trivial
   replace b3:=b3.keep5 hBt trivial trivial
   replace b5:=b5.keep5 hBt trivial trivial
   replace b15:=b15.keep5 hBt trivial trivial
   replace b16:=b16.keep5 hBt trivial trivial
   replace b17:=b17.keep5 hBt trivial trivial
   replace b18:=b18.keep5 hBt trivial trivial
   replace f2:=(hR 2 rfl).trans f2
   replace f3:=(hR 3 rfl).trans f3
   replace f5:=(hR 5 rfl).trans f5
   replace f6:=(hR 6 rfl).trans f6
   replace f7:=(hR 7 rfl).trans f7
   replace f8:=(hR 8 rfl).trans f8
   replace f10:=(hR 10 rfl).trans f10
   replace f11:=(hR 11 rfl).trans f11
   replace f12:=(hR 12 rfl).trans f12
   replace f15:=(hR 15 rfl).trans f15
   replace f16:=(hR 16 rfl).trans f16
   replace f17:=(hR 17 rfl).trans f17
   replace f18:=(hR 18 rfl).trans f18
   replace f19:=(hR 19 rfl).trans f19
   replace f20:=(hR 20 rfl).trans f20
   have e68:a45.eval (.tmp 68)=.bool false:=hP 5 (by decide)
   have f68:=e68
   have e70:a45.eval (.tmp 70)=.slice br kr dr:=hP 7 (by decide)
   have f70:=e70
   have hBl_:=hBt.below (Nat.le_refl _) (UpOld.all (bx:=[]) trivial) (UpX.all (bx:=[]) trivial)
   replace Ar:=Ar.ru hr
   replace Sr:=Sr.ru hr
   replace Dr:=Dr.ru hr
   replace Tr:=Tr.ru hr
   replace Au:=Au.ru hr
   replace Su:=Su.ru hr
   replace Du:=Du.ru hr
   replace Tu:=Tu.ru hr
   replace G6:=G6.ru hr
   replace A6:=A6.ru hr
   replace K6:=K6.ru hr
   replace S6:=S6.ru hr
   replace HK:=HK.ru hr
   replace HR:=HR.ru hr
   replace F36:=F36.ru hr
   replace H36:=H36.ru hr
   replace G36:=G36.ru hr
   replace A36:=A36.ru hr
   replace K36:=K36.ru hr
   replace S36:=S36.ru hr
   replace HT36:=HT36.ru hr
   replace F37:=F37.ru hr
   replace H37:=H37.ru hr
   replace G37:=G37.ru hr
   replace A37:=A37.ru hr
   replace K37:=K37.ru hr
   replace S37:=S37.ru hr
   replace HT37:=HT37.ru hr
   replace F38:=F38.ru hr
   replace H38:=H38.ru hr
   replace G38:=G38.ru hr
   replace A38:=A38.ru hr
   replace K38:=K38.ru hr
   replace S38:=S38.ru hr
   replace HT38:=HT38.ru hr
   replace F40:=F40.ru hr
   replace H40:=H40.ru hr
   replace G40:=G40.ru hr
   replace A40:=A40.ru hr
   replace K40:=K40.ru hr
   replace S40:=S40.ru hr
   replace HT40:=HT40.ru hr
   replace BK:=BK.below hBl_
   replace BW:=BW.below hBl_
   replace LSb:=LSb.below hBl_
   replace LSc:=LSc.below hBl_
   replace LSd:=LSd.below hBl_
   replace HB:=HB.trans (hBt.below HB.size (UpOld.all (bx:=[]) trivial) (UpX.all (bx:=[]) trivial))
   clear hBt hr hR hP hTs hLi hX hU hRel hSl
   refine ⟨⟨⟨68,rfl⟩,f68⟩,(op_back f10 f70 LSb (Sr) (by omega) (fun h0 b off e=>by have:=(Sr0).lt h0 b off e;omega)).mono ?_⟩
   rintro v_ w46 ⟨rfl,hT_⟩
   replace b2:=b2.touch hT_ (lends_box (by decide) LSb b2)
   replace b3:=b3.touch hT_ (lends_box (by decide) LSb b3)
   replace b5:=b5.touch hT_ (lends_box (by decide) LSb b5)
   replace b15:=b15.touch hT_ (lends_box (by decide) LSb b15)
   replace b16:=b16.touch hT_ (lends_box (by decide) LSb b16)
   replace b17:=b17.touch hT_ (lends_box (by decide) LSb b17)
   replace b18:=b18.touch hT_ (lends_box (by decide) LSb b18)
   replace HK:=HK.touch hT_
   replace HR:=HR.touch hT_
   replace F36:=F36.touch hT_ (by omega)
   replace H36:=H36.touch hT_ (by omega)
   replace HT36:=HT36.touch hT_
   replace F37:=F37.touch hT_ (by omega)
   replace H37:=H37.touch hT_ (by omega)
   replace HT37:=HT37.touch hT_
   replace F38:=F38.touch hT_ (by omega)
   replace H38:=H38.touch hT_ (by omega)
   replace HT38:=HT38.touch hT_
   replace F40:=F40.touch hT_ (by omega)
   replace H40:=H40.touch hT_ (by omega)
   replace HT40:=HT40.touch hT_
   replace BK:=BK.touch hT_ (by omega) (fun h=>by have:=hbs _ h;omega)
   replace BW:=BW.touch hT_ (by omega)
   replace LSc:=LSc.touch hT_ (lends_ne LSb LSc).2 (by omega)
   replace LSd:=LSd.touch hT_ (lends_ne LSb LSd).2 (by omega)
   replace G36:=F36.wh
   replace A36:=F36.wh.ag
   replace K36:=H36.got
   replace S36:=H36.got.sl
   replace G37:=F37.wh
   replace A37:=F37.wh.ag
   replace K37:=H37.got
   replace S37:=H37.got.sl
   replace G38:=F38.wh
   replace A38:=F38.wh.ag
   replace K38:=H38.got
   replace S38:=H38.got.sl
   replace G40:=F40.wh
   replace A40:=F40.wh.ag
   replace K40:=H40.got
   replace S40:=H40.got.sl
   replace HB:=HB.trans (hT_.below uwb HB.size);clear hT_ LSb
   replace Ar:=Ar0.below HB;replace Sr:=Sr0.below HB;replace Dr:Ag _ false br kr dr rt qr:=⟨Sr,Vr⟩;replace Tr:=Ar.sl
   replace Au:=Au0.below HB;replace Su:=Su0.below HB;replace Du:Ag _ false bu ku du ut qu:=⟨Su,Vu⟩;replace Tu:=Au.sl
   replace G6:=G6_0.below BW.h
   replace A6:=A6_0.below BW.h
   replace K6:=K6_0.below BW.h
   replace S6:=S6_0.below BW.h
   change Good _ _ _ _ _ (Act.put a45 (some 71) (.bool true)) _
   have q_:71<a45.tmps.size:=by rw [hn];decide
   generalize hA_:Act.put a45 (some 71) (.bool true)=a47
   replace hn:a47.tmps.size=152:=by rw [←hA_,put_tmps];simp [hn]
   replace hd:a47.defers = []:=by rw [←hA_];exact hd
   replace f2:=pne hA_ (by decide) f2
   replace f3:=pne hA_ (by decide) f3
   replace f5:=pne hA_ (by decide) f5
   replace f6:=pne hA_ (by decide) f6
   replace f7:=pne hA_ (by decide) f7
   replace f8:=pne hA_ (by decide) f8
   replace f10:=pne hA_ (by decide) f10
   replace f11:=pne hA_ (by decide) f11
   replace f12:=pne hA_ (by decide) f12
   replace f15:=pne hA_ (by decide) f15
   replace f16:=pne hA_ (by decide) f16
   replace f17:=pne hA_ (by decide) f17
   replace f18:=pne hA_ (by decide) f18
   replace f19:=pne hA_ (by decide) f19
   replace f20:=pne hA_ (by decide) f20
   replace f68:=pne hA_ (by decide) f68
   replace f70:=pne hA_ (by decide) f70
   have f71:a47.eval (.tmp 71)=.bool true:=by rw [←hA_];exact eval_put_same q_
   clear q_
   clear hA_
   refine good6 9 15 (some 15) [some 63,some 64,some 65,some 66,some 67,some 68,some 69,some 70,some 71,some 72,some 73,some 74,some 75,some 76,some 77,some 78,some 79,some 80,some 81,some 82,some 83,some 84,some 85,some 86,some 87,some 88,some 89,some 90,some 91,some 92,some 93,some 94,some 95,some 96,some 97,some 98,some 99] [Tt,Tt,Tt,Tt,Tt,Eqs (.bool false),Tt,Eqs (.slice br kr dr),Eqs (.bool true),Eqs (.bool false),Eqs (.bool false),Eqs (.bool false),Eqs (.pointer (some ⟨gs1 1,0,none⟩)),Eqs (.pointer (some ⟨gs1 1,1,none⟩)),Eqs (.slice au mu cu),Tt,Tt,Tt,Tt,Tt,Tt,Tt,Tt,Tt,Tt,Tt,Tt,Tt,Tt,Tt,Tt,Tt,Tt,Tt,Tt,Tt,Tt] [] [] [] [] [] (by kernel_rfl) hn rfl (by kernel_rfl) (by kernel_rfl) (by kernel_rfl) (by kernel_rfl) (by kernel_rfl) (by kernel_rfl) (by kernel_rfl) (by kernel_rfl) (by kernel_rfl) (by decide) ⟨True.mono5,True.mono5,True.mono5,True.mono5,True.mono5,Eqs.mono5 _,True.mono5,Eqs.mono5 _,Eqs.mono5 _,Eqs.mono5 _,Eqs.mono5 _,Eqs.mono5 _,Eqs.mono5 _,Eqs.mono5 _,Eqs.mono5 _,True.mono5,True.mono5,True.mono5,True.mono5,True.mono5,True.mono5,True.mono5,True.mono5,True.mono5,True.mono5,True.mono5,True.mono5,True.mono5,True.mono5,True.mono5,True.mono5,True.mono5,True.mono5,True.mono5,True.mono5,True.mono5,True.mono5,trivial⟩ trivial xok_nil ok_nil (IsOld.all (bx:=[]) trivial) (DisOld.all (bx:=[]) trivial) ⟨⟨⟨⟨⟨⟨⟨⟨⟨trivial,trivial⟩,trivial⟩,trivial⟩,trivial⟩,trivial⟩,f68⟩,trivial⟩,f70⟩,f71⟩ ?_ ?_ ?_
   ·exact ⟨.inl rfl,.inl rfl,.inl rfl,.inl rfl,.inl rfl,.inl rfl,.inl rfl,.inl rfl,.inl rfl,.inr (.norm 72 rfl rfl (nxt rfl) rfl (fun a_ w_ _ t r R D _ _=>⟨⟨_,rfl⟩,fun _=>d6 rfl (op_not (show a_.eval (.tmp 71)=.bool true from D 8 rfl)),fun hne=>absurd (D 5 rfl) hne⟩)),.inr (.norm 73 rfl rfl (nxt rfl) rfl (fun a_ w_ _ t r R D _ _=>d6 rfl (op_pickb (show a_.eval (.tmp 68)=.bool false from D 5 rfl) (show a_.eval (.tmp 72)=.bool false from D 9 rfl)))),.inr (.norm 74 rfl rfl (nxt rfl) rfl (fun a_ w_ _ t r R D _ _=>d6 rfl (op_mv (show a_.eval (.tmp 73)=.bool false from D 10 rfl)))),.inr (.norm 75 rfl rfl (nxt rfl) rfl (fun a_ w_ _ t r R D _ _=>⟨⟨_,rfl⟩,fun _=>d6 rfl (op_faR fa_num ((R 3 rfl).trans f3)),fun hne=>absurd (D 11 rfl) hne⟩)),.inr (.norm 76 rfl rfl (nxt rfl) rfl (fun a_ w_ _ t r R D _ _=>⟨⟨_,rfl⟩,fun _=>d6 rfl (op_fa fa_mag (show a_.eval (.tmp 75)=.pointer (some ⟨gs1 1,0,none⟩) from D 12 rfl)),fun hne=>absurd (D 11 rfl) hne⟩)),.inr (.norm 77 rfl rfl (nxt rfl) rfl (fun a_ w_ _ t r R D _ _=>⟨⟨_,rfl⟩,fun _=>d6 rfl (op_ldrmag (show a_.eval (.tmp 76)=.pointer (some ⟨gs1 1,1,none⟩) from D 13 rfl) (b3.keep5 t trivial trivial)),fun hne=>absurd (D 11 rfl) hne⟩)),.inl rfl,.inl rfl,.inl rfl,.inl rfl,.inl rfl,.inl rfl,.inl rfl,.inl rfl,.inl rfl,.inl rfl,.inl rfl,.inl rfl,.inl rfl,.inl rfl,.inl rfl,.inl rfl,.inl rfl,.inl rfl,.inl rfl,.inl rfl,.inl rfl,.inl rfl,trivial⟩
   rotate_left
   ·exact fun h=>by cases h
   intro t_ o_ ht_ ho_ a48 w48 gs48 B48 T48 F_
   obtain rfl:=Option.some.inj ht_;obtain rfl:=Option.some.inj ho_;clear ht_ ho_
   obtain ⟨hn48,hd48,hBt,hr,hR,hP,hTs,hLi,hX,hU,hRel,hSl⟩:=F_
   replace hn:=hn48;replace hd:=hd48.trans hd
   have lq48HK:=HK.le
   have lq48HR:=HR.le
   have lq48HT36:=HT36.le
   have lq48HT37:=HT37.le
   have lq48HT38:=HT38.le
   have lq48HT40:=HT40.le
   have lq48BK:=BK.lt.2
   have lq48LSc:=LSc.lt
   have lq48LSd:=LSd.lt
   replace b2:=b2.keep5 hBt trivial trivial
   replace b3:=b3.keep5 hBt trivial trivial
   replace b5:=b5.keep5 hBt trivial trivial
   replace b15:=b15.keep5 hBt trivial trivial
   replace b16:=b16.keep5 hBt trivial trivial
   replace b17:=b17.keep5 hBt trivial trivial
   replace b18:=b18.keep5 hBt trivial trivial
   replace f2:=(hR 2 rfl).trans f2
   replace f3:=(hR 3 rfl).trans f3
   replace f5:=(hR 5 rfl).trans f5
   replace f6:=(hR 6 rfl).trans f6
   replace f7:=(hR 7 rfl).trans f7
   replace f8:=(hR 8 rfl).trans f8
   replace f11:=(hR 11 rfl).trans f11
   replace f12:=(hR 12 rfl).trans f12
   replace f15:=(hR 15 rfl).trans f15
   replace f16:=(hR 16 rfl).trans f16
   replace f17:=(hR 17 rfl).trans f17
   replace f18:=(hR 18 rfl).trans f18
   replace f19:=(hR 19 rfl).trans f19
   replace f20:=(hR 20 rfl).trans f20
   have e74:a48.eval (.tmp 74)=.bool false:=hP 11 (by decide)
   have f74:=e74
   have e77:a48.eval (.tmp 77)=.slice au mu cu:=hP 14 (by decide)
   have f77:=e77
   have hBl_:=hBt.below (Nat.le_refl _) (UpOld.all (bx:=[]) trivial) (UpX.all (bx:=[]) trivial)
   replace Ar:=Ar.ru hr
   replace Sr:=Sr.ru hr
   replace Dr:=Dr.ru hr
   replace Tr:=Tr.ru hr
   replace Au:=Au.ru hr
   replace Su:=Su.ru hr
   replace Du:=Du.ru hr
   replace Tu:=Tu.ru hr
   replace G6:=G6.ru hr
   replace A6:=A6.ru hr
   replace K6:=K6.ru hr
   replace S6:=S6.ru hr
   replace HK:=HK.ru hr
   replace HR:=HR.ru hr
   replace F36:=F36.ru hr
   replace H36:=H36.ru hr
   replace G36:=G36.ru hr
   replace A36:=A36.ru hr
   replace K36:=K36.ru hr
   replace S36:=S36.ru hr
   replace HT36:=HT36.ru hr
   replace F37:=F37.ru hr
   replace H37:=H37.ru hr
   replace G37:=G37.ru hr
   replace A37:=A37.ru hr
   replace K37:=K37.ru hr
   replace S37:=S37.ru hr
   replace HT37:=HT37.ru hr
   replace F38:=F38.ru hr
   replace H38:=H38.ru hr
   replace G38:=G38.ru hr
   replace A38:=A38.ru hr
   replace K38:=K38.ru hr
   replace S38:=S38.ru hr
   replace HT38:=HT38.ru hr
   replace F40:=F40.ru hr
   replace H40:=H40.ru hr
   replace G40:=G40.ru hr
   replace A40:=A40.ru hr
   replace K40:=K40.ru hr
   replace S40:=S40.ru hr
   replace HT40:=HT40.ru hr
   replace BK:=BK.below hBl_
   replace BW:=BW.below hBl_
   replace LSc:=LSc.below hBl_
   replace LSd:=LSd.below hBl_
   replace HB:=HB.trans (hBt.below HB.size (UpOld.all (bx:=[]) trivial) (UpX.all (bx:=[]) trivial))
   clear hBt hr hR hP hTs hLi hX hU hRel hSl
   refine ⟨⟨⟨74,rfl⟩,f74⟩,(op_back f11 f77 LSc (Au.sl) (by omega) (fun h0 b off e=>by have:=(Au0.sl).lt h0 b off e;omega)).mono ?_⟩
   rintro v_ w49 ⟨rfl,hT_⟩
   replace b2:=b2.touch hT_ (lends_box (by decide) LSc b2)
   replace b3:=b3.touch hT_ (lends_box (by decide) LSc b3)
   replace b5:=b5.touch hT_ (lends_box (by decide) LSc b5)
   replace b15:=b15.touch hT_ (lends_box (by decide) LSc b15)
   replace b16:=b16.touch hT_ (lends_box (by decide) LSc b16)
   replace b17:=b17.touch hT_ (lends_box (by decide) LSc b17)
   replace b18:=b18.touch hT_ (lends_box (by decide) LSc b18)
   replace HK:=HK.touch hT_
   replace HR:=HR.touch hT_
   replace F36:=F36.touch hT_ (by omega)
   replace H36:=H36.touch hT_ (by omega)
   replace HT36:=HT36.touch hT_
   replace F37:=F37.touch hT_ (by omega)
   replace H37:=H37.touch hT_ (by omega)
   replace HT37:=HT37.touch hT_
   replace F38:=F38.touch hT_ (by omega)
   replace H38:=H38.touch hT_ (by omega)
   replace HT38:=HT38.touch hT_
   replace F40:=F40.touch hT_ (by omega)
   replace H40:=H40.touch hT_ (by omega)
   replace HT40:=HT40.touch hT_
   replace BK:=BK.touch hT_ (by omega) (fun h=>by have:=hbs _ h;omega)
   replace BW:=BW.touch hT_ (by omega)
   replace LSd:=LSd.touch hT_ (lends_ne LSc LSd).2 (Ne.symm hgcd.out)
   replace G36:=F36.wh
   replace A36:=F36.wh.ag
   replace K36:=H36.got
   replace S36:=H36.got.sl
   replace G37:=F37.wh
   replace A37:=F37.wh.ag
   replace K37:=H37.got
   replace S37:=H37.got.sl
   replace G38:=F38.wh
   replace A38:=F38.wh.ag
   replace K38:=H38.got
   replace S38:=H38.got.sl
   replace G40:=F40.wh
   replace A40:=F40.wh.ag
   replace K40:=H40.got
   replace S40:=H40.got.sl
   replace HB:=HB.trans (hT_.below uwc HB.size);clear hT_ LSc
   replace Ar:=Ar0.below HB;replace Sr:=Sr0.below HB;replace Dr:Ag _ false br kr dr rt qr:=⟨Sr,Vr⟩;replace Tr:=Ar.sl
   replace Au:=Au0.below HB;replace Su:=Su0.below HB;replace Du:Ag _ false bu ku du ut qu:=⟨Su,Vu⟩;replace Tu:=Au.sl
   replace G6:=G6_0.below BW.h
   replace A6:=A6_0.below BW.h
   replace K6:=K6_0.below BW.h
   replace S6:=S6_0.below BW.h
   change Good _ _ _ _ _ (Act.put a48 (some 78) (.bool true)) _
   have q_:78<a48.tmps.size:=by rw [hn];decide
   generalize hA_:Act.put a48 (some 78) (.bool true)=a50
   replace hn:a50.tmps.size=152:=by rw [←hA_,put_tmps];simp [hn]
   replace hd:a50.defers = []:=by rw [←hA_];exact hd
   replace f2:=pne hA_ (by decide) f2
   replace f3:=pne hA_ (by decide) f3
   replace f5:=pne hA_ (by decide) f5
   replace f6:=pne hA_ (by decide) f6
   replace f7:=pne hA_ (by decide) f7
   replace f8:=pne hA_ (by decide) f8
   replace f11:=pne hA_ (by decide) f11
   replace f12:=pne hA_ (by decide) f12
   replace f15:=pne hA_ (by decide) f15
   replace f16:=pne hA_ (by decide) f16
   replace f17:=pne hA_ (by decide) f17
   replace f18:=pne hA_ (by decide) f18
   replace f19:=pne hA_ (by decide) f19
   replace f20:=pne hA_ (by decide) f20
   replace f74:=pne hA_ (by decide) f74
   replace f77:=pne hA_ (by decide) f77
   have f78:a50.eval (.tmp 78)=.bool true:=by rw [←hA_];exact eval_put_same q_
   clear q_
   clear hA_
   refine good6 16 21 (some 21) [some 63,some 64,some 65,some 66,some 67,some 68,some 69,some 70,some 71,some 72,some 73,some 74,some 75,some 76,some 77,some 78,some 79,some 80,some 81,some 82,some 83,some 84,some 85,some 86,some 87,some 88,some 89,some 90,some 91,some 92,some 93,some 94,some 95,some 96,some 97,some 98,some 99] [Tt,Tt,Tt,Tt,Tt,Tt,Tt,Tt,Tt,Tt,Tt,Eqs (.bool false),Tt,Tt,Eqs (.slice au mu cu),Eqs (.bool true),Eqs (.bool false),Eqs (.bool false),Eqs (.bool false),Eqs (.pointer (some ⟨gs1 1,2,none⟩)),Eqs (.slice bu ku du),Tt,Tt,Tt,Tt,Tt,Tt,Tt,Tt,Tt,Tt,Tt,Tt,Tt,Tt,Tt,Tt] [] [] [] [] [] (by kernel_rfl) hn rfl (by kernel_rfl) (by kernel_rfl) (by kernel_rfl) (by kernel_rfl) (by kernel_rfl) (by kernel_rfl) (by kernel_rfl) (by kernel_rfl) (by kernel_rfl) (by decide) ⟨True.mono5,True.mono5,True.mono5,True.mono5,True.mono5,True.mono5,True.mono5,True.mono5,True.mono5,True.mono5,True.mono5,Eqs.mono5 _,True.mono5,True.mono5,Eqs.mono5 _,Eqs.mono5 _,Eqs.mono5 _,Eqs.mono5 _,Eqs.mono5 _,Eqs.mono5 _,Eqs.mono5 _,True.mono5,True.mono5,True.mono5,True.mono5,True.mono5,True.mono5,True.mono5,True.mono5,True.mono5,True.mono5,True.mono5,True.mono5,True.mono5,True.mono5,True.mono5,True.mono5,trivial⟩ trivial xok_nil ok_nil (IsOld.all (bx:=[]) trivial) (DisOld.all (bx:=[]) trivial) ⟨⟨⟨⟨⟨⟨⟨⟨⟨⟨⟨⟨⟨⟨⟨⟨trivial,trivial⟩,trivial⟩,trivial⟩,trivial⟩,trivial⟩,trivial⟩,trivial⟩,trivial⟩,trivial⟩,trivial⟩,trivial⟩,f74⟩,trivial⟩,trivial⟩,f77⟩,f78⟩ ?_ ?_ ?_
   ·exact ⟨.inl rfl,.inl rfl,.inl rfl,.inl rfl,.inl rfl,.inl rfl,.inl rfl,.inl rfl,.inl rfl,.inl rfl,.inl rfl,.inl rfl,.inl rfl,.inl rfl,.inl rfl,.inl rfl,.inr (.norm 79 rfl rfl (nxt rfl) rfl (fun a_ w_ _ t r R D _ _=>⟨⟨_,rfl⟩,fun _=>d6 rfl (op_not (show a_.eval (.tmp 78)=.bool true from D 15 rfl)),fun hne=>absurd (D 11 rfl) hne⟩)),.inr (.norm 80 rfl rfl (nxt rfl) rfl (fun a_ w_ _ t r R D _ _=>d6 rfl (op_pickb (show a_.eval (.tmp 74)=.bool false from D 11 rfl) (show a_.eval (.tmp 79)=.bool false from D 16 rfl)))),.inr (.norm 81 rfl rfl (nxt rfl) rfl (fun a_ w_ _ t r R D _ _=>d6 rfl (op_mv (show a_.eval (.tmp 80)=.bool false from D 17 rfl)))),.inr (.norm 82 rfl rfl (nxt rfl) rfl (fun a_ w_ _ t r R D _ _=>⟨⟨_,rfl⟩,fun _=>d6 rfl (op_faR fa_den ((R 3 rfl).trans f3)),fun hne=>absurd (D 18 rfl) hne⟩)),.inr (.norm 83 rfl rfl (nxt rfl) rfl (fun a_ w_ _ t r R D _ _=>⟨⟨_,rfl⟩,fun _=>d6 rfl (op_ldden (show a_.eval (.tmp 82)=.pointer (some ⟨gs1 1,2,none⟩) from D 19 rfl) (b3.keep5 t trivial trivial)),fun hne=>absurd (D 18 rfl) hne⟩)),.inl rfl,.inl rfl,.inl rfl,.inl rfl,.inl rfl,.inl rfl,.inl rfl,.inl rfl,.inl rfl,.inl rfl,.inl rfl,.inl rfl,.inl rfl,.inl rfl,.inl rfl,.inl rfl,trivial⟩
   rotate_left
   ·exact fun h=>by cases h
   intro t_ o_ ht_ ho_ a51 w51 gs51 B51 T51 F_
   obtain rfl:=Option.some.inj ht_;obtain rfl:=Option.some.inj ho_;clear ht_ ho_
   obtain ⟨hn51,hd51,hBt,hr,hR,hP,hTs,hLi,hX,hU,hRel,hSl⟩:=F_
   replace hn:=hn51;replace hd:=hd51.trans hd
   have lq51HK:=HK.le
   have lq51HR:=HR.le
   have lq51HT36:=HT36.le
   have lq51HT37:=HT37.le
   have lq51HT38:=HT38.le
   have lq51HT40:=HT40.le
   have lq51BK:=BK.lt.2
   have lq51LSd:=LSd.lt
   replace b2:=b2.keep5 hBt trivial trivial
   replace b3:=b3.keep5 hBt trivial trivial
   replace b5:=b5.keep5 hBt trivial trivial
   replace b15:=b15.keep5 hBt trivial trivial
   replace b16:=b16.keep5 hBt trivial trivial
   replace b17:=b17.keep5 hBt trivial trivial
   replace b18:=b18.keep5 hBt trivial trivial
   replace f2:=(hR 2 rfl).trans f2
   replace f3:=(hR 3 rfl).trans f3
   replace f5:=(hR 5 rfl).trans f5
   replace f6:=(hR 6 rfl).trans f6
   replace f7:=(hR 7 rfl).trans f7
   replace f8:=(hR 8 rfl).trans f8
   replace f12:=(hR 12 rfl).trans f12
   replace f15:=(hR 15 rfl).trans f15
   replace f16:=(hR 16 rfl).trans f16
   replace f17:=(hR 17 rfl).trans f17
   replace f18:=(hR 18 rfl).trans f18
   replace f19:=(hR 19 rfl).trans f19
   replace f20:=(hR 20 rfl).trans f20
   have e81:a51.eval (.tmp 81)=.bool false:=hP 18 (by decide)
   have f81:=e81
   have e83:a51.eval (.tmp 83)=.slice bu ku du:=hP 20 (by decide)
   have f83:=e83
   have hBl_:=hBt.below (Nat.le_refl _) (UpOld.all (bx:=[]) trivial) (UpX.all (bx:=[]) trivial)
   replace Ar:=Ar.ru hr
   replace Sr:=Sr.ru hr
   replace Dr:=Dr.ru hr
   replace Tr:=Tr.ru hr
   replace Au:=Au.ru hr
   replace Su:=Su.ru hr
   replace Du:=Du.ru hr
   replace Tu:=Tu.ru hr
   replace G6:=G6.ru hr
   replace A6:=A6.ru hr
   replace K6:=K6.ru hr
   replace S6:=S6.ru hr
   replace HK:=HK.ru hr
   replace HR:=HR.ru hr
   replace F36:=F36.ru hr
   replace H36:=H36.ru hr
   replace G36:=G36.ru hr
   replace A36:=A36.ru hr
   replace K36:=K36.ru hr
   replace S36:=S36.ru hr
   replace HT36:=HT36.ru hr
   replace F37:=F37.ru hr
   replace H37:=H37.ru hr
   replace G37:=G37.ru hr
   replace A37:=A37.ru hr
   replace K37:=K37.ru hr
   replace S37:=S37.ru hr
   replace HT37:=HT37.ru hr
   replace F38:=F38.ru hr
   replace H38:=H38.ru hr
   replace G38:=G38.ru hr
   replace A38:=A38.ru hr
   replace K38:=K38.ru hr
   replace S38:=S38.ru hr
   replace HT38:=HT38.ru hr
   replace F40:=F40.ru hr
   replace H40:=H40.ru hr
   replace G40:=G40.ru hr
   replace A40:=A40.ru hr
   replace K40:=K40.ru hr
   replace S40:=S40.ru hr
   replace HT40:=HT40.ru hr
   replace BK:=BK.below hBl_
   replace BW:=BW.below hBl_
   replace LSd:=LSd.below hBl_
   replace HB:=HB.trans (hBt.below HB.size (UpOld.all (bx:=[]) trivial) (UpX.all (bx:=[]) trivial))
   clear hBt hr hR hP hTs hLi hX hU hRel hSl
   refine ⟨⟨⟨81,rfl⟩,f81⟩,(op_back f12 f83 LSd (Su) (by omega) (fun h0 b off e=>by have:=(Su0).lt h0 b off e;omega)).mono ?_⟩
   rintro v_ w52 ⟨rfl,hT_⟩
   replace b2:=b2.touch hT_ (lends_box (by decide) LSd b2)
   replace b3:=b3.touch hT_ (lends_box (by decide) LSd b3)
   replace b5:=b5.touch hT_ (lends_box (by decide) LSd b5)
   replace b15:=b15.touch hT_ (lends_box (by decide) LSd b15)
   replace b16:=b16.touch hT_ (lends_box (by decide) LSd b16)
   replace b17:=b17.touch hT_ (lends_box (by decide) LSd b17)
   replace b18:=b18.touch hT_ (lends_box (by decide) LSd b18)
   replace HK:=HK.touch hT_
   replace HR:=HR.touch hT_
   replace F36:=F36.touch hT_ (by omega)
   replace H36:=H36.touch hT_ (by omega)
   replace HT36:=HT36.touch hT_
   replace F37:=F37.touch hT_ (by omega)
   replace H37:=H37.touch hT_ (by omega)
   replace HT37:=HT37.touch hT_
   replace F38:=F38.touch hT_ (by omega)
   replace H38:=H38.touch hT_ (by omega)
   replace HT38:=HT38.touch hT_
   replace F40:=F40.touch hT_ (by omega)
   replace H40:=H40.touch hT_ (by omega)
   replace HT40:=HT40.touch hT_
   replace BK:=BK.touch hT_ (by omega) (fun h=>by have:=hbs _ h;omega)
   replace BW:=BW.touch hT_ (by omega)
   replace G36:=F36.wh
   replace A36:=F36.wh.ag
   replace K36:=H36.got
   replace S36:=H36.got.sl
   replace G37:=F37.wh
   replace A37:=F37.wh.ag
   replace K37:=H37.got
   replace S37:=H37.got.sl
   replace G38:=F38.wh
   replace A38:=F38.wh.ag
   replace K38:=H38.got
   replace S38:=H38.got.sl
   replace G40:=F40.wh
   replace A40:=F40.wh.ag
   replace K40:=H40.got
   replace S40:=H40.got.sl
   replace HB:=HB.trans (hT_.below uwd HB.size);clear hT_ LSd
   replace Ar:=Ar0.below HB;replace Sr:=Sr0.below HB;replace Dr:Ag _ false br kr dr rt qr:=⟨Sr,Vr⟩;replace Tr:=Ar.sl
   replace Au:=Au0.below HB;replace Su:=Su0.below HB;replace Du:Ag _ false bu ku du ut qu:=⟨Su,Vu⟩;replace Tu:=Au.sl
   replace G6:=G6_0.below BW.h
   replace A6:=A6_0.below BW.h
   replace K6:=K6_0.below BW.h
   replace S6:=S6_0.below BW.h
   change Good _ _ _ _ _ (Act.put a51 (some 84) (.bool true)) _
   have q_:84<a51.tmps.size:=by rw [hn];decide
   generalize hA_:Act.put a51 (some 84) (.bool true)=a53
   replace hn:a53.tmps.size=152:=by rw [←hA_,put_tmps];simp [hn]
   replace hd:a53.defers = []:=by rw [←hA_];exact hd
   replace f2:=pne hA_ (by decide) f2
   replace f3:=pne hA_ (by decide) f3
   replace f5:=pne hA_ (by decide) f5
   replace f6:=pne hA_ (by decide) f6
   replace f7:=pne hA_ (by decide) f7
   replace f8:=pne hA_ (by decide) f8
   replace f12:=pne hA_ (by decide) f12
   replace f15:=pne hA_ (by decide) f15
   replace f16:=pne hA_ (by decide) f16
   replace f17:=pne hA_ (by decide) f17
   replace f18:=pne hA_ (by decide) f18
   replace f19:=pne hA_ (by decide) f19
   replace f20:=pne hA_ (by decide) f20
   replace f81:=pne hA_ (by decide) f81
   replace f83:=pne hA_ (by decide) f83
   have f84:a53.eval (.tmp 84)=.bool true:=by rw [←hA_];exact eval_put_same q_
   clear q_
   clear hA_
   refine good6 22 37 none [some 63,some 64,some 65,some 66,some 67,some 68,some 69,some 70,some 71,some 72,some 73,some 74,some 75,some 76,some 77,some 78,some 79,some 80,some 81,some 82,some 83,some 84,some 85,some 86,some 87,some 88,some 89,some 90,some 91,some 92,some 93,some 94,some 95,some 96,some 97,some 98,some 99] [Tt,Tt,Tt,Tt,Tt,Tt,Tt,Tt,Tt,Tt,Tt,Tt,Tt,Tt,Tt,Tt,Tt,Tt,Eqs (.bool false),Tt,Eqs (.slice bu ku du),Eqs (.bool true),Eqs (.bool false),Eqs (.bool false),Eqs (.bool false),Eqs (.int .i64 (cmpI (tp pr qr*tq qu) (tp pu qu*tq qr))),Eqs (.agg #[.bool nr,.slice ar mr cr,.slice br kr dr]),Eqs (.agg #[.bool nu,.slice au mu cu,.slice bu ku du]),Eqs (.int .i64 (cmpI (tp pr qr*tq qu) (tp pu qu*tq qr))),Eqs (.bool false),Eqs (.bool false),Eqs (.bool false),Eqs (.int .i64 (dE (tp pu qu))),Eqs (.int .i64 (dE (tp pu qu))),Eqs (.int .i64 (dE (tp pu qu))),Eqs (.bool false),Eqs (.bool false)] [] [] [] [] [] (by kernel_rfl) hn rfl (by kernel_rfl) (by kernel_rfl) (by kernel_rfl) (by kernel_rfl) (by kernel_rfl) (by kernel_rfl) (by kernel_rfl) (by kernel_rfl) (by kernel_rfl) (by decide) ⟨True.mono5,True.mono5,True.mono5,True.mono5,True.mono5,True.mono5,True.mono5,True.mono5,True.mono5,True.mono5,True.mono5,True.mono5,True.mono5,True.mono5,True.mono5,True.mono5,True.mono5,True.mono5,Eqs.mono5 _,True.mono5,Eqs.mono5 _,Eqs.mono5 _,Eqs.mono5 _,Eqs.mono5 _,Eqs.mono5 _,Eqs.mono5 _,Eqs.mono5 _,Eqs.mono5 _,Eqs.mono5 _,Eqs.mono5 _,Eqs.mono5 _,Eqs.mono5 _,Eqs.mono5 _,Eqs.mono5 _,Eqs.mono5 _,Eqs.mono5 _,Eqs.mono5 _,trivial⟩ trivial xok_nil ok_nil (IsOld.all (bx:=[]) trivial) (DisOld.all (bx:=[]) trivial) ⟨⟨⟨⟨⟨⟨⟨⟨⟨⟨⟨⟨⟨⟨⟨⟨⟨⟨⟨⟨⟨⟨trivial,trivial⟩,trivial⟩,trivial⟩,trivial⟩,trivial⟩,trivial⟩,trivial⟩,trivial⟩,trivial⟩,trivial⟩,trivial⟩,trivial⟩,trivial⟩,trivial⟩,trivial⟩,trivial⟩,trivial⟩,trivial⟩,f81⟩,trivial⟩,f83⟩,f84⟩ ?_ ?_ ?_
   ·exact ⟨.inl rfl,.inl rfl,.inl rfl,.inl rfl,.inl rfl,.inl rfl,.inl rfl,.inl rfl,.inl rfl,.inl rfl,.inl rfl,.inl rfl,.inl rfl,.inl rfl,.inl rfl,.inl rfl,.inl rfl,.inl rfl,.inl rfl,.inl rfl,.inl rfl,.inl rfl,.inr (.norm 85 rfl rfl (nxt rfl) rfl (fun a_ w_ _ t r R D _ _=>⟨⟨_,rfl⟩,fun _=>d6 rfl (op_not (show a_.eval (.tmp 84)=.bool true from D 21 rfl)),fun hne=>absurd (D 18 rfl) hne⟩)),.inr (.norm 86 rfl rfl (nxt rfl) rfl (fun a_ w_ _ t r R D _ _=>d6 rfl (op_pickb (show a_.eval (.tmp 81)=.bool false from D 18 rfl) (show a_.eval (.tmp 85)=.bool false from D 22 rfl)))),.inr (.norm 87 rfl rfl (nxt rfl) rfl (fun a_ w_ _ t r R D _ _=>d6 rfl (op_mv (show a_.eval (.tmp 86)=.bool false from D 23 rfl)))),.inr (.norm 88 rfl rfl (nxt rfl) rfl (fun a_ w_ _ t r R D _ _=>⟨⟨_,rfl⟩,fun _=>d6 rfl (op_mv ((R 20 rfl).trans f20)),fun hne=>absurd (D 24 rfl) hne⟩)),.inr (.norm 89 rfl rfl (nxt rfl) rfl (fun a_ w_ _ t r R D _ _=>⟨⟨_,rfl⟩,fun _=>d6 rfl (op_loadv R3ok ((R 2 rfl).trans f2) (b2.keep5 t trivial trivial)),fun hne=>absurd (D 24 rfl) hne⟩)),.inr (.norm 90 rfl rfl (nxt rfl) rfl (fun a_ w_ _ t r R D _ _=>⟨⟨_,rfl⟩,fun _=>d6 rfl (op_loadv R3ok ((R 3 rfl).trans f3) (b3.keep5 t trivial trivial)),fun hne=>absurd (D 24 rfl) hne⟩)),.inr (.norm 91 rfl rfl (nxt rfl) rfl (fun a_ w_ _ t r R D _ _=>⟨⟨_,rfl⟩,fun _=>d6 rfl ((by rw [←cmp_low (tp pr qr) (tp pu qu) hqr hqu];exact op_q3cmp (Br:=1500) (Bu:=1500) (isr_eq (show a_.eval (.tmp 89)=.agg #[.bool nr,.slice ar mr cr,.slice br kr dr] from D 26 rfl) (Ar.ru r) (Sr.ru r) Vr Lr Mr) (isr_eq (show a_.eval (.tmp 90)=.agg #[.bool nu,.slice au mu cu,.slice bu ku du] from D 27 rfl) (Au.ru r) (Su.ru r) Vu Lu Mu) (by omega))),fun hne=>absurd (D 24 rfl) hne⟩)),.inr (.norm 92 rfl rfl (nxt rfl) rfl (fun a_ w_ _ t r R D _ _=>⟨⟨_,rfl⟩,fun _=>d6 rfl (op_neqsame (show a_.eval (.tmp 88)=.int .i64 (cmpI (tp pr qr*tq qu) (tp pu qu*tq qr)) from D 25 rfl) (show a_.eval (.tmp 91)=.int .i64 (cmpI (tp pr qr*tq qu) (tp pu qu*tq qr)) from D 28 rfl)),fun hne=>absurd (D 24 rfl) hne⟩)),.inr (.norm 93 rfl rfl (nxt rfl) rfl (fun a_ w_ _ t r R D _ _=>d6 rfl (op_pickb (show a_.eval (.tmp 87)=.bool false from D 24 rfl) (show a_.eval (.tmp 92)=.bool false from D 29 rfl)))),.inr (.norm 94 rfl rfl (nxt rfl) rfl (fun a_ w_ _ t r R D _ _=>d6 rfl (op_mv (show a_.eval (.tmp 93)=.bool false from D 30 rfl)))),.inr (.norm 95 rfl rfl (nxt rfl) rfl (fun a_ w_ _ t r R D _ _=>⟨⟨_,rfl⟩,fun _=>d6 rfl (op_mv ((R 19 rfl).trans f19)),fun hne=>absurd (D 31 rfl) hne⟩)),.inr (.norm 96 rfl rfl (nxt rfl) rfl (fun a_ w_ _ t r R D _ _=>⟨⟨_,rfl⟩,fun _=>d6 rfl (op_numr (show a_.eval (.tmp 95)=.int .i64 (dE (tp pu qu)) from D 32 rfl)),fun hne=>absurd (D 31 rfl) hne⟩)),.inr (.norm 97 rfl rfl (nxt rfl) rfl (fun a_ w_ _ t r R D _ _=>⟨⟨_,rfl⟩,fun _=>d6 rfl (op_mv ((R 6 rfl).trans f6)),fun hne=>absurd (D 31 rfl) hne⟩)),.inr (.norm 98 rfl rfl (nxt rfl) rfl (fun a_ w_ _ t r R D _ _=>⟨⟨_,rfl⟩,fun _=>d6 rfl (op_neqsame (show a_.eval (.tmp 96)=.int .i64 (dE (tp pu qu)) from D 33 rfl) (show a_.eval (.tmp 97)=.int .i64 (dE (tp pu qu)) from D 34 rfl)),fun hne=>absurd (D 31 rfl) hne⟩)),.inr (.norm 99 rfl rfl (nxt rfl) rfl (fun a_ w_ _ t r R D _ _=>d6 rfl (op_pickb (show a_.eval (.tmp 94)=.bool false from D 31 rfl) (show a_.eval (.tmp 98)=.bool false from D 35 rfl)))),trivial⟩
   ·exact fun _ _ h=>by cases h
   intro _ a54 w54 gs54 B54 T54 F_
   obtain ⟨hn54,hd54,hBt,hr,hR,hP,hTs,hLi,hX,hU,hRel,hSl⟩:=F_
   replace hn:=hn54;replace hd:=hd54.trans hd
   have lq54HK:=HK.le
   have lq54HR:=HR.le
   have lq54HT36:=HT36.le
   have lq54HT37:=HT37.le
   have lq54HT38:=HT38.le
   have lq54HT40:=HT40.le
   have lq54BK:=BK.lt.2
   replace b2:=b2.keep5 hBt trivial trivial
   replace b3:=b3.keep5 hBt trivial trivial
   replace b5:=b5.keep5 hBt trivial trivial
   replace b15:=b15.keep5 hBt trivial trivial
   replace b16:=b16.keep5 hBt trivial trivial
   replace b17:=b17.keep5 hBt trivial trivial
   replace b18:=b18.keep5 hBt trivial trivial
   replace f2:=(hR 2 rfl).trans f2
   replace f3:=(hR 3 rfl).trans f3
   replace f5:=(hR 5 rfl).trans f5
   replace f6:=(hR 6 rfl).trans f6
   replace f7:=(hR 7 rfl).trans f7
   replace f8:=(hR 8 rfl).trans f8
   replace f15:=(hR 15 rfl).trans f15
   replace f16:=(hR 16 rfl).trans f16
   replace f17:=(hR 17 rfl).trans f17
   replace f18:=(hR 18 rfl).trans f18
   have e99:a54.eval (.tmp 99)=.bool false:=hP 36 (by decide)
   have f99:=e99
   have hBl_:=hBt.below (Nat.le_refl _) (UpOld.all (bx:=[]) trivial) (UpX.all (bx:=[]) trivial)
   replace Ar:=Ar.ru hr
   replace Sr:=Sr.ru hr
   replace Dr:=Dr.ru hr
   replace Tr:=Tr.ru hr
   replace Au:=Au.ru hr
   replace Su:=Su.ru hr
   replace Du:=Du.ru hr
   replace Tu:=Tu.ru hr
   replace G6:=G6.ru hr
   replace A6:=A6.ru hr
   replace K6:=K6.ru hr
   replace S6:=S6.ru hr
   replace HK:=HK.ru hr
   replace HR:=HR.ru hr
   replace F36:=F36.ru hr
   replace H36:=H36.ru hr
   replace G36:=G36.ru hr
   replace A36:=A36.ru hr
   replace K36:=K36.ru hr
   replace S36:=S36.ru hr
   replace HT36:=HT36.ru hr
   replace F37:=F37.ru hr
   replace H37:=H37.ru hr
   replace G37:=G37.ru hr
   replace A37:=A37.ru hr
   replace K37:=K37.ru hr
   replace S37:=S37.ru hr
   replace HT37:=HT37.ru hr
   replace F38:=F38.ru hr
   replace H38:=H38.ru hr
   replace G38:=G38.ru hr
   replace A38:=A38.ru hr
   replace K38:=K38.ru hr
   replace S38:=S38.ru hr
   replace HT38:=HT38.ru hr
   replace F40:=F40.ru hr
   replace H40:=H40.ru hr
   replace G40:=G40.ru hr
   replace A40:=A40.ru hr
   replace K40:=K40.ru hr
   replace S40:=S40.ru hr
   replace HT40:=HT40.ru hr
   replace BK:=BK.below hBl_
   replace BW:=BW.below hBl_
   replace HB:=HB.trans (hBt.below HB.size (UpOld.all (bx:=[]) trivial) (UpX.all (bx:=[]) trivial))
   clear hBt hr hR hP hTs hLi hX hU hRel hSl
   refine wp_cond_false f99 ?_
   refine wp_skip ?_
   refine wp_seq ?_
   refine wp_seq ?_
   refine wp_of_good (by kernel_rfl) (by kernel_rfl) (fun w_0 hb_0=>?_)
   replace b2:=b2.below hb_0
   replace b3:=b3.below hb_0
   replace b5:=b5.below hb_0
   replace b15:=b15.below hb_0
   replace b16:=b16.below hb_0
   replace b17:=b17.below hb_0
   replace b18:=b18.below hb_0
   replace Ar:=Ar.below hb_0
   replace Sr:=Sr.below hb_0
   replace Dr:=Dr.below hb_0
   replace Tr:=Tr.below hb_0
   replace Au:=Au.below hb_0
   replace Su:=Su.below hb_0
   replace Du:=Du.below hb_0
   replace Tu:=Tu.below hb_0
   replace G6:=G6.below hb_0
   replace A6:=A6.below hb_0
   replace K6:=K6.below hb_0
   replace S6:=S6.below hb_0
   replace HK:=HK.below hb_0
   replace HR:=HR.below hb_0
   replace F36:=F36.below hb_0
   replace H36:=H36.below hb_0
   replace G36:=G36.below hb_0
   replace A36:=A36.below hb_0
   replace K36:=K36.below hb_0
   replace S36:=S36.below hb_0
   replace HT36:=HT36.below hb_0
   replace F37:=F37.below hb_0
   replace H37:=H37.below hb_0
   replace G37:=G37.below hb_0
   replace A37:=A37.below hb_0
   replace K37:=K37.below hb_0
   replace S37:=S37.below hb_0
   replace HT37:=HT37.below hb_0
   replace F38:=F38.below hb_0
   replace H38:=H38.below hb_0
   replace G38:=G38.below hb_0
   replace A38:=A38.below hb_0
   replace K38:=K38.below hb_0
   replace S38:=S38.below hb_0
   replace HT38:=HT38.below hb_0
   replace F40:=F40.below hb_0
   replace H40:=H40.below hb_0
   replace G40:=G40.below hb_0
   replace A40:=A40.below hb_0
   replace K40:=K40.below hb_0
   replace S40:=S40.below hb_0
   replace HT40:=HT40.below hb_0
   replace BK:=BK.below hb_0
   replace BW:=BW.below hb_0
   replace HB:=HB.trans (hb_0.mono HB.size);clear hb_0
   refine good6 0 28 none [some 100,some 101,some 102,some 103,some 104,some 105,some 106,some 107,some 108,some 109,some 110,some 111,some 112,some 113,some 114,some 115,some 116,some 117,some 118,some 119,some 120,some 121,some 122,some 123,some 124,some 125,some 126,some 127] [Eqs (.agg #[.bool n_36,.slice a_36 r_36.length c_36,.slice b_36 s_36.length d_36]),Eqs (.agg #[.bool nr,.slice ar mr cr,.slice br kr dr]),Eqs (.agg #[.bool nu,.slice au mu cu,.slice bu ku du]),OutR ((nm ((nm (tp pr qr) (tq qr))*(dn (tp pu qu) (tq qu))+(nm (tp pu qu) (tq qu))*(dn (tp pr qr) (tq qr))) ((dn (tp pr qr) (tq qr))*(dn (tp pu qu) (tq qu))))) ((dn ((nm (tp pr qr) (tq qr))*(dn (tp pu qu) (tq qu))+(nm (tp pu qu) (tq qu))*(dn (tp pr qr) (tq qr))) ((dn (tp pr qr) (tq qr))*(dn (tp pu qu) (tq qu))))) (36*(1500+1500)+130),Eqs (.bool true),Eqs (.bool false),Eqs (.bool false),Eqs (.agg #[.bool n_37,.slice a_37 r_37.length c_37,.slice b_37 s_37.length d_37]),Eqs (.agg #[.bool nr,.slice ar mr cr,.slice br kr dr]),Eqs (.agg #[.bool nu,.slice au mu cu,.slice bu ku du]),OutR ((nm ((nm (tp pr qr) (tq qr))*(dn (tp pu qu) (tq qu))+(-(nm (tp pu qu) (tq qu)))*(dn (tp pr qr) (tq qr))) ((dn (tp pr qr) (tq qr))*(dn (tp pu qu) (tq qu))))) ((dn ((nm (tp pr qr) (tq qr))*(dn (tp pu qu) (tq qu))+(-(nm (tp pu qu) (tq qu)))*(dn (tp pr qr) (tq qr))) ((dn (tp pr qr) (tq qr))*(dn (tp pu qu) (tq qu))))) (72*(1500+1500)+240),Eqs (.bool true),Eqs (.bool false),Eqs (.bool false),Eqs (.bool false),Eqs (.agg #[.bool n_38,.slice a_38 r_38.length c_38,.slice b_38 s_38.length d_38]),Eqs (.agg #[.bool nr,.slice ar mr cr,.slice br kr dr]),Eqs (.agg #[.bool nu,.slice au mu cu,.slice bu ku du]),OutR ((nm ((nm (tp pr qr) (tq qr))*(nm (tp pu qu) (tq qu))) ((dn (tp pr qr) (tq qr))*(dn (tp pu qu) (tq qu))))) ((dn ((nm (tp pr qr) (tq qr))*(nm (tp pu qu) (tq qu))) ((dn (tp pr qr) (tq qr))*(dn (tp pu qu) (tq qu))))) (24*(1500+1500)+100),Eqs (.bool true),Eqs (.bool false),Eqs (.bool false),Eqs (.bool false),Eqs (.agg #[.bool n_40,.slice a_40 r_40.length c_40,.slice b_40 s_40.length d_40]),Eqs (.agg #[.bool n_6,.slice a_6 r_6.length c_6,.slice b_6 s_6.length d_6]),Eqs (.bool true),Eqs (.bool false),Eqs (.bool false)] [] [] [] [] [] (by kernel_rfl) hn rfl (by kernel_rfl) (by kernel_rfl) (by kernel_rfl) (by kernel_rfl) (by kernel_rfl) (by kernel_rfl) (by kernel_rfl) (by kernel_rfl) (by kernel_rfl) (by decide) ⟨Eqs.mono5 _,Eqs.mono5 _,Eqs.mono5 _,OutR.mono5 _ _ _,Eqs.mono5 _,Eqs.mono5 _,Eqs.mono5 _,Eqs.mono5 _,Eqs.mono5 _,Eqs.mono5 _,OutR.mono5 _ _ _,Eqs.mono5 _,Eqs.mono5 _,Eqs.mono5 _,Eqs.mono5 _,Eqs.mono5 _,Eqs.mono5 _,Eqs.mono5 _,OutR.mono5 _ _ _,Eqs.mono5 _,Eqs.mono5 _,Eqs.mono5 _,Eqs.mono5 _,Eqs.mono5 _,Eqs.mono5 _,Eqs.mono5 _,Eqs.mono5 _,Eqs.mono5 _,trivial⟩ trivial xok_nil ok_nil (IsOld.all (bx:=[]) trivial) (DisOld.all (bx:=[]) trivial) trivial ?_ ?_ ?_
   ·exact ⟨.inr (.norm 100 rfl rfl (nxt rfl) rfl (fun a_ w_ _ t r R D _ _=>d6 rfl (op_loadv R3ok ((R 15 rfl).trans f15) (b15.keep5 t trivial trivial)))),.inr (.norm 101 rfl rfl (nxt rfl) rfl (fun a_ w_ _ t r R D _ _=>d6 rfl (op_loadv R3ok ((R 2 rfl).trans f2) (b2.keep5 t trivial trivial)))),.inr (.norm 102 rfl rfl (nxt rfl) rfl (fun a_ w_ _ t r R D _ _=>d6 rfl (op_loadv R3ok ((R 3 rfl).trans f3) (b3.keep5 t trivial trivial)))),.inr (.norm 103 rfl rfl (nxt rfl) rfl (fun a_ w_ _ t r R D _ _=>d6 rfl (op_q3add (Br:=1500) (Bu:=1500) (isr_eq (show a_.eval (.tmp 101)=.agg #[.bool nr,.slice ar mr cr,.slice br kr dr] from D 1 rfl) (Ar.ru r) (Sr.ru r) Vr Lr Mr) (isr_eq (show a_.eval (.tmp 102)=.agg #[.bool nu,.slice au mu cu,.slice bu ku du] from D 2 rfl) (Au.ru r) (Su.ru r) Vu Lu Mu) (by omega)))),.inr (.norm 104 rfl rfl (nxt rfl) rfl (fun a_ w_ _ t r R D _ _=>d6 rfl (op_samer (outr_eq (show a_.eval (.tmp 100)=.agg #[.bool n_36,.slice a_36 r_36.length c_36,.slice b_36 s_36.length d_36] from D 0 rfl) (G36.ru r) (K36.ru r) l36 k36) (show OutR ((nm ((nm (tp pr qr) (tq qr))*(dn (tp pu qu) (tq qu))+(nm (tp pu qu) (tq qu))*(dn (tp pr qr) (tq qr))) ((dn (tp pr qr) (tq qr))*(dn (tp pu qu) (tq qu))))) ((dn ((nm (tp pr qr) (tq qr))*(dn (tp pu qu) (tq qu))+(nm (tp pu qu) (tq qu))*(dn (tp pr qr) (tq qr))) ((dn (tp pr qr) (tq qr))*(dn (tp pu qu) (tq qu))))) (36*(1500+1500)+130) (a_.eval (.tmp 103)) w_ from D 3 rfl) (add_eq (tp pr qr) (tp pu qu) (tq_ne qr) (tq_ne qu))))),.inr (.norm 105 rfl rfl (nxt rfl) rfl (fun a_ w_ _ t r R D _ _=>d6 rfl (op_not (show a_.eval (.tmp 104)=.bool true from D 4 rfl)))),.inr (.norm 106 rfl rfl (nxt rfl) rfl (fun a_ w_ _ t r R D _ _=>d6 rfl (op_mv (show a_.eval (.tmp 105)=.bool false from D 5 rfl)))),.inr (.norm 107 rfl rfl (nxt rfl) rfl (fun a_ w_ _ t r R D _ _=>⟨⟨_,rfl⟩,fun _=>d6 rfl (op_loadv R3ok ((R 16 rfl).trans f16) (b16.keep5 t trivial trivial)),fun hne=>absurd (D 6 rfl) hne⟩)),.inr (.norm 108 rfl rfl (nxt rfl) rfl (fun a_ w_ _ t r R D _ _=>⟨⟨_,rfl⟩,fun _=>d6 rfl (op_loadv R3ok ((R 2 rfl).trans f2) (b2.keep5 t trivial trivial)),fun hne=>absurd (D 6 rfl) hne⟩)),.inr (.norm 109 rfl rfl (nxt rfl) rfl (fun a_ w_ _ t r R D _ _=>⟨⟨_,rfl⟩,fun _=>d6 rfl (op_loadv R3ok ((R 3 rfl).trans f3) (b3.keep5 t trivial trivial)),fun hne=>absurd (D 6 rfl) hne⟩)),.inr (.norm 110 rfl rfl (nxt rfl) rfl (fun a_ w_ _ t r R D _ _=>⟨⟨_,rfl⟩,fun _=>d6 rfl (op_q3sub (Br:=1500) (Bu:=1500) (isr_eq (show a_.eval (.tmp 108)=.agg #[.bool nr,.slice ar mr cr,.slice br kr dr] from D 8 rfl) (Ar.ru r) (Sr.ru r) Vr Lr Mr) (isr_eq (show a_.eval (.tmp 109)=.agg #[.bool nu,.slice au mu cu,.slice bu ku du] from D 9 rfl) (Au.ru r) (Su.ru r) Vu Lu Mu) (by omega)),fun hne=>absurd (D 6 rfl) hne⟩)),.inr (.norm 111 rfl rfl (nxt rfl) rfl (fun a_ w_ _ t r R D _ _=>⟨⟨_,rfl⟩,fun _=>d6 rfl (op_samer (outr_eq (show a_.eval (.tmp 107)=.agg #[.bool n_37,.slice a_37 r_37.length c_37,.slice b_37 s_37.length d_37] from D 7 rfl) (G37.ru r) (K37.ru r) l37 k37) (show OutR ((nm ((nm (tp pr qr) (tq qr))*(dn (tp pu qu) (tq qu))+(-(nm (tp pu qu) (tq qu)))*(dn (tp pr qr) (tq qr))) ((dn (tp pr qr) (tq qr))*(dn (tp pu qu) (tq qu))))) ((dn ((nm (tp pr qr) (tq qr))*(dn (tp pu qu) (tq qu))+(-(nm (tp pu qu) (tq qu)))*(dn (tp pr qr) (tq qr))) ((dn (tp pr qr) (tq qr))*(dn (tp pu qu) (tq qu))))) (72*(1500+1500)+240) (a_.eval (.tmp 110)) w_ from D 10 rfl) (sub_eq (tp pr qr) (tp pu qu) (tq_ne qr) (tq_ne qu))),fun hne=>absurd (D 6 rfl) hne⟩)),.inr (.norm 112 rfl rfl (nxt rfl) rfl (fun a_ w_ _ t r R D _ _=>⟨⟨_,rfl⟩,fun _=>d6 rfl (op_not (show a_.eval (.tmp 111)=.bool true from D 11 rfl)),fun hne=>absurd (D 6 rfl) hne⟩)),.inr (.norm 113 rfl rfl (nxt rfl) rfl (fun a_ w_ _ t r R D _ _=>d6 rfl (op_pickb (show a_.eval (.tmp 106)=.bool false from D 6 rfl) (show a_.eval (.tmp 112)=.bool false from D 12 rfl)))),.inr (.norm 114 rfl rfl (nxt rfl) rfl (fun a_ w_ _ t r R D _ _=>d6 rfl (op_mv (show a_.eval (.tmp 113)=.bool false from D 13 rfl)))),.inr (.norm 115 rfl rfl (nxt rfl) rfl (fun a_ w_ _ t r R D _ _=>⟨⟨_,rfl⟩,fun _=>d6 rfl (op_loadv R3ok ((R 17 rfl).trans f17) (b17.keep5 t trivial trivial)),fun hne=>absurd (D 14 rfl) hne⟩)),.inr (.norm 116 rfl rfl (nxt rfl) rfl (fun a_ w_ _ t r R D _ _=>⟨⟨_,rfl⟩,fun _=>d6 rfl (op_loadv R3ok ((R 2 rfl).trans f2) (b2.keep5 t trivial trivial)),fun hne=>absurd (D 14 rfl) hne⟩)),.inr (.norm 117 rfl rfl (nxt rfl) rfl (fun a_ w_ _ t r R D _ _=>⟨⟨_,rfl⟩,fun _=>d6 rfl (op_loadv R3ok ((R 3 rfl).trans f3) (b3.keep5 t trivial trivial)),fun hne=>absurd (D 14 rfl) hne⟩)),.inr (.norm 118 rfl rfl (nxt rfl) rfl (fun a_ w_ _ t r R D _ _=>⟨⟨_,rfl⟩,fun _=>d6 rfl (op_q3mul (Br:=1500) (Bu:=1500) (isr_eq (show a_.eval (.tmp 116)=.agg #[.bool nr,.slice ar mr cr,.slice br kr dr] from D 16 rfl) (Ar.ru r) (Sr.ru r) Vr Lr Mr) (isr_eq (show a_.eval (.tmp 117)=.agg #[.bool nu,.slice au mu cu,.slice bu ku du] from D 17 rfl) (Au.ru r) (Su.ru r) Vu Lu Mu) (by omega)),fun hne=>absurd (D 14 rfl) hne⟩)),.inr (.norm 119 rfl rfl (nxt rfl) rfl (fun a_ w_ _ t r R D _ _=>⟨⟨_,rfl⟩,fun _=>d6 rfl (op_samer (outr_eq (show a_.eval (.tmp 115)=.agg #[.bool n_38,.slice a_38 r_38.length c_38,.slice b_38 s_38.length d_38] from D 15 rfl) (G38.ru r) (K38.ru r) l38 k38) (show OutR ((nm ((nm (tp pr qr) (tq qr))*(nm (tp pu qu) (tq qu))) ((dn (tp pr qr) (tq qr))*(dn (tp pu qu) (tq qu))))) ((dn ((nm (tp pr qr) (tq qr))*(nm (tp pu qu) (tq qu))) ((dn (tp pr qr) (tq qr))*(dn (tp pu qu) (tq qu))))) (24*(1500+1500)+100) (a_.eval (.tmp 118)) w_ from D 18 rfl) (mul_eq (tp pr qr) (tp pu qu) (tq_ne qr) (tq_ne qu))),fun hne=>absurd (D 14 rfl) hne⟩)),.inr (.norm 120 rfl rfl (nxt rfl) rfl (fun a_ w_ _ t r R D _ _=>⟨⟨_,rfl⟩,fun _=>d6 rfl (op_not (show a_.eval (.tmp 119)=.bool true from D 19 rfl)),fun hne=>absurd (D 14 rfl) hne⟩)),.inr (.norm 121 rfl rfl (nxt rfl) rfl (fun a_ w_ _ t r R D _ _=>d6 rfl (op_pickb (show a_.eval (.tmp 114)=.bool false from D 14 rfl) (show a_.eval (.tmp 120)=.bool false from D 20 rfl)))),.inr (.norm 122 rfl rfl (nxt rfl) rfl (fun a_ w_ _ t r R D _ _=>d6 rfl (op_mv (show a_.eval (.tmp 121)=.bool false from D 21 rfl)))),.inr (.norm 123 rfl rfl (nxt rfl) rfl (fun a_ w_ _ t r R D _ _=>⟨⟨_,rfl⟩,fun _=>d6 rfl (op_loadv R3ok ((R 18 rfl).trans f18) (b18.keep5 t trivial trivial)),fun hne=>absurd (D 22 rfl) hne⟩)),.inr (.norm 124 rfl rfl (nxt rfl) rfl (fun a_ w_ _ t r R D _ _=>⟨⟨_,rfl⟩,fun _=>d6 rfl (op_loadv R3ok ((R 5 rfl).trans f5) (b5.keep5 t trivial trivial)),fun hne=>absurd (D 22 rfl) hne⟩)),.inr (.norm 125 rfl rfl (nxt rfl) rfl (fun a_ w_ _ t r R D _ _=>⟨⟨_,rfl⟩,fun _=>d6 rfl (op_samer (outr_eq (show a_.eval (.tmp 123)=.agg #[.bool n_40,.slice a_40 r_40.length c_40,.slice b_40 s_40.length d_40] from D 23 rfl) (G40.ru r) (K40.ru r) l40 k40) (outr_eq (show a_.eval (.tmp 124)=.agg #[.bool n_6,.slice a_6 r_6.length c_6,.slice b_6 s_6.length d_6] from D 24 rfl) (G6.ru r) (K6.ru r) l6 k6) ⟨rfl,rfl⟩),fun hne=>absurd (D 22 rfl) hne⟩)),.inr (.norm 126 rfl rfl (nxt rfl) rfl (fun a_ w_ _ t r R D _ _=>⟨⟨_,rfl⟩,fun _=>d6 rfl (op_not (show a_.eval (.tmp 125)=.bool true from D 25 rfl)),fun hne=>absurd (D 22 rfl) hne⟩)),.inr (.norm 127 rfl rfl (nxt rfl) rfl (fun a_ w_ _ t r R D _ _=>d6 rfl (op_pickb (show a_.eval (.tmp 122)=.bool false from D 22 rfl) (show a_.eval (.tmp 126)=.bool false from D 26 rfl)))),trivial⟩
   ·exact fun _ _ h=>by cases h
   intro _ a55 w55 gs55 B55 T55 F_
   obtain ⟨hn55,hd55,hBt,hr,hR,hP,hTs,hLi,hX,hU,hRel,hSl⟩:=F_
   replace hn:=hn55;replace hd:=hd55.trans hd
   have lq55HK:=HK.le
   have lq55HR:=HR.le
   have lq55HT36:=HT36.le
   have lq55HT37:=HT37.le
   have lq55HT38:=HT38.le
   have lq55HT40:=HT40.le
   have lq55BK:=BK.lt.2
   replace b2:=b2.keep5 hBt trivial trivial
   replace b3:=b3.keep5 hBt trivial trivial
   replace b5:=b5.keep5 hBt trivial trivial
   replace b15:=b15.keep5 hBt trivial trivial
   replace b16:=b16.keep5 hBt trivial trivial
   replace b17:=b17.keep5 hBt trivial trivial
   replace b18:=b18.keep5 hBt trivial trivial
   replace f2:=(hR 2 rfl).trans f2
   replace f3:=(hR 3 rfl).trans f3
   replace f5:=(hR 5 rfl).trans f5
   replace f6:=(hR 6 rfl).trans f6
   replace f7:=(hR 7 rfl).trans f7
   replace f8:=(hR 8 rfl).trans f8
   replace f15:=(hR 15 rfl).trans f15
   replace f16:=(hR 16 rfl).trans f16
   replace f17:=(hR 17 rfl).trans f17
   replace f18:=(hR 18 rfl).trans f18
   have e127:a55.eval (.tmp 127)=.bool false:=hP 27 (by decide)
   have f127:=e127
   have hBl_:=hBt.below (Nat.le_refl _) (UpOld.all (bx:=[]) trivial) (UpX.all (bx:=[]) trivial)
   replace Ar:=Ar.ru hr
   replace Sr:=Sr.ru hr
   replace Dr:=Dr.ru hr
   replace Tr:=Tr.ru hr
   replace Au:=Au.ru hr
   replace Su:=Su.ru hr
   replace Du:=Du.ru hr
   replace Tu:=Tu.ru hr
   replace G6:=G6.ru hr
   replace A6:=A6.ru hr
   replace K6:=K6.ru hr
   replace S6:=S6.ru hr
   replace HK:=HK.ru hr
   replace HR:=HR.ru hr
   replace F36:=F36.ru hr
   replace H36:=H36.ru hr
   replace G36:=G36.ru hr
   replace A36:=A36.ru hr
   replace K36:=K36.ru hr
   replace S36:=S36.ru hr
   replace HT36:=HT36.ru hr
   replace F37:=F37.ru hr
   replace H37:=H37.ru hr
   replace G37:=G37.ru hr
   replace A37:=A37.ru hr
   replace K37:=K37.ru hr
   replace S37:=S37.ru hr
   replace HT37:=HT37.ru hr
   replace F38:=F38.ru hr
   replace H38:=H38.ru hr
   replace G38:=G38.ru hr
   replace A38:=A38.ru hr
   replace K38:=K38.ru hr
   replace S38:=S38.ru hr
   replace HT38:=HT38.ru hr
   replace F40:=F40.ru hr
   replace H40:=H40.ru hr
   replace G40:=G40.ru hr
   replace A40:=A40.ru hr
   replace K40:=K40.ru hr
   replace S40:=S40.ru hr
   replace HT40:=HT40.ru hr
   replace BK:=BK.below hBl_
   replace BW:=BW.below hBl_
   replace HB:=HB.trans (hBt.below HB.size (UpOld.all (bx:=[]) trivial) (UpX.all (bx:=[]) trivial))
   clear hBt hr hR hP hTs hLi hX hU hRel hSl
   refine wp_cond_false f127 ?_
   refine wp_skip ?_
   refine wp_seq ?_
   obtain ⟨NN,hNN⟩:∃ k,k=w55.heap.size:=⟨_,rfl⟩
   have HN:SzGe NN w55:=Nat.le_of_eq hNN
   have hRN:KR≤NN:=by rw [hNN];exact HR
   have hKN:K0≤NN:=Nat.le_trans hKKR hRN
   have hu36_:(T35 2)≤NN:=by rw [hNN];exact HT36.le
   have hu37_:(T35 5)≤NN:=by rw [hNN];exact HT37.le
   have hu38_:(T35 8)≤NN:=by rw [hNN];exact HT38.le
   have hu40_:T40≤NN:=by rw [hNN];exact HT40.le
   obtain ⟨p36,q36,Fn_,Nr36,Bl36⟩:=WFr.nr (K:=KR) F36 (by omega);replace F36:=Fn_;clear Fn_
   have hq36:q36≤NN:=Nr36.top hRN (by omega)
   have hb36:=hide (bk_out Bl36 BK)
   obtain ⟨p36q,q36q,Fn_,Nr36q,Bl36q⟩:=Fr.nr (K:=KR) H36 (by omega);replace H36:=Fn_;clear Fn_
   have hq36q:q36q≤NN:=Nr36q.top hRN (by omega)
   have hb36q:=hide (bk_out Bl36q BK)
   obtain ⟨p37,q37,Fn_,Nr37,Bl37⟩:=WFr.nr (K:=KR) F37 (by omega);replace F37:=Fn_;clear Fn_
   have hq37:q37≤NN:=Nr37.top hRN (by omega)
   have hb37:=hide (bk_out Bl37 BK)
   obtain ⟨p37q,q37q,Fn_,Nr37q,Bl37q⟩:=Fr.nr (K:=KR) H37 (by omega);replace H37:=Fn_;clear Fn_
   have hq37q:q37q≤NN:=Nr37q.top hRN (by omega)
   have hb37q:=hide (bk_out Bl37q BK)
   obtain ⟨p38,q38,Fn_,Nr38,Bl38⟩:=WFr.nr (K:=KR) F38 (by omega);replace F38:=Fn_;clear Fn_
   have hq38:q38≤NN:=Nr38.top hRN (by omega)
   have hb38:=hide (bk_out Bl38 BK)
   obtain ⟨p38q,q38q,Fn_,Nr38q,Bl38q⟩:=Fr.nr (K:=KR) H38 (by omega);replace H38:=Fn_;clear Fn_
   have hq38q:q38q≤NN:=Nr38q.top hRN (by omega)
   have hb38q:=hide (bk_out Bl38q BK)
   obtain ⟨p40,q40,Fn_,Nr40,Bl40⟩:=WFr.nr (K:=KR) F40 (by omega);replace F40:=Fn_;clear Fn_
   have hq40:q40≤NN:=Nr40.top hRN (by omega)
   have hb40:=hide (bk_out Bl40 BK)
   obtain ⟨p40q,q40q,Fn_,Nr40q,Bl40q⟩:=Fr.nr (K:=KR) H40 (by omega);replace H40:=Fn_;clear Fn_
   have hq40q:q40q≤NN:=Nr40q.top hRN (by omega)
   have hb40q:=hide (bk_out Bl40q BK)
   have ap36_36q:=hide (Nr36.apart Nr36q (by have fd_:=fd36'.out;omega))
   have ap36_37:=hide (Nr36.apart Nr37 (by have dj_:=dj36_37.out;omega))
   have ap36_37q:=hide (Nr36.apart Nr37q (by have dj_:=dj36_37.out;omega))
   have ap36_38:=hide (Nr36.apart Nr38 (by have dj_:=dj36_38.out;omega))
   have ap36_38q:=hide (Nr36.apart Nr38q (by have dj_:=dj36_38.out;omega))
   have ap36_40:=hide (Nr36.apart Nr40 (by omega))
   have ap36_40q:=hide (Nr36.apart Nr40q (by omega))
   have ap36q_37:=hide (Nr36q.apart Nr37 (by have dj_:=dj36_37.out;omega))
   have ap36q_37q:=hide (Nr36q.apart Nr37q (by have dj_:=dj36_37.out;omega))
   have ap36q_38:=hide (Nr36q.apart Nr38 (by have dj_:=dj36_38.out;omega))
   have ap36q_38q:=hide (Nr36q.apart Nr38q (by have dj_:=dj36_38.out;omega))
   have ap36q_40:=hide (Nr36q.apart Nr40 (by omega))
   have ap36q_40q:=hide (Nr36q.apart Nr40q (by omega))
   have ap37_37q:=hide (Nr37.apart Nr37q (by have fd_:=fd37'.out;omega))
   have ap37_38:=hide (Nr37.apart Nr38 (by have dj_:=dj37_38.out;omega))
   have ap37_38q:=hide (Nr37.apart Nr38q (by have dj_:=dj37_38.out;omega))
   have ap37_40:=hide (Nr37.apart Nr40 (by omega))
   have ap37_40q:=hide (Nr37.apart Nr40q (by omega))
   have ap37q_38:=hide (Nr37q.apart Nr38 (by have dj_:=dj37_38.out;omega))
   have ap37q_38q:=hide (Nr37q.apart Nr38q (by have dj_:=dj37_38.out;omega))
   have ap37q_40:=hide (Nr37q.apart Nr40 (by omega))
   have ap37q_40q:=hide (Nr37q.apart Nr40q (by omega))
   have ap38_38q:=hide (Nr38.apart Nr38q (by have fd_:=fd38'.out;omega))
   have ap38_40:=hide (Nr38.apart Nr40 (by omega))
   have ap38_40q:=hide (Nr38.apart Nr40q (by omega))
   have ap38q_40:=hide (Nr38q.apart Nr40 (by omega))
   have ap38q_40q:=hide (Nr38q.apart Nr40q (by omega))
   have ap40_40q:=hide (Nr40.apart Nr40q (by have fd_:=fd40'.out;omega))
   have lo36:=Nr36.lo
   have nb2_36:=hide (Bl36.out (by decide) b2)
   have nb3_36:=hide (Bl36.out (by decide) b3)
   have nb5_36:=hide (Bl36.out (by decide) b5)
   have nb15_36:=hide (Bl36.out (by decide) b15)
   have nb16_36:=hide (Bl36.out (by decide) b16)
   have nb17_36:=hide (Bl36.out (by decide) b17)
   have nb18_36:=hide (Bl36.out (by decide) b18)
   clear Bl36 Nr36
   have lo36q:=Nr36q.lo
   have nb2_36q:=hide (Bl36q.out (by decide) b2)
   have nb3_36q:=hide (Bl36q.out (by decide) b3)
   have nb5_36q:=hide (Bl36q.out (by decide) b5)
   have nb15_36q:=hide (Bl36q.out (by decide) b15)
   have nb16_36q:=hide (Bl36q.out (by decide) b16)
   have nb17_36q:=hide (Bl36q.out (by decide) b17)
   have nb18_36q:=hide (Bl36q.out (by decide) b18)
   clear Bl36q Nr36q
   have lo37:=Nr37.lo
   have nb2_37:=hide (Bl37.out (by decide) b2)
   have nb3_37:=hide (Bl37.out (by decide) b3)
   have nb5_37:=hide (Bl37.out (by decide) b5)
   have nb15_37:=hide (Bl37.out (by decide) b15)
   have nb16_37:=hide (Bl37.out (by decide) b16)
   have nb17_37:=hide (Bl37.out (by decide) b17)
   have nb18_37:=hide (Bl37.out (by decide) b18)
   clear Bl37 Nr37
   have lo37q:=Nr37q.lo
   have nb2_37q:=hide (Bl37q.out (by decide) b2)
   have nb3_37q:=hide (Bl37q.out (by decide) b3)
   have nb5_37q:=hide (Bl37q.out (by decide) b5)
   have nb15_37q:=hide (Bl37q.out (by decide) b15)
   have nb16_37q:=hide (Bl37q.out (by decide) b16)
   have nb17_37q:=hide (Bl37q.out (by decide) b17)
   have nb18_37q:=hide (Bl37q.out (by decide) b18)
   clear Bl37q Nr37q
   have lo38:=Nr38.lo
   have nb2_38:=hide (Bl38.out (by decide) b2)
   have nb3_38:=hide (Bl38.out (by decide) b3)
   have nb5_38:=hide (Bl38.out (by decide) b5)
   have nb15_38:=hide (Bl38.out (by decide) b15)
   have nb16_38:=hide (Bl38.out (by decide) b16)
   have nb17_38:=hide (Bl38.out (by decide) b17)
   have nb18_38:=hide (Bl38.out (by decide) b18)
   clear Bl38 Nr38
   have lo38q:=Nr38q.lo
   have nb2_38q:=hide (Bl38q.out (by decide) b2)
   have nb3_38q:=hide (Bl38q.out (by decide) b3)
   have nb5_38q:=hide (Bl38q.out (by decide) b5)
   have nb15_38q:=hide (Bl38q.out (by decide) b15)
   have nb16_38q:=hide (Bl38q.out (by decide) b16)
   have nb17_38q:=hide (Bl38q.out (by decide) b17)
   have nb18_38q:=hide (Bl38q.out (by decide) b18)
   clear Bl38q Nr38q
   have lo40:=Nr40.lo
   have nb2_40:=hide (Bl40.out (by decide) b2)
   have nb3_40:=hide (Bl40.out (by decide) b3)
   have nb5_40:=hide (Bl40.out (by decide) b5)
   have nb15_40:=hide (Bl40.out (by decide) b15)
   have nb16_40:=hide (Bl40.out (by decide) b16)
   have nb17_40:=hide (Bl40.out (by decide) b17)
   have nb18_40:=hide (Bl40.out (by decide) b18)
   clear Bl40 Nr40
   have lo40q:=Nr40q.lo
   have nb2_40q:=hide (Bl40q.out (by decide) b2)
   have nb3_40q:=hide (Bl40q.out (by decide) b3)
   have nb5_40q:=hide (Bl40q.out (by decide) b5)
   have nb15_40q:=hide (Bl40q.out (by decide) b15)
   have nb16_40q:=hide (Bl40q.out (by decide) b16)
   have nb17_40q:=hide (Bl40q.out (by decide) b17)
   have nb18_40q:=hide (Bl40q.out (by decide) b18)
   clear Bl40q Nr40q
   have kb2:(gs1 0)<NN:=by rw [hNN];exact b2.lt
   have nb2_o:=hide (show ¬ (K0≤(gs1 0)∧(gs1 0)<KR) by omega)
   have kb3:(gs1 1)<NN:=by rw [hNN];exact b3.lt
   have nb3_o:=hide (show ¬ (K0≤(gs1 1)∧(gs1 1)<KR) by omega)
   have kb5:(gs5 0)<NN:=by rw [hNN];exact b5.lt
   have nb5_o:=hide (show ¬ (K0≤(gs5 0)∧(gs5 0)<KR) by omega)
   have kb15:(gs35 0)<NN:=by rw [hNN];exact b15.lt
   have nb15_o:=hide (show ¬ (K0≤(gs35 0)∧(gs35 0)<KR) by omega)
   have kb16:(gs35 1)<NN:=by rw [hNN];exact b16.lt
   have nb16_o:=hide (show ¬ (K0≤(gs35 1)∧(gs35 1)<KR) by omega)
   have kb17:(gs35 2)<NN:=by rw [hNN];exact b17.lt
   have nb17_o:=hide (show ¬ (K0≤(gs35 2)∧(gs35 2)<KR) by omega)
   have kb18:(gs39 0)<NN:=by rw [hNN];exact b18.lt
   have nb18_o:=hide (show ¬ (K0≤(gs39 0)∧(gs39 0)<KR) by omega)
   replace hbs:∀ j ∈ bs,InU NN [(K0,KR)] j:=fun j hj=>.inl (hbs j hj)
   refine wp_of_good (by kernel_rfl) (by kernel_rfl) (fun w_0 hb_0=>?_)
   replace b2:=b2.below hb_0
   replace b3:=b3.below hb_0
   replace b5:=b5.below hb_0
   replace b15:=b15.below hb_0
   replace b16:=b16.below hb_0
   replace b17:=b17.below hb_0
   replace b18:=b18.below hb_0
   replace Ar:=Ar.below hb_0
   replace Sr:=Sr.below hb_0
   replace Dr:=Dr.below hb_0
   replace Tr:=Tr.below hb_0
   replace Au:=Au.below hb_0
   replace Su:=Su.below hb_0
   replace Du:=Du.below hb_0
   replace Tu:=Tu.below hb_0
   replace G6:=G6.below hb_0
   replace A6:=A6.below hb_0
   replace K6:=K6.below hb_0
   replace S6:=S6.below hb_0
   replace HK:=HK.below hb_0
   replace HR:=HR.below hb_0
   replace F36:=F36.below hb_0
   replace H36:=H36.below hb_0
   replace G36:=G36.below hb_0
   replace A36:=A36.below hb_0
   replace K36:=K36.below hb_0
   replace S36:=S36.below hb_0
   replace HT36:=HT36.below hb_0
   replace F37:=F37.below hb_0
   replace H37:=H37.below hb_0
   replace G37:=G37.below hb_0
   replace A37:=A37.below hb_0
   replace K37:=K37.below hb_0
   replace S37:=S37.below hb_0
   replace HT37:=HT37.below hb_0
   replace F38:=F38.below hb_0
   replace H38:=H38.below hb_0
   replace G38:=G38.below hb_0
   replace A38:=A38.below hb_0
   replace K38:=K38.below hb_0
   replace S38:=S38.below hb_0
   replace HT38:=HT38.below hb_0
   replace F40:=F40.below hb_0
   replace H40:=H40.below hb_0
   replace G40:=G40.below hb_0
   replace A40:=A40.below hb_0
   replace K40:=K40.below hb_0
   replace S40:=S40.below hb_0
   replace HT40:=HT40.below hb_0
   replace BK:=BK.below hb_0
   replace BW:=BW.below hb_0
   replace HN:=HN.below hb_0
   replace HB:=HB.trans (hb_0.mono HB.size);clear hb_0
   refine good6 0 2 (some 2) [some 128,some 129,some 130,some 131,some 132,some 133,some 134,some 135,some 136,some 137,some 138,some 139,some 140,some 141,some 142,some 143,some 144,some 145,some 146,some 147,some 148,some 149] [Eqs (.pointer (some ⟨pB,0,none⟩)),Eqs (.agg #[.bool n_36,.slice a_36 r_36.length c_36,.slice b_36 s_36.length d_36]),Tt,Tt,Tt,Tt,Tt,Tt,Tt,Tt,Tt,Tt,Tt,Tt,Tt,Tt,Tt,Tt,Tt,Tt,Tt,Tt] [] [] [] [] [] (by kernel_rfl) hn rfl (by kernel_rfl) (by kernel_rfl) (by kernel_rfl) (by kernel_rfl) (by kernel_rfl) (by kernel_rfl) (by kernel_rfl) (by kernel_rfl) (by kernel_rfl) (by decide) ⟨Eqs.mono5 _,Eqs.mono5 _,True.mono5,True.mono5,True.mono5,True.mono5,True.mono5,True.mono5,True.mono5,True.mono5,True.mono5,True.mono5,True.mono5,True.mono5,True.mono5,True.mono5,True.mono5,True.mono5,True.mono5,True.mono5,True.mono5,True.mono5,trivial⟩ trivial xok_nil ok_nil (IsOld.all (bx:=[]) trivial) (DisOld.all (bx:=[]) trivial) trivial ?_ ?_ ?_
   ·exact ⟨.inr (.norm 128 rfl rfl (nxt rfl) rfl (fun a_ w_ _ t r R D _ _=>d6 rfl (op_mv ((R 7 rfl).trans f7)))),.inr (.norm 129 rfl rfl (nxt rfl) rfl (fun a_ w_ _ t r R D _ _=>d6 rfl (op_loadv R3ok ((R 15 rfl).trans f15) (b15.keep5 t trivial trivial)))),.inl rfl,.inl rfl,.inl rfl,.inl rfl,.inl rfl,.inl rfl,.inl rfl,.inl rfl,.inl rfl,.inl rfl,.inl rfl,.inl rfl,.inl rfl,.inl rfl,.inl rfl,.inl rfl,.inl rfl,.inl rfl,.inl rfl,.inl rfl,trivial⟩
   rotate_left
   ·exact fun h=>by cases h
   intro t_ o_ ht_ ho_ a56 w56 gs56 B56 T56 F_
   obtain rfl:=Option.some.inj ht_;obtain rfl:=Option.some.inj ho_;clear ht_ ho_
   obtain ⟨hn56,hd56,hBt,hr,hR,hP,hTs,hLi,hX,hU,hRel,hSl⟩:=F_
   replace hn:=hn56;replace hd:=hd56.trans hd
   have lq56HK:=HK.le
   have lq56HR:=HR.le
   have lq56HT36:=HT36.le
   have lq56HT37:=HT37.le
   have lq56HT38:=HT38.le
   have lq56HT40:=HT40.le
   have lq56BK:=BK.lt.2
   have lq56HN:=HN.le
   replace b2:=b2.keep5 hBt trivial trivial
   replace b3:=b3.keep5 hBt trivial trivial
   replace b5:=b5.keep5 hBt trivial trivial
   replace b16:=b16.keep5 hBt trivial trivial
   replace b17:=b17.keep5 hBt trivial trivial
   replace b18:=b18.keep5 hBt trivial trivial
   replace f2:=(hR 2 rfl).trans f2
   replace f3:=(hR 3 rfl).trans f3
   replace f5:=(hR 5 rfl).trans f5
   replace f6:=(hR 6 rfl).trans f6
   replace f7:=(hR 7 rfl).trans f7
   replace f8:=(hR 8 rfl).trans f8
   replace f16:=(hR 16 rfl).trans f16
   replace f17:=(hR 17 rfl).trans f17
   replace f18:=(hR 18 rfl).trans f18
   have e128:a56.eval (.tmp 128)=.pointer (some ⟨pB,0,none⟩):=hP 0 (by decide)
   have f128:=e128
   have e129:a56.eval (.tmp 129)=.agg #[.bool n_36,.slice a_36 r_36.length c_36,.slice b_36 s_36.length d_36]:=hP 1 (by decide)
   have f129:=e129
   have hBl_:=hBt.below (Nat.le_refl _) (UpOld.all (bx:=[]) trivial) (UpX.all (bx:=[]) trivial)
   replace Ar:=Ar.ru hr
   replace Sr:=Sr.ru hr
   replace Dr:=Dr.ru hr
   replace Tr:=Tr.ru hr
   replace Au:=Au.ru hr
   replace Su:=Su.ru hr
   replace Du:=Du.ru hr
   replace Tu:=Tu.ru hr
   replace G6:=G6.ru hr
   replace A6:=A6.ru hr
   replace K6:=K6.ru hr
   replace S6:=S6.ru hr
   replace HK:=HK.ru hr
   replace HR:=HR.ru hr
   replace F36:=F36.ru hr
   replace H36:=H36.ru hr
   replace G36:=G36.ru hr
   replace A36:=A36.ru hr
   replace K36:=K36.ru hr
   replace S36:=S36.ru hr
   replace HT36:=HT36.ru hr
   replace F37:=F37.ru hr
   replace H37:=H37.ru hr
   replace G37:=G37.ru hr
   replace A37:=A37.ru hr
   replace K37:=K37.ru hr
   replace S37:=S37.ru hr
   replace HT37:=HT37.ru hr
   replace F38:=F38.ru hr
   replace H38:=H38.ru hr
   replace G38:=G38.ru hr
   replace A38:=A38.ru hr
   replace K38:=K38.ru hr
   replace S38:=S38.ru hr
   replace HT38:=HT38.ru hr
   replace F40:=F40.ru hr
   replace H40:=H40.ru hr
   replace G40:=G40.ru hr
   replace A40:=A40.ru hr
   replace K40:=K40.ru hr
   replace S40:=S40.ru hr
   replace HT40:=HT40.ru hr
   replace BK:=BK.below hBl_
   replace BW:=BW.below hBl_
   replace HN:=HN.ru hr
   replace HB:=HB.trans (hBt.below HB.size (UpOld.all (bx:=[]) trivial) (UpX.all (bx:=[]) trivial))
   clear hBt hr hR hP hTs hLi hX hU hRel hSl
   refine ⟨trivial,(op_ownr f128 f129 BK (by omega) F36 H36 (Nat.le_trans hWKR lo36) (Nat.le_trans hWKR lo36q) HB.size (Nat.le_trans hq36 HN.le) (Nat.le_trans hq36q HN.le) (fun j hj=>(apt_cons (.inl lo36) (apt_nil hq36)) j (hbs j hj)) (fun j hj=>(apt_cons (.inl lo36q) (apt_nil hq36q)) j (hbs j hj)) ap36_36q.out hb36q.out).mono ?_⟩
   rintro v_ w57 ⟨rfl,bs57,ks_,BK_,kp_,hj_⟩
   have hbs_:=growU2 HN.le hbs hj_
   replace b2:=b2.kp kp_ (bsT_ne (by decide) BK b2) (fun h=>(nin_cons nb2_36q.out (nin_cons nb2_36.out (nin_cons nb2_o.out (nin_nil kb2)))) (hbs_ _ (.inr h)))
   replace b3:=b3.kp kp_ (bsT_ne (by decide) BK b3) (fun h=>(nin_cons nb3_36q.out (nin_cons nb3_36.out (nin_cons nb3_o.out (nin_nil kb3)))) (hbs_ _ (.inr h)))
   replace b5:=b5.kp kp_ (bsT_ne (by decide) BK b5) (fun h=>(nin_cons nb5_36q.out (nin_cons nb5_36.out (nin_cons nb5_o.out (nin_nil kb5)))) (hbs_ _ (.inr h)))
   replace b16:=b16.kp kp_ (bsT_ne (by decide) BK b16) (fun h=>(nin_cons nb16_36q.out (nin_cons nb16_36.out (nin_cons nb16_o.out (nin_nil kb16)))) (hbs_ _ (.inr h)))
   replace b17:=b17.kp kp_ (bsT_ne (by decide) BK b17) (fun h=>(nin_cons nb17_36q.out (nin_cons nb17_36.out (nin_cons nb17_o.out (nin_nil kb17)))) (hbs_ _ (.inr h)))
   replace b18:=b18.kp kp_ (bsT_ne (by decide) BK b18) (fun h=>(nin_cons nb18_36q.out (nin_cons nb18_36.out (nin_cons nb18_o.out (nin_nil kb18)))) (hbs_ _ (.inr h)))
   replace BW:=BW.kp kp_ upB1 (fun j hj=>Nat.le_trans h1K ((low_cons (Nat.le_trans hKKR lo36q) (low_cons (Nat.le_trans hKKR lo36) (low_cons (Nat.le_refl _) (low_nil hKN)))) j (hbs_ j (.inr hj))))
   replace HK:=HK.kp kp_
   replace HR:=HR.kp kp_
   replace F37:=F37.kp kp_ hb37.out (fun j hj=>(apt_cons ap36q_37.out (apt_cons ap36_37.out (apt_cons (.inl lo37) (apt_nil hq37)))) j (hbs_ j (.inr hj)))
   replace H37:=H37.kp kp_ hb37q.out (fun j hj=>(apt_cons ap36q_37q.out (apt_cons ap36_37q.out (apt_cons (.inl lo37q) (apt_nil hq37q)))) j (hbs_ j (.inr hj)))
   replace HT37:=HT37.kp kp_
   replace F38:=F38.kp kp_ hb38.out (fun j hj=>(apt_cons ap36q_38.out (apt_cons ap36_38.out (apt_cons (.inl lo38) (apt_nil hq38)))) j (hbs_ j (.inr hj)))
   replace H38:=H38.kp kp_ hb38q.out (fun j hj=>(apt_cons ap36q_38q.out (apt_cons ap36_38q.out (apt_cons (.inl lo38q) (apt_nil hq38q)))) j (hbs_ j (.inr hj)))
   replace HT38:=HT38.kp kp_
   replace F40:=F40.kp kp_ hb40.out (fun j hj=>(apt_cons ap36q_40.out (apt_cons ap36_40.out (apt_cons (.inl lo40) (apt_nil hq40)))) j (hbs_ j (.inr hj)))
   replace H40:=H40.kp kp_ hb40q.out (fun j hj=>(apt_cons ap36q_40q.out (apt_cons ap36_40q.out (apt_cons (.inl lo40q) (apt_nil hq40q)))) j (hbs_ j (.inr hj)))
   replace HT40:=HT40.kp kp_
   replace HN:=HN.kp kp_
   replace HB:=HB.trans (kp_.below upB (fun j hj=>Nat.le_trans hWK ((low_cons (Nat.le_trans hKKR lo36q) (low_cons (Nat.le_trans hKKR lo36) (low_cons (Nat.le_refl _) (low_nil hKN)))) j (hbs_ j (.inr hj)))) HB.size)
   replace BK:=BK_;replace hbs:∀ j ∈ bs57,_:=fun j hj=>hbs_ j (.inl hj);clear BK_ hbs_ kp_ hj_ F36 H36 G36 A36 K36 S36 HT36 G37 A37 K37 S37 G38 A38 K38 S38 G40 A40 K40 S40
   replace Ar:=Ar0.below HB;replace Sr:=Sr0.below HB;replace Dr:Ag _ false br kr dr rt qr:=⟨Sr,Vr⟩;replace Tr:=Ar.sl
   replace Au:=Au0.below HB;replace Su:=Su0.below HB;replace Du:Ag _ false bu ku du ut qu:=⟨Su,Vu⟩;replace Tu:=Au.sl
   replace G6:=G6_0.below BW.h
   replace A6:=A6_0.below BW.h
   replace K6:=K6_0.below BW.h
   replace S6:=S6_0.below BW.h
   change Good _ _ _ _ _ (Act.put a56 (some 130) (.bool true)) _
   have q_:130<a56.tmps.size:=by rw [hn];decide
   generalize hA_:Act.put a56 (some 130) (.bool true)=a58
   replace hn:a58.tmps.size=152:=by rw [←hA_,put_tmps];simp [hn]
   replace hd:a58.defers = []:=by rw [←hA_];exact hd
   replace f2:=pne hA_ (by decide) f2
   replace f3:=pne hA_ (by decide) f3
   replace f5:=pne hA_ (by decide) f5
   replace f6:=pne hA_ (by decide) f6
   replace f7:=pne hA_ (by decide) f7
   replace f8:=pne hA_ (by decide) f8
   replace f16:=pne hA_ (by decide) f16
   replace f17:=pne hA_ (by decide) f17
   replace f18:=pne hA_ (by decide) f18
   replace f128:=pne hA_ (by decide) f128
   replace f129:=pne hA_ (by decide) f129
   have f130:a58.eval (.tmp 130)=.bool true:=by rw [←hA_];exact eval_put_same q_
   clear q_
   clear hA_
   refine good6 3 7 (some 7) [some 128,some 129,some 130,some 131,some 132,some 133,some 134,some 135,some 136,some 137,some 138,some 139,some 140,some 141,some 142,some 143,some 144,some 145,some 146,some 147,some 148,some 149] [Eqs (.pointer (some ⟨pB,0,none⟩)),Eqs (.agg #[.bool n_36,.slice a_36 r_36.length c_36,.slice b_36 s_36.length d_36]),Eqs (.bool true),Eqs (.bool false),Eqs (.bool false),Eqs (.pointer (some ⟨pB,0,none⟩)),Eqs (.agg #[.bool n_37,.slice a_37 r_37.length c_37,.slice b_37 s_37.length d_37]),Tt,Tt,Tt,Tt,Tt,Tt,Tt,Tt,Tt,Tt,Tt,Tt,Tt,Tt,Tt] [] [] [] [] [] (by kernel_rfl) hn rfl (by kernel_rfl) (by kernel_rfl) (by kernel_rfl) (by kernel_rfl) (by kernel_rfl) (by kernel_rfl) (by kernel_rfl) (by kernel_rfl) (by kernel_rfl) (by decide) ⟨Eqs.mono5 _,Eqs.mono5 _,Eqs.mono5 _,Eqs.mono5 _,Eqs.mono5 _,Eqs.mono5 _,Eqs.mono5 _,True.mono5,True.mono5,True.mono5,True.mono5,True.mono5,True.mono5,True.mono5,True.mono5,True.mono5,True.mono5,True.mono5,True.mono5,True.mono5,True.mono5,True.mono5,trivial⟩ trivial xok_nil ok_nil (IsOld.all (bx:=[]) trivial) (DisOld.all (bx:=[]) trivial) ⟨⟨⟨trivial,f128⟩,f129⟩,f130⟩ ?_ ?_ ?_
   ·exact ⟨.inl rfl,.inl rfl,.inl rfl,.inr (.norm 131 rfl rfl (nxt rfl) rfl (fun a_ w_ _ t r R D _ _=>d6 rfl (op_not (show a_.eval (.tmp 130)=.bool true from D 2 rfl)))),.inr (.norm 132 rfl rfl (nxt rfl) rfl (fun a_ w_ _ t r R D _ _=>d6 rfl (op_mv (show a_.eval (.tmp 131)=.bool false from D 3 rfl)))),.inr (.norm 133 rfl rfl (nxt rfl) rfl (fun a_ w_ _ t r R D _ _=>⟨⟨_,rfl⟩,fun _=>d6 rfl (op_mv ((R 7 rfl).trans f7)),fun hne=>absurd (D 4 rfl) hne⟩)),.inr (.norm 134 rfl rfl (nxt rfl) rfl (fun a_ w_ _ t r R D _ _=>⟨⟨_,rfl⟩,fun _=>d6 rfl (op_loadv R3ok ((R 16 rfl).trans f16) (b16.keep5 t trivial trivial)),fun hne=>absurd (D 4 rfl) hne⟩)),.inl rfl,.inl rfl,.inl rfl,.inl rfl,.inl rfl,.inl rfl,.inl rfl,.inl rfl,.inl rfl,.inl rfl,.inl rfl,.inl rfl,.inl rfl,.inl rfl,.inl rfl,trivial⟩
   rotate_left
   ·exact fun h=>by cases h
   intro t_ o_ ht_ ho_ a59 w59 gs59 B59 T59 F_
   obtain rfl:=Option.some.inj ht_;obtain rfl:=Option.some.inj ho_;clear ht_ ho_
   obtain ⟨hn59,hd59,hBt,hr,hR,hP,hTs,hLi,hX,hU,hRel,hSl⟩:=F_
   replace hn:=hn59;replace hd:=hd59.trans hd
   have lq59HK:=HK.le
   have lq59HR:=HR.le
   have lq59HT37:=HT37.le
   have lq59HT38:=HT38.le
   have lq59HT40:=HT40.le
   have lq59BK:=BK.lt.2
   have lq59HN:=HN.le
   replace b2:=b2.keep5 hBt trivial trivial
   replace b3:=b3.keep5 hBt trivial trivial
   replace b5:=b5.keep5 hBt trivial trivial
   replace b17:=b17.keep5 hBt trivial trivial
   replace b18:=b18.keep5 hBt trivial trivial
   replace f2:=(hR 2 rfl).trans f2
   replace f3:=(hR 3 rfl).trans f3
   replace f5:=(hR 5 rfl).trans f5
   replace f6:=(hR 6 rfl).trans f6
   replace f7:=(hR 7 rfl).trans f7
   replace f8:=(hR 8 rfl).trans f8
   replace f17:=(hR 17 rfl).trans f17
   replace f18:=(hR 18 rfl).trans f18
   have e132:a59.eval (.tmp 132)=.bool false:=hP 4 (by decide)
   have f132:=e132
   have e133:a59.eval (.tmp 133)=.pointer (some ⟨pB,0,none⟩):=hP 5 (by decide)
   have f133:=e133
   have e134:a59.eval (.tmp 134)=.agg #[.bool n_37,.slice a_37 r_37.length c_37,.slice b_37 s_37.length d_37]:=hP 6 (by decide)
   have f134:=e134
   have hBl_:=hBt.below (Nat.le_refl _) (UpOld.all (bx:=[]) trivial) (UpX.all (bx:=[]) trivial)
   replace Ar:=Ar.ru hr
   replace Sr:=Sr.ru hr
   replace Dr:=Dr.ru hr
   replace Tr:=Tr.ru hr
   replace Au:=Au.ru hr
   replace Su:=Su.ru hr
   replace Du:=Du.ru hr
   replace Tu:=Tu.ru hr
   replace G6:=G6.ru hr
   replace A6:=A6.ru hr
   replace K6:=K6.ru hr
   replace S6:=S6.ru hr
   replace HK:=HK.ru hr
   replace HR:=HR.ru hr
   replace F37:=F37.ru hr
   replace H37:=H37.ru hr
   replace HT37:=HT37.ru hr
   replace F38:=F38.ru hr
   replace H38:=H38.ru hr
   replace HT38:=HT38.ru hr
   replace F40:=F40.ru hr
   replace H40:=H40.ru hr
   replace HT40:=HT40.ru hr
   replace BK:=BK.below hBl_
   replace BW:=BW.below hBl_
   replace HN:=HN.ru hr
   replace HB:=HB.trans (hBt.below HB.size (UpOld.all (bx:=[]) trivial) (UpX.all (bx:=[]) trivial))
   clear hBt hr hR hP hTs hLi hX hU hRel hSl
   refine ⟨⟨⟨132,rfl⟩,f132⟩,(op_ownr f133 f134 BK (by omega) F37 H37 (Nat.le_trans hWKR lo37) (Nat.le_trans hWKR lo37q) HB.size (Nat.le_trans hq37 HN.le) (Nat.le_trans hq37q HN.le) (fun j hj=>(apt_cons ap36q_37.out (apt_cons ap36_37.out (apt_cons (.inl lo37) (apt_nil hq37)))) j (hbs j hj)) (fun j hj=>(apt_cons ap36q_37q.out (apt_cons ap36_37q.out (apt_cons (.inl lo37q) (apt_nil hq37q)))) j (hbs j hj)) ap37_37q.out hb37q.out).mono ?_⟩
   rintro v_ w60 ⟨rfl,bs60,ks_,BK_,kp_,hj_⟩
   have hbs_:=growU2 HN.le hbs hj_
   replace b2:=b2.kp kp_ (bsT_ne (by decide) BK b2) (fun h=>(nin_cons nb2_37q.out (nin_cons nb2_37.out (nin_cons nb2_36q.out (nin_cons nb2_36.out (nin_cons nb2_o.out (nin_nil kb2)))))) (hbs_ _ (.inr h)))
   replace b3:=b3.kp kp_ (bsT_ne (by decide) BK b3) (fun h=>(nin_cons nb3_37q.out (nin_cons nb3_37.out (nin_cons nb3_36q.out (nin_cons nb3_36.out (nin_cons nb3_o.out (nin_nil kb3)))))) (hbs_ _ (.inr h)))
   replace b5:=b5.kp kp_ (bsT_ne (by decide) BK b5) (fun h=>(nin_cons nb5_37q.out (nin_cons nb5_37.out (nin_cons nb5_36q.out (nin_cons nb5_36.out (nin_cons nb5_o.out (nin_nil kb5)))))) (hbs_ _ (.inr h)))
   replace b17:=b17.kp kp_ (bsT_ne (by decide) BK b17) (fun h=>(nin_cons nb17_37q.out (nin_cons nb17_37.out (nin_cons nb17_36q.out (nin_cons nb17_36.out (nin_cons nb17_o.out (nin_nil kb17)))))) (hbs_ _ (.inr h)))
   replace b18:=b18.kp kp_ (bsT_ne (by decide) BK b18) (fun h=>(nin_cons nb18_37q.out (nin_cons nb18_37.out (nin_cons nb18_36q.out (nin_cons nb18_36.out (nin_cons nb18_o.out (nin_nil kb18)))))) (hbs_ _ (.inr h)))
   replace BW:=BW.kp kp_ upB1 (fun j hj=>Nat.le_trans h1K ((low_cons (Nat.le_trans hKKR lo37q) (low_cons (Nat.le_trans hKKR lo37) (low_cons (Nat.le_trans hKKR lo36q) (low_cons (Nat.le_trans hKKR lo36) (low_cons (Nat.le_refl _) (low_nil hKN)))))) j (hbs_ j (.inr hj))))
   replace HK:=HK.kp kp_
   replace HR:=HR.kp kp_
   replace F38:=F38.kp kp_ hb38.out (fun j hj=>(apt_cons ap37q_38.out (apt_cons ap37_38.out (apt_cons ap36q_38.out (apt_cons ap36_38.out (apt_cons (.inl lo38) (apt_nil hq38)))))) j (hbs_ j (.inr hj)))
   replace H38:=H38.kp kp_ hb38q.out (fun j hj=>(apt_cons ap37q_38q.out (apt_cons ap37_38q.out (apt_cons ap36q_38q.out (apt_cons ap36_38q.out (apt_cons (.inl lo38q) (apt_nil hq38q)))))) j (hbs_ j (.inr hj)))
   replace HT38:=HT38.kp kp_
   replace F40:=F40.kp kp_ hb40.out (fun j hj=>(apt_cons ap37q_40.out (apt_cons ap37_40.out (apt_cons ap36q_40.out (apt_cons ap36_40.out (apt_cons (.inl lo40) (apt_nil hq40)))))) j (hbs_ j (.inr hj)))
   replace H40:=H40.kp kp_ hb40q.out (fun j hj=>(apt_cons ap37q_40q.out (apt_cons ap37_40q.out (apt_cons ap36q_40q.out (apt_cons ap36_40q.out (apt_cons (.inl lo40q) (apt_nil hq40q)))))) j (hbs_ j (.inr hj)))
   replace HT40:=HT40.kp kp_
   replace HN:=HN.kp kp_
   replace HB:=HB.trans (kp_.below upB (fun j hj=>Nat.le_trans hWK ((low_cons (Nat.le_trans hKKR lo37q) (low_cons (Nat.le_trans hKKR lo37) (low_cons (Nat.le_trans hKKR lo36q) (low_cons (Nat.le_trans hKKR lo36) (low_cons (Nat.le_refl _) (low_nil hKN)))))) j (hbs_ j (.inr hj)))) HB.size)
   replace BK:=BK_;replace hbs:∀ j ∈ bs60,_:=fun j hj=>hbs_ j (.inl hj);clear BK_ hbs_ kp_ hj_ F37 H37 HT37
   replace Ar:=Ar0.below HB;replace Sr:=Sr0.below HB;replace Dr:Ag _ false br kr dr rt qr:=⟨Sr,Vr⟩;replace Tr:=Ar.sl
   replace Au:=Au0.below HB;replace Su:=Su0.below HB;replace Du:Ag _ false bu ku du ut qu:=⟨Su,Vu⟩;replace Tu:=Au.sl
   replace G6:=G6_0.below BW.h
   replace A6:=A6_0.below BW.h
   replace K6:=K6_0.below BW.h
   replace S6:=S6_0.below BW.h
   change Good _ _ _ _ _ (Act.put a59 (some 135) (.bool true)) _
   have q_:135<a59.tmps.size:=by rw [hn];decide
   generalize hA_:Act.put a59 (some 135) (.bool true)=a61
   replace hn:a61.tmps.size=152:=by rw [←hA_,put_tmps];simp [hn]
   replace hd:a61.defers = []:=by rw [←hA_];exact hd
   replace f2:=pne hA_ (by decide) f2
   replace f3:=pne hA_ (by decide) f3
   replace f5:=pne hA_ (by decide) f5
   replace f6:=pne hA_ (by decide) f6
   replace f7:=pne hA_ (by decide) f7
   replace f8:=pne hA_ (by decide) f8
   replace f17:=pne hA_ (by decide) f17
   replace f18:=pne hA_ (by decide) f18
   replace f132:=pne hA_ (by decide) f132
   replace f133:=pne hA_ (by decide) f133
   replace f134:=pne hA_ (by decide) f134
   have f135:a61.eval (.tmp 135)=.bool true:=by rw [←hA_];exact eval_put_same q_
   clear q_
   clear hA_
   refine good6 8 13 (some 13) [some 128,some 129,some 130,some 131,some 132,some 133,some 134,some 135,some 136,some 137,some 138,some 139,some 140,some 141,some 142,some 143,some 144,some 145,some 146,some 147,some 148,some 149] [Tt,Tt,Tt,Tt,Eqs (.bool false),Eqs (.pointer (some ⟨pB,0,none⟩)),Eqs (.agg #[.bool n_37,.slice a_37 r_37.length c_37,.slice b_37 s_37.length d_37]),Eqs (.bool true),Eqs (.bool false),Eqs (.bool false),Eqs (.bool false),Eqs (.pointer (some ⟨pB,0,none⟩)),Eqs (.agg #[.bool n_38,.slice a_38 r_38.length c_38,.slice b_38 s_38.length d_38]),Tt,Tt,Tt,Tt,Tt,Tt,Tt,Tt,Tt] [] [] [] [] [] (by kernel_rfl) hn rfl (by kernel_rfl) (by kernel_rfl) (by kernel_rfl) (by kernel_rfl) (by kernel_rfl) (by kernel_rfl) (by kernel_rfl) (by kernel_rfl) (by kernel_rfl) (by decide) ⟨True.mono5,True.mono5,True.mono5,True.mono5,Eqs.mono5 _,Eqs.mono5 _,Eqs.mono5 _,Eqs.mono5 _,Eqs.mono5 _,Eqs.mono5 _,Eqs.mono5 _,Eqs.mono5 _,Eqs.mono5 _,True.mono5,True.mono5,True.mono5,True.mono5,True.mono5,True.mono5,True.mono5,True.mono5,True.mono5,trivial⟩ trivial xok_nil ok_nil (IsOld.all (bx:=[]) trivial) (DisOld.all (bx:=[]) trivial) ⟨⟨⟨⟨⟨⟨⟨⟨trivial,trivial⟩,trivial⟩,trivial⟩,trivial⟩,f132⟩,f133⟩,f134⟩,f135⟩ ?_ ?_ ?_
   ·exact ⟨.inl rfl,.inl rfl,.inl rfl,.inl rfl,.inl rfl,.inl rfl,.inl rfl,.inl rfl,.inr (.norm 136 rfl rfl (nxt rfl) rfl (fun a_ w_ _ t r R D _ _=>⟨⟨_,rfl⟩,fun _=>d6 rfl (op_not (show a_.eval (.tmp 135)=.bool true from D 7 rfl)),fun hne=>absurd (D 4 rfl) hne⟩)),.inr (.norm 137 rfl rfl (nxt rfl) rfl (fun a_ w_ _ t r R D _ _=>d6 rfl (op_pickb (show a_.eval (.tmp 132)=.bool false from D 4 rfl) (show a_.eval (.tmp 136)=.bool false from D 8 rfl)))),.inr (.norm 138 rfl rfl (nxt rfl) rfl (fun a_ w_ _ t r R D _ _=>d6 rfl (op_mv (show a_.eval (.tmp 137)=.bool false from D 9 rfl)))),.inr (.norm 139 rfl rfl (nxt rfl) rfl (fun a_ w_ _ t r R D _ _=>⟨⟨_,rfl⟩,fun _=>d6 rfl (op_mv ((R 7 rfl).trans f7)),fun hne=>absurd (D 10 rfl) hne⟩)),.inr (.norm 140 rfl rfl (nxt rfl) rfl (fun a_ w_ _ t r R D _ _=>⟨⟨_,rfl⟩,fun _=>d6 rfl (op_loadv R3ok ((R 17 rfl).trans f17) (b17.keep5 t trivial trivial)),fun hne=>absurd (D 10 rfl) hne⟩)),.inl rfl,.inl rfl,.inl rfl,.inl rfl,.inl rfl,.inl rfl,.inl rfl,.inl rfl,.inl rfl,trivial⟩
   rotate_left
   ·exact fun h=>by cases h
   intro t_ o_ ht_ ho_ a62 w62 gs62 B62 T62 F_
   obtain rfl:=Option.some.inj ht_;obtain rfl:=Option.some.inj ho_;clear ht_ ho_
   obtain ⟨hn62,hd62,hBt,hr,hR,hP,hTs,hLi,hX,hU,hRel,hSl⟩:=F_
   replace hn:=hn62;replace hd:=hd62.trans hd
   have lq62HK:=HK.le
   have lq62HR:=HR.le
   have lq62HT38:=HT38.le
   have lq62HT40:=HT40.le
   have lq62BK:=BK.lt.2
   have lq62HN:=HN.le
   replace b2:=b2.keep5 hBt trivial trivial
   replace b3:=b3.keep5 hBt trivial trivial
   replace b5:=b5.keep5 hBt trivial trivial
   replace b18:=b18.keep5 hBt trivial trivial
   replace f2:=(hR 2 rfl).trans f2
   replace f3:=(hR 3 rfl).trans f3
   replace f5:=(hR 5 rfl).trans f5
   replace f6:=(hR 6 rfl).trans f6
   replace f7:=(hR 7 rfl).trans f7
   replace f8:=(hR 8 rfl).trans f8
   replace f18:=(hR 18 rfl).trans f18
   have e138:a62.eval (.tmp 138)=.bool false:=hP 10 (by decide)
   have f138:=e138
   have e139:a62.eval (.tmp 139)=.pointer (some ⟨pB,0,none⟩):=hP 11 (by decide)
   have f139:=e139
   have e140:a62.eval (.tmp 140)=.agg #[.bool n_38,.slice a_38 r_38.length c_38,.slice b_38 s_38.length d_38]:=hP 12 (by decide)
   have f140:=e140
   have hBl_:=hBt.below (Nat.le_refl _) (UpOld.all (bx:=[]) trivial) (UpX.all (bx:=[]) trivial)
   replace Ar:=Ar.ru hr
   replace Sr:=Sr.ru hr
   replace Dr:=Dr.ru hr
   replace Tr:=Tr.ru hr
   replace Au:=Au.ru hr
   replace Su:=Su.ru hr
   replace Du:=Du.ru hr
   replace Tu:=Tu.ru hr
   replace G6:=G6.ru hr
   replace A6:=A6.ru hr
   replace K6:=K6.ru hr
   replace S6:=S6.ru hr
   replace HK:=HK.ru hr
   replace HR:=HR.ru hr
   replace F38:=F38.ru hr
   replace H38:=H38.ru hr
   replace HT38:=HT38.ru hr
   replace F40:=F40.ru hr
   replace H40:=H40.ru hr
   replace HT40:=HT40.ru hr
   replace BK:=BK.below hBl_
   replace BW:=BW.below hBl_
   replace HN:=HN.ru hr
   replace HB:=HB.trans (hBt.below HB.size (UpOld.all (bx:=[]) trivial) (UpX.all (bx:=[]) trivial))
   clear hBt hr hR hP hTs hLi hX hU hRel hSl
   refine ⟨⟨⟨138,rfl⟩,f138⟩,(op_ownr f139 f140 BK (by omega) F38 H38 (Nat.le_trans hWKR lo38) (Nat.le_trans hWKR lo38q) HB.size (Nat.le_trans hq38 HN.le) (Nat.le_trans hq38q HN.le) (fun j hj=>(apt_cons ap37q_38.out (apt_cons ap37_38.out (apt_cons ap36q_38.out (apt_cons ap36_38.out (apt_cons (.inl lo38) (apt_nil hq38)))))) j (hbs j hj)) (fun j hj=>(apt_cons ap37q_38q.out (apt_cons ap37_38q.out (apt_cons ap36q_38q.out (apt_cons ap36_38q.out (apt_cons (.inl lo38q) (apt_nil hq38q)))))) j (hbs j hj)) ap38_38q.out hb38q.out).mono ?_⟩
   rintro v_ w63 ⟨rfl,bs63,ks_,BK_,kp_,hj_⟩
   have hbs_:=growU2 HN.le hbs hj_
   replace b2:=b2.kp kp_ (bsT_ne (by decide) BK b2) (fun h=>(nin_cons nb2_38q.out (nin_cons nb2_38.out (nin_cons nb2_37q.out (nin_cons nb2_37.out (nin_cons nb2_36q.out (nin_cons nb2_36.out (nin_cons nb2_o.out (nin_nil kb2)))))))) (hbs_ _ (.inr h)))
   replace b3:=b3.kp kp_ (bsT_ne (by decide) BK b3) (fun h=>(nin_cons nb3_38q.out (nin_cons nb3_38.out (nin_cons nb3_37q.out (nin_cons nb3_37.out (nin_cons nb3_36q.out (nin_cons nb3_36.out (nin_cons nb3_o.out (nin_nil kb3)))))))) (hbs_ _ (.inr h)))
   replace b5:=b5.kp kp_ (bsT_ne (by decide) BK b5) (fun h=>(nin_cons nb5_38q.out (nin_cons nb5_38.out (nin_cons nb5_37q.out (nin_cons nb5_37.out (nin_cons nb5_36q.out (nin_cons nb5_36.out (nin_cons nb5_o.out (nin_nil kb5)))))))) (hbs_ _ (.inr h)))
   replace b18:=b18.kp kp_ (bsT_ne (by decide) BK b18) (fun h=>(nin_cons nb18_38q.out (nin_cons nb18_38.out (nin_cons nb18_37q.out (nin_cons nb18_37.out (nin_cons nb18_36q.out (nin_cons nb18_36.out (nin_cons nb18_o.out (nin_nil kb18)))))))) (hbs_ _ (.inr h)))
   replace BW:=BW.kp kp_ upB1 (fun j hj=>Nat.le_trans h1K ((low_cons (Nat.le_trans hKKR lo38q) (low_cons (Nat.le_trans hKKR lo38) (low_cons (Nat.le_trans hKKR lo37q) (low_cons (Nat.le_trans hKKR lo37) (low_cons (Nat.le_trans hKKR lo36q) (low_cons (Nat.le_trans hKKR lo36) (low_cons (Nat.le_refl _) (low_nil hKN)))))))) j (hbs_ j (.inr hj))))
   replace HK:=HK.kp kp_
   replace HR:=HR.kp kp_
   replace F40:=F40.kp kp_ hb40.out (fun j hj=>(apt_cons ap38q_40.out (apt_cons ap38_40.out (apt_cons ap37q_40.out (apt_cons ap37_40.out (apt_cons ap36q_40.out (apt_cons ap36_40.out (apt_cons (.inl lo40) (apt_nil hq40)))))))) j (hbs_ j (.inr hj)))
   replace H40:=H40.kp kp_ hb40q.out (fun j hj=>(apt_cons ap38q_40q.out (apt_cons ap38_40q.out (apt_cons ap37q_40q.out (apt_cons ap37_40q.out (apt_cons ap36q_40q.out (apt_cons ap36_40q.out (apt_cons (.inl lo40q) (apt_nil hq40q)))))))) j (hbs_ j (.inr hj)))
   replace HT40:=HT40.kp kp_
   replace HN:=HN.kp kp_
   replace HB:=HB.trans (kp_.below upB (fun j hj=>Nat.le_trans hWK ((low_cons (Nat.le_trans hKKR lo38q) (low_cons (Nat.le_trans hKKR lo38) (low_cons (Nat.le_trans hKKR lo37q) (low_cons (Nat.le_trans hKKR lo37) (low_cons (Nat.le_trans hKKR lo36q) (low_cons (Nat.le_trans hKKR lo36) (low_cons (Nat.le_refl _) (low_nil hKN)))))))) j (hbs_ j (.inr hj)))) HB.size)
   replace BK:=BK_;replace hbs:∀ j ∈ bs63,_:=fun j hj=>hbs_ j (.inl hj);clear BK_ hbs_ kp_ hj_ F38 H38 HT38
   replace Ar:=Ar0.below HB;replace Sr:=Sr0.below HB;replace Dr:Ag _ false br kr dr rt qr:=⟨Sr,Vr⟩;replace Tr:=Ar.sl
   replace Au:=Au0.below HB;replace Su:=Su0.below HB;replace Du:Ag _ false bu ku du ut qu:=⟨Su,Vu⟩;replace Tu:=Au.sl
   replace G6:=G6_0.below BW.h
   replace A6:=A6_0.below BW.h
   replace K6:=K6_0.below BW.h
   replace S6:=S6_0.below BW.h
   change Good _ _ _ _ _ (Act.put a62 (some 141) (.bool true)) _
   have q_:141<a62.tmps.size:=by rw [hn];decide
   generalize hA_:Act.put a62 (some 141) (.bool true)=a64
   replace hn:a64.tmps.size=152:=by rw [←hA_,put_tmps];simp [hn]
   replace hd:a64.defers = []:=by rw [←hA_];exact hd
   replace f2:=pne hA_ (by decide) f2
   replace f3:=pne hA_ (by decide) f3
   replace f5:=pne hA_ (by decide) f5
   replace f6:=pne hA_ (by decide) f6
   replace f7:=pne hA_ (by decide) f7
   replace f8:=pne hA_ (by decide) f8
   replace f18:=pne hA_ (by decide) f18
   replace f138:=pne hA_ (by decide) f138
   replace f139:=pne hA_ (by decide) f139
   replace f140:=pne hA_ (by decide) f140
   have f141:a64.eval (.tmp 141)=.bool true:=by rw [←hA_];exact eval_put_same q_
   clear q_
   clear hA_
   refine good6 14 19 (some 19) [some 128,some 129,some 130,some 131,some 132,some 133,some 134,some 135,some 136,some 137,some 138,some 139,some 140,some 141,some 142,some 143,some 144,some 145,some 146,some 147,some 148,some 149] [Tt,Tt,Tt,Tt,Tt,Tt,Tt,Tt,Tt,Tt,Eqs (.bool false),Eqs (.pointer (some ⟨pB,0,none⟩)),Eqs (.agg #[.bool n_38,.slice a_38 r_38.length c_38,.slice b_38 s_38.length d_38]),Eqs (.bool true),Eqs (.bool false),Eqs (.bool false),Eqs (.bool false),Eqs (.pointer (some ⟨pB,0,none⟩)),Eqs (.agg #[.bool n_40,.slice a_40 r_40.length c_40,.slice b_40 s_40.length d_40]),Tt,Tt,Tt] [] [] [] [] [] (by kernel_rfl) hn rfl (by kernel_rfl) (by kernel_rfl) (by kernel_rfl) (by kernel_rfl) (by kernel_rfl) (by kernel_rfl) (by kernel_rfl) (by kernel_rfl) (by kernel_rfl) (by decide) ⟨True.mono5,True.mono5,True.mono5,True.mono5,True.mono5,True.mono5,True.mono5,True.mono5,True.mono5,True.mono5,Eqs.mono5 _,Eqs.mono5 _,Eqs.mono5 _,Eqs.mono5 _,Eqs.mono5 _,Eqs.mono5 _,Eqs.mono5 _,Eqs.mono5 _,Eqs.mono5 _,True.mono5,True.mono5,True.mono5,trivial⟩ trivial xok_nil ok_nil (IsOld.all (bx:=[]) trivial) (DisOld.all (bx:=[]) trivial) ⟨⟨⟨⟨⟨⟨⟨⟨⟨⟨⟨⟨⟨⟨trivial,trivial⟩,trivial⟩,trivial⟩,trivial⟩,trivial⟩,trivial⟩,trivial⟩,trivial⟩,trivial⟩,trivial⟩,f138⟩,f139⟩,f140⟩,f141⟩ ?_ ?_ ?_
   ·exact ⟨.inl rfl,.inl rfl,.inl rfl,.inl rfl,.inl rfl,.inl rfl,.inl rfl,.inl rfl,.inl rfl,.inl rfl,.inl rfl,.inl rfl,.inl rfl,.inl rfl,.inr (.norm 142 rfl rfl (nxt rfl) rfl (fun a_ w_ _ t r R D _ _=>⟨⟨_,rfl⟩,fun _=>d6 rfl (op_not (show a_.eval (.tmp 141)=.bool true from D 13 rfl)),fun hne=>absurd (D 10 rfl) hne⟩)),.inr (.norm 143 rfl rfl (nxt rfl) rfl (fun a_ w_ _ t r R D _ _=>d6 rfl (op_pickb (show a_.eval (.tmp 138)=.bool false from D 10 rfl) (show a_.eval (.tmp 142)=.bool false from D 14 rfl)))),.inr (.norm 144 rfl rfl (nxt rfl) rfl (fun a_ w_ _ t r R D _ _=>d6 rfl (op_mv (show a_.eval (.tmp 143)=.bool false from D 15 rfl)))),.inr (.norm 145 rfl rfl (nxt rfl) rfl (fun a_ w_ _ t r R D _ _=>⟨⟨_,rfl⟩,fun _=>d6 rfl (op_mv ((R 7 rfl).trans f7)),fun hne=>absurd (D 16 rfl) hne⟩)),.inr (.norm 146 rfl rfl (nxt rfl) rfl (fun a_ w_ _ t r R D _ _=>⟨⟨_,rfl⟩,fun _=>d6 rfl (op_loadv R3ok ((R 18 rfl).trans f18) (b18.keep5 t trivial trivial)),fun hne=>absurd (D 16 rfl) hne⟩)),.inl rfl,.inl rfl,.inl rfl,trivial⟩
   rotate_left
   ·exact fun h=>by cases h
   intro t_ o_ ht_ ho_ a65 w65 gs65 B65 T65 F_
   obtain rfl:=Option.some.inj ht_;obtain rfl:=Option.some.inj ho_;clear ht_ ho_
   obtain ⟨hn65,hd65,hBt,hr,hR,hP,hTs,hLi,hX,hU,hRel,hSl⟩:=F_
   replace hn:=hn65;replace hd:=hd65.trans hd
   have lq65HK:=HK.le
   have lq65HR:=HR.le
   have lq65HT40:=HT40.le
   have lq65BK:=BK.lt.2
   have lq65HN:=HN.le
   replace b2:=b2.keep5 hBt trivial trivial
   replace b3:=b3.keep5 hBt trivial trivial
   replace b5:=b5.keep5 hBt trivial trivial
   replace f2:=(hR 2 rfl).trans f2
   replace f3:=(hR 3 rfl).trans f3
   replace f5:=(hR 5 rfl).trans f5
   replace f6:=(hR 6 rfl).trans f6
   replace f7:=(hR 7 rfl).trans f7
   replace f8:=(hR 8 rfl).trans f8
   have e144:a65.eval (.tmp 144)=.bool false:=hP 16 (by decide)
   have f144:=e144
   have e145:a65.eval (.tmp 145)=.pointer (some ⟨pB,0,none⟩):=hP 17 (by decide)
   have f145:=e145
   have e146:a65.eval (.tmp 146)=.agg #[.bool n_40,.slice a_40 r_40.length c_40,.slice b_40 s_40.length d_40]:=hP 18 (by decide)
   have f146:=e146
   have hBl_:=hBt.below (Nat.le_refl _) (UpOld.all (bx:=[]) trivial) (UpX.all (bx:=[]) trivial)
   replace Ar:=Ar.ru hr
   replace Sr:=Sr.ru hr
   replace Dr:=Dr.ru hr
   replace Tr:=Tr.ru hr
   replace Au:=Au.ru hr
   replace Su:=Su.ru hr
   replace Du:=Du.ru hr
   replace Tu:=Tu.ru hr
   replace G6:=G6.ru hr
   replace A6:=A6.ru hr
   replace K6:=K6.ru hr
   replace S6:=S6.ru hr
   replace HK:=HK.ru hr
   replace HR:=HR.ru hr
   replace F40:=F40.ru hr
   replace H40:=H40.ru hr
   replace HT40:=HT40.ru hr
   replace BK:=BK.below hBl_
   replace BW:=BW.below hBl_
   replace HN:=HN.ru hr
   replace HB:=HB.trans (hBt.below HB.size (UpOld.all (bx:=[]) trivial) (UpX.all (bx:=[]) trivial))
   clear hBt hr hR hP hTs hLi hX hU hRel hSl
   refine ⟨⟨⟨144,rfl⟩,f144⟩,(op_ownr f145 f146 BK (by omega) F40 H40 (Nat.le_trans hWKR lo40) (Nat.le_trans hWKR lo40q) HB.size (Nat.le_trans hq40 HN.le) (Nat.le_trans hq40q HN.le) (fun j hj=>(apt_cons ap38q_40.out (apt_cons ap38_40.out (apt_cons ap37q_40.out (apt_cons ap37_40.out (apt_cons ap36q_40.out (apt_cons ap36_40.out (apt_cons (.inl lo40) (apt_nil hq40)))))))) j (hbs j hj)) (fun j hj=>(apt_cons ap38q_40q.out (apt_cons ap38_40q.out (apt_cons ap37q_40q.out (apt_cons ap37_40q.out (apt_cons ap36q_40q.out (apt_cons ap36_40q.out (apt_cons (.inl lo40q) (apt_nil hq40q)))))))) j (hbs j hj)) ap40_40q.out hb40q.out).mono ?_⟩
   rintro v_ w66 ⟨rfl,bs66,ks_,BK_,kp_,hj_⟩
   have hbs_:=growU2 HN.le hbs hj_
   replace b2:=b2.kp kp_ (bsT_ne (by decide) BK b2) (fun h=>(nin_cons nb2_40q.out (nin_cons nb2_40.out (nin_cons nb2_38q.out (nin_cons nb2_38.out (nin_cons nb2_37q.out (nin_cons nb2_37.out (nin_cons nb2_36q.out (nin_cons nb2_36.out (nin_cons nb2_o.out (nin_nil kb2)))))))))) (hbs_ _ (.inr h)))
   replace b3:=b3.kp kp_ (bsT_ne (by decide) BK b3) (fun h=>(nin_cons nb3_40q.out (nin_cons nb3_40.out (nin_cons nb3_38q.out (nin_cons nb3_38.out (nin_cons nb3_37q.out (nin_cons nb3_37.out (nin_cons nb3_36q.out (nin_cons nb3_36.out (nin_cons nb3_o.out (nin_nil kb3)))))))))) (hbs_ _ (.inr h)))
   replace b5:=b5.kp kp_ (bsT_ne (by decide) BK b5) (fun h=>(nin_cons nb5_40q.out (nin_cons nb5_40.out (nin_cons nb5_38q.out (nin_cons nb5_38.out (nin_cons nb5_37q.out (nin_cons nb5_37.out (nin_cons nb5_36q.out (nin_cons nb5_36.out (nin_cons nb5_o.out (nin_nil kb5)))))))))) (hbs_ _ (.inr h)))
   replace BW:=BW.kp kp_ upB1 (fun j hj=>Nat.le_trans h1K ((low_cons (Nat.le_trans hKKR lo40q) (low_cons (Nat.le_trans hKKR lo40) (low_cons (Nat.le_trans hKKR lo38q) (low_cons (Nat.le_trans hKKR lo38) (low_cons (Nat.le_trans hKKR lo37q) (low_cons (Nat.le_trans hKKR lo37) (low_cons (Nat.le_trans hKKR lo36q) (low_cons (Nat.le_trans hKKR lo36) (low_cons (Nat.le_refl _) (low_nil hKN)))))))))) j (hbs_ j (.inr hj))))
   replace HK:=HK.kp kp_
   replace HR:=HR.kp kp_
   replace HN:=HN.kp kp_
   replace HB:=HB.trans (kp_.below upB (fun j hj=>Nat.le_trans hWK ((low_cons (Nat.le_trans hKKR lo40q) (low_cons (Nat.le_trans hKKR lo40) (low_cons (Nat.le_trans hKKR lo38q) (low_cons (Nat.le_trans hKKR lo38) (low_cons (Nat.le_trans hKKR lo37q) (low_cons (Nat.le_trans hKKR lo37) (low_cons (Nat.le_trans hKKR lo36q) (low_cons (Nat.le_trans hKKR lo36) (low_cons (Nat.le_refl _) (low_nil hKN)))))))))) j (hbs_ j (.inr hj)))) HB.size)
   replace BK:=BK_;replace hbs:∀ j ∈ bs66,_:=fun j hj=>hbs_ j (.inl hj);clear BK_ hbs_ kp_ hj_ F40 H40 HT40
   replace Ar:=Ar0.below HB;replace Sr:=Sr0.below HB;replace Dr:Ag _ false br kr dr rt qr:=⟨Sr,Vr⟩;replace Tr:=Ar.sl
   replace Au:=Au0.below HB;replace Su:=Su0.below HB;replace Du:Ag _ false bu ku du ut qu:=⟨Su,Vu⟩;replace Tu:=Au.sl
   replace G6:=G6_0.below BW.h
   replace A6:=A6_0.below BW.h
   replace K6:=K6_0.below BW.h
   replace S6:=S6_0.below BW.h
   change Good _ _ _ _ _ (Act.put a65 (some 147) (.bool true)) _
   have q_:147<a65.tmps.size:=by rw [hn];decide
   generalize hA_:Act.put a65 (some 147) (.bool true)=a67
   replace hn:a67.tmps.size=152:=by rw [←hA_,put_tmps];simp [hn]
   replace hd:a67.defers = []:=by rw [←hA_];exact hd
   replace f2:=pne hA_ (by decide) f2
   replace f3:=pne hA_ (by decide) f3
   replace f5:=pne hA_ (by decide) f5
   replace f6:=pne hA_ (by decide) f6
   replace f7:=pne hA_ (by decide) f7
   replace f8:=pne hA_ (by decide) f8
   replace f144:=pne hA_ (by decide) f144
   replace f145:=pne hA_ (by decide) f145
   replace f146:=pne hA_ (by decide) f146
   have f147:a67.eval (.tmp 147)=.bool true:=by rw [←hA_];exact eval_put_same q_
   clear q_
   clear hA_
   refine good6 20 22 none [some 128,some 129,some 130,some 131,some 132,some 133,some 134,some 135,some 136,some 137,some 138,some 139,some 140,some 141,some 142,some 143,some 144,some 145,some 146,some 147,some 148,some 149] [Tt,Tt,Tt,Tt,Tt,Tt,Tt,Tt,Tt,Tt,Tt,Tt,Tt,Tt,Tt,Tt,Eqs (.bool false),Eqs (.pointer (some ⟨pB,0,none⟩)),Eqs (.agg #[.bool n_40,.slice a_40 r_40.length c_40,.slice b_40 s_40.length d_40]),Eqs (.bool true),Eqs (.bool false),Eqs (.bool false)] [] [] [] [] [] (by kernel_rfl) hn rfl (by kernel_rfl) (by kernel_rfl) (by kernel_rfl) (by kernel_rfl) (by kernel_rfl) (by kernel_rfl) (by kernel_rfl) (by kernel_rfl) (by kernel_rfl) (by decide) ⟨True.mono5,True.mono5,True.mono5,True.mono5,True.mono5,True.mono5,True.mono5,True.mono5,True.mono5,True.mono5,True.mono5,True.mono5,True.mono5,True.mono5,True.mono5,True.mono5,Eqs.mono5 _,Eqs.mono5 _,Eqs.mono5 _,Eqs.mono5 _,Eqs.mono5 _,Eqs.mono5 _,trivial⟩ trivial xok_nil ok_nil (IsOld.all (bx:=[]) trivial) (DisOld.all (bx:=[]) trivial) ⟨⟨⟨⟨⟨⟨⟨⟨⟨⟨⟨⟨⟨⟨⟨⟨⟨⟨⟨⟨trivial,trivial⟩,trivial⟩,trivial⟩,trivial⟩,trivial⟩,trivial⟩,trivial⟩,trivial⟩,trivial⟩,trivial⟩,trivial⟩,trivial⟩,trivial⟩,trivial⟩,trivial⟩,trivial⟩,f144⟩,f145⟩,f146⟩,f147⟩ ?_ ?_ ?_
   ·exact ⟨.inl rfl,.inl rfl,.inl rfl,.inl rfl,.inl rfl,.inl rfl,.inl rfl,.inl rfl,.inl rfl,.inl rfl,.inl rfl,.inl rfl,.inl rfl,.inl rfl,.inl rfl,.inl rfl,.inl rfl,.inl rfl,.inl rfl,.inl rfl,.inr (.norm 148 rfl rfl (nxt rfl) rfl (fun a_ w_ _ t r R D _ _=>⟨⟨_,rfl⟩,fun _=>d6 rfl (op_not (show a_.eval (.tmp 147)=.bool true from D 19 rfl)),fun hne=>absurd (D 16 rfl) hne⟩)),.inr (.norm 149 rfl rfl (nxt rfl) rfl (fun a_ w_ _ t r R D _ _=>d6 rfl (op_pickb (show a_.eval (.tmp 144)=.bool false from D 16 rfl) (show a_.eval (.tmp 148)=.bool false from D 20 rfl)))),trivial⟩
   ·exact fun _ _ h=>by cases h
   intro _ a68 w68 gs68 B68 T68 F_
   obtain ⟨hn68,hd68,hBt,hr,hR,hP,hTs,hLi,hX,hU,hRel,hSl⟩:=F_
   replace hn:=hn68;replace hd:=hd68.trans hd
   have lq68HK:=HK.le
   have lq68HR:=HR.le
   have lq68BK:=BK.lt.2
   have lq68HN:=HN.le
   replace b2:=b2.keep5 hBt trivial trivial
   replace b3:=b3.keep5 hBt trivial trivial
   replace b5:=b5.keep5 hBt trivial trivial
   replace f2:=(hR 2 rfl).trans f2
   replace f3:=(hR 3 rfl).trans f3
   replace f5:=(hR 5 rfl).trans f5
   replace f6:=(hR 6 rfl).trans f6
   replace f7:=(hR 7 rfl).trans f7
   replace f8:=(hR 8 rfl).trans f8
   have e149:a68.eval (.tmp 149)=.bool false:=hP 21 (by decide)
   have f149:=e149
   have hBl_:=hBt.below (Nat.le_refl _) (UpOld.all (bx:=[]) trivial) (UpX.all (bx:=[]) trivial)
   replace Ar:=Ar.ru hr
   replace Sr:=Sr.ru hr
   replace Dr:=Dr.ru hr
   replace Tr:=Tr.ru hr
   replace Au:=Au.ru hr
   replace Su:=Su.ru hr
   replace Du:=Du.ru hr
   replace Tu:=Tu.ru hr
   replace G6:=G6.ru hr
   replace A6:=A6.ru hr
   replace K6:=K6.ru hr
   replace S6:=S6.ru hr
   replace HK:=HK.ru hr
   replace HR:=HR.ru hr
   replace BK:=BK.below hBl_
   replace BW:=BW.below hBl_
   replace HN:=HN.ru hr
   replace HB:=HB.trans (hBt.below HB.size (UpOld.all (bx:=[]) trivial) (UpX.all (bx:=[]) trivial))
   clear hBt hr hR hP hTs hLi hX hU hRel hSl
   refine wp_cond_false f149 ?_
   refine wp_skip ?_
   refine block_normal ?_
   refine region4 [some 39,some 40,some 8] [Eqs (.int .i64 (ii:Int)),Eqs (.int .i64 ((ii:Int)+1)),Eqs (.int .i64 ((ii:Int)+1))] [] [(2,0)] (by kernel_rfl) hn rfl (by kernel_rfl) (by kernel_rfl) (by kernel_rfl) (by kernel_rfl) (by kernel_rfl) (by kernel_rfl) ⟨Eqs.mono4 _,Eqs.mono4 _,Eqs.mono4 _,trivial⟩ ok_nil (IsOld.all (bx:=[]) trivial) (DisOld.all (bx:=[]) trivial) ?_ ?_
   ·exact ⟨.norm 39 rfl rfl rfl (fun a_ w_ _ t r R D _ hS=>op_mv ((hS 2 8 rfl rfl).trans f8)),.norm 40 rfl rfl rfl (fun a_ w_ _ t r R D _ _=>op_addk (show a_.eval (.tmp 39)=.int .i64 (ii:Int) from D 0 rfl) (by omega)),.norm 8 rfl rfl rfl (fun a_ w_ _ t r R D _ _=>op_assign (show a_.eval (.tmp 40)=.int .i64 ((ii:Int)+1) from D 1 rfl)),trivial⟩
   intro a69 w69 gs69 hn69 hd69 hBt hr hR hP hX hU
   replace hn:=hn69;replace hd:=hd69.trans hd
   replace b2:=b2.keep hBt trivial
   replace b3:=b3.keep hBt trivial
   replace b5:=b5.keep hBt trivial
   replace f2:=(hR 2 rfl).trans f2
   replace f3:=(hR 3 rfl).trans f3
   replace f5:=(hR 5 rfl).trans f5
   replace f6:=(hR 6 rfl).trans f6
   replace f7:=(hR 7 rfl).trans f7
   have e8:a69.eval (.tmp 8)=.int .i64 ((ii:Int)+1):=hP 2 (by decide)
   have f8:=e8
   replace Ar:=Ar.rl hr
   replace Sr:=Sr.rl hr
   replace Dr:=Dr.rl hr
   replace Tr:=Tr.rl hr
   replace Au:=Au.rl hr
   replace Su:=Su.rl hr
   replace Du:=Du.rl hr
   replace Tu:=Tu.rl hr
   replace G6:=G6.rl hr
   replace A6:=A6.rl hr
   replace K6:=K6.rl hr
   replace S6:=S6.rl hr
   replace HK:=HK.rl hr
   replace HR:=HR.rl hr
   replace HN:=HN.rl hr
   replace HB:=HB.trans (hBt.below HB.size (UpOld.all (bx:=[]) trivial))
   have hBl_:=hBt.below (Nat.le_refl _) (UpOld.all (bx:=[]) trivial)
   replace BK:=BK.below hBl_
   replace BW:=BW.below hBl_
   clear hBt hr hR hP hX hU
   exact ⟨1 - ii,by omega,hn,hd,f2,f3,f5,f6,f7,b2,b3,b5,HB,HK,BW,ii+1,by omega,f8.trans (by simp),_,(by rw [show 8*(ii+1)=8*ii+2+2+2+2 by omega];exact BK),fun j hj=>(low_cons (Nat.le_trans hKKR lo40q) (low_cons (Nat.le_trans hKKR lo40) (low_cons (Nat.le_trans hKKR lo38q) (low_cons (Nat.le_trans hKKR lo38) (low_cons (Nat.le_trans hKKR lo37q) (low_cons (Nat.le_trans hKKR lo37) (low_cons (Nat.le_trans hKKR lo36q) (low_cons (Nat.le_trans hKKR lo36) (low_cons (Nat.le_refl _) (low_nil hKN)))))))))) j (hbs j hj)⟩
  ·skip
   have hc38' := of_decide_eq_false hc38
   refine wp_exit ?_
   repeat (first | refine then_exit ?_ | refine scope_exit ?_ | refine block_pass (by decide) ?_)
   refine block_exit ?_
   refine wp_seq ?_
   refine region4 [some 150,some 151,some 4] [Eqs (.pointer (some ⟨pB,0,none⟩)),Eqs (.bool true),Eqs (.bool true)] [] [] (by kernel_rfl) hn rfl (by kernel_rfl) (by kernel_rfl) (by kernel_rfl) (by kernel_rfl) (by kernel_rfl) (by kernel_rfl) ⟨Eqs.mono4 _,Eqs.mono4 _,Eqs.mono4 _,trivial⟩ ok_nil (IsOld.all (bx:=[]) trivial) (DisOld.all (bx:=[]) trivial) ?_ ?_
   ·exact ⟨.norm 150 rfl rfl rfl (fun a_ w_ _ t r R D _ _=>op_mv ((R 7 rfl).trans f7)),.norm 151 rfl rfl rfl (fun a_ w_ _ t r R D _ _=>op_bdone (show a_.eval (.tmp 150)=.pointer (some ⟨pB,0,none⟩) from D 0 rfl) (BK.below (t.below (Nat.le_refl _) (UpOld.all (bx:=[]) trivial))) (by omega)),.norm 4 rfl rfl rfl (fun a_ w_ _ t r R D _ _=>op_assign (show a_.eval (.tmp 151)=.bool true from D 1 rfl)),trivial⟩
   intro a70 w70 gs70 hn70 hd70 hBt hr hR hP hX hU
   replace hn:=hn70;replace hd:=hd70.trans hd
   have e4:a70.eval (.tmp 4)=.bool true:=hP 2 (by decide)
   have f4:=e4
   replace Ar:=Ar.rl hr
   replace Sr:=Sr.rl hr
   replace Dr:=Dr.rl hr
   replace Tr:=Tr.rl hr
   replace Au:=Au.rl hr
   replace Su:=Su.rl hr
   replace Du:=Du.rl hr
   replace Tu:=Tu.rl hr
   replace G6:=G6.rl hr
   replace A6:=A6.rl hr
   replace K6:=K6.rl hr
   replace S6:=S6.rl hr
   replace HK:=HK.rl hr
   replace HR:=HR.rl hr
   replace HB:=HB.trans (hBt.below HB.size (UpOld.all (bx:=[]) trivial))
   have hBl_:=hBt.below (Nat.le_refl _) (UpOld.all (bx:=[]) trivial)
   replace BK:=BK.below hBl_
   replace BW:=BW.below hBl_
   clear hBt hr hR hP hX hU
   refine wp_ret ?_
   repeat (first | refine then_ret ?_ | refine scope_ret ?_ | refine block_ret ?_)
   exact bodyPost_ret (v:=.bool true) (res_t rfl f4) hd ⟨rfl,HB⟩
end Lm
end Go.Proofs.YtpofkigboedliaaGreat

namespace Go.Proofs.YtpofkigboedliaaGreat
namespace ratioSumsLaw
open Go.ChangeShapes Go.WideShapes Go.ChangeAt Go.RowKit
open Go.ChangeMaps (open_string shut_string)
theorem own:ownKnob Tryz.prog.godebug=none:=by kernel_rfl
theorem laidOut:laidOutB Tryz.prog=true:=by kernel_rfl
theorem bytes4:Tryz.prog.bytesOf 69=4:=by kernel_rfl
theorem sl_of {w:World} {x:Addr} {l c:Nat} {zs:List Int} (hl:l≤c) (hm:c≤maxLen) (hz:zs.length=c) (hcell:∀ i,i<zs.length→w.cell? (x.add i)=some (.int .u32 (zs.getD i 0))) (hwz:∀ n ∈ zs,(Lit.int .u32 n).wf=true):Lm.Sl w (.slice (some x) l c) (zs.take l):=by
  have hll:(zs.take l).length=l:=by rw [List.length_take];omega
  refine ⟨some x,c,by rw [hll],by omega,hm,fun n hn=>?_,?_⟩
  · have:=bounds_u32 (hwz n (List.mem_of_mem_take hn))
    omega
  · by_cases h0:l=0
    · exact .inl (List.eq_nil_of_length_eq_zero (by omega))
    · obtain ⟨b,off,spot⟩:=x
      have h1:=hcell 0 (by omega)
      have hspot:spot=none:=by simpa [Addr.add] using World.cell?_spot h1
      subst hspot
      refine .inr ⟨b,off,rfl,fun i hi=>?_⟩
      have h2:=hcell i (by omega)
      rw [Lm.getD_take _ _ _ (by omega)]
      have e:(⟨b,off,none⟩:Addr).add i=⟨b,off+i,none⟩:=by
        by_cases hi0:i=0
        · subst hi0;simp [Addr.add]
        · simp [Addr.add,hi0]
      rwa [e] at h2
set_option linter.unusedVariables false in
set_option maxRecDepth 100000 in
theorem lifted (os:Os) (started:os.Started) (H:Type) (enc:TypeId × Value→H) :
    ReturnsInHanded {} Tryz.checked os 3 .any (Rows.ratioSumsSpec.pre6 enc Tryz.prog Tryz.f3 Rows.ratioSumsRow.domain false) (Rows.ratioSumsSpec.post enc Tryz.prog Tryz.f3 false true false false):=by
  refine returnsInHanded_of_change_sized (C:=Tryz.checked) own started (by kernel_rfl) Tryz.func3
    (ChangeSpec.witness6 (enc:=enc) (C:=Tryz.checked) false ⟨#[],#[.agg #[.bool false,.slice none 0 0,.slice none 0 0],.agg #[.bool false,.slice none 0 0,.slice none 0 0]],[]⟩ 8 (by kernel_rfl) (by kernel_rfl) (by kernel_rfl) (by kernel_rfl)) ?_
  intro W base args ds gs before hval0 hW hcnd hsz0 _
  have hval:∀ (j:Nat) t v,Tryz.f3.params[j]? = some t→args[j]? = some v→Value.okWide Tryz.prog W .any base t v:=hval0
  have hW' := hW
  obtain ⟨p,q,hA0,hV,rfl,hfz,hnd⟩:=hW
  have hA:DataW.TrodAll enc Tryz.prog W 0 (fun _=>true) true Tryz.f3.params.toList args.toList ds p:=hA0
  have hsz:(DataW.weightsEach Tryz.prog (Tryz.f3.params.toList ++ Rows.ratioSumsSpec.plain.varTypes Tryz.prog) (ds ++ gs)).all (·≤reachBytes)=true:=hsz0
  rw [Tryz.params3] at hA hval hsz
  obtain ⟨v0,vs0,d0,ds0,p0,q0,hargs,rfl,rfl,h0,r0⟩:=trodAll_cons hA
  obtain ⟨v1,vs1,d1,ds1,p1,q1,rfl,rfl,rfl,h1,r1⟩:=trodAll_cons r0
  obtain ⟨rfl,rfl,rfl⟩:=trodAll_nil r1
  obtain rfl:args = #[v0,v1]:=by cases args;simp_all
  obtain ⟨rfl,rfl⟩:=trodVars_none hV
  have k0:=h0
  have lt0:∀ x ∈ p0,x.block<W.heap.size:=by obtain ⟨m,hm⟩:=k0;exact DataW.trod_lt m _ _ _ hm
  obtain ⟨g0,a0,len0,cap0,z0,e0,l0,c0,y0,hv0,w0,b0,u0,m0⟩:∃ ng ao n cap zs bo m dap ys,v0=.agg #[.bool ng,.slice ao n cap,.slice bo m dap]∧Lm.Sl W (.slice ao n cap) zs∧n≤35184372088832∧Lm.Sl W (.slice bo m dap) ys∧m≤35184372088832:=by
    obtain ⟨cs,hv,hsz2⟩:=okWide_struct Tryz.underlying26 (hval 0 26 v0 rfl rfl)
    obtain ⟨c0,c1,c2,rfl⟩:=Go.Joins.array3 (hsz2.trans (by kernel_rfl:Tryz.prog.cellsOf 26=3))
    subst hv
    obtain ⟨fuel,hf⟩:=h0
    obtain ⟨y0,y1,n,hx,_,t0,t1⟩:=trod_struct2 Tryz.underlying26 hf
    obtain ⟨z0,z1,n2,hx2,_,s0,s1⟩:=trod_struct2 Tryz.underlying24 t0
    have kW:Tryz.prog.cellsOf 24=2:=by kernel_rfl
    have kS:Tryz.prog.cellsOf 22=1:=by kernel_rfl
    have kB:Tryz.prog.cellsOf 4=1:=by kernel_rfl
    have s0' : DataW.trod enc Tryz.prog W 0 (fun _=>true) true n2 4 [c0]=some z0:=by simpa [Value.cells,kW,kB] using s0
    have s1' : DataW.trod enc Tryz.prog W 0 (fun _=>true) true n2 22 [c1]=some z1:=by simpa [Value.cells,kW,kS] using s1
    have t1' : DataW.trod enc Tryz.prog W 0 (fun _=>true) true n 22 [c2]=some y1:=by simpa [Value.cells,kS] using t1
    have hd:d0=.agg [.agg [z0.1,z1.1],y1.1]:=by
      have h1:=congrArg Prod.fst hx
      have h2:=congrArg Prod.fst hx2
      simp only at h1 h2
      rw [h1,h2]
    clear s0 s1 t1 t0 hx hx2 hf
    obtain ⟨b,hb0,_⟩:=DataW.trod_bool Tryz.underlying4 s0'
    obtain rfl:c0=.bool b:=by simpa using hb0
    have num:∃ ao n cap zs,c1=.slice ao n cap∧Lm.Sl W (.slice ao n cap) zs∧n≤35184372088832:=by
      rcases open_ints Tryz.underlying22 Tryz.underlying69 (by kernel_rfl) s1' with ⟨hcs,_⟩ | ⟨x,l,c,zs,hcs,_,hl,hm,hz,hx,hcell,hwz⟩
      · obtain rfl:c1=.slice none 0 0:=by simpa using hcs
        exact ⟨none,0,0,[],rfl,⟨none,0,rfl,Nat.le_refl _,by simp [maxLen],Lm.limb_nil,.inl rfl⟩,by omega⟩
      · obtain rfl:c1=.slice (some x) l c:=by simpa using hcs
        have hz' : zs.length=c:=by simpa using hz
        have hx1:z1.1=.slice (lits .u32 (zs.take l)) (lits .u32 (zs.drop l)):=congrArg Prod.fst hx
        refine ⟨some x,l,c,_,rfl,sl_of hl hm hz' hcell hwz,?_⟩
        have hs:=List.all_eq_true.1 hsz _ (DataW.weights_mem_each (j:=0) (t:=26) rfl (congrArg some hd) (((lits .u32 (zs.take l):List (DataW H)).length+(lits .u32 (zs.drop l):List (DataW H)).length)*Tryz.prog.bytesOf 69) (by rw [hx1];simp [DataW.weights,DataW.weightsEach,Tryz.underlying26,Tryz.underlying24,Tryz.underlying22]))
        rw [bytes4] at hs
        simp only [lits,List.length_map,List.length_take,List.length_drop,reachBytes,decide_eq_true_eq] at hs
        omega
    have den:∃ ao n cap zs,c2=.slice ao n cap∧Lm.Sl W (.slice ao n cap) zs∧n≤35184372088832:=by
      rcases open_ints Tryz.underlying22 Tryz.underlying69 (by kernel_rfl) t1' with ⟨hcs,_⟩ | ⟨x,l,c,zs,hcs,_,hl,hm,hz,hx,hcell,hwz⟩
      · obtain rfl:c2=.slice none 0 0:=by simpa using hcs
        exact ⟨none,0,0,[],rfl,⟨none,0,rfl,Nat.le_refl _,by simp [maxLen],Lm.limb_nil,.inl rfl⟩,by omega⟩
      · obtain rfl:c2=.slice (some x) l c:=by simpa using hcs
        have hz' : zs.length=c:=by simpa using hz
        have hx1:y1.1=.slice (lits .u32 (zs.take l)) (lits .u32 (zs.drop l)):=congrArg Prod.fst hx
        refine ⟨some x,l,c,_,rfl,sl_of hl hm hz' hcell hwz,?_⟩
        have hs:=List.all_eq_true.1 hsz _ (DataW.weights_mem_each (j:=0) (t:=26) rfl (congrArg some hd) (((lits .u32 (zs.take l):List (DataW H)).length+(lits .u32 (zs.drop l):List (DataW H)).length)*Tryz.prog.bytesOf 69) (by rw [hx1];simp [DataW.weights,DataW.weightsEach,Tryz.underlying26,Tryz.underlying24,Tryz.underlying22]))
        rw [bytes4] at hs
        simp only [lits,List.length_map,List.length_take,List.length_drop,reachBytes,decide_eq_true_eq] at hs
        omega
    obtain ⟨ao,n1,cap,zs,rfl,hS1,hn1⟩:=num
    obtain ⟨bo,m1,dap,ys,rfl,hS2,hn2⟩:=den
    exact ⟨b,ao,n1,cap,zs,bo,m1,dap,ys,rfl,hS1,hn1,hS2,hn2⟩
  subst hv0
  have k1:=h1
  have lt1:∀ x ∈ p1,x.block<W.heap.size:=by obtain ⟨m,hm⟩:=k1;exact DataW.trod_lt m _ _ _ hm
  obtain ⟨g1,a1,len1,cap1,z1,e1,l1,c1,y1,hv1,w1,b1,u1,m1⟩:∃ ng ao n cap zs bo m dap ys,v1=.agg #[.bool ng,.slice ao n cap,.slice bo m dap]∧Lm.Sl W (.slice ao n cap) zs∧n≤35184372088832∧Lm.Sl W (.slice bo m dap) ys∧m≤35184372088832:=by
    obtain ⟨cs,hv,hsz2⟩:=okWide_struct Tryz.underlying26 (hval 1 26 v1 rfl rfl)
    obtain ⟨c0,c1,c2,rfl⟩:=Go.Joins.array3 (hsz2.trans (by kernel_rfl:Tryz.prog.cellsOf 26=3))
    subst hv
    obtain ⟨fuel,hf⟩:=h1
    obtain ⟨y0,y1,n,hx,_,t0,t1⟩:=trod_struct2 Tryz.underlying26 hf
    obtain ⟨z0,z1,n2,hx2,_,s0,s1⟩:=trod_struct2 Tryz.underlying24 t0
    have kW:Tryz.prog.cellsOf 24=2:=by kernel_rfl
    have kS:Tryz.prog.cellsOf 22=1:=by kernel_rfl
    have kB:Tryz.prog.cellsOf 4=1:=by kernel_rfl
    have s0' : DataW.trod enc Tryz.prog W 0 (fun _=>true) true n2 4 [c0]=some z0:=by simpa [Value.cells,kW,kB] using s0
    have s1' : DataW.trod enc Tryz.prog W 0 (fun _=>true) true n2 22 [c1]=some z1:=by simpa [Value.cells,kW,kS] using s1
    have t1' : DataW.trod enc Tryz.prog W 0 (fun _=>true) true n 22 [c2]=some y1:=by simpa [Value.cells,kS] using t1
    have hd:d1=.agg [.agg [z0.1,z1.1],y1.1]:=by
      have h1:=congrArg Prod.fst hx
      have h2:=congrArg Prod.fst hx2
      simp only at h1 h2
      rw [h1,h2]
    clear s0 s1 t1 t0 hx hx2 hf
    obtain ⟨b,hb0,_⟩:=DataW.trod_bool Tryz.underlying4 s0'
    obtain rfl:c0=.bool b:=by simpa using hb0
    have num:∃ ao n cap zs,c1=.slice ao n cap∧Lm.Sl W (.slice ao n cap) zs∧n≤35184372088832:=by
      rcases open_ints Tryz.underlying22 Tryz.underlying69 (by kernel_rfl) s1' with ⟨hcs,_⟩ | ⟨x,l,c,zs,hcs,_,hl,hm,hz,hx,hcell,hwz⟩
      · obtain rfl:c1=.slice none 0 0:=by simpa using hcs
        exact ⟨none,0,0,[],rfl,⟨none,0,rfl,Nat.le_refl _,by simp [maxLen],Lm.limb_nil,.inl rfl⟩,by omega⟩
      · obtain rfl:c1=.slice (some x) l c:=by simpa using hcs
        have hz' : zs.length=c:=by simpa using hz
        have hx1:z1.1=.slice (lits .u32 (zs.take l)) (lits .u32 (zs.drop l)):=congrArg Prod.fst hx
        refine ⟨some x,l,c,_,rfl,sl_of hl hm hz' hcell hwz,?_⟩
        have hs:=List.all_eq_true.1 hsz _ (DataW.weights_mem_each (j:=1) (t:=26) rfl (congrArg some hd) (((lits .u32 (zs.take l):List (DataW H)).length+(lits .u32 (zs.drop l):List (DataW H)).length)*Tryz.prog.bytesOf 69) (by rw [hx1];simp [DataW.weights,DataW.weightsEach,Tryz.underlying26,Tryz.underlying24,Tryz.underlying22]))
        rw [bytes4] at hs
        simp only [lits,List.length_map,List.length_take,List.length_drop,reachBytes,decide_eq_true_eq] at hs
        omega
    have den:∃ ao n cap zs,c2=.slice ao n cap∧Lm.Sl W (.slice ao n cap) zs∧n≤35184372088832:=by
      rcases open_ints Tryz.underlying22 Tryz.underlying69 (by kernel_rfl) t1' with ⟨hcs,_⟩ | ⟨x,l,c,zs,hcs,_,hl,hm,hz,hx,hcell,hwz⟩
      · obtain rfl:c2=.slice none 0 0:=by simpa using hcs
        exact ⟨none,0,0,[],rfl,⟨none,0,rfl,Nat.le_refl _,by simp [maxLen],Lm.limb_nil,.inl rfl⟩,by omega⟩
      · obtain rfl:c2=.slice (some x) l c:=by simpa using hcs
        have hz' : zs.length=c:=by simpa using hz
        have hx1:y1.1=.slice (lits .u32 (zs.take l)) (lits .u32 (zs.drop l)):=congrArg Prod.fst hx
        refine ⟨some x,l,c,_,rfl,sl_of hl hm hz' hcell hwz,?_⟩
        have hs:=List.all_eq_true.1 hsz _ (DataW.weights_mem_each (j:=1) (t:=26) rfl (congrArg some hd) (((lits .u32 (zs.take l):List (DataW H)).length+(lits .u32 (zs.drop l):List (DataW H)).length)*Tryz.prog.bytesOf 69) (by rw [hx1];simp [DataW.weights,DataW.weightsEach,Tryz.underlying26,Tryz.underlying24,Tryz.underlying22]))
        rw [bytes4] at hs
        simp only [lits,List.length_map,List.length_take,List.length_drop,reachBytes,decide_eq_true_eq] at hs
        omega
    obtain ⟨ao,n1,cap,zs,rfl,hS1,hn1⟩:=num
    obtain ⟨bo,m1,dap,ys,rfl,hS2,hn2⟩:=den
    exact ⟨b,ao,n1,cap,zs,bo,m1,dap,ys,rfl,hS1,hn1,hS2,hn2⟩
  subst hv1
  clear hA0 hval0
  refine (Lm.rsums_law W g0 a0 len0 cap0 z0 _ e0 l0 c0 y0 _ g1 a1 len1 cap1 z1 _ e1 l1 c1 y1 _ ⟨w0,rfl⟩ u0 rfl ⟨w1,rfl⟩ u1 rfl b0 m0 b1 m1).mono fun e W' ⟨he,bel⟩=>?_
  subst he
  exact ⟨_,rfl,_,_,_,[],_,[],hW',trodAll_mk1 (shut_bool Tryz.underlying4 _),(trodAll_cons_mk (Below.trod laidOut (by kernel_rfl) (of_decide_eq_true (by kernel_rfl)) k0 bel lt0) (trodAll_cons_mk (Below.trod laidOut (by kernel_rfl) (of_decide_eq_true (by kernel_rfl)) k1 bel lt1) trodAll_mk0)),rfl,bel.frame _,fun h=>by cases h⟩
theorem over:Rows.ratioSumsRow.holds Tryz.pinned (OpenSpec.ofChange Rows.ratioSumsSpec) :=
  OpenClaim.holds_of_wide 3 Tryz.f3 rfl rfl rfl rfl rfl rfl rfl ⟨rfl,rfl,rfl,rfl,rfl⟩ rfl rfl rfl rfl rfl (by kernel_rfl) Tryz.func3 (by kernel_rfl)
    (of_decide_eq_true (by kernel_rfl)) (by unfold Func.isWrapper;first | (rw [if_pos (by decide +kernel)];kernel_rfl) | (rw [if_neg (by decide +kernel)];exact ⟨rfl,rfl⟩))
    (fun os started H enc _=>lifted os started H enc)
end ratioSumsLaw
theorem ratioSums_holds:Rows.RatioSumsSaid:=ratioSumsLaw.over
#print axioms ratioSums_holds
end Go.Proofs.YtpofkigboedliaaGreat

