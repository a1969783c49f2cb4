/-
  What the text behind the last one leans on, part 3.
-/
import Derived.Test.YtjogfjgkabjcfaaGreatSLwLawZ2
set_option maxRecDepth 20000
set_option maxHeartbeats 40000000
namespace Go.Proofs.YtjogfjgkabjcfaaGreat
namespace Lm
open Go Go.RowKit
theorem frwlow{P:Program}{o:Oper}{a:Act}{w:World}{K:Nat}{z:Int}{L:Nat}{p:Says}(hK:K<=w.heap.size)(hd:Does P o a.eval w fun v w'=>Below w.heap.size w w'/\Tup2 (FrW w.heap.size z L) p v w'):Does P o a.eval w fun v w'=>Below w.heap.size w w'/\Tup2 (FrW K z L) p v w':=
 hd.mono fun _ _ ⟨hb,x,y,e,⟨ng,ao,cap,rs,B,T,e',h,h1,h2⟩,h3⟩=>⟨hb,x,y,e,⟨ng,ao,cap,rs,B,T,e',h,Nat.le_trans hK h1,h2⟩,h3⟩
section
variable {dst:Option Tmp} {ty:TypeId} {pos:String} {after:Array Edge} {guard:Option (Nat×Bool)} {a:Act} {w:World} {ats:Array TypeId} {i j:Nat} {x y:Int} {L1 L2 K:Nat}
theorem axh(hx:IsW x L1 (a.eval (.tmp i)) w)(hy:IsW y L2 (a.eval (.tmp j)) w)(h1:L1<=400000000)(h2:L2<=400000000)(h0:y≠0)(hK:K<=w.heap.size):
  Does Tryz.prog {dst,op:=.call {callee:=.value (.func 120),args:=#[.tmp i,.tmp j],argTypes:=ats},type:=ty,pos,after,guard} a.eval w fun v w'=>Below w.heap.size w w'/\Tup3 (FrW K (x/y) (L1+4)) (OutW (x%y) L2) (Eqs (.bool true)) v w':=by
 obtain⟨n1,a1,m1,c1,xs,e1,A1,l1⟩:=hx;obtain⟨n2,a2,m2,c2,ys,e2,A2,l2⟩:=hy;have hv:val ys≠0:=fun e=>h0 (by rw[<-A2.worth,e];cases n2 <;> simp[sg])
 refine aal aw5 _ (by simp only[List.map_toArray,List.map_cons,List.map_nil,e1,e2]) ((alm w n1 a1 m1 c1 xs A1.sl n2 a2 m2 c2 ys A2.sl (by omega) (by omega) hv).mono ?_);rintro e w' ⟨nq,aq,cq,qs,nr,ar,cr,rs,B1,T1,B2,T2,rfl,G1,G2,q1,q2,o1,o2,⟨y1,y2,y3,y4,y5⟩,hb⟩;rw[A1.worth,A2.worth]at G1 G2;exact⟨_,rfl,hb,_,_,_,rfl,⟨_,_,_,_,_,_,rfl,o1.wfr G1,by omega,y2,by omega⟩,⟨_,_,_,_,rfl,G2,by omega⟩,rfl⟩
theorem a2x{u v:Nat}(h1:a.eval (.tmp i)=.int .i64 (u:Int))(h2:a.eval (.tmp j)=.int .i64 (v:Int)){ts:Array TypeId}:
  Does Tryz.prog {dst,op:=.call {callee:=.builtin .max,args:=#[.tmp i,.tmp j],argTypes:=ts},type:=ty,pos,after,guard} a.eval w fun v' w'=>Below w.heap.size w w'/\Eqs (.int .i64 ((max u v:Nat):Int)) v' w':=by
 have e:(execOp a.eval {dst,op:=.call {callee:=.builtin .max,args:=#[.tmp i,.tmp j],argTypes:=ts},type:=ty,pos,after,guard}).run Tryz.prog w=.ok (.value (.int .i64 ((max u v:Nat):Int))) w:=by
  have h1':a.tmps[i]?.getD undef=.int .i64 (u:Int):=by simpa[Act.eval]using h1
  have h2':a.tmps[j]?.getD undef=.int .i64 (v:Int):=by simpa[Act.eval]using h2
  simp[go_sem,h1',h2'];omega
 refine⟨?_⟩;unfold Turns;rw[e];exact⟨Below.refl _ _,rfl⟩
end
theorem ase(w:World)(Br:Nat)(nr:Bool)(ar:Option Addr)(mr cr:Nat)(rs:List Int)(pr:Int)(Ar:Ag w nr ar mr cr rs pr)(Lr:rs.length<=Br)(br:Option Addr)(kr dr:Nat)(rt:List Int)(qr:Int)(Sr:Sl w (.slice br kr dr) rt)(Vr:val rt=qr)(Mr:rt.length<=Br)(hL:Br<=100000000):
  Calls Tryz.prog 109 #[.agg #[.bool nr,.slice ar mr cr,.slice br kr dr]] w fun e w'=>∃v,e=.returned v/\(Tup2 (FrW w.heap.size (tp pr qr/tq qr) (Br+6)) (OutW (tp pr qr%tq qr) (Br+6))) v w'/\Below w.heap.size w w':=by
 go_enter Tryz.func109,Tryz.ntmps109
 generalize hA:(Act.mk _ _)=aa;have hn:aa.tmps.size=20:=by rw[<-hA];rfl
 have hd:aa.defers = []:=by rw[<-hA]
 have f0:aa.eval (.tmp 0)=.agg #[.bool nr,.slice ar mr cr,.slice br kr dr]:=by rw[<-hA];rfl
 clear hA;have HB:Below w.heap.size w w:=Below.refl _ _;have Dr:Ag w false br kr dr rt qr:=⟨Sr,Vr⟩;refine wp_seq ?_;refine aay [some 1,some 2,some 3] [Tt,Tt,Tt] [⟨R3,some 0,0,1,.agg #[.bool nr,.slice ar mr cr,.slice br kr dr],none,[]⟩,⟨W2,some 1,0,2,.agg #[.bool false,.slice none 0 0],none,[]⟩,⟨W2,some 2,0,3,.agg #[.bool false,.slice none 0 0],none,[]⟩] [] (by kernel_rfl) hn rfl (by kernel_rfl) (by kernel_rfl) (by kernel_rfl) (by kernel_rfl) (by kernel_rfl) (by kernel_rfl) ⟨True.mono4,True.mono4,True.mono4,trivial⟩ (aat R3ok (aat W2ok (aat W2ok aa4))) (IsOld.all (bx:=[⟨R3,some 0,0,1,.agg #[.bool nr,.slice ar mr cr,.slice br kr dr],none,[]⟩,⟨W2,some 1,0,2,.agg #[.bool false,.slice none 0 0],none,[]⟩,⟨W2,some 2,0,3,.agg #[.bool false,.slice none 0 0],none,[]⟩]) ⟨someNe,someNe,someNe,trivial⟩) (DisOld.all (bx:=[⟨R3,some 0,0,1,.agg #[.bool nr,.slice ar mr cr,.slice br kr dr],none,[]⟩,⟨W2,some 1,0,2,.agg #[.bool false,.slice none 0 0],none,[]⟩,⟨W2,some 2,0,3,.agg #[.bool false,.slice none 0 0],none,[]⟩]) ⟨someNe,someNe,someNe,trivial⟩) ?_ ?_
 ·exact⟨.alloc 0 _ rfl rfl (.inr ⟨_,rfl,ah4,fun a_ hR=>(hR 0 rfl).trans f0⟩) rfl rfl rfl rfl rfl,.alloc 1 _ rfl rfl (.inl ⟨rfl,rfl⟩) rfl rfl rfl rfl rfl,.alloc 2 _ rfl rfl (.inl ⟨rfl,rfl⟩) rfl rfl rfl rfl rfl,trivial⟩
 ·intro a1 w1 gs1 hn1 hd1 hBt hr hR hP hX hU;replace hn:=hn1;replace hd:=hd1.trans hd;have ne1_2:gs1 0≠gs1 1:=hU 0 1 (by simp) (by simp) (by decide);have ne1_3:gs1 0≠gs1 2:=hU 0 2 (by simp) (by simp) (by decide);have ne2_3:gs1 1≠gs1 2:=hU 1 2 (by simp) (by simp) (by decide);have b1:BoxV R3 w1 (gs1 0) (.agg #[.bool nr,.slice ar mr cr,.slice br kr dr]):=(hX 0 _ rfl).2.2.2;have f1:=(hX 0 _ rfl).1;have u1:w.heap.size<=gs1 0:=Nat.le_trans HB.size ((hX 0 _ rfl).2.2.1 (by simp));have b2:BoxV W2 w1 (gs1 1) (.agg #[.bool false,.slice none 0 0]):=(hX 1 _ rfl).2.2.2;have f2:=(hX 1 _ rfl).1;have u2:w.heap.size<=gs1 1:=Nat.le_trans HB.size ((hX 1 _ rfl).2.2.1 (by simp));have b3:BoxV W2 w1 (gs1 2) (.agg #[.bool false,.slice none 0 0]):=(hX 2 _ rfl).2.2.2;have f3:=(hX 2 _ rfl).1;have u3:w.heap.size<=gs1 2:=Nat.le_trans HB.size ((hX 2 _ rfl).2.2.1 (by simp));replace Ar:=Ar.rl hr;replace Sr:=Sr.rl hr;replace Dr:=Dr.rl hr;replace HB:=HB.trans (hBt.below HB.size (UpOld.all (bx:=[⟨R3,some 0,0,1,.agg #[.bool nr,.slice ar mr cr,.slice br kr dr],none,[]⟩,⟨W2,some 1,0,2,.agg #[.bool false,.slice none 0 0],none,[]⟩,⟨W2,some 2,0,3,.agg #[.bool false,.slice none 0 0],none,[]⟩]) ⟨someNe,someNe,someNe,trivial⟩));clear hBt hr hR hP hX hU;refine wp_seq ?_;refine aay [some 7,some 8,some 6,some 9,some 10,some 4,some 5,none,none] [Eqs (.agg #[.bool nr,.slice ar mr cr,.slice br kr dr]),Tup2 (IsW ((tp pr qr)) ((Br)+2)) (IsW ((tq qr)) ((Br)+2)),Tup2 (IsW ((tp pr qr)) ((Br)+2)) (IsW ((tq qr)) ((Br)+2)),IsW ((tp pr qr)) ((Br)+2),IsW ((tq qr)) ((Br)+2),Tt,Tt,Tt,Tt] [⟨W2,some 5,0,4,.agg #[.bool false,.slice none 0 0],some (7,9,3),[]⟩,⟨W2,some 6,0,5,.agg #[.bool false,.slice none 0 0],some (8,10,4),[]⟩] [] (by kernel_rfl) hn rfl (by kernel_rfl) (by kernel_rfl) (by kernel_rfl) (by kernel_rfl) (by kernel_rfl) (by kernel_rfl) ⟨Eqs.mono4 _,Tup2.mono4 (IsW.mono4 _ _) (IsW.mono4 _ _),Tup2.mono4 (IsW.mono4 _ _) (IsW.mono4 _ _),IsW.mono4 _ _,IsW.mono4 _ _,True.mono4,True.mono4,True.mono4,True.mono4,trivial⟩ (aat W2ok (aat W2ok aa4)) (IsOld.all (bx:=[⟨W2,some 5,0,4,.agg #[.bool false,.slice none 0 0],some (7,9,3),[]⟩,⟨W2,some 6,0,5,.agg #[.bool false,.slice none 0 0],some (8,10,4),[]⟩]) ⟨someNe,someNe,trivial⟩) (DisOld.all (bx:=[⟨W2,some 5,0,4,.agg #[.bool false,.slice none 0 0],some (7,9,3),[]⟩,⟨W2,some 6,0,5,.agg #[.bool false,.slice none 0 0],some (8,10,4),[]⟩]) ⟨someNe,someNe,trivial⟩) ?_ ?_
  ·exact⟨.norm 7 rfl rfl rfl (fun a_ w_ _ t r R D _ _=>abe R3ok ((R 1 rfl).trans f1) (b1.keep t ⟨someNe,someNe,trivial⟩)),.norm 8 rfl rfl rfl (fun a_ w_ _ t r R D _ _=>agn (af2 (show a_.eval (.tmp 7)=.agg #[.bool nr,.slice ar mr cr,.slice br kr dr]from D 0 rfl) (Ar.rl r) (Sr.rl r) Vr Lr Mr) (by omega)),.norm 6 rfl rfl rfl (fun a_ w_ _ t r R D _ _=>ads (p:=Tup2 (IsW ((tp pr qr)) ((Br)+2)) (IsW ((tq qr)) ((Br)+2))) (show Tup2 (IsW ((tp pr qr)) ((Br)+2)) (IsW ((tq qr)) ((Br)+2)) (a_.eval (.tmp 8)) w_ from D 1 rfl)),.norm 9 rfl rfl rfl (fun a_ w_ _ t r R D _ _=>af0 (show Tup2 (IsW ((tp pr qr)) ((Br)+2)) (IsW ((tq qr)) ((Br)+2)) (a_.eval (.tmp 6)) w_ from D 2 rfl)),.norm 10 rfl rfl rfl (fun a_ w_ _ t r R D _ _=>af1 (show Tup2 (IsW ((tp pr qr)) ((Br)+2)) (IsW ((tq qr)) ((Br)+2)) (a_.eval (.tmp 6)) w_ from D 2 rfl)),.alloc 0 _ rfl rfl (.inl ⟨rfl,rfl⟩) rfl rfl rfl rfl rfl,.alloc 1 _ rfl rfl (.inl ⟨rfl,rfl⟩) rfl rfl rfl rfl rfl,.store 0 _ _ _ rfl rfl rfl rfl rfl rfl rfl (fun ia h=>by cases h;rfl) rfl rfl rfl IsW.cs,.store 1 _ _ _ rfl rfl rfl rfl rfl rfl rfl (fun ia h=>by cases h;rfl) rfl rfl rfl IsW.cs,trivial⟩
  ·intro a2 w2 gs2 hn2 hd2 hBt hr hR hP hX hU;replace hn:=hn2;replace hd:=hd2.trans hd;have ne2_4:(gs1 1)≠gs2 0:=by have h1:=b2.lt;have h2:=(hX 0 _ rfl).2.2.1 (by simp);omega
   have ne3_4:(gs1 2)≠gs2 0:=by have h1:=b3.lt;have h2:=(hX 0 _ rfl).2.2.1 (by simp);omega
   have ne2_5:(gs1 1)≠gs2 1:=by have h1:=b2.lt;have h2:=(hX 1 _ rfl).2.2.1 (by simp);omega
   have ne3_5:(gs1 2)≠gs2 1:=by have h1:=b3.lt;have h2:=(hX 1 _ rfl).2.2.1 (by simp);omega
   replace b2:=b2.keep hBt ⟨someNe,someNe,trivial⟩;replace b3:=b3.keep hBt ⟨someNe,someNe,trivial⟩;obtain⟨n_3,a_3,m_3,c_3,r_3,e9,A3,l3⟩:IsW ((tp pr qr)) ((Br)+2) (a2.eval (.tmp 9)) w2:=hP 3 (by decide);have b4:BoxV W2 w2 (gs2 0) (.agg #[.bool n_3,.slice a_3 m_3 c_3]):=acx (hX 0 _ rfl).2.2.2 e9;have f4:=(hX 0 _ rfl).1;have u4:w.heap.size<=gs2 0:=Nat.le_trans HB.size ((hX 0 _ rfl).2.2.1 (by simp));obtain⟨n_4,a_4,m_4,c_4,r_4,e10,A4,l4⟩:IsW ((tq qr)) ((Br)+2) (a2.eval (.tmp 10)) w2:=hP 4 (by decide);have b5:BoxV W2 w2 (gs2 1) (.agg #[.bool n_4,.slice a_4 m_4 c_4]):=acx (hX 1 _ rfl).2.2.2 e10;have f5:=(hX 1 _ rfl).1;have u5:w.heap.size<=gs2 1:=Nat.le_trans HB.size ((hX 1 _ rfl).2.2.1 (by simp));replace f2:=(hR 2 rfl).trans f2;replace f3:=(hR 3 rfl).trans f3;replace Ar:=Ar.rl hr;replace Sr:=Sr.rl hr;replace Dr:=Dr.rl hr;replace HB:=HB.trans (hBt.below HB.size (UpOld.all (bx:=[⟨W2,some 5,0,4,.agg #[.bool false,.slice none 0 0],some (7,9,3),[]⟩,⟨W2,some 6,0,5,.agg #[.bool false,.slice none 0 0],some (8,10,4),[]⟩]) ⟨someNe,someNe,trivial⟩));clear hBt hr hR hP hX hU;refine wp_seq ?_;refine aay [some 12,some 13,some 14,some 11,some 15,some 16,some 17,none,none] [Eqs (.agg #[.bool n_3,.slice a_3 m_3 c_3]),Eqs (.agg #[.bool n_4,.slice a_4 m_4 c_4]),Tup3 (FrW (w.heap.size) (((tp pr qr)/(tq qr))) (((Br)+2)+4)) (OutW (((tp pr qr)%(tq qr))) ((Br)+2)) (Eqs (.bool true)),Tup3 (FrW (w.heap.size) (((tp pr qr)/(tq qr))) (((Br)+2)+4)) (OutW (((tp pr qr)%(tq qr))) ((Br)+2)) (Eqs (.bool true)),FrW (w.heap.size) (((tp pr qr)/(tq qr))) (((Br)+2)+4),OutW (((tp pr qr)%(tq qr))) ((Br)+2),Eqs (.bool true),Tt,Tt] [⟨W2,none,(gs1 1),2,.agg #[.bool false,.slice none 0 0],some (7,15,4),[]⟩,⟨W2,none,(gs1 2),3,.agg #[.bool false,.slice none 0 0],some (8,16,5),[]⟩] [] (by kernel_rfl) hn rfl (by kernel_rfl) (by kernel_rfl) (by kernel_rfl) (by kernel_rfl) (by kernel_rfl) (by kernel_rfl) ⟨Eqs.mono4 _,Eqs.mono4 _,Tup3.mono4 (FrW.mono4 _ _ _) (OutW.mono4 _ _) (Eqs.mono4 _),Tup3.mono4 (FrW.mono4 _ _ _) (OutW.mono4 _ _) (Eqs.mono4 _),FrW.mono4 _ _ _,OutW.mono4 _ _,Eqs.mono4 _,True.mono4,True.mono4,trivial⟩ (aat W2ok (aat W2ok aa4)) (IsOld.all (bx:=[⟨W2,none,(gs1 1),2,.agg #[.bool false,.slice none 0 0],some (7,15,4),[]⟩,⟨W2,none,(gs1 2),3,.agg #[.bool false,.slice none 0 0],some (8,16,5),[]⟩]) ⟨fun _=>⟨f2,b2⟩,fun _=>⟨f3,b3⟩,trivial⟩) (DisOld.all (bx:=[⟨W2,none,(gs1 1),2,.agg #[.bool false,.slice none 0 0],some (7,15,4),[]⟩,⟨W2,none,(gs1 2),3,.agg #[.bool false,.slice none 0 0],some (8,16,5),[]⟩]) ⟨fun _=>⟨fun _=>ne2_3.symm,trivial⟩,fun _=>trivial,trivial⟩) ?_ ?_
   ·exact⟨.norm 12 rfl rfl rfl (fun a_ w_ _ t r R D _ _=>abe W2ok ((R 4 rfl).trans f4) (b4.keep t ⟨fun _=>ne2_4,fun _=>ne3_4,trivial⟩)),.norm 13 rfl rfl rfl (fun a_ w_ _ t r R D _ _=>abe W2ok ((R 5 rfl).trans f5) (b5.keep t ⟨fun _=>ne2_5,fun _=>ne3_5,trivial⟩)),.norm 14 rfl rfl rfl (fun a_ w_ _ t r R D _ _=>axh (ade (show a_.eval (.tmp 12)=.agg #[.bool n_3,.slice a_3 m_3 c_3]from D 0 rfl) (A3.rl r) l3) (ade (show a_.eval (.tmp 13)=.agg #[.bool n_4,.slice a_4 m_4 c_4]from D 1 rfl) (A4.rl r) l4) (by omega) (by omega) (aci _) (Nat.le_trans HB.size r.size)),.norm 11 rfl rfl rfl (fun a_ w_ _ t r R D _ _=>ads (p:=Tup3 (FrW (w.heap.size) (((tp pr qr)/(tq qr))) (((Br)+2)+4)) (OutW (((tp pr qr)%(tq qr))) ((Br)+2)) (Eqs (.bool true))) (show Tup3 (FrW (w.heap.size) (((tp pr qr)/(tq qr))) (((Br)+2)+4)) (OutW (((tp pr qr)%(tq qr))) ((Br)+2)) (Eqs (.bool true)) (a_.eval (.tmp 14)) w_ from D 2 rfl)),.norm 15 rfl rfl rfl (fun a_ w_ _ t r R D _ _=>azy (show Tup3 (FrW (w.heap.size) (((tp pr qr)/(tq qr))) (((Br)+2)+4)) (OutW (((tp pr qr)%(tq qr))) ((Br)+2)) (Eqs (.bool true)) (a_.eval (.tmp 11)) w_ from D 3 rfl)),.norm 16 rfl rfl rfl (fun a_ w_ _ t r R D _ _=>az0 (show Tup3 (FrW (w.heap.size) (((tp pr qr)/(tq qr))) (((Br)+2)+4)) (OutW (((tp pr qr)%(tq qr))) ((Br)+2)) (Eqs (.bool true)) (a_.eval (.tmp 11)) w_ from D 3 rfl)),.norm 17 rfl rfl rfl (fun a_ w_ _ t r R D _ _=>az1 (show Tup3 (FrW (w.heap.size) (((tp pr qr)/(tq qr))) (((Br)+2)+4)) (OutW (((tp pr qr)%(tq qr))) ((Br)+2)) (Eqs (.bool true)) (a_.eval (.tmp 11)) w_ from D 3 rfl)),.store 0 _ _ _ rfl rfl rfl rfl rfl rfl rfl (fun ia h=>by cases h) rfl rfl rfl FrW.cs,.store 1 _ _ _ rfl rfl rfl rfl rfl rfl rfl (fun ia h=>by cases h) rfl rfl rfl OutW.cs,trivial⟩
   ·intro a5 w5 gs5 hn5 hd5 hBt hr hR hP hX hU;replace hn:=hn5;replace hd:=hd5.trans hd;obtain⟨n_6,a_6,c_6,r_6,B6,T6,e15,F6,fb6,ft6,l6⟩:FrW (w.heap.size) (((tp pr qr)/(tq qr))) (((Br)+2)+4) (a5.eval (.tmp 15)) w5:=hP 4 (by decide);have G6:=F6.wh;have A6:=G6.ag;have HT6:SzGe T6 w5:=ft6;have b2:BoxV W2 w5 ((gs1 1)) (.agg #[.bool n_6,.slice a_6 r_6.length c_6]):=ac0 ((hX 0 _ rfl).2.1 rfl) (hX 0 _ rfl).2.2.2 e15;replace f2:a5.eval (.tmp 2)=_:=(hR 2 rfl).trans f2;obtain⟨n_7,a_7,c_7,r_7,e16,G7,l7⟩:OutW (((tp pr qr)%(tq qr))) ((Br)+2) (a5.eval (.tmp 16)) w5:=hP 5 (by decide);have A7:=G7.ag;have b3:BoxV W2 w5 ((gs1 2)) (.agg #[.bool n_7,.slice a_7 r_7.length c_7]):=ac0 ((hX 1 _ rfl).2.1 rfl) (hX 1 _ rfl).2.2.2 e16;replace f3:a5.eval (.tmp 3)=_:=(hR 3 rfl).trans f3;replace Ar:=Ar.rl hr;replace Sr:=Sr.rl hr;replace Dr:=Dr.rl hr;replace A3:=A3.rl hr;replace A4:=A4.rl hr;replace HB:=HB.trans (hBt.below HB.size (UpOld.all (bx:=[⟨W2,none,(gs1 1),2,.agg #[.bool false,.slice none 0 0],some (7,15,4),[]⟩,⟨W2,none,(gs1 2),3,.agg #[.bool false,.slice none 0 0],some (8,16,5),[]⟩]) ⟨fun _=>u2,fun _=>u3,trivial⟩));clear hBt hr hR hP hX hU;refine wp_seq ?_;refine aay [some 18,some 19,none,none] [Eqs (.agg #[.bool n_6,.slice a_6 r_6.length c_6]),Eqs (.agg #[.bool n_7,.slice a_7 r_7.length c_7]),Tt,Tt] [⟨W2,none,(gs1 1),2,.agg #[.bool n_6,.slice a_6 r_6.length c_6],some (2,18,0),[0]⟩,⟨W2,none,(gs1 2),3,.agg #[.bool n_7,.slice a_7 r_7.length c_7],some (3,19,1),[1]⟩] [] (by kernel_rfl) hn rfl (by kernel_rfl) (by kernel_rfl) (by kernel_rfl) (by kernel_rfl) (by kernel_rfl) (by kernel_rfl) ⟨Eqs.mono4 _,Eqs.mono4 _,True.mono4,True.mono4,trivial⟩ (aat W2ok (aat W2ok aa4)) (IsOld.all (bx:=[⟨W2,none,(gs1 1),2,.agg #[.bool n_6,.slice a_6 r_6.length c_6],some (2,18,0),[0]⟩,⟨W2,none,(gs1 2),3,.agg #[.bool n_7,.slice a_7 r_7.length c_7],some (3,19,1),[1]⟩]) ⟨fun _=>⟨f2,b2⟩,fun _=>⟨f3,b3⟩,trivial⟩) (DisOld.all (bx:=[⟨W2,none,(gs1 1),2,.agg #[.bool n_6,.slice a_6 r_6.length c_6],some (2,18,0),[0]⟩,⟨W2,none,(gs1 2),3,.agg #[.bool n_7,.slice a_7 r_7.length c_7],some (3,19,1),[1]⟩]) ⟨fun _=>⟨fun _=>ne2_3.symm,trivial⟩,fun _=>trivial,trivial⟩) ?_ ?_
    ·exact⟨.norm 18 rfl rfl rfl (fun a_ w_ _ t r R D hO _=>abe W2ok ((R 2 rfl).trans f2) (hO 0 _ rfl rfl rfl)),.norm 19 rfl rfl rfl (fun a_ w_ _ t r R D hO _=>abe W2ok ((R 3 rfl).trans f3) (hO 1 _ rfl rfl rfl)),.store 0 _ _ _ rfl rfl rfl rfl rfl rfl rfl (fun ia h=>by cases h) rfl rfl rfl (ahh agm),.store 1 _ _ _ rfl rfl rfl rfl rfl rfl rfl (fun ia h=>by cases h) rfl rfl rfl (ahh agm),trivial⟩
    ·intro a8 w8 gs8 hn8 hd8 hBt hr hR hP hX hU;replace hn:=hn8;replace hd:=hd8.trans hd;have e18:a8.eval (.tmp 18)=.agg #[.bool n_6,.slice a_6 r_6.length c_6]:=hP 0 (by decide);have b2:BoxV W2 w8 ((gs1 1)) (.agg #[.bool n_6,.slice a_6 r_6.length c_6]):=ac0 ((hX 0 _ rfl).2.1 rfl) (hX 0 _ rfl).2.2.2 e18;replace f2:a8.eval (.tmp 2)=_:=(hR 2 rfl).trans f2;have e19:a8.eval (.tmp 19)=.agg #[.bool n_7,.slice a_7 r_7.length c_7]:=hP 1 (by decide);have b3:BoxV W2 w8 ((gs1 2)) (.agg #[.bool n_7,.slice a_7 r_7.length c_7]):=ac0 ((hX 1 _ rfl).2.1 rfl) (hX 1 _ rfl).2.2.2 e19;replace f3:a8.eval (.tmp 3)=_:=(hR 3 rfl).trans f3;replace Ar:=Ar.rl hr;replace Sr:=Sr.rl hr;replace Dr:=Dr.rl hr;replace A3:=A3.rl hr;replace A4:=A4.rl hr;replace F6:=F6.rl hr;replace G6:=G6.rl hr;replace A6:=A6.rl hr;replace HT6:=HT6.rl hr;replace G7:=G7.rl hr;replace A7:=A7.rl hr;replace HB:=HB.trans (hBt.below HB.size (UpOld.all (bx:=[⟨W2,none,(gs1 1),2,.agg #[.bool n_6,.slice a_6 r_6.length c_6],some (2,18,0),[0]⟩,⟨W2,none,(gs1 2),3,.agg #[.bool n_7,.slice a_7 r_7.length c_7],some (3,19,1),[1]⟩]) ⟨fun _=>u2,fun _=>u3,trivial⟩));clear hBt hr hR hP hX hU;refine wp_ret ?_;repeat(first|refine ac1 ?_|refine aca ?_|refine act ?_)
     exact bodyPost_ret (v:=.tuple #[.agg #[.bool n_6,.slice a_6 r_6.length c_6],.agg #[.bool n_7,.slice a_7 r_7.length c_7]]) (amt rfl f2 (ah3 b2) f3 (ah3 b3)) hd ⟨_,rfl,⟨_,_,rfl,auw F6 fb6 HT6.le l6 (by omega),OutW.to (azx rfl G7 l7) rfl (by omega)⟩,HB⟩
theorem anh:Has Tryz.prog 109:=by unfold Has;kernel_rfl
theorem ape{dst:Option Tmp}{ty:TypeId}{pos:String}{after:Array Edge}{guard:Option (Nat×Bool)}{a:Act}{w:World}{ats:Array TypeId}{i:Nat}{Br:Nat}{pr qr:Int}(Hr:IsR pr qr Br (a.eval (.tmp i)) w)(hL:Br<=100000000):
  Does Tryz.prog {dst,op:=.call {callee:=.value (.func 109),args:=#[.tmp i],argTypes:=ats},type:=ty,pos,after,guard} a.eval w fun v w'=>Below w.heap.size w w'/\(Tup2 (FrW w.heap.size (tp pr qr/tq qr) (Br+6)) (OutW (tp pr qr%tq qr) (Br+6))) v w':=by
 obtain⟨nr,ar,mr,cr,rs,br,kr,dr,rt,er,Ar,Sr,Vr,Lr,Mr⟩:=Hr;refine aal anh _ (by simp only[List.map_toArray,List.map_cons,List.map_nil,er]) ((ase w Br _ _ _ _ _ _ Ar Lr _ _ _ _ _ Sr Vr Mr hL).mono ?_);rintro e w' ⟨v,rfl,h1,hb⟩;exact⟨_,rfl,hb,h1⟩
theorem aux(w:World)(Br:Nat)(nr:Bool)(ar:Option Addr)(mr cr:Nat)(rs:List Int)(pr:Int)(Ar:Ag w nr ar mr cr rs pr)(Lr:rs.length<=Br)(br:Option Addr)(kr dr:Nat)(rt:List Int)(qr:Int)(Sr:Sl w (.slice br kr dr) rt)(Vr:val rt=qr)(Mr:rt.length<=Br)(hL:Br<=100000000)(h0:tp pr qr%tq qr=0):
  Calls Tryz.prog 88 #[.agg #[.bool nr,.slice ar mr cr,.slice br kr dr]] w fun e w'=>∃v,e=.returned v/\(Tup2 (FrW w.heap.size (tp pr qr/tq qr) (Br+6)) (Eqs (.bool true))) v w'/\Below w.heap.size w w':=by
 go_enter Tryz.func88,Tryz.ntmps88
 generalize hA:(Act.mk _ _)=aa;have hn:aa.tmps.size=16:=by rw[<-hA];rfl
 have hd:aa.defers = []:=by rw[<-hA]
 have f0:aa.eval (.tmp 0)=.agg #[.bool nr,.slice ar mr cr,.slice br kr dr]:=by rw[<-hA];rfl
 clear hA;have HB:Below w.heap.size w w:=Below.refl _ _;have Dr:Ag w false br kr dr rt qr:=⟨Sr,Vr⟩;refine wp_seq ?_;refine aay [some 1,some 2,some 3] [Tt,Tt,Eqs ((.bool false))] [⟨R3,some 0,0,1,.agg #[.bool nr,.slice ar mr cr,.slice br kr dr],none,[]⟩,⟨W2,some 1,0,2,.agg #[.bool false,.slice none 0 0],none,[]⟩] [] (by kernel_rfl) hn rfl (by kernel_rfl) (by kernel_rfl) (by kernel_rfl) (by kernel_rfl) (by kernel_rfl) (by kernel_rfl) ⟨True.mono4,True.mono4,Eqs.mono4 _,trivial⟩ (aat R3ok (aat W2ok aa4)) (IsOld.all (bx:=[⟨R3,some 0,0,1,.agg #[.bool nr,.slice ar mr cr,.slice br kr dr],none,[]⟩,⟨W2,some 1,0,2,.agg #[.bool false,.slice none 0 0],none,[]⟩]) ⟨someNe,someNe,trivial⟩) (DisOld.all (bx:=[⟨R3,some 0,0,1,.agg #[.bool nr,.slice ar mr cr,.slice br kr dr],none,[]⟩,⟨W2,some 1,0,2,.agg #[.bool false,.slice none 0 0],none,[]⟩]) ⟨someNe,someNe,trivial⟩) ?_ ?_
 ·exact⟨.alloc 0 _ rfl rfl (.inr ⟨_,rfl,ah4,fun a_ hR=>(hR 0 rfl).trans f0⟩) rfl rfl rfl rfl rfl,.alloc 1 _ rfl rfl (.inl ⟨rfl,rfl⟩) rfl rfl rfl rfl rfl,.norm 3 rfl rfl rfl (fun a_ w_ _ t r R D _ _=>aby rfl),trivial⟩
 ·intro a1 w1 gs1 hn1 hd1 hBt hr hR hP hX hU;replace hn:=hn1;replace hd:=hd1.trans hd;have ne1_2:gs1 0≠gs1 1:=hU 0 1 (by simp) (by simp) (by decide);have b1:BoxV R3 w1 (gs1 0) (.agg #[.bool nr,.slice ar mr cr,.slice br kr dr]):=(hX 0 _ rfl).2.2.2;have f1:=(hX 0 _ rfl).1;have u1:w.heap.size<=gs1 0:=Nat.le_trans HB.size ((hX 0 _ rfl).2.2.1 (by simp));have b2:BoxV W2 w1 (gs1 1) (.agg #[.bool false,.slice none 0 0]):=(hX 1 _ rfl).2.2.2;have f2:=(hX 1 _ rfl).1;have u2:w.heap.size<=gs1 1:=Nat.le_trans HB.size ((hX 1 _ rfl).2.2.1 (by simp));have e3:a1.eval (.tmp 3)=(.bool false):=hP 2 (by decide);have f3:=e3;replace Ar:=Ar.rl hr;replace Sr:=Sr.rl hr;replace Dr:=Dr.rl hr;replace HB:=HB.trans (hBt.below HB.size (UpOld.all (bx:=[⟨R3,some 0,0,1,.agg #[.bool nr,.slice ar mr cr,.slice br kr dr],none,[]⟩,⟨W2,some 1,0,2,.agg #[.bool false,.slice none 0 0],none,[]⟩]) ⟨someNe,someNe,trivial⟩));clear hBt hr hR hP hX hU;refine wp_seq ?_;refine aay [some 7,some 8,some 6,some 9,some 10,some 4,some 5,none,none] [Eqs (.agg #[.bool nr,.slice ar mr cr,.slice br kr dr]),Tup2 (FrW (w.heap.size) ((tp pr qr/tq qr)) ((Br)+6)) (OutW ((tp pr qr%tq qr)) ((Br)+6)),Tup2 (FrW (w.heap.size) ((tp pr qr/tq qr)) ((Br)+6)) (OutW ((tp pr qr%tq qr)) ((Br)+6)),FrW (w.heap.size) ((tp pr qr/tq qr)) ((Br)+6),OutW ((tp pr qr%tq qr)) ((Br)+6),Tt,Tt,Tt,Tt] [⟨W2,some 5,0,4,.agg #[.bool false,.slice none 0 0],some (7,9,3),[]⟩,⟨W2,some 6,0,5,.agg #[.bool false,.slice none 0 0],some (8,10,4),[]⟩] [] (by kernel_rfl) hn rfl (by kernel_rfl) (by kernel_rfl) (by kernel_rfl) (by kernel_rfl) (by kernel_rfl) (by kernel_rfl) ⟨Eqs.mono4 _,Tup2.mono4 (FrW.mono4 _ _ _) (OutW.mono4 _ _),Tup2.mono4 (FrW.mono4 _ _ _) (OutW.mono4 _ _),FrW.mono4 _ _ _,OutW.mono4 _ _,True.mono4,True.mono4,True.mono4,True.mono4,trivial⟩ (aat W2ok (aat W2ok aa4)) (IsOld.all (bx:=[⟨W2,some 5,0,4,.agg #[.bool false,.slice none 0 0],some (7,9,3),[]⟩,⟨W2,some 6,0,5,.agg #[.bool false,.slice none 0 0],some (8,10,4),[]⟩]) ⟨someNe,someNe,trivial⟩) (DisOld.all (bx:=[⟨W2,some 5,0,4,.agg #[.bool false,.slice none 0 0],some (7,9,3),[]⟩,⟨W2,some 6,0,5,.agg #[.bool false,.slice none 0 0],some (8,10,4),[]⟩]) ⟨someNe,someNe,trivial⟩) ?_ ?_
  ·exact⟨.norm 7 rfl rfl rfl (fun a_ w_ _ t r R D _ _=>abe R3ok ((R 1 rfl).trans f1) (b1.keep t ⟨someNe,someNe,trivial⟩)),.norm 8 rfl rfl rfl (fun a_ w_ _ t r R D _ _=>frwlow (Nat.le_trans HB.size r.size) (ape (af2 (show a_.eval (.tmp 7)=.agg #[.bool nr,.slice ar mr cr,.slice br kr dr]from D 0 rfl) (Ar.rl r) (Sr.rl r) Vr Lr Mr) (by omega))),.norm 6 rfl rfl rfl (fun a_ w_ _ t r R D _ _=>ads (p:=Tup2 (FrW (w.heap.size) ((tp pr qr/tq qr)) ((Br)+6)) (OutW ((tp pr qr%tq qr)) ((Br)+6))) (show Tup2 (FrW (w.heap.size) ((tp pr qr/tq qr)) ((Br)+6)) (OutW ((tp pr qr%tq qr)) ((Br)+6)) (a_.eval (.tmp 8)) w_ from D 1 rfl)),.norm 9 rfl rfl rfl (fun a_ w_ _ t r R D _ _=>af0 (show Tup2 (FrW (w.heap.size) ((tp pr qr/tq qr)) ((Br)+6)) (OutW ((tp pr qr%tq qr)) ((Br)+6)) (a_.eval (.tmp 6)) w_ from D 2 rfl)),.norm 10 rfl rfl rfl (fun a_ w_ _ t r R D _ _=>af1 (show Tup2 (FrW (w.heap.size) ((tp pr qr/tq qr)) ((Br)+6)) (OutW ((tp pr qr%tq qr)) ((Br)+6)) (a_.eval (.tmp 6)) w_ from D 2 rfl)),.alloc 0 _ rfl rfl (.inl ⟨rfl,rfl⟩) rfl rfl rfl rfl rfl,.alloc 1 _ rfl rfl (.inl ⟨rfl,rfl⟩) rfl rfl rfl rfl rfl,.store 0 _ _ _ rfl rfl rfl rfl rfl rfl rfl (fun ia h=>by cases h;rfl) rfl rfl rfl FrW.cs,.store 1 _ _ _ rfl rfl rfl rfl rfl rfl rfl (fun ia h=>by cases h;rfl) rfl rfl rfl OutW.cs,trivial⟩
  ·intro a2 w2 gs2 hn2 hd2 hBt hr hR hP hX hU;replace hn:=hn2;replace hd:=hd2.trans hd;have ne2_4:(gs1 1)≠gs2 0:=by have h1:=b2.lt;have h2:=(hX 0 _ rfl).2.2.1 (by simp);omega
   have ne2_5:(gs1 1)≠gs2 1:=by have h1:=b2.lt;have h2:=(hX 1 _ rfl).2.2.1 (by simp);omega
   replace b2:=b2.keep hBt ⟨someNe,someNe,trivial⟩;obtain⟨n_3,a_3,c_3,r_3,B3,T3,e9,F3,fb3,ft3,l3⟩:FrW (w.heap.size) ((tp pr qr/tq qr)) ((Br)+6) (a2.eval (.tmp 9)) w2:=hP 3 (by decide);have G3:=F3.wh;have A3:=G3.ag;have HT3:SzGe T3 w2:=ft3;have b4:BoxV W2 w2 (gs2 0) (.agg #[.bool n_3,.slice a_3 r_3.length c_3]):=acx (hX 0 _ rfl).2.2.2 e9;have f4:=(hX 0 _ rfl).1;have u4:w.heap.size<=gs2 0:=Nat.le_trans HB.size ((hX 0 _ rfl).2.2.1 (by simp));obtain⟨n_4,a_4,c_4,r_4,e10,G4,l4⟩:OutW ((tp pr qr%tq qr)) ((Br)+6) (a2.eval (.tmp 10)) w2:=hP 4 (by decide);have A4:=G4.ag;have b5:BoxV W2 w2 (gs2 1) (.agg #[.bool n_4,.slice a_4 r_4.length c_4]):=acx (hX 1 _ rfl).2.2.2 e10;have f5:=(hX 1 _ rfl).1;have u5:w.heap.size<=gs2 1:=Nat.le_trans HB.size ((hX 1 _ rfl).2.2.1 (by simp));replace f2:=(hR 2 rfl).trans f2;replace f3:=(hR 3 rfl).trans f3;replace Ar:=Ar.rl hr;replace Sr:=Sr.rl hr;replace Dr:=Dr.rl hr;replace HB:=HB.trans (hBt.below HB.size (UpOld.all (bx:=[⟨W2,some 5,0,4,.agg #[.bool false,.slice none 0 0],some (7,9,3),[]⟩,⟨W2,some 6,0,5,.agg #[.bool false,.slice none 0 0],some (8,10,4),[]⟩]) ⟨someNe,someNe,trivial⟩));clear hBt hr hR hP hX hU;refine wp_seq ?_;refine wp_seq ?_;refine aay [some 11,some 12,some 13] [Eqs (.agg #[.bool n_4,.slice a_4 r_4.length c_4]),Eqs (.int .i64 (Int.sign (tp pr qr%tq qr))),Eqs (.bool (!decide ((Int.sign (tp pr qr%tq qr))=0)))] [] [] (by kernel_rfl) hn rfl (by kernel_rfl) (by kernel_rfl) (by kernel_rfl) (by kernel_rfl) (by kernel_rfl) (by kernel_rfl) ⟨Eqs.mono4 _,Eqs.mono4 _,Eqs.mono4 _,trivial⟩ aa4 (IsOld.all (bx:=[]) trivial) (DisOld.all (bx:=[]) trivial) ?_ ?_
   ·exact⟨.norm 11 rfl rfl rfl (fun a_ w_ _ t r R D _ _=>abe W2ok ((R 5 rfl).trans f5) (b5.keep t trivial)),.norm 12 rfl rfl rfl (fun a_ w_ _ t r R D _ _=>ah2 (ade (show a_.eval (.tmp 11)=.agg #[.bool n_4,.slice a_4 r_4.length c_4]from D 0 rfl) (A4.rl r) l4) (by omega)),.norm 13 rfl rfl rfl (fun a_ w_ _ t r R D _ _=>az2 (show a_.eval (.tmp 12)=.int .i64 (Int.sign (tp pr qr%tq qr))from D 1 rfl)),trivial⟩
   ·intro a5 w5 gs5 hn5 hd5 hBt hr hR hP hX hU;replace hn:=hn5;replace hd:=hd5.trans hd;replace b2:=b2.keep hBt trivial;replace b4:=b4.keep hBt trivial;replace f2:=(hR 2 rfl).trans f2;replace f3:=(hR 3 rfl).trans f3;replace f4:=(hR 4 rfl).trans f4;have e13:a5.eval (.tmp 13)=.bool (!decide ((Int.sign (tp pr qr%tq qr))=0)):=hP 2 (by decide);have f13:=e13;replace Ar:=Ar.rl hr;replace Sr:=Sr.rl hr;replace Dr:=Dr.rl hr;replace F3:=F3.rl hr;replace G3:=G3.rl hr;replace A3:=A3.rl hr;replace HT3:=HT3.rl hr;replace G4:=G4.rl hr;replace A4:=A4.rl hr;replace HB:=HB.trans (hBt.below HB.size (UpOld.all (bx:=[]) trivial));clear hBt hr hR hP hX hU;refine wp_cond_split f13 (fun hc13=>?_) (fun hc13=>?_)
    ·skip;exact absurd (al3.2 h0) (by simpa using hc13)
    ·skip;refine wp_skip ?_;refine wp_seq ?_;refine aay [some 15,none,some 3] [Eqs (.agg #[.bool n_3,.slice a_3 r_3.length c_3]),Tt,Eqs ((.bool true))] [⟨W2,none,(gs1 1),2,.agg #[.bool false,.slice none 0 0],some (1,15,0),[]⟩] [] (by kernel_rfl) hn rfl (by kernel_rfl) (by kernel_rfl) (by kernel_rfl) (by kernel_rfl) (by kernel_rfl) (by kernel_rfl) ⟨Eqs.mono4 _,True.mono4,Eqs.mono4 _,trivial⟩ (aat W2ok aa4) (IsOld.all (bx:=[⟨W2,none,(gs1 1),2,.agg #[.bool false,.slice none 0 0],some (1,15,0),[]⟩]) ⟨fun _=>⟨f2,b2⟩,trivial⟩) (DisOld.all (bx:=[⟨W2,none,(gs1 1),2,.agg #[.bool false,.slice none 0 0],some (1,15,0),[]⟩]) ⟨fun _=>trivial,trivial⟩) ?_ ?_
     ·exact⟨.norm 15 rfl rfl rfl (fun a_ w_ _ t r R D _ _=>abe W2ok ((R 4 rfl).trans f4) (b4.keep t ⟨fun _=>ne2_4,trivial⟩)),.store 0 _ _ _ rfl rfl rfl rfl rfl rfl rfl (fun ia h=>by cases h) rfl rfl rfl (ahh agm),.norm 3 rfl rfl rfl (fun a_ w_ _ t r R D _ _=>aby rfl),trivial⟩
     ·intro a6 w6 gs6 hn6 hd6 hBt hr hR hP hX hU;replace hn:=hn6;replace hd:=hd6.trans hd;have e15:a6.eval (.tmp 15)=.agg #[.bool n_3,.slice a_3 r_3.length c_3]:=hP 0 (by decide);have b2:BoxV W2 w6 ((gs1 1)) (.agg #[.bool n_3,.slice a_3 r_3.length c_3]):=ac0 ((hX 0 _ rfl).2.1 rfl) (hX 0 _ rfl).2.2.2 e15;replace f2:a6.eval (.tmp 2)=_:=(hR 2 rfl).trans f2;have e3:a6.eval (.tmp 3)=(.bool true):=hP 2 (by decide);have f3:=e3;replace Ar:=Ar.rl hr;replace Sr:=Sr.rl hr;replace Dr:=Dr.rl hr;replace F3:=F3.rl hr;replace G3:=G3.rl hr;replace A3:=A3.rl hr;replace HT3:=HT3.rl hr;replace G4:=G4.rl hr;replace A4:=A4.rl hr;replace HB:=HB.trans (hBt.below HB.size (UpOld.all (bx:=[⟨W2,none,(gs1 1),2,.agg #[.bool false,.slice none 0 0],some (1,15,0),[]⟩]) ⟨fun _=>u2,trivial⟩));clear hBt hr hR hP hX hU;refine wp_ret ?_;repeat(first|refine ac1 ?_|refine aca ?_|refine act ?_)
      exact bodyPost_ret (v:=.tuple #[.agg #[.bool n_3,.slice a_3 r_3.length c_3],(.bool true)]) (ajv rfl f2 (ah3 b2) f3) hd ⟨_,rfl,⟨_,_,rfl,auw F3 fb3 HT3.le l3 (by omega),rfl⟩,HB⟩
theorem axi(w:World)(Br:Nat)(nr:Bool)(ar:Option Addr)(mr cr:Nat)(rs:List Int)(pr:Int)(Ar:Ag w nr ar mr cr rs pr)(Lr:rs.length<=Br)(br:Option Addr)(kr dr:Nat)(rt:List Int)(qr:Int)(Sr:Sl w (.slice br kr dr) rt)(Vr:val rt=qr)(Mr:rt.length<=Br)(hL:2*(Br+2)<=100000000)(mP mQ:Nat)(hmP:IsLen (((nm (tp pr qr) (tq qr))).natAbs:Int) mP)(hmQ:IsLen (dn (tp pr qr) (tq qr)) mQ):
  Calls Tryz.prog 175 #[.agg #[.bool nr,.slice ar mr cr,.slice br kr dr]] w fun e w'=>∃v,e=.returned v/\(Eqs (.int .i64 ((max mP mQ:Nat):Int))) v w'/\Below w.heap.size w w':=by
 go_enter Tryz.func175,Tryz.ntmps175
 generalize hA:(Act.mk _ _)=aa;have hn:aa.tmps.size=14:=by rw[<-hA];rfl
 have hd:aa.defers = []:=by rw[<-hA]
 have f0:aa.eval (.tmp 0)=.agg #[.bool nr,.slice ar mr cr,.slice br kr dr]:=by rw[<-hA];rfl
 clear hA;have HB:Below w.heap.size w w:=Below.refl _ _;have Dr:Ag w false br kr dr rt qr:=⟨Sr,Vr⟩;refine wp_seq ?_;refine aay [some 1,some 2] [Tt,Eqs ((.int .i64 0))] [⟨R3,some 0,0,1,.agg #[.bool nr,.slice ar mr cr,.slice br kr dr],none,[]⟩] [] (by kernel_rfl) hn rfl (by kernel_rfl) (by kernel_rfl) (by kernel_rfl) (by kernel_rfl) (by kernel_rfl) (by kernel_rfl) ⟨True.mono4,Eqs.mono4 _,trivial⟩ (aat R3ok aa4) (IsOld.all (bx:=[⟨R3,some 0,0,1,.agg #[.bool nr,.slice ar mr cr,.slice br kr dr],none,[]⟩]) ⟨someNe,trivial⟩) (DisOld.all (bx:=[⟨R3,some 0,0,1,.agg #[.bool nr,.slice ar mr cr,.slice br kr dr],none,[]⟩]) ⟨someNe,trivial⟩) ?_ ?_
 ·exact⟨.alloc 0 _ rfl rfl (.inr ⟨_,rfl,ah4,fun a_ hR=>(hR 0 rfl).trans f0⟩) rfl rfl rfl rfl rfl,.norm 2 rfl rfl rfl (fun a_ w_ _ t r R D _ _=>aby rfl),trivial⟩
 ·intro a1 w1 gs1 hn1 hd1 hBt hr hR hP hX hU;replace hn:=hn1;replace hd:=hd1.trans hd;have b1:BoxV R3 w1 (gs1 0) (.agg #[.bool nr,.slice ar mr cr,.slice br kr dr]):=(hX 0 _ rfl).2.2.2;have f1:=(hX 0 _ rfl).1;have u1:w.heap.size<=gs1 0:=Nat.le_trans HB.size ((hX 0 _ rfl).2.2.1 (by simp));have e2:a1.eval (.tmp 2)=(.int .i64 0):=hP 1 (by decide);have f2:=e2;replace Ar:=Ar.rl hr;replace Sr:=Sr.rl hr;replace Dr:=Dr.rl hr;replace HB:=HB.trans (hBt.below HB.size (UpOld.all (bx:=[⟨R3,some 0,0,1,.agg #[.bool nr,.slice ar mr cr,.slice br kr dr],none,[]⟩]) ⟨someNe,trivial⟩));clear hBt hr hR hP hX hU;refine wp_seq ?_;refine aay [some 4,some 5,some 3,none] [Eqs (.agg #[.bool nr,.slice ar mr cr,.slice br kr dr]),OutR ((nm (tp pr qr) (tq qr))) ((dn (tp pr qr) (tq qr))) (2*((Br)+2)),Tt,Tt] [⟨R3,some 2,0,3,.agg #[.bool false,.slice none 0 0,.slice none 0 0],some (3,5,1),[]⟩] [] (by kernel_rfl) hn rfl (by kernel_rfl) (by kernel_rfl) (by kernel_rfl) (by kernel_rfl) (by kernel_rfl) (by kernel_rfl) ⟨Eqs.mono4 _,OutR.mono4 _ _ _,True.mono4,True.mono4,trivial⟩ (aat R3ok aa4) (IsOld.all (bx:=[⟨R3,some 2,0,3,.agg #[.bool false,.slice none 0 0,.slice none 0 0],some (3,5,1),[]⟩]) ⟨someNe,trivial⟩) (DisOld.all (bx:=[⟨R3,some 2,0,3,.agg #[.bool false,.slice none 0 0,.slice none 0 0],some (3,5,1),[]⟩]) ⟨someNe,trivial⟩) ?_ ?_
  ·exact⟨.norm 4 rfl rfl rfl (fun a_ w_ _ t r R D _ _=>abe R3ok ((R 1 rfl).trans f1) (b1.keep t ⟨someNe,trivial⟩)),.norm 5 rfl rfl rfl (fun a_ w_ _ t r R D _ _=>aw6 (af2 (show a_.eval (.tmp 4)=.agg #[.bool nr,.slice ar mr cr,.slice br kr dr]from D 0 rfl) (Ar.rl r) (Sr.rl r) Vr Lr Mr) (by omega)),.alloc 0 _ rfl rfl (.inl ⟨rfl,rfl⟩) rfl rfl rfl rfl rfl,.store 0 _ _ _ rfl rfl rfl rfl rfl rfl rfl (fun ia h=>by cases h;rfl) rfl rfl rfl OutR.cs,trivial⟩
  ·intro a2 w2 gs2 hn2 hd2 hBt hr hR hP hX hU;replace hn:=hn2;replace hd:=hd2.trans hd;obtain⟨n_3,a_3,c_3,r_3,b_3,d_3,s_3,e5,G3,K3,l3,k3⟩:OutR ((nm (tp pr qr) (tq qr))) ((dn (tp pr qr) (tq qr))) (2*((Br)+2)) (a2.eval (.tmp 5)) w2:=hP 1 (by decide);have A3:=G3.ag;have S3:=K3.sl;have V3:=K3.val;have b3:BoxV R3 w2 (gs2 0) (.agg #[.bool n_3,.slice a_3 r_3.length c_3,.slice b_3 s_3.length d_3]):=acx (hX 0 _ rfl).2.2.2 e5;have f3:=(hX 0 _ rfl).1;have u3:w.heap.size<=gs2 0:=Nat.le_trans HB.size ((hX 0 _ rfl).2.2.1 (by simp));replace f2:=(hR 2 rfl).trans f2;replace Ar:=Ar.rl hr;replace Sr:=Sr.rl hr;replace Dr:=Dr.rl hr;replace HB:=HB.trans (hBt.below HB.size (UpOld.all (bx:=[⟨R3,some 2,0,3,.agg #[.bool false,.slice none 0 0,.slice none 0 0],some (3,5,1),[]⟩]) ⟨someNe,trivial⟩));clear hBt hr hR hP hX hU;refine wp_seq ?_;refine aay [some 6,some 7,some 8,some 9,some 10,some 11,some 12,some 13,some 2] [Eqs (.pointer (some ⟨gs2 0,0,none⟩)),Eqs (.pointer (some ⟨gs2 0,1,none⟩)),Eqs (.slice a_3 r_3.length c_3),Eqs (.int .i64 (r_3.length:Int)),Eqs (.pointer (some ⟨gs2 0,2,none⟩)),Eqs (.slice b_3 s_3.length d_3),Eqs (.int .i64 (s_3.length:Int)),Eqs (.int .i64 ((max r_3.length s_3.length:Nat):Int)),Eqs (.int .i64 ((max r_3.length s_3.length:Nat):Int))] [] [] (by kernel_rfl) hn rfl (by kernel_rfl) (by kernel_rfl) (by kernel_rfl) (by kernel_rfl) (by kernel_rfl) (by kernel_rfl) ⟨Eqs.mono4 _,Eqs.mono4 _,Eqs.mono4 _,Eqs.mono4 _,Eqs.mono4 _,Eqs.mono4 _,Eqs.mono4 _,Eqs.mono4 _,Eqs.mono4 _,trivial⟩ aa4 (IsOld.all (bx:=[]) trivial) (DisOld.all (bx:=[]) trivial) ?_ ?_
   ·exact⟨.norm 6 rfl rfl rfl (fun a_ w_ _ t r R D _ _=>amv atr ((R 3 rfl).trans f3)),.norm 7 rfl rfl rfl (fun a_ w_ _ t r R D _ _=>agl ahf (show a_.eval (.tmp 6)=.pointer (some ⟨gs2 0,0,none⟩)from D 0 rfl)),.norm 8 rfl rfl rfl (fun a_ w_ _ t r R D _ _=>auv (show a_.eval (.tmp 7)=.pointer (some ⟨gs2 0,1,none⟩)from D 1 rfl) (b3.keep t trivial)),.norm 9 rfl rfl rfl (fun a_ w_ _ t r R D _ _=>atq (show a_.eval (.tmp 8)=.slice a_3 r_3.length c_3 from D 2 rfl)),.norm 10 rfl rfl rfl (fun a_ w_ _ t r R D _ _=>amv a2b ((R 3 rfl).trans f3)),.norm 11 rfl rfl rfl (fun a_ w_ _ t r R D _ _=>awq (show a_.eval (.tmp 10)=.pointer (some ⟨gs2 0,2,none⟩)from D 4 rfl) (b3.keep t trivial)),.norm 12 rfl rfl rfl (fun a_ w_ _ t r R D _ _=>atq (show a_.eval (.tmp 11)=.slice b_3 s_3.length d_3 from D 5 rfl)),.norm 13 rfl rfl rfl (fun a_ w_ _ t r R D _ _=>a2x (show a_.eval (.tmp 9)=.int .i64 (r_3.length:Int)from D 3 rfl) (show a_.eval (.tmp 12)=.int .i64 (s_3.length:Int)from D 6 rfl)),.norm 2 rfl rfl rfl (fun a_ w_ _ t r R D _ _=>aby (show a_.eval (.tmp 13)=.int .i64 ((max r_3.length s_3.length:Nat):Int)from D 7 rfl)),trivial⟩
   ·intro a4 w4 gs4 hn4 hd4 hBt hr hR hP hX hU;replace hn:=hn4;replace hd:=hd4.trans hd;have e2:a4.eval (.tmp 2)=.int .i64 ((max r_3.length s_3.length:Nat):Int):=hP 8 (by decide);have f2:=e2;replace Ar:=Ar.rl hr;replace Sr:=Sr.rl hr;replace Dr:=Dr.rl hr;replace G3:=G3.rl hr;replace A3:=A3.rl hr;replace K3:=K3.rl hr;replace S3:=S3.rl hr;replace HB:=HB.trans (hBt.below HB.size (UpOld.all (bx:=[]) trivial));clear hBt hr hR hP hX hU;refine wp_ret ?_;repeat(first|refine ac1 ?_|refine aca ?_|refine act ?_)
    have hlp_:=alk ⟨r_3,G3.1.canon,G3.1.val,rfl⟩ hmP;have hlq_:=alk ⟨s_3,K3.canon,K3.val,rfl⟩ hmQ;exact bodyPost_ret (v:=.int .i64 ((max r_3.length s_3.length:Nat):Int)) (aet rfl f2) hd ⟨_,rfl,(by rw[Eqs,hlp_,hlq_]),HB⟩
theorem aeg{ops:Array Oper}{md:Region.Mode}{l:Array Bool}(hd:(ops.toList.zipIdx.all fun p=>p.1.after.all fun e=>!Region.binds md e||decide (e.on<p.2))=true)(hs:l.size=ops.size)(hr:Region.ready md ops l = []):∀j,j<ops.size->l.getD j false=true:=by
 intro j;induction j using Nat.strongRecOn with
 |_ j ih=>
  intro hj;apply Classical.byContradiction;intro hn;have hl:l[j]? = some (l[j]'(by omega)):=Array.getElem?_eq_getElem (by omega);have hf:l[j]'(by omega)=false:=by
   rw[Array.getD_eq_getD_getElem?,hl]at hn;simpa using hn
  have hmem:j∈Region.ready md ops l:=by
   refine mem_ready.2 ⟨by rw[Array.getD_eq_getD_getElem?,hl,hf];rfl,ops[j],Array.getElem?_eq_getElem hj,fun e he hb_=>?_⟩;have h1:=List.all_eq_true.1 hd (ops[j],j) (by
    rw[List.mem_zipIdx_iff_getElem?]
    simp[hj])
   have h2:e.on<j:=by
    have:=Array.all_eq_true_iff_forall_mem.1 h1 e he;simpa[hb_]using this
   exact ih e.on h2 (by omega)
  rw[hr]at hmem;cases hmem
theorem al5{P:Program}{ops:Array Oper}{Q:Exit->Act->World->Prop}{id n:Nat}{a:Act}{w:World}(m:Nat)(Ds:List Nat)(Ps:List Says)(hm:P.follows .mixedOrders=true)(hn:a.tmps.size=n)(hnd:Ds.Nodup)(hlt:(Ds.all fun d=>decide (d<n))=true)
  (hdep:(ops.toList.zipIdx.all fun p=>p.1.after.all fun e=>!Region.binds .any e||decide (e.on<p.2))=true) (hms:m<=ops.size) (hall:((List.range ops.size).all fun i=>decide (i<m)||(List.range i).all fun j=>waits ops ops.size i j)=true) (hM:Monos Ps) (hD:Duties P n Ds Ps a w (ops.toList.take m) Ds Ps)
  (hend:∀a' w',a'.tmps.size=n->a'.defers=a.defers->Below w.heap.size w w'->Rest Ds a a'->(∀j,j<Ds.length->Ps.getD j (fun _ _=>True) (a'.eval (.tmp (Ds.getD j 0))) w')->wpList P ops Q (ops.toList.drop m) a' w'):(Code.region id ops true).wp P Q a w:=by
 obtain⟨hlen,hat⟩:=hD.take hms;have hL:∀k,k<=ops.size->wpOps P ops Q (List.range' k (ops.size-k))=wpList P ops Q (ops.toList.drop k):=fun k hk=>by
  have:=wpOps_eq_wpList (P:=P) (ops:=ops) (Q:=Q) (ops.toList.drop k) k (fun j=>by rw[List.getElem?_drop,Array.getElem?_toList]);rw[<-this];simp
 have hneed:∀i o,ops[i]? = some o->m<=i->∀l:Array Bool,Shut ops l->(∀e∈o.after,Region.binds .any e=true->l.getD e.on false=true)->∀j,j<i->l.getD j false=true:=by
  intro i o ho hi l hc hl j hj;have hio:i<ops.size:=(Array.getElem?_eq_some_iff.1 ho).1;have h1:=List.all_eq_true.1 hall i (List.mem_range.2 hio);simp only[Bool.or_eq_true,decide_eq_true_eq]at h1;rcases h1 with h1|h1
  ·omega
  ·exact acj hc _ i j o ho hl (List.all_eq_true.1 h1 j (List.mem_range.2 hj))
 refine abo hm (fun l a' w'=>(l.size=ops.size/\Shut ops l)/\(((∀j,m<=j->l.getD j false=false)/\Mid n Ds Ps a w (l.extract 0 m) a' w')\/∃j,m<j/\j<=ops.size/\(∀k,k<j->l.getD k false=true)/\(∀k,j<=k->l.getD k false=false)/\wpOps P ops Q (List.range' j (ops.size-j)) a' w')) ?_ ?_ ?_
 ·refine⟨⟨by simp,fun j o _ hj=>?_⟩,.inl ⟨fun j _=>?_,by simp[hlen];omega,hn,rfl,Below.drew (Below.refl _ _),fun _ _=>rfl,fun j hj=>?_⟩⟩
  ·exfalso;simp[Array.getElem?_replicate]at hj;split at hj <;> simp at hj
  ·simp[Array.getElem?_replicate];split <;> simp
  ·exfalso;by_cases hjm:j<m
   ·rw[aah hjm]at hj;simp[Array.getElem?_replicate]at hj;split at hj <;> simp at hj
   ·rw[Array.getD_eq_getD_getElem?,Array.getElem?_eq_none (by simp;omega)]at hj;simp at hj
 ·rintro l a' w' ⟨⟨hs,hcl⟩,hI⟩ hr;have hal:=aeg hdep hs hr;rcases hI with⟨h1,h2,h3,h4,h5,h6,h7⟩|⟨j,hj1,hj2,hj3,hj4,hj5⟩
  ·have hmo:m=ops.size:=by
    apply Classical.byContradiction;intro hne;have:=hal m (by omega);rw[h1 m (Nat.le_refl _)]at this;cases this
   have:=hend a' w' h3 h4 h5 h6 (fun j hj=>h7 j (by rw[aah (by omega)];exact hal j (by omega)));rw[List.drop_eq_nil_of_le (by simp;omega)]at this;exact this
  ·have hje:j=ops.size:=by
    apply Classical.byContradiction;intro hne;have:=hal j (by omega);rw[hj4 j (Nat.le_refl _)]at this;cases this
   subst hje;simpa[wpOps]using hj5
 ·rintro l a' w' ⟨⟨hs,hcl⟩,hI⟩ i hi;obtain⟨hun,o,ho,hdeps⟩:=mem_ready.1 hi;have hio:i<ops.size:=(Array.getElem?_eq_some_iff.1 ho).1;have hset:∀k,k≠i->(l.setIfInBounds i true).getD k false=l.getD k false:=fun k hk=>getD_set_ne false (fun e=>hk e.symm)
  have hseti:(l.setIfInBounds i true).getD i false=true:=by
   rw[Array.getD_eq_getD_getElem?,Array.getElem?_setIfInBounds_self_of_lt (by omega)];rfl
  have hif:l.getD i false=false:=by
   rw[Array.getD_eq_getD_getElem?]at hun ⊢;cases hc:l[i]? with
   |none=>rfl
   |some b=>rw[hc]at hun;simpa using hun
  have hcl':Shut ops (l.setIfInBounds i true):=hcl.set ho hdeps;have hrun:∀j,j=i->wpOps P ops Q (List.range' j (ops.size-j)) a' w'->m<=j->(∀k,k<j->l.getD k false=true)->(∀k,j<=k->l.getD k false=false)->wpOp P ops Q i (fun a' w'=>((l.setIfInBounds i true).size=ops.size/\Shut ops (l.setIfInBounds i true))/\(((∀j,m<=j->(l.setIfInBounds i true).getD j false=false)/\Mid n Ds Ps a w ((l.setIfInBounds i true).extract 0 m) a' w')\/∃j,m<j/\j<=ops.size/\(∀k,k<j->(l.setIfInBounds i true).getD k false=true)/\(∀k,j<=k->(l.setIfInBounds i true).getD k false=false)/\wpOps P ops Q (List.range' j (ops.size-j)) a' w')) a' w':=by
   rintro j rfl hw hmj hlo hhi;rw[show ops.size-j=(ops.size-(j+1))+1 by omega,List.range'_succ,wpOps_cons]at hw;refine wpOp_mono (fun a2 w2 h=>⟨⟨by simpa using hs,hcl'⟩,.inr ⟨j+1,by omega,by omega,fun k hk=>?_,fun k hk=>?_,h⟩⟩) hw
   ·by_cases e:k=j
    ·subst e;exact hseti
    ·rw[hset k e];exact hlo k (by omega)
   ·rw[hset k (by omega)];exact hhi k (by omega)
  rcases hI with⟨h1,hmid⟩|⟨j,hj1,hj2,hj3,hj4,hj5⟩
  ·by_cases him:i<m
   ·have hd':∀e∈o.after,Region.binds .any e=true->(l.extract 0 m).getD e.on false=true:=fun e he hb=>by
     have h2:=List.all_eq_true.1 hdep (o,i) (by rw[List.mem_zipIdx_iff_getElem?];simpa using ho);have h3:e.on<i:=by have h4:=Array.all_eq_true_iff_forall_mem.1 h2 e he;simpa[hb]using h4
     rw[aah (by omega)];exact hdeps e he hb
    refine wpOp_mono (fun a2 w2 h=>⟨⟨by simpa using hs,hcl'⟩,.inl ⟨fun k hk=>?_,?_⟩⟩) (afb hat (by omega) hnd hlt hM ho (by omega) hmid hd')
    ·rw[hset k (by omega)];exact h1 k hk
    ·rw[ack];exact h
   ·have hpre:=hneed i o ho (by omega) l hcl hdeps;have hie:i=m:=by
     apply Classical.byContradiction;intro hne;have:=hpre m (by omega);rw[h1 m (Nat.le_refl _)]at this;cases this
    subst hie;obtain⟨h2,h3,h4,h5,h6,h7⟩:=hmid;have hw:=hend a' w' h3 h4 h5 h6 (fun j hj=>h7 j (by rw[aah (by omega)];exact hpre j (by omega)));rw[<-hL _ hms]at hw;exact hrun i rfl hw (Nat.le_refl _) hpre h1
  ·have hij:i=j:=by
    apply Classical.byContradiction;intro hne;by_cases hlt':i<j
    ·rw[hj3 i hlt']at hif;cases hif
    ·have:=hneed i o ho (by omega) l hcl hdeps j (by omega);rw[hj4 j (Nat.le_refl _)]at this;cases this
   exact hrun j hij.symm hj5 (by omega) hj3 hj4
theorem auy{P:Program}{ops:Array Oper}{Q:Exit->Act->World->Prop}{i j:Nat}{o q:Oper}(ho:ops[i]? = some o)(hq:ops[j]? = some q):wpOps P ops Q [i,j]=wpList P ops Q [o,q]:=by
 funext a w;simp only[wpOps,wpList,ho,hq]
theorem auz{P:Program}{ops:Array Oper}{Q:Exit->Act->World->Prop}{i:Nat}{o:Oper}(ho:ops[i]? = some o):wpOps P ops Q [i]=wpList P ops Q [o]:=by
 funext a w;simp only[wpOps,wpList,ho]
theorem afe{P:Program}{ops:Array Oper}{Q:Exit->Act->World->Prop}{id n:Nat}{a:Act}{w:World}(m u:Nat){om ou:Oper}(Ds:List Nat)(Ps:List Says)(hm:P.follows .mixedOrders=true)(hn:a.tmps.size=n)(hnd:Ds.Nodup)(hlt:(Ds.all fun d=>decide (d<n))=true)
  (hdep:(ops.toList.zipIdx.all fun p=>p.1.after.all fun e=>!Region.binds .any e||decide (e.on<p.2))=true) (hms:ops.size=m+1) (hum:u<m) (hom:ops[m]? = some om) (hou:ops[u]? = some ou) (hall:((List.range m).all fun j=>j==u||waits ops ops.size m j)=true) (hM:Monos Ps) (hD:Duties P n Ds Ps a w (ops.toList.take m) Ds Ps)
  (hend:∀a' w',a'.tmps.size=n->a'.defers=a.defers->Below w.heap.size w w'->Rest Ds a a'->(∀j,j<Ds.length->Ps.getD j (fun _ _=>True) (a'.eval (.tmp (Ds.getD j 0))) w')->wpList P ops Q [om] a' w')
  (hend2:∀a' w',a'.tmps.size=n->a'.defers=a.defers->Below w.heap.size w w'->Rest Ds a a'->(∀j,j<Ds.length->j≠u->Ps.getD j (fun _ _=>True) (a'.eval (.tmp (Ds.getD j 0))) w')->wpList P ops Q [om,ou] a' w'):(Code.region id ops true).wp P Q a w:=by
 obtain⟨hlen,hat⟩:=hD.take (by omega);refine abo hm (fun l a' w'=>(l.size=ops.size/\Shut ops l)/\(((∀j,m<=j->l.getD j false=false)/\Mid n Ds Ps a w (l.extract 0 m) a' w')\/((∀k,k<ops.size->l.getD k false=true)/\Q .normal a' w')\/(l.getD u false=false/\(∀k,k<ops.size->k≠u->l.getD k false=true)/\wpOps P ops Q [u] a' w'))) ?_ ?_ ?_
 ·refine⟨⟨by simp,fun j o _ hj=>?_⟩,.inl ⟨fun j _=>?_,by simp[hlen];omega,hn,rfl,Below.drew (Below.refl _ _),fun _ _=>rfl,fun j hj=>?_⟩⟩
  ·exfalso;simp[Array.getElem?_replicate]at hj;split at hj <;> simp at hj
  ·simp[Array.getElem?_replicate];split <;> simp
  ·exfalso;by_cases hjm:j<m
   ·rw[aah hjm]at hj;simp[Array.getElem?_replicate]at hj;split at hj <;> simp at hj
   ·rw[Array.getD_eq_getD_getElem?,Array.getElem?_eq_none (by simp;omega)]at hj;simp at hj
 ·rintro l a' w' ⟨⟨hs,hcl⟩,hI⟩ hr;have hal:=aeg hdep hs hr;rcases hI with⟨h1,_⟩|⟨_,hq⟩|⟨h1,_,_⟩
  ·have:=hal m (by omega);rw[h1 m (Nat.le_refl _)]at this;cases this
  ·exact hq
  ·have:=hal u (by omega);rw[h1]at this;cases this
 ·rintro l a' w' ⟨⟨hs,hcl⟩,hI⟩ i hi;obtain⟨hun,o,ho,hdeps⟩:=mem_ready.1 hi;have hio:i<ops.size:=(Array.getElem?_eq_some_iff.1 ho).1;have hset:∀k,k≠i->(l.setIfInBounds i true).getD k false=l.getD k false:=fun k hk=>getD_set_ne false (fun e=>hk e.symm)
  have hseti:(l.setIfInBounds i true).getD i false=true:=by
   rw[Array.getD_eq_getD_getElem?,Array.getElem?_setIfInBounds_self_of_lt (by omega)];rfl
  have hif:l.getD i false=false:=by
   rw[Array.getD_eq_getD_getElem?]at hun ⊢;cases hc:l[i]? with
   |none=>rfl
   |some b=>rw[hc]at hun;simpa using hun
  have hcl':Shut ops (l.setIfInBounds i true):=hcl.set ho hdeps;have hs':(l.setIfInBounds i true).size=ops.size:=by simpa using hs
  rcases hI with⟨h1,hmid⟩|⟨h1,_⟩|⟨h1,h2,h3⟩
  ·by_cases him:i<m
   ·have hd':∀e∈o.after,Region.binds .any e=true->(l.extract 0 m).getD e.on false=true:=fun e he hb=>by
     have h2:=List.all_eq_true.1 hdep (o,i) (by rw[List.mem_zipIdx_iff_getElem?];simpa using ho);have h3:e.on<i:=by have h4:=Array.all_eq_true_iff_forall_mem.1 h2 e he;simpa[hb]using h4
     rw[aah (by omega)];exact hdeps e he hb
    refine wpOp_mono (fun a2 w2 h=>⟨⟨hs',hcl'⟩,.inl ⟨fun k hk=>?_,?_⟩⟩) (afb hat (by omega) hnd hlt hM ho (by omega) hmid hd')
    ·rw[hset k (by omega)];exact h1 k hk
    ·rw[ack];exact h
   ·obtain rfl:i=m:=by omega
    have hpre:∀j,j<i->j≠u->l.getD j false=true:=fun j hj hju=>by
     have h2:=List.all_eq_true.1 hall j (List.mem_range.2 hj);simp only[Bool.or_eq_true,beq_iff_eq]at h2;rcases h2 with h2|h2
     ·exact absurd h2 hju
     ·exact acj hcl _ i j o ho hdeps h2
    obtain⟨h2,h3,h4,h5,h6,h7⟩:=hmid;by_cases hu:l.getD u false=true
    ·have hw:=hend a' w' h3 h4 h5 h6 (fun j hj=>h7 j (by
      rw[aah (by omega)];by_cases hju:j=u
      ·rw[hju];exact hu
      ·exact hpre j (by omega) hju))
     rw[<-auz hom,wpOps_cons]at hw;refine wpOp_mono (fun a2 w2 h=>⟨⟨hs',hcl'⟩,.inr (.inl ⟨fun k hk=>?_,by simpa[wpOps]using h⟩)⟩) hw;by_cases hki:k=i
     ·rw[hki];exact hseti
     ·rw[hset k hki];by_cases hku:k=u
      ·rw[hku];exact hu
      ·exact hpre k (by omega) hku
    ·have hw:=hend2 a' w' h3 h4 h5 h6 (fun j hj hju=>h7 j (by rw[aah (by omega)];exact hpre j (by omega) hju));rw[<-auy hom hou,wpOps_cons]at hw;refine wpOp_mono (fun a2 w2 h=>⟨⟨hs',hcl'⟩,.inr (.inr ⟨?_,fun k hk hku=>?_,h⟩)⟩) hw
     ·rw[hset u (by omega)];simpa using hu
     ·by_cases hki:k=i
      ·rw[hki];exact hseti
      ·rw[hset k hki];exact hpre k (by omega) hku
  ·rw[h1 i hio]at hif;cases hif
  ·have hiu:i=u:=by
    apply Classical.byContradiction;intro hne;rw[h2 i hio hne]at hif;cases hif
   subst hiu;rw[wpOps_cons]at h3;refine wpOp_mono (fun a2 w2 h=>⟨⟨hs',hcl'⟩,.inr (.inl ⟨fun k hk=>?_,by simpa[wpOps]using h⟩)⟩) h3;by_cases hki:k=i
   ·rw[hki];exact hseti
   ·rw[hset k hki];exact h2 k hk hki
theorem al6{P:Program}{ops:Array Oper}{Q:Exit->Act->World->Prop}{id n:Nat}{a:Act}{w:World}(m u:Nat){om ou:Oper}(Ds:List Nat)(Ps:List Says)(hm:P.follows .mixedOrders=true)(hn:a.tmps.size=n)(hnd:Ds.Nodup)(hlt:(Ds.all fun d=>decide (d<n))=true)
  (hdep:(ops.toList.zipIdx.all fun p=>p.1.after.all fun e=>!Region.binds .any e||decide (e.on<p.2))=true) (hms:m+1<=ops.size) (hum:u<m) (hom:ops[m]? = some om) (hou:ops[u]? = some ou) (hall:((List.range m).all fun j=>j==u||waits ops ops.size m j)=true) (hall2:((List.range ops.size).all fun i=>decide (i<=m)||(List.range i).all fun j=>waits ops ops.size i j)=true) (hM:Monos Ps) (hD:Duties P n Ds Ps a w (ops.toList.take m) Ds Ps)
  (hend:∀a' w',a'.tmps.size=n->a'.defers=a.defers->Below w.heap.size w w'->Rest Ds a a'->(∀j,j<Ds.length->Ps.getD j (fun _ _=>True) (a'.eval (.tmp (Ds.getD j 0))) w')->wpList P ops Q (ops.toList.drop m) a' w')
  (hend2:∀a' w',a'.tmps.size=n->a'.defers=a.defers->Below w.heap.size w w'->Rest Ds a a'->(∀j,j<Ds.length->j≠u->Ps.getD j (fun _ _=>True) (a'.eval (.tmp (Ds.getD j 0))) w')->wpList P ops Q (om::ou::ops.toList.drop (m+1)) a' w'):(Code.region id ops true).wp P Q a w:=by
 obtain⟨hlen,hat⟩:=hD.take (by omega);have hL:∀k,k<=ops.size->wpOps P ops Q (List.range' k (ops.size-k))=wpList P ops Q (ops.toList.drop k):=fun k hk=>by
  have:=wpOps_eq_wpList (P:=P) (ops:=ops) (Q:=Q) (ops.toList.drop k) k (fun j=>by rw[List.getElem?_drop,Array.getElem?_toList]);rw[<-this];simp
 have h2L:wpOps P ops Q (m::u::List.range' (m+1) (ops.size-(m+1)))=wpList P ops Q (om::ou::ops.toList.drop (m+1)):=by
  funext a w;simp only[wpOps,wpList,hom,hou,hL (m+1) hms]
 have hneed:∀i o,ops[i]? = some o->m<i->∀l:Array Bool,Shut ops l->(∀e∈o.after,Region.binds .any e=true->l.getD e.on false=true)->∀j,j<i->l.getD j false=true:=by
  intro i o ho hi l hc hl j hj;have hio:i<ops.size:=(Array.getElem?_eq_some_iff.1 ho).1;have h1:=List.all_eq_true.1 hall2 i (List.mem_range.2 hio);simp only[Bool.or_eq_true,decide_eq_true_eq]at h1;rcases h1 with h1|h1
  ·omega
  ·exact acj hc _ i j o ho hl (List.all_eq_true.1 h1 j (List.mem_range.2 hj))
 refine abo hm (fun l a' w'=>(l.size=ops.size/\Shut ops l)/\(((∀j,m<=j->l.getD j false=false)/\Mid n Ds Ps a w (l.extract 0 m) a' w')\/(∃j,m<j/\j<=ops.size/\(∀k,k<j->l.getD k false=true)/\(∀k,j<=k->l.getD k false=false)/\wpOps P ops Q (List.range' j (ops.size-j)) a' w')\/(l.getD u false=false/\(∀k,k<=m->k≠u->l.getD k false=true)/\(∀k,m<k->l.getD k false=false)/\wpOps P ops Q (u::List.range' (m+1) (ops.size-(m+1))) a' w'))) ?_ ?_ ?_
 ·refine⟨⟨by simp,fun j o _ hj=>?_⟩,.inl ⟨fun j _=>?_,by simp[hlen];omega,hn,rfl,Below.drew (Below.refl _ _),fun _ _=>rfl,fun j hj=>?_⟩⟩
  ·exfalso;simp[Array.getElem?_replicate]at hj;split at hj <;> simp at hj
  ·simp[Array.getElem?_replicate];split <;> simp
  ·exfalso;by_cases hjm:j<m
   ·rw[aah hjm]at hj;simp[Array.getElem?_replicate]at hj;split at hj <;> simp at hj
   ·rw[Array.getD_eq_getD_getElem?,Array.getElem?_eq_none (by simp;omega)]at hj;simp at hj
 ·rintro l a' w' ⟨⟨hs,hcl⟩,hI⟩ hr;have hal:=aeg hdep hs hr;rcases hI with⟨h1,_⟩|⟨j,hj1,hj2,hj3,hj4,hj5⟩|⟨h1,_⟩
  ·have:=hal m (by omega);rw[h1 m (Nat.le_refl _)]at this;cases this
  ·have hje:j=ops.size:=by
    apply Classical.byContradiction;intro hne;have:=hal j (by omega);rw[hj4 j (Nat.le_refl _)]at this;cases this
   subst hje;simpa[wpOps]using hj5
  ·have:=hal u (by omega);rw[h1]at this;cases this
 ·rintro l a' w' ⟨⟨hs,hcl⟩,hI⟩ i hi;obtain⟨hun,o,ho,hdeps⟩:=mem_ready.1 hi;have hio:i<ops.size:=(Array.getElem?_eq_some_iff.1 ho).1;have hset:∀k,k≠i->(l.setIfInBounds i true).getD k false=l.getD k false:=fun k hk=>getD_set_ne false (fun e=>hk e.symm)
  have hseti:(l.setIfInBounds i true).getD i false=true:=by
   rw[Array.getD_eq_getD_getElem?,Array.getElem?_setIfInBounds_self_of_lt (by omega)];rfl
  have hif:l.getD i false=false:=by
   rw[Array.getD_eq_getD_getElem?]at hun ⊢;cases hc:l[i]? with
   |none=>rfl
   |some b=>rw[hc]at hun;simpa using hun
  have hcl':Shut ops (l.setIfInBounds i true):=hcl.set ho hdeps;have hs':(l.setIfInBounds i true).size=ops.size:=by simpa using hs
  rcases hI with⟨h1,hmid⟩|⟨j,hj1,hj2,hj3,hj4,hj5⟩|⟨h1,h2,h3,h4⟩
  ·by_cases him:i<m
   ·have hd':∀e∈o.after,Region.binds .any e=true->(l.extract 0 m).getD e.on false=true:=fun e he hb=>by
     have h2:=List.all_eq_true.1 hdep (o,i) (by rw[List.mem_zipIdx_iff_getElem?];simpa using ho);have h3:e.on<i:=by have h4:=Array.all_eq_true_iff_forall_mem.1 h2 e he;simpa[hb]using h4
     rw[aah (by omega)];exact hdeps e he hb
    refine wpOp_mono (fun a2 w2 h=>⟨⟨hs',hcl'⟩,.inl ⟨fun k hk=>?_,?_⟩⟩) (afb hat (by omega) hnd hlt hM ho (by omega) hmid hd')
    ·rw[hset k (by omega)];exact h1 k hk
    ·rw[ack];exact h
   ·have him2:i=m:=by
     apply Classical.byContradiction;intro hne;have:=hneed i o ho (by omega) l hcl hdeps m (by omega);rw[h1 m (Nat.le_refl _)]at this;cases this
    subst him2;have hpre:∀j,j<i->j≠u->l.getD j false=true:=fun j hj hju=>by
     have h2:=List.all_eq_true.1 hall j (List.mem_range.2 hj);simp only[Bool.or_eq_true,beq_iff_eq]at h2;rcases h2 with h2|h2
     ·exact absurd h2 hju
     ·exact acj hcl _ i j o ho hdeps h2
    obtain⟨h2,h3,h4,h5,h6,h7⟩:=hmid;by_cases hu:l.getD u false=true
    ·have hw:=hend a' w' h3 h4 h5 h6 (fun j hj=>h7 j (by
      rw[aah (by omega)];by_cases hju:j=u
      ·rw[hju];exact hu
      ·exact hpre j (by omega) hju))
     rw[<-hL _ (by omega),show ops.size-i=(ops.size-(i+1))+1 by omega,List.range'_succ,wpOps_cons]at hw;refine wpOp_mono (fun a2 w2 h=>⟨⟨hs',hcl'⟩,.inr (.inl ⟨i+1,by omega,by omega,fun k hk=>?_,fun k hk=>?_,h⟩)⟩) hw
     ·by_cases e:k=i
      ·subst e;exact hseti
      ·rw[hset k e];by_cases hku:k=u
       ·rw[hku];exact hu
       ·exact hpre k (by omega) hku
     ·rw[hset k (by omega)];exact h1 k (by omega)
    ·have hw:=hend2 a' w' h3 h4 h5 h6 (fun j hj hju=>h7 j (by rw[aah (by omega)];exact hpre j (by omega) hju));rw[<-h2L,wpOps_cons]at hw;refine wpOp_mono (fun a2 w2 h=>⟨⟨hs',hcl'⟩,.inr (.inr ⟨?_,fun k hk hku=>?_,fun k hk=>?_,h⟩)⟩) hw
     ·rw[hset u (by omega)];simpa using hu
     ·by_cases hki:k=i
      ·rw[hki];exact hseti
      ·rw[hset k hki];exact hpre k (by omega) hku
     ·rw[hset k (by omega)];exact h1 k (by omega)
  ·have hij:i=j:=by
    apply Classical.byContradiction;intro hne;by_cases hlt':i<j
    ·rw[hj3 i hlt']at hif;cases hif
    ·have:=hneed i o ho (by omega) l hcl hdeps j (by omega);rw[hj4 j (Nat.le_refl _)]at this;cases this
   subst hij;rw[show ops.size-i=(ops.size-(i+1))+1 by omega,List.range'_succ,wpOps_cons]at hj5;refine wpOp_mono (fun a2 w2 h=>⟨⟨hs',hcl'⟩,.inr (.inl ⟨i+1,by omega,by omega,fun k hk=>?_,fun k hk=>?_,h⟩)⟩) hj5
   ·by_cases e:k=i
    ·subst e;exact hseti
    ·rw[hset k e];exact hj3 k (by omega)
   ·rw[hset k (by omega)];exact hj4 k (by omega)
  ·have hiu:i=u:=by
    apply Classical.byContradiction;intro hne;by_cases him:i<=m
    ·rw[h2 i him hne]at hif;cases hif
    ·have:=hneed i o ho (by omega) l hcl hdeps u (by omega);rw[h1]at this;cases this
   subst hiu;rw[wpOps_cons]at h4;refine wpOp_mono (fun a2 w2 h=>⟨⟨hs',hcl'⟩,.inr (.inl ⟨m+1,by omega,by omega,fun k hk=>?_,fun k hk=>?_,h⟩)⟩) h4
   ·by_cases e:k=i
    ·subst e;exact hseti
    ·rw[hset k e];exact h2 k (by omega) e
   ·rw[hset k (by omega)];exact h3 k (by omega)
theorem IsQ.ru{r:Rat}{L:Nat}{v:Value}{w w':World}(h:IsQ r L v w)(hr:Ru w w'):IsQ r L v w':=by
 obtain⟨p,q,h1,h2⟩:=h;exact⟨p,q,IsR.mono5 p q L _ _ _ hr h1,h2⟩
theorem OutQr.ru{r:Rat}{L:Nat}{v:Value}{w w':World}(h:OutQr r L v w)(hr:Ru w w'):OutQr r L v w':=OutR.mono5 _ _ L _ _ _ hr h
def ov(x y:Int):Int:=sg (decide (x<0) != decide (y<0)) ((x.natAbs:Int)/(y.natAbs:Int))
section
end
def DutiesX(P:Program)(n:Nat)(Ds:List Nat)(Ps:List Says)(a0:Act)(w0:World)(x:Nat):Nat->List Oper->Prop
 |_,[]=>True
 |i,o::os=>((i==x)=true\/(o.guard=none/\Duty P n Ds Ps a0 w0 o (Ds.getD i 0) (Ps.getD i fun _ _=>True)))/\DutiesX P n Ds Ps a0 w0 x (i+1) os
theorem DutiesX.at{P:Program}{n:Nat}{Ds:List Nat}{Ps:List Says}{a0:Act}{w0:World}{x:Nat}: ∀ {os:List Oper} {m:Nat},DutiesX P n Ds Ps a0 w0 x m os->∀i o,os[i]? = some o->m+i≠x->o.guard=none/\Duty P n Ds Ps a0 w0 o (Ds.getD (m+i) 0) (Ps.getD (m+i) fun _ _=>True)
 | [],_,_=>fun i o h=>by simp at h
 |o::os,m,h=>fun i o' ho hne=>by
  obtain⟨h1,h2⟩:=h;cases i with
  |zero=>
   simp only[List.getElem?_cons_zero,Option.some.injEq]at ho;subst ho;rcases h1 with h1|h1
   ·simp at h1;exact absurd h1 (by simpa using hne)
   ·simpa using h1
  |succ i=>
   have:=DutiesX.at h2 i o' (by simpa using ho) (by omega);rwa[show m+1+i=m+(i+1) by omega]at this
theorem au0{P:Program}{ops:Array Oper}{Q:Exit->Act->World->Prop}{n:Nat}{Ds:List Nat}{Ps:List Says}{a0:Act}{w0:World}{l:Array Bool}{a:Act}{w:World}{i:Nat}{o:Oper}(hd:o.guard=none/\Duty P n Ds Ps a0 w0 o (Ds.getD i 0) (Ps.getD i fun _ _=>True))(hnd:Ds.Nodup)(hlt:(Ds.all fun d=>decide (d<n))=true)(hM:Monos Ps)(ho:ops[i]? = some o)(hil:i<Ds.length)(h:Mid n Ds Ps a0 w0 l a w)(hdeps:∀e∈o.after,Region.binds .any e=true->l.getD e.on false=true):
  wpOp P ops Q i (fun a' w'=>Mid n Ds Ps a0 w0 (l.setIfInBounds i true) a' w') a w:=by
 have h':=h;obtain⟨h1,h2,h3,h4,h5,h6⟩:=h;obtain⟨hg,hdst,hduty⟩:=hd;have hduty:=hduty a w h2 h4 h5 (fun j hj=>by
  obtain⟨e,he,hj⟩:=List.any_eq_true.1 hj;simp only[Bool.and_eq_true,beq_iff_eq]at hj;obtain⟨rfl,hb⟩:=hj
  exact h6 _ (hdeps e (by simpa using he) hb))
 refine wpOp_step ho (fun K' hK=>?_);rw[hg]at hduty;simp only[Region.wanted,hg,if_true];exact Does.wp hduty (fun v w' ⟨hb,hp⟩=>by rw[hdst];exact hK _ _ (h'.put hil hnd hlt hM hb hp))
theorem apf{P:Program}{ops:Array Oper}{Q:Exit->Act->World->Prop}{id n:Nat}{a:Act}{w:World}(m:Nat){om:Oper}(Ds:List Nat)(Ps:List Says)(hm:P.follows .mixedOrders=true)(hn:a.tmps.size=n)(hnd:Ds.Nodup)(hlt:(Ds.all fun d=>decide (d<n))=true)(hdl:Ds.length=m+2)
  (hdep:(ops.toList.zipIdx.all fun p=>p.1.after.all fun e=>!Region.binds .any e||decide (e.on<p.2))=true) (hms:m+2<=ops.size) (hom:ops[m]? = some om) (hall:((List.range ops.size).all fun i=>decide (i<m)||i==m+1||(List.range i).all fun j=>waits ops ops.size i j)=true) (hM:Monos Ps) (hD:DutiesX P n Ds Ps a w m 0 (ops.toList.take (m+2)))
  (hend:∀a' w',a'.tmps.size=n->a'.defers=a.defers->Below w.heap.size w w'->Rest Ds a a'->(∀j,j<m->Ps.getD j (fun _ _=>True) (a'.eval (.tmp (Ds.getD j 0))) w')->wpList P ops Q (ops.toList.drop m) a' w')
  (hend2:∀a' w',a'.tmps.size=n->a'.defers=a.defers->Below w.heap.size w w'->Rest Ds a a'->(∀j,j<m+2->j≠m->Ps.getD j (fun _ _=>True) (a'.eval (.tmp (Ds.getD j 0))) w')->wpList P ops Q (om::ops.toList.drop (m+2)) a' w'):(Code.region id ops true).wp P Q a w:=by
 have hat:∀i o,ops[i]? = some o->i<m+2->i≠m->o.guard=none/\Duty P n Ds Ps a w o (Ds.getD i 0) (Ps.getD i fun _ _=>True):=fun i o ho hi hne=>by
  have:=hD.at i o (by rw[List.getElem?_take_of_lt hi,Array.getElem?_toList];exact ho) (by omega);simpa using this
 have hL:∀k,k<=ops.size->wpOps P ops Q (List.range' k (ops.size-k))=wpList P ops Q (ops.toList.drop k):=fun k hk=>by
  have:=wpOps_eq_wpList (P:=P) (ops:=ops) (Q:=Q) (ops.toList.drop k) k (fun j=>by rw[List.getElem?_drop,Array.getElem?_toList]);rw[<-this];simp
 have h2L:wpOps P ops Q (m::List.range' (m+2) (ops.size-(m+2)))=wpList P ops Q (om::ops.toList.drop (m+2)):=by
  funext a w;simp only[wpOps,wpList,hom,hL (m+2) hms]
 have hneed:∀i o,ops[i]? = some o->m<=i->i≠m+1->∀l:Array Bool,Shut ops l->(∀e∈o.after,Region.binds .any e=true->l.getD e.on false=true)->∀j,j<i->waits ops ops.size i j=true->l.getD j false=true:=by
  intro i o ho hi hne l hc hl j hj hw;exact acj hc _ i j o ho hl hw
 have hw1:∀i,i<ops.size->m<=i->i≠m+1->∀j,j<i->waits ops ops.size i j=true:=fun i hio hi hne j hj=>by
  have h1:=List.all_eq_true.1 hall i (List.mem_range.2 hio);simp only[Bool.or_eq_true,decide_eq_true_eq,beq_iff_eq]at h1;rcases h1 with(h1|h1)|h1
  ·omega
  ·omega
  ·exact List.all_eq_true.1 h1 j (List.mem_range.2 hj)
 refine abo hm (fun l a' w'=>(l.size=ops.size/\Shut ops l)/\((l.getD m false=false/\(∀j,m+2<=j->l.getD j false=false)/\Mid n Ds Ps a w (l.extract 0 (m+2)) a' w')\/(∃j,m<j/\j<=ops.size/\(∀k,k<j->l.getD k false=true)/\(∀k,j<=k->l.getD k false=false)/\wpOps P ops Q (List.range' j (ops.size-j)) a' w'))) ?_ ?_ ?_
 ·have hz:∀j,(Array.replicate ops.size false).getD j false=false:=fun j=>by
   simp[Array.getElem?_replicate];split <;> simp
  refine⟨⟨by simp,fun j o _ hj=>?_⟩,.inl ⟨hz m,fun j _=>hz j,by simp[hdl];omega,hn,rfl,Below.drew (Below.refl _ _),fun _ _=>rfl,fun j hj=>?_⟩⟩
  ·rw[hz]at hj;cases hj
  ·exfalso;by_cases hjm:j<m+2
   ·rw[aah hjm,hz]at hj;cases hj
   ·rw[Array.getD_eq_getD_getElem?,Array.getElem?_eq_none (by simp;omega)]at hj;simp at hj
 ·rintro l a' w' ⟨⟨hs,hcl⟩,hI⟩ hr;have hal:=aeg hdep hs hr;rcases hI with⟨h1,_⟩|⟨j,hj1,hj2,hj3,hj4,hj5⟩
  ·have:=hal m (by omega);rw[h1]at this;cases this
  ·have hje:j=ops.size:=by
    apply Classical.byContradiction;intro hne;have:=hal j (by omega);rw[hj4 j (Nat.le_refl _)]at this;cases this
   subst hje;simpa[wpOps]using hj5
 ·rintro l a' w' ⟨⟨hs,hcl⟩,hI⟩ i hi;obtain⟨hun,o,ho,hdeps⟩:=mem_ready.1 hi;have hio:i<ops.size:=(Array.getElem?_eq_some_iff.1 ho).1;have hset:∀k,k≠i->(l.setIfInBounds i true).getD k false=l.getD k false:=fun k hk=>getD_set_ne false (fun e=>hk e.symm)
  have hseti:(l.setIfInBounds i true).getD i false=true:=by
   rw[Array.getD_eq_getD_getElem?,Array.getElem?_setIfInBounds_self_of_lt (by omega)];rfl
  have hif:l.getD i false=false:=by
   rw[Array.getD_eq_getD_getElem?]at hun ⊢;cases hc:l[i]? with
   |none=>rfl
   |some b=>rw[hc]at hun;simpa using hun
  have hcl':Shut ops (l.setIfInBounds i true):=hcl.set ho hdeps;have hs':(l.setIfInBounds i true).size=ops.size:=by simpa using hs
  rcases hI with⟨h0,h1,hmid⟩|⟨j,hj1,hj2,hj3,hj4,hj5⟩
  ·by_cases him:i=m
   ·subst him;have hpre:∀j,j<i->l.getD j false=true:=fun j hj=>hneed i o ho (Nat.le_refl _) (by omega) l hcl hdeps j hj (hw1 i hio (Nat.le_refl _) (by omega) j hj)
    obtain⟨h2,h3,h4,h5,h6,h7⟩:=hmid;by_cases hu:l.getD (i+1) false=true
    ·have hw:=hend2 a' w' h3 h4 h5 h6 (fun j hj hjm=>h7 j (by
      rw[aah hj];by_cases hju:j=i+1
      ·rw[hju];exact hu
      ·exact hpre j (by omega)))
     rw[<-h2L,wpOps_cons]at hw;refine wpOp_mono (fun a2 w2 h=>⟨⟨hs',hcl'⟩,.inr ⟨i+2,by omega,by omega,fun k hk=>?_,fun k hk=>?_,h⟩⟩) hw
     ·by_cases e:k=i
      ·subst e;exact hseti
      ·rw[hset k e];by_cases hku:k=i+1
       ·rw[hku];exact hu
       ·exact hpre k (by omega)
     ·rw[hset k (by omega)];exact h1 k (by omega)
    ·have hw:=hend a' w' h3 h4 h5 h6 (fun j hj=>h7 j (by rw[aah (by omega)];exact hpre j hj));rw[<-hL _ (by omega),show ops.size-i=(ops.size-(i+1))+1 by omega,List.range'_succ,wpOps_cons]at hw;refine wpOp_mono (fun a2 w2 h=>⟨⟨hs',hcl'⟩,.inr ⟨i+1,by omega,by omega,fun k hk=>?_,fun k hk=>?_,h⟩⟩) hw
     ·by_cases e:k=i
      ·subst e;exact hseti
      ·rw[hset k e];exact hpre k (by omega)
     ·rw[hset k (by omega)];by_cases hku:k=i+1
      ·rw[hku];simpa using hu
      ·exact h1 k (by omega)
   ·by_cases hilt:i<m+2
    ·have hd':∀e∈o.after,Region.binds .any e=true->(l.extract 0 (m+2)).getD e.on false=true:=fun e he hb=>by
      have h2:=List.all_eq_true.1 hdep (o,i) (by rw[List.mem_zipIdx_iff_getElem?];simpa using ho);have h3:e.on<i:=by have h4:=Array.all_eq_true_iff_forall_mem.1 h2 e he;simpa[hb]using h4
      rw[aah (by omega)];exact hdeps e he hb
     refine wpOp_mono (fun a2 w2 h=>⟨⟨hs',hcl'⟩,.inl ⟨?_,fun k hk=>?_,?_⟩⟩) (au0 (hat i o ho hilt him) hnd hlt hM ho (by omega) hmid hd')
     ·rw[hset m (fun e=>him e.symm)];exact h0
     ·rw[hset k (by omega)];exact h1 k hk
     ·rw[ack];exact h
    ·have:=hneed i o ho (by omega) (by omega) l hcl hdeps m (by omega) (hw1 i hio (by omega) (by omega) m (by omega));rw[h0]at this;cases this
  ·have hij:i=j:=by
    apply Classical.byContradiction;intro hne;by_cases hlt':i<j
    ·rw[hj3 i hlt']at hif;cases hif
    ·have:=hneed i o ho (by omega) (by omega) l hcl hdeps j (by omega) (hw1 i hio (by omega) (by omega) j (by omega));rw[hj4 j (Nat.le_refl _)]at this;cases this
   subst hij;rw[show ops.size-i=(ops.size-(i+1))+1 by omega,List.range'_succ,wpOps_cons]at hj5;refine wpOp_mono (fun a2 w2 h=>⟨⟨hs',hcl'⟩,.inr ⟨i+1,by omega,by omega,fun k hk=>?_,fun k hk=>?_,h⟩⟩) hj5
   ·by_cases e:k=i
    ·subst e;exact hseti
    ·rw[hset k e];exact hj3 k (by omega)
   ·rw[hset k (by omega)];exact hj4 k (by omega)
end Lm
end Go.Proofs.YtjogfjgkabjcfaaGreat
