/-
  What the text behind the last one leans on, part 4.
-/
import Derived.Deep.DeepCutAuto
import Derived.Test.YtooefpkhacecnaaGreatDoorXDLawZ3
set_option maxRecDepth 20000
set_option maxHeartbeats 40000000
namespace Go.Proofs.YtooefpkhacecnaaGreatDoor
namespace Lm
open Go Go.RowKit
section
variable {dst:Option Tmp} {ty:TypeId} {pos:String} {after:Array Edge} {guard:Option (Nat×Bool)} {a:Act} {w:World} {ats:Array TypeId} {i j:Nat}
theorem aoc:Has Tryz.prog 129:=by unfold Has;kernel_rfl
theorem af1{s:ByteArray}{R:Int}{K:Nat}(h:a.eval (.tmp i)=.string s)(hT:Tabs w)(hd:(((Lib.decodeGo s).1:Nat):Int)=R/\(Lib.decodeGo s).2=K):
  Does Tryz.prog {dst,op:=.call {callee:=.value (.func 129),args:=#[.tmp i],argTypes:=ats},type:=ty,pos,after,guard} a.eval w fun v w'=>Below w.heap.size w w'/\Tup2 (Eqs (.int .i32 R)) (Eqs (.int .i64 (K:Int))) v w':=by
 refine abd aoc _ (by simp only[List.map_toArray,List.map_cons,List.map_nil,h]) ((ah5 w s hT).mono ?_);rintro e w' ⟨rfl,hb⟩;obtain⟨rfl,rfl⟩:=hd;exact⟨_,rfl,hb,_,_,rfl,rfl,rfl⟩
end
theorem au7(w:World)(s:ByteArray)(hT:Tabs w):
  Calls Tryz.prog 195 #[.string s] w fun e w'=>e=.returned (.tuple #[.bool (msplit s).1,.string (msplit s).2])/\Below w.heap.size w w':=by
 rcases alt s with⟨⟨hd0,h3⟩,hm⟩|⟨⟨hd0,h3⟩,hm⟩|⟨⟨hn1',hn2',_,_⟩,hm⟩
 ·skip;go_enter Tryz.func195,Tryz.ntmps195
  generalize hA:(Act.mk _ _)=aa;have hn:aa.tmps.size=19:=by rw[<-hA];rfl
  have hd:aa.defers = []:=by rw[<-hA]
  have f0:aa.eval (.tmp 0)=.string s:=by rw[<-hA];rfl
  clear hA;have HB:Below w.heap.size w w:=Below.refl _ _;refine wp_seq ?_;refine aam [some 2,some 3] [Eqs ((.bool false)),Eqs ((.string ⟨#[]⟩))] [] [] (by kernel_rfl) hn rfl (by kernel_rfl) (by kernel_rfl) (by kernel_rfl) (by kernel_rfl) (by kernel_rfl) (by kernel_rfl) ⟨Eqs.mono4 _,Eqs.mono4 _,trivial⟩ aas (IsOld.all (bx:=[]) trivial) (DisOld.all (bx:=[]) trivial) ?_ ?_
  ·exact⟨.norm 2 rfl rfl rfl (fun a_ w_ hn_ hBt hr hR hD hO hS=>aae rfl),
    .norm 3 rfl rfl rfl (fun a_ w_ hn_ hBt hr hR hD hO hS=>aae rfl),
    trivial⟩
  intro a1 w1 gs1 hn1 hd1 hBt hr hR hP hX hU;replace hn:=hn1;replace hd:=hd1.trans hd;replace f0:=(hR 0 rfl).trans f0;have e2:a1.eval (.tmp 2)=(.bool false):=hP 0 (by decide);have f2:=e2;have e3:a1.eval (.tmp 3)=(.string ⟨#[]⟩):=hP 1 (by decide);have f3:=e3;replace HB:=HB.trans (hBt.below HB.size (UpOld.all (bx:=[]) trivial));clear hBt hr hR hP hX hU;refine wp_seq ?_;refine aam [some 7,some 8,some 6,some 9,some 10,some 4,some 5] [Eqs (.string s),Tup2 (Eqs (.int .i32 8722)) (Eqs (.int .i64 (3:Int))),Tup2 (Eqs (.int .i32 8722)) (Eqs (.int .i64 (3:Int))),Eqs (.int .i32 8722),Eqs (.int .i64 (3:Int)),Eqs (.int .i32 8722),Eqs (.int .i64 (3:Int))] [] [] (by kernel_rfl) hn rfl (by kernel_rfl) (by kernel_rfl) (by kernel_rfl) (by kernel_rfl) (by kernel_rfl) (by kernel_rfl) ⟨Eqs.mono4 _,Tup2.mono4 (Eqs.mono4 _) (Eqs.mono4 _),Tup2.mono4 (Eqs.mono4 _) (Eqs.mono4 _),Eqs.mono4 _,Eqs.mono4 _,Eqs.mono4 _,Eqs.mono4 _,trivial⟩ aas (IsOld.all (bx:=[]) trivial) (DisOld.all (bx:=[]) trivial) ?_ ?_
  ·exact⟨.norm 7 rfl rfl rfl (fun a_ w_ hn_ hBt hr hR hD hO hS=>aa1 ((hR 0 rfl).trans f0)),
    .norm 8 rfl rfl rfl (fun a_ w_ hn_ hBt hr hR hD hO hS=>af1 (show a_.eval (.tmp 7)=.string s from hD 0 rfl) (hT.below (HB.trans (hBt.below HB.size (UpOld.all (bx:=[]) trivial)))) ⟨by rw[hd0];rfl,by rw[hd0]⟩),
    .norm 6 rfl rfl rfl (fun a_ w_ hn_ hBt hr hR hD hO hS=>afu (p:=Tup2 (Eqs (.int .i32 8722)) (Eqs (.int .i64 (3:Int)))) (show Tup2 (Eqs (.int .i32 8722)) (Eqs (.int .i64 (3:Int))) (a_.eval (.tmp 8)) w_ from hD 1 rfl)),
    .norm 9 rfl rfl rfl (fun a_ w_ hn_ hBt hr hR hD hO hS=>aer (show Tup2 (Eqs (.int .i32 8722)) (Eqs (.int .i64 (3:Int))) (a_.eval (.tmp 6)) w_ from hD 2 rfl)),
    .norm 10 rfl rfl rfl (fun a_ w_ hn_ hBt hr hR hD hO hS=>aes (show Tup2 (Eqs (.int .i32 8722)) (Eqs (.int .i64 (3:Int))) (a_.eval (.tmp 6)) w_ from hD 2 rfl)),
    .norm 4 rfl rfl rfl (fun a_ w_ hn_ hBt hr hR hD hO hS=>aae (show a_.eval (.tmp 9)=.int .i32 8722 from hD 3 rfl)),
    .norm 5 rfl rfl rfl (fun a_ w_ hn_ hBt hr hR hD hO hS=>aae (show a_.eval (.tmp 10)=.int .i64 (3:Int)from hD 4 rfl)),
    trivial⟩
  intro a2 w2 gs2 hn2 hd2 hBt hr hR hP hX hU;replace hn:=hn2;replace hd:=hd2.trans hd;replace f0:=(hR 0 rfl).trans f0;replace f2:=(hR 2 rfl).trans f2;replace f3:=(hR 3 rfl).trans f3;have e4:a2.eval (.tmp 4)=.int .i32 8722:=hP 5 (by decide);have f4:=e4;have e5:a2.eval (.tmp 5)=.int .i64 (3:Int):=hP 6 (by decide);have f5:=e5;replace HB:=HB.trans (hBt.below HB.size (UpOld.all (bx:=[]) trivial));clear hBt hr hR hP hX hU;refine wp_seq ?_;refine wp_seq ?_;refine aam [some 11] [Eqs (.int .i32 8722)] [] [] (by kernel_rfl) hn rfl (by kernel_rfl) (by kernel_rfl) (by kernel_rfl) (by kernel_rfl) (by kernel_rfl) (by kernel_rfl) ⟨Eqs.mono4 _,trivial⟩ aas (IsOld.all (bx:=[]) trivial) (DisOld.all (bx:=[]) trivial) ?_ ?_
  ·exact⟨.norm 11 rfl rfl rfl (fun a_ w_ hn_ hBt hr hR hD hO hS=>aa1 ((hR 4 rfl).trans f4)),
    trivial⟩
  intro a3 w3 gs3 hn3 hd3 hBt hr hR hP hX hU;replace hn:=hn3;replace hd:=hd3.trans hd;replace f0:=(hR 0 rfl).trans f0;replace f2:=(hR 2 rfl).trans f2;replace f3:=(hR 3 rfl).trans f3;replace f5:=(hR 5 rfl).trans f5;have e11:a3.eval (.tmp 11)=.int .i32 8722:=hP 0 (by decide);have f11:=e11;replace HB:=HB.trans (hBt.below HB.size (UpOld.all (bx:=[]) trivial));clear hBt hr hR hP hX hU;refine wp_block ?_;refine wp_seq ?_;refine wp_seq ?_;refine aam [some 13,some 12] [Eqs (.bool false),Eqs (.bool false)] [] [] (by kernel_rfl) hn rfl (by kernel_rfl) (by kernel_rfl) (by kernel_rfl) (by kernel_rfl) (by kernel_rfl) (by kernel_rfl) ⟨Eqs.mono4 _,Eqs.mono4 _,trivial⟩ aas (IsOld.all (bx:=[]) trivial) (DisOld.all (bx:=[]) trivial) ?_ ?_
  ·exact⟨.norm 13 rfl rfl rfl (fun a_ w_ hn_ hBt hr hR hD hO hS=>af0 ((hR 11 rfl).trans f11) (by decide)),
    .norm 12 rfl rfl rfl (fun a_ w_ hn_ hBt hr hR hD hO hS=>aae (show a_.eval (.tmp 13)=.bool false from hD 0 rfl)),
    trivial⟩
  intro a4 w4 gs4 hn4 hd4 hBt hr hR hP hX hU;replace hn:=hn4;replace hd:=hd4.trans hd;replace f0:=(hR 0 rfl).trans f0;replace f2:=(hR 2 rfl).trans f2;replace f3:=(hR 3 rfl).trans f3;replace f5:=(hR 5 rfl).trans f5;replace f11:=(hR 11 rfl).trans f11;have e12:a4.eval (.tmp 12)=.bool false:=hP 1 (by decide);have f12:=e12;replace HB:=HB.trans (hBt.below HB.size (UpOld.all (bx:=[]) trivial));clear hBt hr hR hP hX hU;refine wp_cond_false f12 ?_;refine aam [some 14,some 12] [Eqs (.bool true),Eqs (.bool true)] [] [] (by kernel_rfl) hn rfl (by kernel_rfl) (by kernel_rfl) (by kernel_rfl) (by kernel_rfl) (by kernel_rfl) (by kernel_rfl) ⟨Eqs.mono4 _,Eqs.mono4 _,trivial⟩ aas (IsOld.all (bx:=[]) trivial) (DisOld.all (bx:=[]) trivial) ?_ ?_
  ·exact⟨.norm 14 rfl rfl rfl (fun a_ w_ hn_ hBt hr hR hD hO hS=>ai9 ((hR 11 rfl).trans f11) rfl),
    .norm 12 rfl rfl rfl (fun a_ w_ hn_ hBt hr hR hD hO hS=>aae (show a_.eval (.tmp 14)=.bool true from hD 0 rfl)),
    trivial⟩
  intro a5 w5 gs5 hn5 hd5 hBt hr hR hP hX hU;replace hn:=hn5;replace hd:=hd5.trans hd;replace f0:=(hR 0 rfl).trans f0;replace f2:=(hR 2 rfl).trans f2;replace f3:=(hR 3 rfl).trans f3;replace f5:=(hR 5 rfl).trans f5;have e12:a5.eval (.tmp 12)=.bool true:=hP 1 (by decide);have f12:=e12;replace HB:=HB.trans (hBt.below HB.size (UpOld.all (bx:=[]) trivial));clear hBt hr hR hP hX hU;refine wp_cond_true f12 ?_;refine wp_seq ?_;refine aam [some 15,some 16,some 17,some 2,some 3] [Eqs (.string s),Eqs (.int .i64 (3:Int)),Eqs (.string ((s).extract 3 (s).size)),Eqs ((.bool true)),Eqs (.string ((s).extract 3 (s).size))] [] [] (by kernel_rfl) hn rfl (by kernel_rfl) (by kernel_rfl) (by kernel_rfl) (by kernel_rfl) (by kernel_rfl) (by kernel_rfl) ⟨Eqs.mono4 _,Eqs.mono4 _,Eqs.mono4 _,Eqs.mono4 _,Eqs.mono4 _,trivial⟩ aas (IsOld.all (bx:=[]) trivial) (DisOld.all (bx:=[]) trivial) ?_ ?_
  ·exact⟨.norm 15 rfl rfl rfl (fun a_ w_ hn_ hBt hr hR hD hO hS=>aa1 ((hR 0 rfl).trans f0)),
    .norm 16 rfl rfl rfl (fun a_ w_ hn_ hBt hr hR hD hO hS=>aa1 ((hR 5 rfl).trans f5)),
    .norm 17 rfl rfl rfl (fun a_ w_ hn_ hBt hr hR hD hO hS=>amq (k:=3) (show a_.eval (.tmp 15)=.string s from hD 0 rfl) (show a_.eval (.tmp 16)=.int .i64 (3:Int)from hD 1 rfl) (by omega)),
    .norm 2 rfl rfl rfl (fun a_ w_ hn_ hBt hr hR hD hO hS=>aae rfl),
    .norm 3 rfl rfl rfl (fun a_ w_ hn_ hBt hr hR hD hO hS=>aae (show a_.eval (.tmp 17)=.string ((s).extract 3 (s).size)from hD 2 rfl)),
    trivial⟩
  intro a6 w6 gs6 hn6 hd6 hBt hr hR hP hX hU;replace hn:=hn6;replace hd:=hd6.trans hd;replace f0:=(hR 0 rfl).trans f0;have e2:a6.eval (.tmp 2)=(.bool true):=hP 3 (by decide);have f2:=e2;have e3:a6.eval (.tmp 3)=.string ((s).extract 3 (s).size):=hP 4 (by decide);have f3:=e3;replace HB:=HB.trans (hBt.below HB.size (UpOld.all (bx:=[]) trivial));clear hBt hr hR hP hX hU;refine wp_ret ?_;repeat(first|refine acg ?_|refine abn ?_|refine ab3 ?_)
  exact bodyPost_ret (v:=.tuple #[.bool true,.string ((s).extract 3 (s).size)]) (aim rfl f2 f3) hd ⟨by rw[hm],HB⟩
 ·skip;go_enter Tryz.func195,Tryz.ntmps195
  generalize hA:(Act.mk _ _)=aa;have hn:aa.tmps.size=19:=by rw[<-hA];rfl
  have hd:aa.defers = []:=by rw[<-hA]
  have f0:aa.eval (.tmp 0)=.string s:=by rw[<-hA];rfl
  clear hA;have HB:Below w.heap.size w w:=Below.refl _ _;refine wp_seq ?_;refine aam [some 2,some 3] [Eqs ((.bool false)),Eqs ((.string ⟨#[]⟩))] [] [] (by kernel_rfl) hn rfl (by kernel_rfl) (by kernel_rfl) (by kernel_rfl) (by kernel_rfl) (by kernel_rfl) (by kernel_rfl) ⟨Eqs.mono4 _,Eqs.mono4 _,trivial⟩ aas (IsOld.all (bx:=[]) trivial) (DisOld.all (bx:=[]) trivial) ?_ ?_
  ·exact⟨.norm 2 rfl rfl rfl (fun a_ w_ hn_ hBt hr hR hD hO hS=>aae rfl),
    .norm 3 rfl rfl rfl (fun a_ w_ hn_ hBt hr hR hD hO hS=>aae rfl),
    trivial⟩
  intro a1 w1 gs1 hn1 hd1 hBt hr hR hP hX hU;replace hn:=hn1;replace hd:=hd1.trans hd;replace f0:=(hR 0 rfl).trans f0;have e2:a1.eval (.tmp 2)=(.bool false):=hP 0 (by decide);have f2:=e2;have e3:a1.eval (.tmp 3)=(.string ⟨#[]⟩):=hP 1 (by decide);have f3:=e3;replace HB:=HB.trans (hBt.below HB.size (UpOld.all (bx:=[]) trivial));clear hBt hr hR hP hX hU;refine wp_seq ?_;refine aam [some 7,some 8,some 6,some 9,some 10,some 4,some 5] [Eqs (.string s),Tup2 (Eqs (.int .i32 45)) (Eqs (.int .i64 (1:Int))),Tup2 (Eqs (.int .i32 45)) (Eqs (.int .i64 (1:Int))),Eqs (.int .i32 45),Eqs (.int .i64 (1:Int)),Eqs (.int .i32 45),Eqs (.int .i64 (1:Int))] [] [] (by kernel_rfl) hn rfl (by kernel_rfl) (by kernel_rfl) (by kernel_rfl) (by kernel_rfl) (by kernel_rfl) (by kernel_rfl) ⟨Eqs.mono4 _,Tup2.mono4 (Eqs.mono4 _) (Eqs.mono4 _),Tup2.mono4 (Eqs.mono4 _) (Eqs.mono4 _),Eqs.mono4 _,Eqs.mono4 _,Eqs.mono4 _,Eqs.mono4 _,trivial⟩ aas (IsOld.all (bx:=[]) trivial) (DisOld.all (bx:=[]) trivial) ?_ ?_
  ·exact⟨.norm 7 rfl rfl rfl (fun a_ w_ hn_ hBt hr hR hD hO hS=>aa1 ((hR 0 rfl).trans f0)),
    .norm 8 rfl rfl rfl (fun a_ w_ hn_ hBt hr hR hD hO hS=>af1 (show a_.eval (.tmp 7)=.string s from hD 0 rfl) (hT.below (HB.trans (hBt.below HB.size (UpOld.all (bx:=[]) trivial)))) ⟨by rw[hd0];rfl,by rw[hd0]⟩),
    .norm 6 rfl rfl rfl (fun a_ w_ hn_ hBt hr hR hD hO hS=>afu (p:=Tup2 (Eqs (.int .i32 45)) (Eqs (.int .i64 (1:Int)))) (show Tup2 (Eqs (.int .i32 45)) (Eqs (.int .i64 (1:Int))) (a_.eval (.tmp 8)) w_ from hD 1 rfl)),
    .norm 9 rfl rfl rfl (fun a_ w_ hn_ hBt hr hR hD hO hS=>aer (show Tup2 (Eqs (.int .i32 45)) (Eqs (.int .i64 (1:Int))) (a_.eval (.tmp 6)) w_ from hD 2 rfl)),
    .norm 10 rfl rfl rfl (fun a_ w_ hn_ hBt hr hR hD hO hS=>aes (show Tup2 (Eqs (.int .i32 45)) (Eqs (.int .i64 (1:Int))) (a_.eval (.tmp 6)) w_ from hD 2 rfl)),
    .norm 4 rfl rfl rfl (fun a_ w_ hn_ hBt hr hR hD hO hS=>aae (show a_.eval (.tmp 9)=.int .i32 45 from hD 3 rfl)),
    .norm 5 rfl rfl rfl (fun a_ w_ hn_ hBt hr hR hD hO hS=>aae (show a_.eval (.tmp 10)=.int .i64 (1:Int)from hD 4 rfl)),
    trivial⟩
  intro a2 w2 gs2 hn2 hd2 hBt hr hR hP hX hU;replace hn:=hn2;replace hd:=hd2.trans hd;replace f0:=(hR 0 rfl).trans f0;replace f2:=(hR 2 rfl).trans f2;replace f3:=(hR 3 rfl).trans f3;have e4:a2.eval (.tmp 4)=.int .i32 45:=hP 5 (by decide);have f4:=e4;have e5:a2.eval (.tmp 5)=.int .i64 (1:Int):=hP 6 (by decide);have f5:=e5;replace HB:=HB.trans (hBt.below HB.size (UpOld.all (bx:=[]) trivial));clear hBt hr hR hP hX hU;refine wp_seq ?_;refine wp_seq ?_;refine aam [some 11] [Eqs (.int .i32 45)] [] [] (by kernel_rfl) hn rfl (by kernel_rfl) (by kernel_rfl) (by kernel_rfl) (by kernel_rfl) (by kernel_rfl) (by kernel_rfl) ⟨Eqs.mono4 _,trivial⟩ aas (IsOld.all (bx:=[]) trivial) (DisOld.all (bx:=[]) trivial) ?_ ?_
  ·exact⟨.norm 11 rfl rfl rfl (fun a_ w_ hn_ hBt hr hR hD hO hS=>aa1 ((hR 4 rfl).trans f4)),
    trivial⟩
  intro a3 w3 gs3 hn3 hd3 hBt hr hR hP hX hU;replace hn:=hn3;replace hd:=hd3.trans hd;replace f0:=(hR 0 rfl).trans f0;replace f2:=(hR 2 rfl).trans f2;replace f3:=(hR 3 rfl).trans f3;replace f5:=(hR 5 rfl).trans f5;have e11:a3.eval (.tmp 11)=.int .i32 45:=hP 0 (by decide);have f11:=e11;replace HB:=HB.trans (hBt.below HB.size (UpOld.all (bx:=[]) trivial));clear hBt hr hR hP hX hU;refine wp_block ?_;refine wp_seq ?_;refine wp_seq ?_;refine aam [some 13,some 12] [Eqs (.bool true),Eqs (.bool true)] [] [] (by kernel_rfl) hn rfl (by kernel_rfl) (by kernel_rfl) (by kernel_rfl) (by kernel_rfl) (by kernel_rfl) (by kernel_rfl) ⟨Eqs.mono4 _,Eqs.mono4 _,trivial⟩ aas (IsOld.all (bx:=[]) trivial) (DisOld.all (bx:=[]) trivial) ?_ ?_
  ·exact⟨.norm 13 rfl rfl rfl (fun a_ w_ hn_ hBt hr hR hD hO hS=>ai9 ((hR 11 rfl).trans f11) rfl),
    .norm 12 rfl rfl rfl (fun a_ w_ hn_ hBt hr hR hD hO hS=>aae (show a_.eval (.tmp 13)=.bool true from hD 0 rfl)),
    trivial⟩
  intro a4 w4 gs4 hn4 hd4 hBt hr hR hP hX hU;replace hn:=hn4;replace hd:=hd4.trans hd;replace f0:=(hR 0 rfl).trans f0;replace f2:=(hR 2 rfl).trans f2;replace f3:=(hR 3 rfl).trans f3;replace f5:=(hR 5 rfl).trans f5;replace f11:=(hR 11 rfl).trans f11;have e12:a4.eval (.tmp 12)=.bool true:=hP 1 (by decide);have f12:=e12;replace HB:=HB.trans (hBt.below HB.size (UpOld.all (bx:=[]) trivial));clear hBt hr hR hP hX hU;refine wp_cond_true f12 ?_;refine wp_skip ?_;refine wp_cond_true f12 ?_;refine wp_seq ?_;refine aam [some 15,some 16,some 17,some 2,some 3] [Eqs (.string s),Eqs (.int .i64 (1:Int)),Eqs (.string ((s).extract 1 (s).size)),Eqs ((.bool true)),Eqs (.string ((s).extract 1 (s).size))] [] [] (by kernel_rfl) hn rfl (by kernel_rfl) (by kernel_rfl) (by kernel_rfl) (by kernel_rfl) (by kernel_rfl) (by kernel_rfl) ⟨Eqs.mono4 _,Eqs.mono4 _,Eqs.mono4 _,Eqs.mono4 _,Eqs.mono4 _,trivial⟩ aas (IsOld.all (bx:=[]) trivial) (DisOld.all (bx:=[]) trivial) ?_ ?_
  ·exact⟨.norm 15 rfl rfl rfl (fun a_ w_ hn_ hBt hr hR hD hO hS=>aa1 ((hR 0 rfl).trans f0)),
    .norm 16 rfl rfl rfl (fun a_ w_ hn_ hBt hr hR hD hO hS=>aa1 ((hR 5 rfl).trans f5)),
    .norm 17 rfl rfl rfl (fun a_ w_ hn_ hBt hr hR hD hO hS=>amq (k:=1) (show a_.eval (.tmp 15)=.string s from hD 0 rfl) (show a_.eval (.tmp 16)=.int .i64 (1:Int)from hD 1 rfl) (by omega)),
    .norm 2 rfl rfl rfl (fun a_ w_ hn_ hBt hr hR hD hO hS=>aae rfl),
    .norm 3 rfl rfl rfl (fun a_ w_ hn_ hBt hr hR hD hO hS=>aae (show a_.eval (.tmp 17)=.string ((s).extract 1 (s).size)from hD 2 rfl)),
    trivial⟩
  intro a5 w5 gs5 hn5 hd5 hBt hr hR hP hX hU;replace hn:=hn5;replace hd:=hd5.trans hd;replace f0:=(hR 0 rfl).trans f0;have e2:a5.eval (.tmp 2)=(.bool true):=hP 3 (by decide);have f2:=e2;have e3:a5.eval (.tmp 3)=.string ((s).extract 1 (s).size):=hP 4 (by decide);have f3:=e3;replace HB:=HB.trans (hBt.below HB.size (UpOld.all (bx:=[]) trivial));clear hBt hr hR hP hX hU;refine wp_ret ?_;repeat(first|refine acg ?_|refine abn ?_|refine ab3 ?_)
  exact bodyPost_ret (v:=.tuple #[.bool true,.string ((s).extract 1 (s).size)]) (aim rfl f2 f3) hd ⟨by rw[hm],HB⟩
 ·have hne1:(((Lib.decodeGo s).1:Nat):Int)≠45:=by omega
  have hne2:(((Lib.decodeGo s).1:Nat):Int)≠8722:=by omega
  go_enter Tryz.func195,Tryz.ntmps195
  generalize hA:(Act.mk _ _)=aa;have hn:aa.tmps.size=19:=by rw[<-hA];rfl
  have hd:aa.defers = []:=by rw[<-hA]
  have f0:aa.eval (.tmp 0)=.string s:=by rw[<-hA];rfl
  clear hA;have HB:Below w.heap.size w w:=Below.refl _ _;refine wp_seq ?_;refine aam [some 2,some 3] [Eqs ((.bool false)),Eqs ((.string ⟨#[]⟩))] [] [] (by kernel_rfl) hn rfl (by kernel_rfl) (by kernel_rfl) (by kernel_rfl) (by kernel_rfl) (by kernel_rfl) (by kernel_rfl) ⟨Eqs.mono4 _,Eqs.mono4 _,trivial⟩ aas (IsOld.all (bx:=[]) trivial) (DisOld.all (bx:=[]) trivial) ?_ ?_
  ·exact⟨.norm 2 rfl rfl rfl (fun a_ w_ hn_ hBt hr hR hD hO hS=>aae rfl),
    .norm 3 rfl rfl rfl (fun a_ w_ hn_ hBt hr hR hD hO hS=>aae rfl),
    trivial⟩
  intro a1 w1 gs1 hn1 hd1 hBt hr hR hP hX hU;replace hn:=hn1;replace hd:=hd1.trans hd;replace f0:=(hR 0 rfl).trans f0;have e2:a1.eval (.tmp 2)=(.bool false):=hP 0 (by decide);have f2:=e2;have e3:a1.eval (.tmp 3)=(.string ⟨#[]⟩):=hP 1 (by decide);have f3:=e3;replace HB:=HB.trans (hBt.below HB.size (UpOld.all (bx:=[]) trivial));clear hBt hr hR hP hX hU;refine wp_seq ?_;refine aam [some 7,some 8,some 6,some 9,some 10,some 4,some 5] [Eqs (.string s),Tup2 (Eqs (.int .i32 (((Lib.decodeGo s).1:Nat):Int))) (Eqs (.int .i64 ((Lib.decodeGo s).2:Int))),Tup2 (Eqs (.int .i32 (((Lib.decodeGo s).1:Nat):Int))) (Eqs (.int .i64 ((Lib.decodeGo s).2:Int))),Eqs (.int .i32 (((Lib.decodeGo s).1:Nat):Int)),Eqs (.int .i64 ((Lib.decodeGo s).2:Int)),Eqs (.int .i32 (((Lib.decodeGo s).1:Nat):Int)),Eqs (.int .i64 ((Lib.decodeGo s).2:Int))] [] [] (by kernel_rfl) hn rfl (by kernel_rfl) (by kernel_rfl) (by kernel_rfl) (by kernel_rfl) (by kernel_rfl) (by kernel_rfl) ⟨Eqs.mono4 _,Tup2.mono4 (Eqs.mono4 _) (Eqs.mono4 _),Tup2.mono4 (Eqs.mono4 _) (Eqs.mono4 _),Eqs.mono4 _,Eqs.mono4 _,Eqs.mono4 _,Eqs.mono4 _,trivial⟩ aas (IsOld.all (bx:=[]) trivial) (DisOld.all (bx:=[]) trivial) ?_ ?_
  ·exact⟨.norm 7 rfl rfl rfl (fun a_ w_ hn_ hBt hr hR hD hO hS=>aa1 ((hR 0 rfl).trans f0)),
    .norm 8 rfl rfl rfl (fun a_ w_ hn_ hBt hr hR hD hO hS=>af1 (show a_.eval (.tmp 7)=.string s from hD 0 rfl) (hT.below (HB.trans (hBt.below HB.size (UpOld.all (bx:=[]) trivial)))) ⟨rfl,rfl⟩),
    .norm 6 rfl rfl rfl (fun a_ w_ hn_ hBt hr hR hD hO hS=>afu (p:=Tup2 (Eqs (.int .i32 (((Lib.decodeGo s).1:Nat):Int))) (Eqs (.int .i64 ((Lib.decodeGo s).2:Int)))) (show Tup2 (Eqs (.int .i32 (((Lib.decodeGo s).1:Nat):Int))) (Eqs (.int .i64 ((Lib.decodeGo s).2:Int))) (a_.eval (.tmp 8)) w_ from hD 1 rfl)),
    .norm 9 rfl rfl rfl (fun a_ w_ hn_ hBt hr hR hD hO hS=>aer (show Tup2 (Eqs (.int .i32 (((Lib.decodeGo s).1:Nat):Int))) (Eqs (.int .i64 ((Lib.decodeGo s).2:Int))) (a_.eval (.tmp 6)) w_ from hD 2 rfl)),
    .norm 10 rfl rfl rfl (fun a_ w_ hn_ hBt hr hR hD hO hS=>aes (show Tup2 (Eqs (.int .i32 (((Lib.decodeGo s).1:Nat):Int))) (Eqs (.int .i64 ((Lib.decodeGo s).2:Int))) (a_.eval (.tmp 6)) w_ from hD 2 rfl)),
    .norm 4 rfl rfl rfl (fun a_ w_ hn_ hBt hr hR hD hO hS=>aae (show a_.eval (.tmp 9)=.int .i32 (((Lib.decodeGo s).1:Nat):Int)from hD 3 rfl)),
    .norm 5 rfl rfl rfl (fun a_ w_ hn_ hBt hr hR hD hO hS=>aae (show a_.eval (.tmp 10)=.int .i64 ((Lib.decodeGo s).2:Int)from hD 4 rfl)),
    trivial⟩
  intro a2 w2 gs2 hn2 hd2 hBt hr hR hP hX hU;replace hn:=hn2;replace hd:=hd2.trans hd;replace f0:=(hR 0 rfl).trans f0;replace f2:=(hR 2 rfl).trans f2;replace f3:=(hR 3 rfl).trans f3;have e4:a2.eval (.tmp 4)=.int .i32 (((Lib.decodeGo s).1:Nat):Int):=hP 5 (by decide);have f4:=e4;have e5:a2.eval (.tmp 5)=.int .i64 ((Lib.decodeGo s).2:Int):=hP 6 (by decide);have f5:=e5;replace HB:=HB.trans (hBt.below HB.size (UpOld.all (bx:=[]) trivial));clear hBt hr hR hP hX hU;refine wp_seq ?_;refine wp_seq ?_;refine aam [some 11] [Eqs (.int .i32 (((Lib.decodeGo s).1:Nat):Int))] [] [] (by kernel_rfl) hn rfl (by kernel_rfl) (by kernel_rfl) (by kernel_rfl) (by kernel_rfl) (by kernel_rfl) (by kernel_rfl) ⟨Eqs.mono4 _,trivial⟩ aas (IsOld.all (bx:=[]) trivial) (DisOld.all (bx:=[]) trivial) ?_ ?_
  ·exact⟨.norm 11 rfl rfl rfl (fun a_ w_ hn_ hBt hr hR hD hO hS=>aa1 ((hR 4 rfl).trans f4)),
    trivial⟩
  intro a3 w3 gs3 hn3 hd3 hBt hr hR hP hX hU;replace hn:=hn3;replace hd:=hd3.trans hd;replace f0:=(hR 0 rfl).trans f0;replace f2:=(hR 2 rfl).trans f2;replace f3:=(hR 3 rfl).trans f3;replace f5:=(hR 5 rfl).trans f5;have e11:a3.eval (.tmp 11)=.int .i32 (((Lib.decodeGo s).1:Nat):Int):=hP 0 (by decide);have f11:=e11;replace HB:=HB.trans (hBt.below HB.size (UpOld.all (bx:=[]) trivial));clear hBt hr hR hP hX hU;refine wp_block ?_;refine wp_seq ?_;refine wp_seq ?_;refine aam [some 13,some 12] [Eqs (.bool false),Eqs (.bool false)] [] [] (by kernel_rfl) hn rfl (by kernel_rfl) (by kernel_rfl) (by kernel_rfl) (by kernel_rfl) (by kernel_rfl) (by kernel_rfl) ⟨Eqs.mono4 _,Eqs.mono4 _,trivial⟩ aas (IsOld.all (bx:=[]) trivial) (DisOld.all (bx:=[]) trivial) ?_ ?_
  ·exact⟨.norm 13 rfl rfl rfl (fun a_ w_ hn_ hBt hr hR hD hO hS=>af0 ((hR 11 rfl).trans f11) hne1),
    .norm 12 rfl rfl rfl (fun a_ w_ hn_ hBt hr hR hD hO hS=>aae (show a_.eval (.tmp 13)=.bool false from hD 0 rfl)),
    trivial⟩
  intro a4 w4 gs4 hn4 hd4 hBt hr hR hP hX hU;replace hn:=hn4;replace hd:=hd4.trans hd;replace f0:=(hR 0 rfl).trans f0;replace f2:=(hR 2 rfl).trans f2;replace f3:=(hR 3 rfl).trans f3;replace f5:=(hR 5 rfl).trans f5;replace f11:=(hR 11 rfl).trans f11;have e12:a4.eval (.tmp 12)=.bool false:=hP 1 (by decide);have f12:=e12;replace HB:=HB.trans (hBt.below HB.size (UpOld.all (bx:=[]) trivial));clear hBt hr hR hP hX hU;refine wp_cond_false f12 ?_;refine aam [some 14,some 12] [Eqs (.bool false),Eqs (.bool false)] [] [] (by kernel_rfl) hn rfl (by kernel_rfl) (by kernel_rfl) (by kernel_rfl) (by kernel_rfl) (by kernel_rfl) (by kernel_rfl) ⟨Eqs.mono4 _,Eqs.mono4 _,trivial⟩ aas (IsOld.all (bx:=[]) trivial) (DisOld.all (bx:=[]) trivial) ?_ ?_
  ·exact⟨.norm 14 rfl rfl rfl (fun a_ w_ hn_ hBt hr hR hD hO hS=>af0 ((hR 11 rfl).trans f11) hne2),
    .norm 12 rfl rfl rfl (fun a_ w_ hn_ hBt hr hR hD hO hS=>aae (show a_.eval (.tmp 14)=.bool false from hD 0 rfl)),
    trivial⟩
  intro a5 w5 gs5 hn5 hd5 hBt hr hR hP hX hU;replace hn:=hn5;replace hd:=hd5.trans hd;replace f0:=(hR 0 rfl).trans f0;replace f2:=(hR 2 rfl).trans f2;replace f3:=(hR 3 rfl).trans f3;replace f5:=(hR 5 rfl).trans f5;have e12:a5.eval (.tmp 12)=.bool false:=hP 1 (by decide);have f12:=e12;replace HB:=HB.trans (hBt.below HB.size (UpOld.all (bx:=[]) trivial));clear hBt hr hR hP hX hU;refine wp_cond_false f12 ?_;refine wp_skip ?_;refine afv ?_;refine wp_seq ?_;refine aam [some 18,some 2,some 3] [Eqs (.string s),Eqs ((.bool false)),Eqs (.string s)] [] [] (by kernel_rfl) hn rfl (by kernel_rfl) (by kernel_rfl) (by kernel_rfl) (by kernel_rfl) (by kernel_rfl) (by kernel_rfl) ⟨Eqs.mono4 _,Eqs.mono4 _,Eqs.mono4 _,trivial⟩ aas (IsOld.all (bx:=[]) trivial) (DisOld.all (bx:=[]) trivial) ?_ ?_
  ·exact⟨.norm 18 rfl rfl rfl (fun a_ w_ hn_ hBt hr hR hD hO hS=>aa1 ((hR 0 rfl).trans f0)),
    .norm 2 rfl rfl rfl (fun a_ w_ hn_ hBt hr hR hD hO hS=>aae rfl),
    .norm 3 rfl rfl rfl (fun a_ w_ hn_ hBt hr hR hD hO hS=>aae (show a_.eval (.tmp 18)=.string s from hD 0 rfl)),
    trivial⟩
  intro a6 w6 gs6 hn6 hd6 hBt hr hR hP hX hU;replace hn:=hn6;replace hd:=hd6.trans hd;have e2:a6.eval (.tmp 2)=(.bool false):=hP 1 (by decide);have f2:=e2;have e3:a6.eval (.tmp 3)=.string s:=hP 2 (by decide);have f3:=e3;replace HB:=HB.trans (hBt.below HB.size (UpOld.all (bx:=[]) trivial));clear hBt hr hR hP hX hU;refine wp_ret ?_;repeat(first|refine acg ?_|refine abn ?_|refine ab3 ?_)
  exact bodyPost_ret (v:=.tuple #[.bool false,.string s]) (aim rfl f2 f3) hd ⟨by rw[hm],HB⟩
end Lm
namespace Lm
open Go Go.RowKit
open Dm (Err Fine)
open Classical in
noncomputable def kOf(r:ByteArray):Int:=if 5120<r.size then 2 else if 1<=r.size/\Dig (bytesOf r)then 0 else 10
open Classical in
noncomputable def xOf(r:ByteArray):Int:=if Fine r then dval (bytesOf r)else 0
theorem awq{r:ByteArray}{k:Int}(h:Err r k):k=kOf r/\xOf r=0/\kOf r≠0:=by
 have hf:¬Fine r:=fun hf=>Dm.ajz h hf
 have h1:k=kOf r:=by
  rcases h with⟨rfl,h2⟩|⟨rfl,h2,h3⟩
  ·rw[kOf,if_pos h2]
  ·rw[kOf,if_neg (by omega),if_neg h3]
 refine⟨h1,by rw[xOf,if_neg hf],?_⟩;rw[<-h1];rcases h with⟨h1,_⟩|⟨h1,_⟩ <;> omega
theorem adt{r:ByteArray}(h:Fine r):kOf r=0/\xOf r=dval (bytesOf r):=by
 refine⟨?_,by rw[xOf,if_pos h]⟩;rw[kOf,if_neg (by have:=h.2.1;omega),if_pos ⟨h.1,h.2.2⟩]
theorem aqy(n:Nat):p10 n<=pw n:=by
 induction n with
 |zero=>simp[p10,pw]
 |succ n ih=>
  simp only[p10,pw];have:=aay n;omega
noncomputable def zOf(s:ByteArray):Int:=sg (msplit s).1 (xOf (msplit s).2)
noncomputable def eOf(s:ByteArray):Int:=kOf (msplit s).2
section
variable {dst:Option Tmp} {ty:TypeId} {pos:String} {after:Array Edge} {guard:Option (Nat×Bool)} {a:Act} {w:World} {ats:Array TypeId} {i j:Nat}
theorem aqz:Has Tryz.prog 195:=by unfold Has;kernel_rfl
theorem as8{s:ByteArray}(h:a.eval (.tmp i)=.string s)(hT:Tabs w):
  Does Tryz.prog {dst,op:=.call {callee:=.value (.func 195),args:=#[.tmp i],argTypes:=ats},type:=ty,pos,after,guard} a.eval w fun v w'=>Below w.heap.size w w'/\Tup2 (Eqs (.bool (msplit s).1)) (Eqs (.string (msplit s).2)) v w':=by
 refine abd aqz _ (by simp only[List.map_toArray,List.map_cons,List.map_nil,h]) ((au7 w s hT).mono ?_);rintro e w' ⟨rfl,hb⟩;exact⟨_,rfl,hb,_,_,rfl,rfl,rfl⟩
theorem aod:Has Tryz.prog 167:=by unfold Has;kernel_rfl
theorem aq0{s:ByteArray}(h:a.eval (.tmp i)=.string s):
  Does Tryz.prog {dst,op:=.call {callee:=.value (.func 167),args:=#[.tmp i],argTypes:=ats},type:=ty,pos,after,guard} a.eval w fun v w'=>Below w.heap.size w w'/\Tup2 (OutL (xOf s) 6000) (Eqs (.int .i64 (kOf s))) v w':=by
 refine abd aod _ (by simp only[List.map_toArray,List.map_cons,List.map_nil,h]) ((amh w s).mono ?_);rintro e w' ⟨⟨k,hk,rfl⟩|⟨hf,v,rfl,rs,ho,hc,hv⟩,hb⟩
 ·obtain⟨h1,h2,_⟩:=awq hk;refine⟨_,rfl,hb,_,_,rfl,?_,by rw[h1];rfl⟩;rw[h2];exact⟨none,0,[],rfl,⟨afp w',ab2,rfl⟩,by simp⟩
 ·obtain⟨h1,h2⟩:=adt hf;refine⟨_,rfl,hb,_,_,rfl,?_,by rw[h1];rfl⟩;rw[h2];obtain⟨ao,cap,rfl,_⟩:=id ho;refine⟨ao,cap,rs,rfl,⟨ho.sl,hc,hv⟩,?_⟩;have h3:=(aa5 hf.2.2).2;rw[abh]at h3;have h4:=aaz hc (m:=s.size) (by rw[hv];have:=aqy s.size;omega);have:=hf.2.1;omega
theorem aoe:Has Tryz.prog 70:=by unfold Has;kernel_rfl
theorem aof{b:Bool}{x:Int}{L:Nat}(h1:a.eval (.tmp i)=.bool b)(h2:OutL x L (a.eval (.tmp j)) w)(hL:L<=1000000):
  Does Tryz.prog {dst,op:=.call {callee:=.value (.func 70),args:=#[.tmp i,.tmp j],argTypes:=ats},type:=ty,pos,after,guard} a.eval w fun v w'=>Below w.heap.size w w'/\OutW (sg b x) L v w':=by
 obtain⟨ao,cap,rs,e,G,l⟩:=h2;refine abd aoe _ (by simp only[List.map_toArray,List.map_cons,List.map_nil,h1,e]) ((aau w b ao cap rs x G (by omega)).mono ?_);rintro e w' ⟨ng,rfl,hW,hb⟩;exact⟨_,rfl,hb,ng,ao,cap,rs,rfl,hW,l⟩
theorem as9{u v:Int}(h1:a.eval (.tmp i)=.int .i64 u):
  Does Tryz.prog {dst,op:=.binOp .neq 27 (.tmp i) (.const (.int .i64 v)) 27,type:=ty,pos,after,guard} a.eval w fun v' w'=>Below w.heap.size w w'/\Eqs (.bool (!decide (u=v))) v' w':=by
 refine ac7 (v:=.bool (!decide (u=v))) ?_ ?_ ⟨Below.refl _ _,rfl⟩
 ·rw[h1];simp[go_sem,Act.eval]
 ·rw[h1];simp[go_sem,Act.eval];rfl
end
theorem ata{r:ByteArray}{b:Bool}(h:kOf r≠0):sg b (xOf r)=0:=by
 have hf:¬Fine r:=fun hf=>h (adt hf).1
 rw[xOf,if_neg hf];cases b <;> rfl
theorem aq1(w:World){L:Nat}: OutW 0 L (.agg #[.bool false,.slice none 0 0]) w:=⟨false,none,0,[],rfl,⟨⟨afp w,ab2,rfl⟩,rfl⟩,by simp⟩
theorem atb(w:World)(s:ByteArray)(hT:Tabs w):
  Calls Tryz.prog 194 #[.string s] w fun e w'=>∃v,e=.returned v/\Tup2 (OutW (zOf s) 6000) (Eqs (.int .i64 (eOf s))) v w'/\Below w.heap.size w w':=by
 go_enter Tryz.func194,Tryz.ntmps194
 generalize hA:(Act.mk _ _)=aa;have hn:aa.tmps.size=25:=by rw[<-hA];rfl
 have hd:aa.defers = []:=by rw[<-hA]
 have f0:aa.eval (.tmp 0)=.string s:=by rw[<-hA];rfl
 clear hA;have HB:Below w.heap.size w w:=Below.refl _ _;refine wp_seq ?_;refine aam [some 2,some 3] [(fun _ _=>True),Eqs ((.int .i64 0))] [⟨W2,some 0,0,2,.agg #[.bool false,.slice none 0 0],none,[]⟩] [] (by kernel_rfl) hn rfl (by kernel_rfl) (by kernel_rfl) (by kernel_rfl) (by kernel_rfl) (by kernel_rfl) (by kernel_rfl) ⟨True.mono4,Eqs.mono4 _,trivial⟩ (ac8 W2ok aas) (IsOld.all (bx:=[⟨W2,some 0,0,2,.agg #[.bool false,.slice none 0 0],none,[]⟩]) ⟨someNe,trivial⟩) (DisOld.all (bx:=[⟨W2,some 0,0,2,.agg #[.bool false,.slice none 0 0],none,[]⟩]) ⟨someNe,trivial⟩) ?_ ?_
 ·exact⟨.alloc 0 _ rfl rfl (.inl ⟨rfl,rfl⟩) rfl rfl rfl rfl rfl,
   .norm 3 rfl rfl rfl (fun a_ w_ hn_ hBt hr hR hD hO hS=>aae rfl),
   trivial⟩
 intro a1 w1 gs1 hn1 hd1 hBt hr hR hP hX hU;replace hn:=hn1;replace hd:=hd1.trans hd;have b2:BoxV W2 w1 (gs1 0) (.agg #[.bool false,.slice none 0 0]):=(hX 0 _ rfl).2.2.2;have f2:=(hX 0 _ rfl).1;have u2:w.heap.size<=gs1 0:=Nat.le_trans HB.size ((hX 0 _ rfl).2.2.1 (by simp));replace f0:=(hR 0 rfl).trans f0;have e3:a1.eval (.tmp 3)=(.int .i64 0):=hP 1 (by decide);have f3:=e3;replace HB:=HB.trans (hBt.below HB.size (UpOld.all (bx:=[⟨W2,some 0,0,2,.agg #[.bool false,.slice none 0 0],none,[]⟩]) ⟨someNe,trivial⟩));clear hBt hr hR hP hX hU;refine wp_seq ?_;refine aam [some 9,some 10,some 8,some 11,some 12,some 4,some 5] [Eqs (.string s),Tup2 (Eqs (.bool (msplit s).1)) (Eqs (.string (msplit s).2)),Tup2 (Eqs (.bool (msplit s).1)) (Eqs (.string (msplit s).2)),Eqs (.bool (msplit s).1),Eqs (.string (msplit s).2),Eqs (.bool (msplit s).1),Eqs (.string (msplit s).2)] [] [] (by kernel_rfl) hn rfl (by kernel_rfl) (by kernel_rfl) (by kernel_rfl) (by kernel_rfl) (by kernel_rfl) (by kernel_rfl) ⟨Eqs.mono4 _,Tup2.mono4 (Eqs.mono4 _) (Eqs.mono4 _),Tup2.mono4 (Eqs.mono4 _) (Eqs.mono4 _),Eqs.mono4 _,Eqs.mono4 _,Eqs.mono4 _,Eqs.mono4 _,trivial⟩ aas (IsOld.all (bx:=[]) trivial) (DisOld.all (bx:=[]) trivial) ?_ ?_
 ·exact⟨.norm 9 rfl rfl rfl (fun a_ w_ hn_ hBt hr hR hD hO hS=>aa1 ((hR 0 rfl).trans f0)),
   .norm 10 rfl rfl rfl (fun a_ w_ hn_ hBt hr hR hD hO hS=>as8 (show a_.eval (.tmp 9)=.string s from hD 0 rfl) (hT.below (HB.trans (hBt.below HB.size (UpOld.all (bx:=[]) trivial))))),
   .norm 8 rfl rfl rfl (fun a_ w_ hn_ hBt hr hR hD hO hS=>afu (p:=Tup2 (Eqs (.bool (msplit s).1)) (Eqs (.string (msplit s).2))) (show Tup2 (Eqs (.bool (msplit s).1)) (Eqs (.string (msplit s).2)) (a_.eval (.tmp 10)) w_ from hD 1 rfl)),
   .norm 11 rfl rfl rfl (fun a_ w_ hn_ hBt hr hR hD hO hS=>aer (show Tup2 (Eqs (.bool (msplit s).1)) (Eqs (.string (msplit s).2)) (a_.eval (.tmp 8)) w_ from hD 2 rfl)),
   .norm 12 rfl rfl rfl (fun a_ w_ hn_ hBt hr hR hD hO hS=>aes (show Tup2 (Eqs (.bool (msplit s).1)) (Eqs (.string (msplit s).2)) (a_.eval (.tmp 8)) w_ from hD 2 rfl)),
   .norm 4 rfl rfl rfl (fun a_ w_ hn_ hBt hr hR hD hO hS=>aae (show a_.eval (.tmp 11)=.bool (msplit s).1 from hD 3 rfl)),
   .norm 5 rfl rfl rfl (fun a_ w_ hn_ hBt hr hR hD hO hS=>aae (show a_.eval (.tmp 12)=.string (msplit s).2 from hD 4 rfl)),
   trivial⟩
 intro a2 w2 gs2 hn2 hd2 hBt hr hR hP hX hU;replace hn:=hn2;replace hd:=hd2.trans hd;replace b2:=b2.keep hBt trivial;replace f2:=(hR 2 rfl).trans f2;replace f3:=(hR 3 rfl).trans f3;have e4:a2.eval (.tmp 4)=.bool (msplit s).1:=hP 5 (by decide);have f4:=e4;have e5:a2.eval (.tmp 5)=.string (msplit s).2:=hP 6 (by decide);have f5:=e5;replace HB:=HB.trans (hBt.below HB.size (UpOld.all (bx:=[]) trivial));clear hBt hr hR hP hX hU;refine wp_seq ?_;refine aam [some 14,some 15,some 13,some 16,some 17,some 6,some 7] [Eqs (.string (msplit s).2),Tup2 (OutL (xOf (msplit s).2) (6000)) (Eqs (.int .i64 (kOf (msplit s).2))),Tup2 (OutL (xOf (msplit s).2) (6000)) (Eqs (.int .i64 (kOf (msplit s).2))),OutL (xOf (msplit s).2) (6000),Eqs (.int .i64 (kOf (msplit s).2)),OutL (xOf (msplit s).2) (6000),Eqs (.int .i64 (kOf (msplit s).2))] [] [] (by kernel_rfl) hn rfl (by kernel_rfl) (by kernel_rfl) (by kernel_rfl) (by kernel_rfl) (by kernel_rfl) (by kernel_rfl) ⟨Eqs.mono4 _,Tup2.mono4 (OutL.mono4 _ _) (Eqs.mono4 _),Tup2.mono4 (OutL.mono4 _ _) (Eqs.mono4 _),OutL.mono4 _ _,Eqs.mono4 _,OutL.mono4 _ _,Eqs.mono4 _,trivial⟩ aas (IsOld.all (bx:=[]) trivial) (DisOld.all (bx:=[]) trivial) ?_ ?_
 ·exact⟨.norm 14 rfl rfl rfl (fun a_ w_ hn_ hBt hr hR hD hO hS=>aa1 ((hR 5 rfl).trans f5)),
   .norm 15 rfl rfl rfl (fun a_ w_ hn_ hBt hr hR hD hO hS=>aq0 (show a_.eval (.tmp 14)=.string (msplit s).2 from hD 0 rfl)),
   .norm 13 rfl rfl rfl (fun a_ w_ hn_ hBt hr hR hD hO hS=>afu (p:=Tup2 (OutL (xOf (msplit s).2) (6000)) (Eqs (.int .i64 (kOf (msplit s).2)))) (show Tup2 (OutL (xOf (msplit s).2) (6000)) (Eqs (.int .i64 (kOf (msplit s).2))) (a_.eval (.tmp 15)) w_ from hD 1 rfl)),
   .norm 16 rfl rfl rfl (fun a_ w_ hn_ hBt hr hR hD hO hS=>aer (show Tup2 (OutL (xOf (msplit s).2) (6000)) (Eqs (.int .i64 (kOf (msplit s).2))) (a_.eval (.tmp 13)) w_ from hD 2 rfl)),
   .norm 17 rfl rfl rfl (fun a_ w_ hn_ hBt hr hR hD hO hS=>aes (show Tup2 (OutL (xOf (msplit s).2) (6000)) (Eqs (.int .i64 (kOf (msplit s).2))) (a_.eval (.tmp 13)) w_ from hD 2 rfl)),
   .norm 6 rfl rfl rfl (fun a_ w_ hn_ hBt hr hR hD hO hS=>aj7 (p:=OutL (xOf (msplit s).2) (6000)) (show OutL (xOf (msplit s).2) (6000) (a_.eval (.tmp 16)) w_ from hD 3 rfl)),
   .norm 7 rfl rfl rfl (fun a_ w_ hn_ hBt hr hR hD hO hS=>aae (show a_.eval (.tmp 17)=.int .i64 (kOf (msplit s).2)from hD 4 rfl)),
   trivial⟩
 intro a3 w3 gs3 hn3 hd3 hBt hr hR hP hX hU;replace hn:=hn3;replace hd:=hd3.trans hd;replace b2:=b2.keep hBt trivial;replace f2:=(hR 2 rfl).trans f2;replace f3:=(hR 3 rfl).trans f3;replace f4:=(hR 4 rfl).trans f4;obtain⟨a_4,c_4,r_4,e6,K4,l4⟩:OutL (xOf (msplit s).2) (6000) (a3.eval (.tmp 6)) w3:=hP 5 (by decide);have S4:=K4.sl;have V4:=K4.val;have f6:=e6;have e7:a3.eval (.tmp 7)=.int .i64 (kOf (msplit s).2):=hP 6 (by decide);have f7:=e7;replace HB:=HB.trans (hBt.below HB.size (UpOld.all (bx:=[]) trivial));clear hBt hr hR hP hX hU;refine wp_seq ?_;refine wp_seq ?_;refine aam [some 18,some 19] [Eqs (.int .i64 (kOf (msplit s).2)),Eqs (.bool (!decide ((kOf (msplit s).2)=0)))] [] [] (by kernel_rfl) hn rfl (by kernel_rfl) (by kernel_rfl) (by kernel_rfl) (by kernel_rfl) (by kernel_rfl) (by kernel_rfl) ⟨Eqs.mono4 _,Eqs.mono4 _,trivial⟩ aas (IsOld.all (bx:=[]) trivial) (DisOld.all (bx:=[]) trivial) ?_ ?_
 ·exact⟨.norm 18 rfl rfl rfl (fun a_ w_ hn_ hBt hr hR hD hO hS=>aa1 ((hR 7 rfl).trans f7)),
   .norm 19 rfl rfl rfl (fun a_ w_ hn_ hBt hr hR hD hO hS=>as9 (show a_.eval (.tmp 18)=.int .i64 (kOf (msplit s).2)from hD 0 rfl)),
   trivial⟩
 intro a5 w5 gs5 hn5 hd5 hBt hr hR hP hX hU;replace hn:=hn5;replace hd:=hd5.trans hd;replace b2:=b2.keep hBt trivial;replace f2:=(hR 2 rfl).trans f2;replace f3:=(hR 3 rfl).trans f3;replace f4:=(hR 4 rfl).trans f4;replace f6:=(hR 6 rfl).trans f6;replace f7:=(hR 7 rfl).trans f7;have e19:a5.eval (.tmp 19)=.bool (!decide ((kOf (msplit s).2)=0)):=hP 1 (by decide);have f19:=e19;replace K4:=K4.rl hr;replace S4:=S4.rl hr;replace HB:=HB.trans (hBt.below HB.size (UpOld.all (bx:=[]) trivial));clear hBt hr hR hP hX hU;refine wp_cond_split f19 (fun hc19=>?_) (fun hc19=>?_)
 ·skip;have hk0:kOf (msplit s).2≠0:=by simpa using hc19
  refine wp_seq ?_;refine aam [some 20,some 21,none,some 3] [Eqs (.agg #[.bool false,.slice none 0 0]),Eqs (.int .i64 (kOf (msplit s).2)),(fun _ _=>True),Eqs (.int .i64 (kOf (msplit s).2))] [⟨W2,none,(gs1 0),2,.agg #[.bool false,.slice none 0 0],some (2,20,0),[]⟩] [] (by kernel_rfl) hn rfl (by kernel_rfl) (by kernel_rfl) (by kernel_rfl) (by kernel_rfl) (by kernel_rfl) (by kernel_rfl) ⟨Eqs.mono4 _,Eqs.mono4 _,True.mono4,Eqs.mono4 _,trivial⟩ (ac8 W2ok aas) (IsOld.all (bx:=[⟨W2,none,(gs1 0),2,.agg #[.bool false,.slice none 0 0],some (2,20,0),[]⟩]) ⟨fun _=>⟨f2,b2⟩,trivial⟩) (DisOld.all (bx:=[⟨W2,none,(gs1 0),2,.agg #[.bool false,.slice none 0 0],some (2,20,0),[]⟩]) ⟨fun _=>trivial,trivial⟩) ?_ ?_
  ·exact⟨.norm 20 rfl rfl rfl (fun a_ w_ hn_ hBt hr hR hD hO hS=>avz),
    .norm 21 rfl rfl rfl (fun a_ w_ hn_ hBt hr hR hD hO hS=>aa1 ((hR 7 rfl).trans f7)),
    .store 0 _ _ _ rfl rfl rfl rfl rfl rfl rfl (fun ia h=>by cases h) rfl rfl rfl (aj8 ahs),
    .norm 3 rfl rfl rfl (fun a_ w_ hn_ hBt hr hR hD hO hS=>aae (show a_.eval (.tmp 21)=.int .i64 (kOf (msplit s).2)from hD 1 rfl)),
    trivial⟩
  intro a6 w6 gs6 hn6 hd6 hBt hr hR hP hX hU;replace hn:=hn6;replace hd:=hd6.trans hd;have e20:a6.eval (.tmp 20)=.agg #[.bool false,.slice none 0 0]:=hP 0 (by decide);have b2:BoxV W2 w6 ((gs1 0)) (.agg #[.bool false,.slice none 0 0]):=ae7 ((hX 0 _ rfl).2.1 rfl) (hX 0 _ rfl).2.2.2 e20;replace f2:a6.eval (.tmp 2)=_:=(hR 2 rfl).trans f2;replace f4:=(hR 4 rfl).trans f4;replace f6:=(hR 6 rfl).trans f6;have e3:a6.eval (.tmp 3)=.int .i64 (kOf (msplit s).2):=hP 3 (by decide);have f3:=e3;replace K4:=K4.rl hr;replace S4:=S4.rl hr;replace HB:=HB.trans (hBt.below HB.size (UpOld.all (bx:=[⟨W2,none,(gs1 0),2,.agg #[.bool false,.slice none 0 0],some (2,20,0),[]⟩]) ⟨fun _=>u2,trivial⟩));clear hBt hr hR hP hX hU;refine wp_ret ?_;repeat(first|refine acg ?_|refine abn ?_|refine ab3 ?_)
  exact bodyPost_ret (v:=.tuple #[.agg #[.bool false,.slice none 0 0],.int .i64 (kOf (msplit s).2)]) (ad4 rfl f2 (aht b2) f3) hd ⟨_,rfl,⟨_,_,rfl,by rw[zOf,ata hk0];exact aq1 _,rfl⟩,HB⟩
 ·skip;have hk0:kOf (msplit s).2=0:=by simpa using hc19
  refine wp_skip ?_;refine wp_seq ?_;refine aam [some 22,some 23,some 24,none,some 3] [Eqs (.bool (msplit s).1),Eqs (.slice a_4 r_4.length c_4),OutW (sg ((msplit s).1) (xOf (msplit s).2)) (6000),(fun _ _=>True),Eqs ((.int .i64 0))] [⟨W2,none,(gs1 0),2,.agg #[.bool false,.slice none 0 0],some (3,24,2),[]⟩] [] (by kernel_rfl) hn rfl (by kernel_rfl) (by kernel_rfl) (by kernel_rfl) (by kernel_rfl) (by kernel_rfl) (by kernel_rfl) ⟨Eqs.mono4 _,Eqs.mono4 _,OutW.mono4 _ _,True.mono4,Eqs.mono4 _,trivial⟩ (ac8 W2ok aas) (IsOld.all (bx:=[⟨W2,none,(gs1 0),2,.agg #[.bool false,.slice none 0 0],some (3,24,2),[]⟩]) ⟨fun _=>⟨f2,b2⟩,trivial⟩) (DisOld.all (bx:=[⟨W2,none,(gs1 0),2,.agg #[.bool false,.slice none 0 0],some (3,24,2),[]⟩]) ⟨fun _=>trivial,trivial⟩) ?_ ?_
  ·exact⟨.norm 22 rfl rfl rfl (fun a_ w_ hn_ hBt hr hR hD hO hS=>aa1 ((hR 4 rfl).trans f4)),
    .norm 23 rfl rfl rfl (fun a_ w_ hn_ hBt hr hR hD hO hS=>aa1 ((hR 6 rfl).trans f6)),
    .norm 24 rfl rfl rfl (fun a_ w_ hn_ hBt hr hR hD hO hS=>aof (show a_.eval (.tmp 22)=.bool (msplit s).1 from hD 0 rfl) (auj (show a_.eval (.tmp 23)=.slice a_4 r_4.length c_4 from hD 1 rfl) (K4.rl hr) l4) (by omega)),
    .store 0 _ _ _ rfl rfl rfl rfl rfl rfl rfl (fun ia h=>by cases h) rfl rfl rfl OutW.cs,
    .norm 3 rfl rfl rfl (fun a_ w_ hn_ hBt hr hR hD hO hS=>aae rfl),
    trivial⟩
  intro a7 w7 gs7 hn7 hd7 hBt hr hR hP hX hU;replace hn:=hn7;replace hd:=hd7.trans hd;obtain⟨n_8,a_8,c_8,r_8,e24,G8,l8⟩:OutW (sg ((msplit s).1) (xOf (msplit s).2)) (6000) (a7.eval (.tmp 24)) w7:=hP 2 (by decide);have A8:=G8.ag;have b2:BoxV W2 w7 ((gs1 0)) (.agg #[.bool n_8,.slice a_8 r_8.length c_8]):=ae7 ((hX 0 _ rfl).2.1 rfl) (hX 0 _ rfl).2.2.2 e24;replace f2:a7.eval (.tmp 2)=_:=(hR 2 rfl).trans f2;have e3:a7.eval (.tmp 3)=(.int .i64 0):=hP 4 (by decide);have f3:=e3;replace K4:=K4.rl hr;replace S4:=S4.rl hr;replace HB:=HB.trans (hBt.below HB.size (UpOld.all (bx:=[⟨W2,none,(gs1 0),2,.agg #[.bool false,.slice none 0 0],some (3,24,2),[]⟩]) ⟨fun _=>u2,trivial⟩));clear hBt hr hR hP hX hU;refine wp_ret ?_;repeat(first|refine acg ?_|refine abn ?_|refine ab3 ?_)
  exact bodyPost_ret (v:=.tuple #[.agg #[.bool n_8,.slice a_8 r_8.length c_8],(.int .i64 0)]) (ad4 rfl f2 (aht b2) f3) hd ⟨_,rfl,⟨_,_,rfl,aui rfl G8 l8,by rw[eOf,hk0];rfl⟩,HB⟩
end Lm
namespace Lm
open Go Go.RowKit
theorem acm(w:World)(hT:Tabs w)(q b:Nat)(tv uv:Value)(l:List Tk)(vs:List ByteArray)(i:Nat)(t:Tk)(h:Rea w q b tv uv l vs i)(ht:l[i]? = some t):
  Calls Tryz.prog 183 #[.pointer (some ⟨q,0,none⟩)] w fun e w'=>∃v,e=.returned v/\OutW (zOf t.text) 6000 v w'/\Below w.heap.size w w':=by
 have hb0:Below w.heap.size w (w.alloc (.cells #[.bool false,.slice none 0 0] 60)):=hAl _ _;have K:=hide (aax _ q b tv uv l vs i t (h.below hb0) ht);have HT:=hide hT;clear h ht hT;unfold Tk.av at K;have hf1:∀W,(Instr.field 109 (.agg #[.int .i64 t.kind,.string t.text,.int .i64 t.pl.b,.int .i64 t.pl.g,.int .i64 t.pl.l,.int .i64 t.pl.c]) 1).run Tryz.prog W=.ok (.string t.text) W:=fun W=>aoa _ _ _ _ _ _ W
 go_enter Tryz.func183,Tryz.ntmps183
 go_wp2_with fail
 refine K.out.mono ?_;rintro r w1 ⟨rfl,hb⟩;have HB:=hide (hb0.trans (hb.mono hb0.size));have hf:w1.heap[w.heap.size]? = some (.cells #[.bool false,.slice none 0 0] 60 (0,0)):=(hb.block _ (by simp)).trans (heap_alloc_new w _);have HF:=hide hf;clear hb K hb0 hf;go_wp2_with fail
 refine(atb w1 t.text (HT.out.below HB.out)).mono ?_;rintro r w2 ⟨v,rfl,⟨x,y,rfl,ho,rfl⟩,hb2⟩;obtain⟨ng,ao,cap,rs,rfl,ho'⟩:=id ho;have HO:=hide ho;have HB2:=hide (HB.out.trans (hb2.mono HB.out.size));have hf:=(hb2.block _ (aaa HF.out)).trans HF.out;have HF2:=hide hf;generalize hfz:w.heap.size=f at *
 obtain⟨hfl,c0,c1,fr0,fr1⟩:f<w2.heap.size/\w2.cell? ⟨f,0,none⟩=some (.bool false)/\w2.cell? ⟨f,1,none⟩=some (.slice none 0 0)/\w2.frozen? ⟨f,0,none⟩=false/\w2.frozen? ⟨f,1,none⟩=false:=⟨aaa hf,by rw[cell_of_row _ _ _ _ _ (0,0) hf];rfl,by rw[cell_of_row _ _ _ _ _ (0,0) hf];rfl,frozen_of_row _ _ _ _ _ hf,frozen_of_row _ _ _ _ _ hf⟩;clear ho ho' hb2 HF hf;go_wp2;refine bodyPost_ret (v:=.agg #[.bool ng,.slice ao rs.length cap]) (acj (g:=f) rfl rfl (lvw2 (aaq (ab1 HF2.out _ _)))) rfl ⟨_,rfl,HO.out.ru ((acb HF2.out _ _).trans (Ru.of_below (hAl _ _))),?_⟩;rw[hfz];have HBx:=HB2.out
 (repeat' first|with_reducible(first|exact Below.refl _ _|assumption|refine gdrewN ?_ _|refine Below.alloc ?_ ?_ _|refine Below.drew ?_|refine Below.setCell ?_ ?_ _)|go_size)
def sMinus:ByteArray:=⟨#[45]⟩
def sPlus:ByteArray:=⟨#[43]⟩
def sOver:ByteArray:=⟨#[47]⟩
def sTimes:ByteArray:=⟨#[42]⟩
def sEq:ByteArray:=⟨#[61]⟩
def tpm(t:Tk):Bool:=tsg t sMinus||tsg t sPlus
theorem aew(w:World)(q b:Nat)(tv uv:Value)(l:List Tk)(vs:List ByteArray)(i:Nat)(t:Tk)(h:Rea w q b tv uv l vs i)(ht:l[i]? = some t)(hj:t.kind=3->i+1<l.length)(hl:l.length<=100000):
  Calls Tryz.prog 135 #[.pointer (some ⟨q,0,none⟩)] w fun e w'=>e=.returned (.tuple #[.bool (tsg t sMinus),.bool (tpm t)])/\Rea w' q b tv uv l vs (if tpm t then i+1 else i)/\Rc q q w w':=by
 have K:=hide (abe w q b tv uv l vs i t h ht sMinus hj hl);have HT:=hide ht;have HJ:=hide (And.intro hj hl);clear h ht hj hl;cases hm:tsg t sMinus with
 |true=>
  have e1:tpm t=true:=by rw[tpm,hm];rfl
  rw[hm]at K;rw[e1];clear e1 hm;unfold sMinus at K;go_enter Tryz.func135,Tryz.ntmps135
  go_wp2_with fail
  refine K.out.mono ?_;rintro r w1 ⟨rfl,h1,h2⟩;have H1:=hide h1;have H2:=hide h2;clear h1 h2 K;go_wp2;refine bodyPost_ret (v:=_) (by simp[results,Tryz.results135,go_sem];try rfl) rfl ⟨rfl,H1.out,H2.out⟩
 |false=>
  have e1:tpm t=tsg t sPlus:=by rw[tpm,hm];rfl
  rw[hm]at K;rw[e1];clear e1 hm;unfold sMinus at K;obtain⟨bp,hbp⟩:∃bp,tsg t sPlus=bp:=⟨_,rfl⟩;obtain⟨j,hjj⟩:∃j,(if bp=true then i+1 else i)=j:=⟨_,rfl⟩;rw[hbp,hjj];have HBP:=hide hbp;have HJJ:=hide hjj;clear hbp hjj;go_enter Tryz.func135,Tryz.ntmps135
  go_wp2_with fail
  refine K.out.mono ?_;rintro r w1 ⟨rfl,h1,h2⟩;have K2:=hide (abe w1 q b tv uv l vs i t h1 HT.out sPlus HJ.out.1 HJ.out.2);have H2:=hide h2;clear h1 h2 K;rw[HBP.out,HJJ.out]at K2;unfold sPlus at K2;go_wp2_with fail
  refine K2.out.mono ?_;rintro r w2 ⟨rfl,h1,h2⟩;have H1:=hide h1;have H3:=hide (H2.out.trans h2);clear h1 h2 K2;go_wp2;refine bodyPost_ret (v:=_) (by simp[results,Tryz.results135,go_sem];try rfl) rfl ⟨rfl,H1.out,H3.out⟩
inductive CoefR (l:List Tk) (i:Nat):Bool->Nat->Rat->Prop
 |plain (t t1:Tk) (h:l[i]? = some t) (h1:l[i+1]? = some t1) (hs:tsg t1 sOver=false):CoefR l i true (i+1) (zOf t.text:Int)
 |over (t t1 t2:Tk) (h:l[i]? = some t) (h1:l[i+1]? = some t1) (hs:tsg t1 sOver=true) (h2:l[i+2]? = some t2) (hz:zOf t2.text≠0):CoefR l i true (i+3) (Rat.divInt (zOf t.text) (zOf t2.text))
 |bad (t t1 t2:Tk) (h:l[i]? = some t) (h1:l[i+1]? = some t1) (hs:tsg t1 sOver=true) (h2:l[i+2]? = some t2) (hz:zOf t2.text=0):CoefR l i false (i+2) 0
structure Wf (l:List Tk):Prop where
 len:l.length<=100000
 stop:∀(i:Nat) (t:Tk),l[i]? = some t->i+1=l.length->t.kind=0/\t.text=⟨#[]⟩
theorem Wf.more{l:List Tk}(h:Wf l){i:Nat}{t:Tk}(ht:l[i]? = some t)(hk:t.kind≠0):i+1<l.length:=by
 have:=(List.getElem?_eq_some_iff.1 ht).1;by_cases he:i+1=l.length
 ·exact absurd (h.stop i t ht he).1 hk
 ·omega
theorem agi{w:World}{q b:Nat}{tv uv:Value}{l:List Tk}{vs:List ByteArray}{i:Nat}{u:Value}(h:Rea w q b tv uv l vs i):Ru w (w.setCell ⟨q,1,none⟩ u):=by
 refine Ru.of_one h.blk (by decide) ?_ (by simp[World.setCell]) (fun k _ hn=>heap_setCell_other w ⟨q,1,none⟩ k _ hn);obtain⟨ao,ct,rfl,_⟩:=h.tks.parts;obtain⟨ao',ct',rfl,_⟩:=h.vrs;intro k z
 match k with
 |0=>simp
 |1=>simp
 |2=>simp
 |k+3=>simp
theorem Rea.fill3{w w3:World}{q b:Nat}{tv uv:Value}{l:List Tk}{vs:List ByteArray}{i j f:Nat}{ng:Bool}{a d:Option Addr}{n c k e:Nat}(H:Rea w q b tv uv l vs i)(HR:Rea w3 q b tv uv l vs j)(HC:Rc q q w w3)(hf:w3.heap[f]? = some (.cells #[.bool ng,.slice a n c,.slice d k e] 62 (0,0)))(hfw:w.heap.size<=f)(u v x:Value):Rea (((w3.setCell ⟨f,0,none⟩ u).setCell ⟨f,1,none⟩ v).setCell ⟨f,2,none⟩ x) q b tv uv l vs j/\Rc q q w (((w3.setCell ⟨f,0,none⟩ u).setCell ⟨f,1,none⟩ v).setCell ⟨f,2,none⟩ x):=by
 have hq:=aaa H.blk;have ho:∀k,k≠f->(((w3.setCell ⟨f,0,none⟩ u).setCell ⟨f,1,none⟩ v).setCell ⟨f,2,none⟩ x).heap[k]? = w3.heap[k]? :=fun k hn=>by rw[heap_setCell_other _ ⟨f,2,none⟩ k _ hn,heap_setCell_other _ ⟨f,1,none⟩ k _ hn,heap_setCell_other _ ⟨f,0,none⟩ k _ hn]
 have hrc:Rc q q w (((w3.setCell ⟨f,0,none⟩ u).setCell ⟨f,1,none⟩ v).setCell ⟨f,2,none⟩ x):=⟨HC.os,HC.tape,HC.output,by simpa[World.setCell]using HC.size,fun k hk h1 h2=>(ho k (by omega)).trans (HC.other k hk h1 h2),HC.ru.trans (aeg hf u v x)⟩;exact⟨H.rc hrc.wide ((ho q (by omega)).trans HR.blk) HR.lt,hrc⟩
theorem Tabs.rcs{w w':World}{q b:Nat}(hT:Tabs w)(hr:Rc q b w w')(hq:∀z,w.cell? ⟨q,0,none⟩≠some (.int .u8 z))(hb:∀z,w.cell? ⟨b,0,none⟩≠some (.int .u8 z)):Tabs w':=by
 obtain⟨h1,h2⟩:=hT;have keep:∀g c z,(∃z0,w.cell? ⟨g,0,none⟩=some (.int .u8 z0))->w.cell? ⟨g,c,none⟩=some (.int .u8 z)->w'.cell? ⟨g,c,none⟩=some (.int .u8 z):=by
  rintro g c z ⟨z0,e0⟩ e;have n1:g≠q:=by rintro rfl;exact hq _ e0
  have n2:g≠b:=by rintro rfl;exact hb _ e0
  rw[World.cell?_of_block (w:=w) (hr.other g (aap e) n1 n2)];exact e
 refine⟨fun c hc=>keep _ _ _ ⟨_,h1 0 (by decide)⟩ (h1 c hc),fun i hi=>⟨keep _ _ _ ⟨_,(h2 0 (by decide)).1⟩ (h2 i hi).1,keep _ _ _ ⟨_,(h2 0 (by decide)).1⟩ (h2 i hi).2⟩⟩
theorem Rea.no8{w:World}{q b:Nat}{tv uv:Value}{l:List Tk}{vs:List ByteArray}{i:Nat}(h:Rea w q b tv uv l vs i)(z:Int):w.cell? ⟨q,0,none⟩≠some (.int .u8 z):=by
 rw[cell_of_row _ _ _ _ _ (0,0) h.blk];obtain⟨ao,ct,rfl,_⟩:=h.tks.parts;simp
theorem Tabs.rc{w w':World}{q b:Nat}{tv uv:Value}{l:List Tk}{vs:List ByteArray}{i:Nat}(hT:Tabs w)(h:Rea w q b tv uv l vs i)(hr:Rc q q w w'):Tabs w':=hT.rcs hr h.no8 h.no8
theorem al1(w:World)(hT:Tabs w)(q b:Nat)(tv uv:Value)(l:List Tk)(hW:Wf l)(vs:List ByteArray)(i:Nat)(h:Rea w q b tv uv l vs i)(t t1:Tk)(ht:l[i]? = some t)(ht1:l[i+1]? = some t1)(hs:tsg t1 sOver=false)(N:Nat)(hz:Fit (zOf t.text:Int) N):
  Calls Tryz.prog 169 #[.pointer (some ⟨q,0,none⟩)] w fun e w'=>∃v,e=.returned (.tuple #[v,.bool true])/\OutQr (zOf t.text:Int) N v w'/\Rea w' q b tv uv l vs (i+1)/\Rc q q w w':=by
 have hj:i+1<l.length:=(List.getElem?_eq_some_iff.1 ht1).1;have HJ:=hide hj;have hi:i<=100000:=by have:=hW.len;omega
 have hq:=aaa h.blk;have hb0:Below w.heap.size w (w.alloc (.cells #[.bool false,.slice none 0 0,.slice none 0 0] 62)):=hAl _ _;have K:=hide (acm _ (hT.below hb0) q b tv uv l vs i t (h.below hb0) ht);have H:=hide h;have HT1:=hide ht1;have HS:=hide hs;have HW:=hide hW;have HZ:=hide hz;clear h ht ht1 hs hT hW hj hz;go_enter Tryz.func169,Tryz.ntmps169
 go_wp2_with fail
 refine K.out.mono ?_;rintro r w1 ⟨v,rfl,ho,hb1⟩;obtain⟨ng,ao,cap,rs,rfl,_⟩:=id ho;have HO:=hide ho;have HB:=hide (hb0.trans (hb1.mono hb0.size));have hf:w1.heap[w.heap.size]? = some (.cells #[.bool false,.slice none 0 0,.slice none 0 0] 62 (0,0)):=(hb1.block _ (by simp)).trans (heap_alloc_new w _);have HF:=hide hf;have hqb:=(HB.out.block q hq).trans H.out.blk;have k1:w1.cell? ⟨q,1,none⟩=some (.int .i64 i):=by rw[cell_of_row _ _ _ _ _ (0,0) hqb];rfl
 have kf:w1.frozen? ⟨q,1,none⟩=false:=frozen_of_row w1 q 1 _ _ hqb;have hq1:q<w1.heap.size:=aaa hqb;clear ho hb1 K hb0 hf hqb;go_wp2_with fail
 obtain⟨n1,n2⟩:=H.out.next (.of_below HB.out) (HB.out.block q hq) HJ.out;have hmm:(w1.setCell ⟨q,1,none⟩ (.int .i64 ((i:Int)+1))).heap.size=w1.heap.size:=by simp[World.setCell]
 have hf2:((w1.setCell ⟨q,1,none⟩ (.int .i64 ((i:Int)+1))).alloc (.cells #[.bool ng,.slice ao rs.length cap] 60)).heap[w.heap.size]? = some (.cells #[.bool false,.slice none 0 0,.slice none 0 0] 62 (0,0)):=aaq ((heap_setCell_other w1 ⟨q,1,none⟩ _ _ (by show w.heap.size≠q;omega)).trans HF.out);have hm2:((w1.setCell ⟨q,1,none⟩ (.int .i64 ((i:Int)+1))).alloc (.cells #[.bool ng,.slice ao rs.length cap] 60)).heap[w1.heap.size]? = some (.cells #[.bool ng,.slice ao rs.length cap] 60 (0,0)):=by rw[<-hmm];exact heap_alloc_new _ _
 have hu2:Ru w1 ((w1.setCell ⟨q,1,none⟩ (.int .i64 ((i:Int)+1))).alloc (.cells #[.bool ng,.slice ao rs.length cap] 60)):=(agi (H.out.below HB.out)).trans (Ru.of_below (hAl _ _));have K:=abe _ q b tv uv l vs (i+1) t1 (n1.below (hAl _ (.cells #[.bool ng,.slice ao rs.length cap] 60))) HT1.out sOver (fun h3=>HW.out.more HT1.out (by rw[h3];decide)) HW.out.len;rw[HS.out]at K;refine K.mono ?_;rintro r w2 ⟨rfl,hR2,hC2⟩;have HR2:=hide hR2;have HC2:=hide ((n2.trans (.of_below (hAl _ _))).trans hC2);have HO2:=hide (HO.out.ru (hu2.trans hC2.ru));have hf3:=(hC2.other _ (aaa hf2) (by omega) (by omega)).trans hf2;have hm3:=(hC2.other _ (aaa hm2) (by omega) (by omega)).trans hm2;have HF3:=hide hf3;obtain⟨_,m0,m1,_,_⟩:=aah hm3;have HM3:=hide hm3;clear hR2 hC2 hf2 hm2 hu2 K n1 n2 hmm hm3 hf3 k1 kf;go_wp2_with fail
 refine(ada w2 _ _ _ HO2.out.is (by omega)).mono ?_;rintro r w3 ⟨v,rfl,ho3,hb3⟩;replace ho3:=ho3.fit HZ.out;obtain⟨ng1,ao1,cap1,rs1,bo1,dap1,ss1,rfl,_⟩:=id ho3;have HO3:=hide ho3;have hf4:=(hb3.block _ (aaa HF3.out)).trans HF3.out;have HF4:=hide hf4;obtain⟨hfl,c0,c1,c2,fr0,fr1,fr2⟩:=aac hf4;have HR4:=hide (HR2.out.below hb3);have HC4:=hide (HC2.out.trans (.of_below hb3));clear ho3 hb3 hf4;go_wp2;obtain⟨x1,x2⟩:=H.out.fill3 HR4.out HC4.out HF4.out (Nat.le_refl _) (.bool ng1) (.slice ao1 rs1.length cap1) (.slice bo1 ss1.length dap1);exact bodyPost_ret (v:=.tuple #[.agg #[.bool ng1,.slice ao1 rs1.length cap1,.slice bo1 ss1.length dap1],.bool true]) (ad4 (g:=w.heap.size) rfl rfl (lvr3 (aet HF4.out _ _ _)) rfl) rfl ⟨_,rfl,HO3.out.ru (aeg HF4.out _ _ _),x1,x2⟩
theorem agv:Has Tryz.prog 183:=by unfold Has;kernel_rfl
theorem au8(w:World)(x y:Value)(z u:Int)(L M:Nat)(hx:IsW z L x w)(hy:IsW u M y w)(hL:L+M<=100000)(hu:u≠0)(N:Nat)(hf:Fit (Rat.divInt z u) N):
  Calls Tryz.prog 184 #[x,y] w fun e w'=>Below w.heap.size w w'/\∃v,e=.returned (.tuple #[v,.int .i64 0])/\OutQr (Rat.divInt z u) N v w':=by
 refine(atq w x y z u L M hx hy hL).mono ?_;rintro e w' ⟨hb,⟨_,v,rfl,ho⟩|⟨h0,_⟩⟩
 ·exact⟨hb,v,rfl,ho.fit hf⟩
 ·exact absurd h0 hu
theorem awr(w:World)(x y:Value)(z u:Int)(L M:Nat)(hx:IsW z L x w)(hy:IsW u M y w)(hL:L+M<=100000)(hu:u=0):
  Calls Tryz.prog 184 #[x,y] w fun e w'=>Below w.heap.size w w'/\e=.returned (.tuple #[.agg #[.bool false,.slice none 0 0,.slice none 0 0],.int .i64 20]):=by
 refine(atq w x y z u L M hx hy hL).mono ?_;rintro e w' ⟨hb,⟨h0,_⟩|⟨_,rfl⟩⟩
 ·exact absurd hu h0
 ·exact⟨hb,rfl⟩
theorem au9:zOf ⟨#[]⟩=0:=by
 have h1:msplit ⟨#[]⟩=(false,⟨#[]⟩):=by kernel_rfl
 have h2:¬Dm.Fine ⟨#[]⟩:=by
  rintro ⟨h,_⟩;exact absurd h (by decide)
 rw[zOf,h1,xOf,if_neg h2];rfl
def OutQr0(v:Value):Prop:=v=.agg #[.bool false,.slice none 0 0,.slice none 0 0]
theorem aog(w:World)(hT:Tabs w)(q b:Nat)(tv uv:Value)(l:List Tk)(hW:Wf l)(vs:List ByteArray)(i:Nat)(h:Rea w q b tv uv l vs i)(t t1 t2:Tk)(ht:l[i]? = some t)(ht1:l[i+1]? = some t1)(hs:tsg t1 sOver=true)(ht2:l[i+2]? = some t2)(hnz:zOf t2.text≠0)(N:Nat)(hz:Fit (Rat.divInt (zOf t.text) (zOf t2.text)) N):
  Calls Tryz.prog 169 #[.pointer (some ⟨q,0,none⟩)] w fun e w'=>∃v,e=.returned (.tuple #[v,.bool true])/\OutQr (Rat.divInt (zOf t.text) (zOf t2.text)) N v w'/\Rea w' q b tv uv l vs (i+3)/\Rc q q w w':=by
 have HT2:=hide ht2;have HTT:=hide hT;have HNZ:=hide hnz;have hj:i+1<l.length:=(List.getElem?_eq_some_iff.1 ht1).1;have HJ:=hide hj;have hj3:i+2+1<l.length:=by
  have h1:=(List.getElem?_eq_some_iff.1 ht2).1;by_cases he:i+2+1=l.length
  ·have h2:=(hW.stop _ _ ht2 he).2;rw[h2]at hnz;exact absurd au9 hnz
  ·omega
 have HJ3:=hide hj3;clear hj3;have hi:i<=100000:=by have:=hW.len;omega
 have hq:=aaa h.blk;have hb0:Below w.heap.size w (w.alloc (.cells #[.bool false,.slice none 0 0,.slice none 0 0] 62)):=hAl _ _;have K:=hide (acm _ (hT.below hb0) q b tv uv l vs i t (h.below hb0) ht);have H:=hide h;have HT1:=hide ht1;have HS:=hide hs;have HW:=hide hW;have HZ:=hide hz;clear h ht ht1 ht2 hs hT hW hj hz hnz;go_enter Tryz.func169,Tryz.ntmps169
 go_wp2_with fail
 refine K.out.mono ?_;rintro r w1 ⟨v,rfl,ho,hb1⟩;obtain⟨ng,ao,cap,rs,rfl,_⟩:=id ho;have HO:=hide ho;have HB:=hide (hb0.trans (hb1.mono hb0.size));have hf:w1.heap[w.heap.size]? = some (.cells #[.bool false,.slice none 0 0,.slice none 0 0] 62 (0,0)):=(hb1.block _ (by simp)).trans (heap_alloc_new w _);have HF:=hide hf;have hqb:=(HB.out.block q hq).trans H.out.blk;have k1:w1.cell? ⟨q,1,none⟩=some (.int .i64 i):=by rw[cell_of_row _ _ _ _ _ (0,0) hqb];rfl
 have kf:w1.frozen? ⟨q,1,none⟩=false:=frozen_of_row w1 q 1 _ _ hqb;have hq1:q<w1.heap.size:=aaa hqb;clear ho hb1 K hb0 hf hqb;go_wp2_with fail
 obtain⟨n1,n2⟩:=H.out.next (.of_below HB.out) (HB.out.block q hq) HJ.out;have hmm:(w1.setCell ⟨q,1,none⟩ (.int .i64 ((i:Int)+1))).heap.size=w1.heap.size:=by simp[World.setCell]
 have hf2:((w1.setCell ⟨q,1,none⟩ (.int .i64 ((i:Int)+1))).alloc (.cells #[.bool ng,.slice ao rs.length cap] 60)).heap[w.heap.size]? = some (.cells #[.bool false,.slice none 0 0,.slice none 0 0] 62 (0,0)):=aaq ((heap_setCell_other w1 ⟨q,1,none⟩ _ _ (by show w.heap.size≠q;omega)).trans HF.out);have hm2:((w1.setCell ⟨q,1,none⟩ (.int .i64 ((i:Int)+1))).alloc (.cells #[.bool ng,.slice ao rs.length cap] 60)).heap[w1.heap.size]? = some (.cells #[.bool ng,.slice ao rs.length cap] 60 (0,0)):=by rw[<-hmm];exact heap_alloc_new _ _
 have hu2:Ru w1 ((w1.setCell ⟨q,1,none⟩ (.int .i64 ((i:Int)+1))).alloc (.cells #[.bool ng,.slice ao rs.length cap] 60)):=(agi (H.out.below HB.out)).trans (Ru.of_below (hAl _ _));have K:=abe _ q b tv uv l vs (i+1) t1 (n1.below (hAl _ (.cells #[.bool ng,.slice ao rs.length cap] 60))) HT1.out sOver (fun h3=>HW.out.more HT1.out (by rw[h3];decide)) HW.out.len;rw[HS.out]at K;refine K.mono ?_;rintro r w2 ⟨rfl,hR2,hC2⟩;have HR2:=hide hR2;have HC2:=hide ((n2.trans (.of_below (hAl _ _))).trans hC2);have HO2:=hide (HO.out.ru (hu2.trans hC2.ru));have hf3:=(hC2.other _ (aaa hf2) (by omega) (by omega)).trans hf2;have hm3:=(hC2.other _ (aaa hm2) (by omega) (by omega)).trans hm2;have HF3:=hide hf3;obtain⟨_,m0,m1,_,_⟩:=aah hm3;have HM3:=hide hm3;clear hR2 hC2 hf2 hm2 hu2 K n1 n2 hmm hm3 hf3 k1 kf;rw[if_pos rfl]at HR2;have HTw:=hide (HTT.out.rc H.out HC2.out);go_wp2_with fail
 go_cut [5,6] (fun pv ev wx=>∃p ng4 ao4 m4 c4 bo4 k4 d4,pv=.pointer (some ⟨p,0,none⟩)/\ev=.int .i64 0/\wx.heap[p]? = some (.cells #[.bool ng4,.slice ao4 m4 c4,.slice bo4 k4 d4] 62 (0,0))/\OutQr (Rat.divInt (zOf t.text) (zOf t2.text)) N (.agg #[.bool ng4,.slice ao4 m4 c4,.slice bo4 k4 d4]) wx/\Below w2.heap.size w2 wx/\w2.heap.size<=p)
 case first=>
  go_region_law (first|(refine aav rfl 183 #[.tmp 23] #[102] rfl agv #[.pointer (some ⟨q,0,none⟩)] (by simp[Act.eval,Act.put]) (acm _ (HTw.out.below (show Below w2.heap.size w2 _ by(repeat' first|with_reducible(first|exact Below.refl _ _|assumption|refine gdrewN ?_ _|refine Below.alloc ?_ ?_ _|refine Below.drew ?_|refine Below.setCell ?_ ?_ _)|go_size))) q b tv uv l vs (i+2) t2 (HR2.out.below (show Below w2.heap.size w2 _ by(repeat' first|with_reducible(first|exact Below.refl _ _|assumption|refine gdrewN ?_ _|refine Below.alloc ?_ ?_ _|refine Below.drew ?_|refine Below.setCell ?_ ?_ _)|go_size))) HT2.out) ?_;rintro e w3 ⟨v,rfl,ho3,hb3⟩;obtain⟨ng3,ao3,cap3,rs3,rfl,_⟩:=id ho3;have HO3:=hide ho3;have hb23:Below w2.heap.size w2 w3:=(show Below w2.heap.size w2 _ by(repeat' first|with_reducible(first|exact Below.refl _ _|assumption|refine gdrewN ?_ _|refine Below.alloc ?_ ?_ _|refine Below.drew ?_|refine Below.setCell ?_ ?_ _)|go_size)).trans (hb3.mono (by simp));have HB23:=hide hb23;have hm3:=(hb23.block _ (aaa HM3.out)).trans HM3.out;have hm3:=aah hm3;obtain⟨_,m03,m13,_,_⟩:=hm3;first|(have hz3:w3.heap[w2.heap.size]? = some (.cells #[.bool false,.slice none 0 0,.slice none 0 0] 62 (0,0)):=(hb3.block _ (by simp)).trans (heap_alloc_new w2 _);have hz3':=aac hz3;have HZ3:=hide hz3;clear hz3;obtain⟨_,z30,z31,z32,y30,y31,y32⟩:=hz3')|skip;clear ho3 hb3 hb23;refine⟨_,rfl,?_⟩)|(refine aav rfl 184 #[.tmp 22,.tmp 24] #[60,60] rfl aml #[.agg #[.bool ng,.slice ao rs.length cap],.agg #[.bool ng3,.slice ao3 rs3.length cap3]] (by simp[Act.eval]) (au8 _ _ _ _ _ 6000 6000 (HO2.out.ru (Ru.of_below (HB23.out.trans ((show Below w3.heap.size w3 _ by(repeat' first|with_reducible(first|exact Below.refl _ _|assumption|refine gdrewN ?_ _|refine Below.alloc ?_ ?_ _|refine Below.drew ?_|refine Below.setCell ?_ ?_ _)|go_size)).mono HB23.out.size)))).is (HO3.out.ru (Ru.of_below (show Below w3.heap.size w3 _ by(repeat' first|with_reducible(first|exact Below.refl _ _|assumption|refine gdrewN ?_ _|refine Below.alloc ?_ ?_ _|refine Below.drew ?_|refine Below.setCell ?_ ?_ _)|go_size)))).is (by omega) HNZ.out N HZ.out) ?_;rintro e w4 ⟨hb4,v,rfl,ho4⟩;obtain⟨ng4,ao4,cap4,rs4,bo4,dap4,ss4,rfl,_⟩:=id ho4;have HO4:=hide ho4;clear ho4;have hb24:Below w2.heap.size w2 w4:=(show Below w2.heap.size w2 _ from(HB23.out.trans ((show Below w3.heap.size w3 _ by(repeat' first|with_reducible(first|exact Below.refl _ _|assumption|refine gdrewN ?_ _|refine Below.alloc ?_ ?_ _|refine Below.drew ?_|refine Below.setCell ?_ ?_ _)|go_size)).mono HB23.out.size))).trans (hb4.mono (by first|exact HB23.out.size|exact Nat.le_trans HB23.out.size (Nat.le_of_lt (by simp))));have HB24:=hide hb24;have hq4:=hb24.block q (aaa HR2.out.blk);have hq4:=hq4.trans HR2.out.blk;have q41:w4.cell? ⟨q,1,none⟩=some (.int .i64 ((i+2:Nat):Int)):=(by rw[cell_of_row _ _ _ _ _ (0,0) hq4];rfl);have q4f:w4.frozen? ⟨q,1,none⟩=false:=frozen_of_row w4 q 1 _ _ hq4;have hf4:=(hb24.block _ (aaa HF3.out)).trans HF3.out;have HF4:=hide hf4;have hf4:=aac hf4;obtain⟨hfl,c0,c1,c2,fr0,fr1,fr2⟩:=hf4;first|(have hz4:=(hb4.block _ (aaa HZ3.out)).trans HZ3.out;have hz4':=aac hz4;have HZ4:=hide hz4;clear hz4;obtain⟨_,z40,z41,z42,y40,y41,y42⟩:=hz4')|(have hz4:w4.heap[w3.heap.size]? = some (.cells #[.bool false,.slice none 0 0,.slice none 0 0] 62 (0,0)):=(hb4.block _ (by simp)).trans (heap_alloc_new w3 _);have hz4':=aac hz4;have HZ4:=hide hz4;clear hz4;obtain⟨_,z40,z41,z42,y40,y41,y42⟩:=hz4')|skip;clear hb4 hb24 hq4;refine⟨_,rfl,?_⟩))
  all_goals (
   go_wp2_with fail
   go_meet;have hb24:=HB24.out;have hb23:=HB23.out;first
   |exact⟨_,_,_,_,_,_,_,_,rfl,rfl,aet HZ4.out _ _ _,HO4.out.ru (aeg HZ4.out _ _ _),((hb24.setCell (by first|exact Nat.le_refl _|exact hb23.size) _).setCell (by first|exact Nat.le_refl _|exact hb23.size) _).setCell (by first|exact Nat.le_refl _|exact hb23.size) _,by first|exact Nat.le_refl _|exact hb23.size⟩
   |exact⟨_,_,_,_,_,_,_,_,rfl,rfl,heap_alloc_new w4 _,HO4.out.ru (Ru.of_below (hAl _ _)),hb24.alloc hb24.size _,hb24.size⟩)
 case rest=>
  obtain⟨p,ng4,ao4,m4,c4,bo4,k4,d4,rfl,rfl,hp,ho4,hb,hpl⟩:=hcut;have HO4:=hide ho4;have hq2:=aaa HR2.out.blk;have hq4:=(hb.block q hq2).trans HR2.out.blk;have q41:wc.cell? ⟨q,1,none⟩=some (.int .i64 ((i+2:Nat):Int)):=by rw[cell_of_row _ _ _ _ _ (0,0) hq4];rfl
  rw[show((i+2:Nat):Int)=(i:Int)+2 from by omega]at q41;have q4f:wc.frozen? ⟨q,1,none⟩=false:=frozen_of_row wc q 1 _ _ hq4;have hf4:=(hb.block _ (aaa HF3.out)).trans HF3.out;have HF4:=hide hf4;obtain⟨hfl,c0,c1,c2,fr0,fr1,fr2⟩:=aac hf4;obtain⟨hpl2,p0,p1,p2,_,_,_⟩:=aac hp;have HB4:=hide hb;have hpq:p≠q:=by omega
  have hfp:=aaa HF3.out;have hpf:p≠w.heap.size:=by omega
  clear ho4 hb hq4 hf4 hp m0 m1;go_wp2;obtain⟨n1,n2⟩:=HR2.out.next (.of_below HB4.out) (HB4.out.block q hq2) HJ3.out;rw[show((i+2:Nat):Int)=(i:Int)+2 from by omega]at n1 n2;have hfq:(wc.setCell ⟨q,1,none⟩ (.int .i64 ((i:Int)+2+1))).heap[w.heap.size]? = some (.cells #[.bool false,.slice none 0 0,.slice none 0 0] 62 (0,0)):=(heap_setCell_other wc ⟨q,1,none⟩ _ _ (by show w.heap.size≠q;omega)).trans HF4.out;obtain⟨x1,x2⟩:=H.out.fill3 n1 (HC2.out.trans n2) hfq (Nat.le_refl _) (.bool ng4) (.slice ao4 m4 c4) (.slice bo4 k4 d4);exact bodyPost_ret (v:=.tuple #[.agg #[.bool ng4,.slice ao4 m4 c4,.slice bo4 k4 d4],.bool true]) (ad4 (g:=w.heap.size) rfl rfl (lvr3 (aet hfq _ _ _)) rfl) rfl ⟨_,rfl,HO4.out.ru ((agi (HR2.out.below HB4.out)).trans (aeg hfq _ _ _)),x1,x2⟩
theorem aq2(w:World)(hT:Tabs w)(q b:Nat)(tv uv:Value)(l:List Tk)(hW:Wf l)(vs:List ByteArray)(i:Nat)(h:Rea w q b tv uv l vs i)(t t1 t2:Tk)(ht:l[i]? = some t)(ht1:l[i+1]? = some t1)(hs:tsg t1 sOver=true)(ht2:l[i+2]? = some t2)(hnz:zOf t2.text=0):
  Calls Tryz.prog 169 #[.pointer (some ⟨q,0,none⟩)] w fun e w'=>∃v,e=.returned (.tuple #[v,.bool false])/\OutQr0 v/\Rea w' q b tv uv l vs (i+2)/\Rc q q w w':=by
 have HT2:=hide ht2;have HTT:=hide hT;have HNZ:=hide hnz;have hj:i+1<l.length:=(List.getElem?_eq_some_iff.1 ht1).1;have HJ:=hide hj;have hi:i<=100000:=by have:=hW.len;omega
 have hq:=aaa h.blk;have hb0:Below w.heap.size w (w.alloc (.cells #[.bool false,.slice none 0 0,.slice none 0 0] 62)):=hAl _ _;have K:=hide (acm _ (hT.below hb0) q b tv uv l vs i t (h.below hb0) ht);have H:=hide h;have HT1:=hide ht1;have HS:=hide hs;have HW:=hide hW;clear h ht ht1 ht2 hs hT hW hj hnz;go_enter Tryz.func169,Tryz.ntmps169
 go_wp2_with fail
 refine K.out.mono ?_;rintro r w1 ⟨v,rfl,ho,hb1⟩;obtain⟨ng,ao,cap,rs,rfl,_⟩:=id ho;have HO:=hide ho;have HB:=hide (hb0.trans (hb1.mono hb0.size));have hf:w1.heap[w.heap.size]? = some (.cells #[.bool false,.slice none 0 0,.slice none 0 0] 62 (0,0)):=(hb1.block _ (by simp)).trans (heap_alloc_new w _);have HF:=hide hf;have hqb:=(HB.out.block q hq).trans H.out.blk;have k1:w1.cell? ⟨q,1,none⟩=some (.int .i64 i):=by rw[cell_of_row _ _ _ _ _ (0,0) hqb];rfl
 have kf:w1.frozen? ⟨q,1,none⟩=false:=frozen_of_row w1 q 1 _ _ hqb;have hq1:q<w1.heap.size:=aaa hqb;clear ho hb1 K hb0 hf hqb;go_wp2_with fail
 obtain⟨n1,n2⟩:=H.out.next (.of_below HB.out) (HB.out.block q hq) HJ.out;have hmm:(w1.setCell ⟨q,1,none⟩ (.int .i64 ((i:Int)+1))).heap.size=w1.heap.size:=by simp[World.setCell]
 have hf2:((w1.setCell ⟨q,1,none⟩ (.int .i64 ((i:Int)+1))).alloc (.cells #[.bool ng,.slice ao rs.length cap] 60)).heap[w.heap.size]? = some (.cells #[.bool false,.slice none 0 0,.slice none 0 0] 62 (0,0)):=aaq ((heap_setCell_other w1 ⟨q,1,none⟩ _ _ (by show w.heap.size≠q;omega)).trans HF.out);have hm2:((w1.setCell ⟨q,1,none⟩ (.int .i64 ((i:Int)+1))).alloc (.cells #[.bool ng,.slice ao rs.length cap] 60)).heap[w1.heap.size]? = some (.cells #[.bool ng,.slice ao rs.length cap] 60 (0,0)):=by rw[<-hmm];exact heap_alloc_new _ _
 have hu2:Ru w1 ((w1.setCell ⟨q,1,none⟩ (.int .i64 ((i:Int)+1))).alloc (.cells #[.bool ng,.slice ao rs.length cap] 60)):=(agi (H.out.below HB.out)).trans (Ru.of_below (hAl _ _));have K:=abe _ q b tv uv l vs (i+1) t1 (n1.below (hAl _ (.cells #[.bool ng,.slice ao rs.length cap] 60))) HT1.out sOver (fun h3=>HW.out.more HT1.out (by rw[h3];decide)) HW.out.len;rw[HS.out]at K;refine K.mono ?_;rintro r w2 ⟨rfl,hR2,hC2⟩;have HR2:=hide hR2;have HC2:=hide ((n2.trans (.of_below (hAl _ _))).trans hC2);have HO2:=hide (HO.out.ru (hu2.trans hC2.ru));have hf3:=(hC2.other _ (aaa hf2) (by omega) (by omega)).trans hf2;have hm3:=(hC2.other _ (aaa hm2) (by omega) (by omega)).trans hm2;have HF3:=hide hf3;obtain⟨_,m0,m1,_,_⟩:=aah hm3;have HM3:=hide hm3;clear hR2 hC2 hf2 hm2 hu2 K n1 n2 hmm hm3 hf3 k1 kf;rw[if_pos rfl]at HR2;have HTw:=hide (HTT.out.rc H.out HC2.out);go_wp2_with fail
 go_cut [6] (fun ev wx=>ev=.int .i64 20/\Below w2.heap.size w2 wx)
 case first=>
  go_region_law (first|(refine aav rfl 183 #[.tmp 23] #[102] rfl agv #[.pointer (some ⟨q,0,none⟩)] (by simp[Act.eval,Act.put]) (acm _ (HTw.out.below (show Below w2.heap.size w2 _ by(repeat' first|with_reducible(first|exact Below.refl _ _|assumption|refine gdrewN ?_ _|refine Below.alloc ?_ ?_ _|refine Below.drew ?_|refine Below.setCell ?_ ?_ _)|go_size))) q b tv uv l vs (i+2) t2 (HR2.out.below (show Below w2.heap.size w2 _ by(repeat' first|with_reducible(first|exact Below.refl _ _|assumption|refine gdrewN ?_ _|refine Below.alloc ?_ ?_ _|refine Below.drew ?_|refine Below.setCell ?_ ?_ _)|go_size))) HT2.out) ?_;rintro e w3 ⟨v,rfl,ho3,hb3⟩;obtain⟨ng3,ao3,cap3,rs3,rfl,_⟩:=id ho3;have HO3:=hide ho3;have hb23:Below w2.heap.size w2 w3:=(show Below w2.heap.size w2 _ by(repeat' first|with_reducible(first|exact Below.refl _ _|assumption|refine gdrewN ?_ _|refine Below.alloc ?_ ?_ _|refine Below.drew ?_|refine Below.setCell ?_ ?_ _)|go_size)).trans (hb3.mono (by simp));have HB23:=hide hb23;have hm3:=(hb23.block _ (aaa HM3.out)).trans HM3.out;have hm3:=aah hm3;obtain⟨_,m03,m13,_,_⟩:=hm3;first|(have hz3:w3.heap[w2.heap.size]? = some (.cells #[.bool false,.slice none 0 0,.slice none 0 0] 62 (0,0)):=(hb3.block _ (by simp)).trans (heap_alloc_new w2 _);have hz3':=aac hz3;have HZ3:=hide hz3;clear hz3;obtain⟨_,z30,z31,z32,y30,y31,y32⟩:=hz3')|skip;clear ho3 hb3 hb23;refine⟨_,rfl,?_⟩)|(refine aav rfl 184 #[.tmp 22,.tmp 24] #[60,60] rfl aml #[.agg #[.bool ng,.slice ao rs.length cap],.agg #[.bool ng3,.slice ao3 rs3.length cap3]] (by simp[Act.eval]) (awr _ _ _ _ _ 6000 6000 (HO2.out.ru (Ru.of_below (HB23.out.trans ((show Below w3.heap.size w3 _ by(repeat' first|with_reducible(first|exact Below.refl _ _|assumption|refine gdrewN ?_ _|refine Below.alloc ?_ ?_ _|refine Below.drew ?_|refine Below.setCell ?_ ?_ _)|go_size)).mono HB23.out.size)))).is (HO3.out.ru (Ru.of_below (show Below w3.heap.size w3 _ by(repeat' first|with_reducible(first|exact Below.refl _ _|assumption|refine gdrewN ?_ _|refine Below.alloc ?_ ?_ _|refine Below.drew ?_|refine Below.setCell ?_ ?_ _)|go_size)))).is (by omega) HNZ.out) ?_;rintro e w4 ⟨hb4,rfl⟩;have hb24:Below w2.heap.size w2 w4:=(show Below w2.heap.size w2 _ from(HB23.out.trans ((show Below w3.heap.size w3 _ by(repeat' first|with_reducible(first|exact Below.refl _ _|assumption|refine gdrewN ?_ _|refine Below.alloc ?_ ?_ _|refine Below.drew ?_|refine Below.setCell ?_ ?_ _)|go_size)).mono HB23.out.size))).trans (hb4.mono (by first|exact HB23.out.size|exact Nat.le_trans HB23.out.size (Nat.le_of_lt (by simp))));have HB24:=hide hb24;have hq4:=hb24.block q (aaa HR2.out.blk);have hq4:=hq4.trans HR2.out.blk;have q41:w4.cell? ⟨q,1,none⟩=some (.int .i64 ((i+2:Nat):Int)):=(by rw[cell_of_row _ _ _ _ _ (0,0) hq4];rfl);have q4f:w4.frozen? ⟨q,1,none⟩=false:=frozen_of_row w4 q 1 _ _ hq4;have hf4:=(hb24.block _ (aaa HF3.out)).trans HF3.out;have HF4:=hide hf4;have hf4:=aac hf4;obtain⟨hfl,c0,c1,c2,fr0,fr1,fr2⟩:=hf4;first|(have hz4:=(hb4.block _ (aaa HZ3.out)).trans HZ3.out;have hz4':=aac hz4;have HZ4:=hide hz4;clear hz4;obtain⟨_,z40,z41,z42,y40,y41,y42⟩:=hz4')|(have hz4:w4.heap[w3.heap.size]? = some (.cells #[.bool false,.slice none 0 0,.slice none 0 0] 62 (0,0)):=(hb4.block _ (by simp)).trans (heap_alloc_new w3 _);have hz4':=aac hz4;have HZ4:=hide hz4;clear hz4;obtain⟨_,z40,z41,z42,y40,y41,y42⟩:=hz4')|skip;clear hb4 hb24 hq4;refine⟨_,rfl,?_⟩))
  all_goals (
   go_wp2_with fail
   go_meet;have hb24:=HB24.out;have hb23:=HB23.out;first
   |exact⟨rfl,((hb24.setCell (by first|exact Nat.le_refl _|exact hb23.size) _).setCell (by first|exact Nat.le_refl _|exact hb23.size) _).setCell (by first|exact Nat.le_refl _|exact hb23.size) _⟩
   |exact⟨rfl,hb24.alloc hb24.size _⟩)
 case rest=>
  obtain⟨rfl,hb⟩:=hcut;have hf4:=(hb.block _ (aaa HF3.out)).trans HF3.out;have HF4:=hide hf4;obtain⟨hfl,c0,c1,c2,fr0,fr1,fr2⟩:=aac hf4;have HB4:=hide hb;clear hb hf4 m0 m1;go_wp2;obtain⟨x1,x2⟩:=H.out.fill3 (HR2.out.below HB4.out) (HC2.out.trans (.of_below HB4.out)) HF4.out (Nat.le_refl _) (.bool false) (.slice none 0 0) (.slice none 0 0);exact bodyPost_ret (v:=.tuple #[.agg #[.bool false,.slice none 0 0,.slice none 0 0],.bool false]) (ad4 (g:=w.heap.size) rfl rfl (lvr3 (aet HF4.out _ _ _)) rfl) rfl ⟨_,rfl,rfl,x1,x2⟩
theorem ah9:Has Tryz.prog 65:=by unfold Has;kernel_rfl
theorem aia:Has Tryz.prog 73:=by unfold Has;kernel_rfl
theorem ava(w:World)(q b:Nat)(tv uv:Value)(l:List Tk)(vs:List ByteArray)(i:Nat)(h:Rea w q b tv uv l vs i)(t:Tk)(ht:l[i]? = some t)(x:Rat)(L:Nat)(xv av:Value)(hx:IsQ x L xv w)(hk:ixS t.text vs=none):
  Calls Tryz.prog 170 #[.pointer (some ⟨q,0,none⟩),xv,av] w fun e w'=>e=.returned (.bool false)/\Rea w' q b tv uv l vs i/\Rc q q w w':=by
 obtain⟨ng,ao,n,cap,xs,bo,m,dap,ys,p,d,rfl,_⟩:=hx.open;obtain⟨au,cu,rfl,_⟩:=h.vrs;have H:=hide h;have HT:=hide ht;have HK:=hide hk;have hq:=aaa h.blk;have k2:w.cell? ⟨q,2,none⟩=some (.slice au vs.length cu):=by rw[cell_of_row _ _ _ _ _ (0,0) h.blk];rfl
 have hf1:∀W,(Instr.field 109 (.agg #[.int .i64 t.kind,.string t.text,.int .i64 t.pl.b,.int .i64 t.pl.g,.int .i64 t.pl.l,.int .i64 t.pl.c]) 1).run Tryz.prog W=.ok (.string t.text) W:=fun W=>aoa _ _ _ _ _ _ W
 clear h ht hx hk;generalize vs.length=nv at *
 go_enter Tryz.func170,Tryz.ntmps170
 go_wp2_with fail
 go_cut [7] (fun ev wx=>ev=.int .i64 (-1)/\Below w.heap.size w wx)
 case first=>
  go_region_law (first|(refine aav rfl 65 #[.tmp 12] #[102] rfl ah9 #[.pointer (some ⟨q,0,none⟩)] (by simp[Act.eval,Act.put]) (aax _ q b tv (.slice au nv cu) l vs i t (H.out.below (show Below w.heap.size w _ by(repeat' first|with_reducible(first|exact Below.refl _ _|assumption|refine gdrewN ?_ _|refine Below.alloc ?_ ?_ _|refine Below.drew ?_|refine Below.setCell ?_ ?_ _)|go_size))) HT.out) ?_;rintro e w1 ⟨rfl,hb1⟩;have hbw:Below w.heap.size w w1:=(show Below w.heap.size w _ by(repeat' first|with_reducible(first|exact Below.refl _ _|assumption|refine gdrewN ?_ _|refine Below.alloc ?_ ?_ _|refine Below.drew ?_|refine Below.setCell ?_ ?_ _)|go_size)).trans (hb1.mono (by simp));have HB1:=hide hbw;have k21:=(hbw.cell (p:=⟨q,2,none⟩) hq).trans k2;unfold Tk.av;clear hb1 hbw;refine⟨_,rfl,?_⟩)|(refine aav rfl 73 #[.tmp 11,.tmp 14] #[22,9] rfl aia #[.slice au nv cu,.string t.text] (by simp[Act.eval,Act.put]) (afg _ _ _ _ vs t.text (H.out.below HB1.out).vrs) ?_;rintro e w2 ⟨rfl,rfl⟩;rw[HK.out];unfold ixV;refine⟨_,rfl,?_⟩))
  all_goals (
   go_wp2_with fail
   go_meet
   exact⟨rfl,HB1.out⟩)
 case rest=>
  obtain⟨rfl,hb⟩:=hcut;have HB:=hide hb;clear hb;go_wp2;refine bodyPost_ret (v:=_) (by simp[results,Tryz.results170,go_sem];try rfl) rfl ⟨rfl,H.out.below HB.out,.of_below HB.out⟩
theorem ate(w:World)(q b:Nat)(tv uv:Value)(l:List Tk)(vs:List ByteArray)(i:Nat)(h:Rea w q b tv uv l vs i)(t:Tk)(ht:l[i]? = some t)(x:Rat)(L:Nat)(xv av:Value)(hx:IsQ x L xv w)(g k:Nat)(rs:List Rat)(r:Rat)(sn:Bool)(hk:ixS t.text vs=some k)(hj:i+1<l.length)(hl:l.length<=100000)(hA:AddV q b g w av sn)(hR:RQ w g b rs L)(hr:rs[k]? = some r)(hL:L<=10000)(hfx:Fit x L)(hfr:Fit (r+sgq sn x) L)(hqb:q≠b)(hqg:g≠q):
  Calls Tryz.prog 170 #[.pointer (some ⟨q,0,none⟩),xv,av] w fun e w'=>e=.returned (.bool true)/\Rea w' q b tv uv l vs (i+1)/\Rc q b w w'/\RQ w' g b (rs.set k (r+sgq sn x)) L:=by
 have HX:=hide hx;obtain⟨f,cp,rfl,hf,hadd⟩:=ahe hA rs L k r hr hL;have HADD:=hide hadd;have HR:=hide hR;have HF:=hide (And.intro hfx hfr);have HJ:=hide hj;have hi:i<=100000:=by omega
 have hent:∀args W,(callFunc f args).run Tryz.prog W=.ok (.enter f args) W:=hf.enter;clear hadd hA hR hr hfx hfr hj hl;obtain⟨ng,ao,n,cap,xs,bo,m,dap,ys,p,d,rfl,_⟩:=hx.open;obtain⟨au,cu,rfl,_⟩:=h.vrs;have H:=hide h;have HT:=hide ht;have HK:=hide hk;have hq:=aaa h.blk;have k2:w.cell? ⟨q,2,none⟩=some (.slice au vs.length cu):=by rw[cell_of_row _ _ _ _ _ (0,0) h.blk];rfl
 have hf1:∀W,(Instr.field 109 (.agg #[.int .i64 t.kind,.string t.text,.int .i64 t.pl.b,.int .i64 t.pl.g,.int .i64 t.pl.l,.int .i64 t.pl.c]) 1).run Tryz.prog W=.ok (.string t.text) W:=fun W=>aoa _ _ _ _ _ _ W
 clear h ht hx hk;generalize vs.length=nv at *
 go_enter Tryz.func170,Tryz.ntmps170
 go_wp2_with fail
 go_cut [7] (fun ev wx=>ev=.int .i64 (k:Int)/\Below w.heap.size w wx/\wx.heap[w.heap.size]? = some (.cells #[.bool ng,.slice ao n cap,.slice bo m dap] 62 (0,0)))
 case first=>
  go_region_law (first|(refine aav rfl 65 #[.tmp 12] #[102] rfl ah9 #[.pointer (some ⟨q,0,none⟩)] (by simp[Act.eval,Act.put]) (aax _ q b tv (.slice au nv cu) l vs i t (H.out.below (show Below w.heap.size w _ by(repeat' first|with_reducible(first|exact Below.refl _ _|assumption|refine gdrewN ?_ _|refine Below.alloc ?_ ?_ _|refine Below.drew ?_|refine Below.setCell ?_ ?_ _)|go_size))) HT.out) ?_;rintro e w1 ⟨rfl,hb1⟩;have hbw:Below w.heap.size w w1:=(show Below w.heap.size w _ by(repeat' first|with_reducible(first|exact Below.refl _ _|assumption|refine gdrewN ?_ _|refine Below.alloc ?_ ?_ _|refine Below.drew ?_|refine Below.setCell ?_ ?_ _)|go_size)).trans (hb1.mono (by simp));have HB1:=hide hbw;have k21:=(hbw.cell (p:=⟨q,2,none⟩) hq).trans k2;have hbx:w1.heap[w.heap.size]? = some (.cells #[.bool ng,.slice ao n cap,.slice bo m dap] 62 (0,0)):=(hb1.block _ (by simp)).trans (heap_alloc_new w _);have HBX:=hide hbx;clear hbx;unfold Tk.av;clear hb1 hbw;refine⟨_,rfl,?_⟩)|(refine aav rfl 73 #[.tmp 11,.tmp 14] #[22,9] rfl aia #[.slice au nv cu,.string t.text] (by simp[Act.eval,Act.put]) (afg _ _ _ _ vs t.text (H.out.below HB1.out).vrs) ?_;rintro e w2 ⟨rfl,rfl⟩;rw[HK.out];unfold ixV;refine⟨_,rfl,?_⟩))
  all_goals (
   go_wp2_with fail
   go_meet
   exact⟨rfl,HB1.out,HBX.out⟩)
 case rest=>
  obtain⟨rfl,hb,hbx⟩:=hcut;obtain⟨_,x0,x1,x2,_,_,_⟩:=aac hbx;have HB:=hide hb;have hkk:decide ((k:Int)<0)=false:=by simp
  clear hb hbx;go_wp2_with fail
  refine(HADD.out wc x _ HB.out (HR.out.below HB.out) (HX.out.ru (Ru.of_below HB.out)) HF.out.1 HF.out.2).mono ?_;rintro e w2 ⟨rfl,hrc,hrq⟩;have hqw:=(hrc.other q (Nat.lt_of_lt_of_le hq HB.out.size) hqb hqb).trans (HB.out.block q hq);have hrc':Rc q b w w2:=(Rc.of_below HB.out).trans hrc.wideR;have h2:Rea w2 q b tv (.slice au nv cu) l vs i:=H.out.rc hrc' (hqw.trans H.out.blk) H.out.lt;have HRC:=hide hrc';have HRQ:=hide hrq;have k1:w2.cell? ⟨q,1,none⟩=some (.int .i64 i):=by rw[cell_of_row _ _ _ _ _ (0,0) h2.blk];rfl
  have kf:w2.frozen? ⟨q,1,none⟩=false:=frozen_of_row w2 q 1 _ _ h2.blk;have hq2:=aaa h2.blk;have H2:=hide h2;clear hqw hrc hrc' hrq h2 x0 x1 x2;go_wp2;obtain⟨n1,n2⟩:=H2.out.next (Rc.refl _ _ _) rfl HJ.out;have hbq:b≠q:=fun e=>hqb e.symm
  refine bodyPost_ret (v:=_) (by simp[results,Tryz.results170,go_sem];try rfl) rfl ⟨rfl,n1,HRC.out.trans n2.wide,HRQ.out.rc n2 hqg hbq⟩
theorem aq3:Has Tryz.prog 138:=by unfold Has;kernel_rfl
theorem acy{L:Nat}(h:1<=L):Fit (1:Rat) L:=by
 have h1:pw 1<=pw L:=aa0 h;have h2:(1:Int)<pw 1:=by decide
 exact⟨by show(1:Int)<_;omega,by show(1:Int)<_;omega⟩
theorem al2(w:World)(hT:Tabs w)(q b g:Nat)(tv uv:Value)(l:List Tk)(hW:Wf l)(vs:List ByteArray)(i:Nat)(h:Rea w q b tv uv l vs i)(t:Tk)(ht:l[i]? = some t)(L:Nat)(_hL:L<=10000)(hL1:1<=L)(av:Value)(sn:Bool)(hA:AddV q b g w av sn)(rs:List Rat)(hR:RQ w g b rs L)(_hqb:q≠b)(_hqg:g≠q)(h1:t.kind≠1)(h2:t.kind≠2):
  Calls Tryz.prog 136 #[.pointer (some ⟨q,0,none⟩),av] w fun e w'=>e=.returned (.bool false)/\Rea w' q b tv uv l vs i/\Rc q b w w'/\RQ w' g b rs L:=by
 have e1:(t.kind==1)=false:=beq_eq_false_iff_ne.2 h1;have e2:(t.kind==2)=false:=beq_eq_false_iff_ne.2 h2;clear h1 h2;have H:=hide h;have HT:=hide ht;have HTT:=hide hT;have HA:=hide hA;have HR:=hide hR;have HW:=hide hW;have hq:=aaa h.blk;have hgl:=aaa hR.slot;have hf0:∀W,(Instr.field 109 (.agg #[.int .i64 t.kind,.string t.text,.int .i64 t.pl.b,.int .i64 t.pl.g,.int .i64 t.pl.l,.int .i64 t.pl.c]) 0).run Tryz.prog W=.ok (.int .i64 t.kind) W:=fun W=>adg _ _ _ _ _ _ W
 clear h ht hA hR hT hW;go_enter Tryz.func136,Tryz.ntmps136
 go_wp2_with fail
 refine(ac2 w 1 (by decide) (by decide)).mono ?_;rintro r w1 ⟨ng0,ao0,cap0,rs0,rfl,hw1,hl1,hb1⟩;have ho1:OutW 1 2 (.agg #[.bool ng0,.slice ao0 rs0.length cap0]) w1:=⟨_,_,_,_,rfl,hw1,hl1⟩;clear hw1 hl1;go_wp2_with fail
 refine(ada w1 _ _ _ ho1.is (by omega)).mono ?_;rintro r w2 ⟨v,rfl,ho2,hb2⟩;replace ho2:OutQr (1:Rat) L v w2:=OutQr.fit ho2 (acy hL1);obtain⟨ng1,ao1,cap1,rs1,bo1,dap1,ss1,rfl,_⟩:=id ho2;have hbw2:=hb1.trans (hb2.mono hb1.size);have hbw:Below w.heap.size w (w2.alloc (.cells #[.bool ng1,.slice ao1 rs1.length cap1,.slice bo1 ss1.length dap1] 62)):=hbw2.alloc hbw2.size _;clear ho1 hb1 hb2;go_wp2_with fail
 refine(aax _ q b tv uv l vs i t (H.out.below hbw) HT.out).mono ?_;rintro r w3 ⟨rfl,hb3⟩;have hbx:w3.heap[w2.heap.size]? = some (.cells #[.bool ng1,.slice ao1 rs1.length cap1,.slice bo1 ss1.length dap1] 62 (0,0)):=(hb3.block _ (by simp)).trans (heap_alloc_new w2 _);have HBX:=hide hbx;have HO:=hide (ho2.ru (Ru.of_below ((hAl w2 _).trans (hb3.mono (hAl w2 _).size))));have HB3:=hide (hbw.trans (hb3.mono hbw.size));have hf5:w.heap.size<=w2.heap.size:=hbw2.size;generalize w2.heap.size=f5 at *
 unfold Tk.av;clear hbw hbw2 hb3 hbx ho2;go_wp2;refine bodyPost_ret (v:=_) (by simp[results,Tryz.results136,go_sem];try rfl) rfl ⟨rfl,H.out.below HB3.out,.of_below HB3.out,HR.out.below HB3.out⟩
theorem aoh(w:World)(hT:Tabs w)(q b g:Nat)(tv uv:Value)(l:List Tk)(hW:Wf l)(vs:List ByteArray)(i:Nat)(h:Rea w q b tv uv l vs i)(t:Tk)(ht:l[i]? = some t)(L:Nat)(_hL:L<=10000)(hL1:1<=L)(av:Value)(sn:Bool)(hA:AddV q b g w av sn)(rs:List Rat)(hR:RQ w g b rs L)(_hqb:q≠b)(_hqg:g≠q)(h1:t.kind=1)(ok:Bool)(j:Nat)(rs':List Rat)(hv:∀W xv,Rc q q w W->Rea W q b tv uv l vs i->IsQ (1:Rat) L xv W->Calls Tryz.prog 170 #[.pointer (some ⟨q,0,none⟩),xv,av] W fun e w'=>e=.returned (.bool ok)/\Rea w' q b tv uv l vs j/\Rc q b W w'/\RQ w' g b rs' L):
  Calls Tryz.prog 136 #[.pointer (some ⟨q,0,none⟩),av] w fun e w'=>e=.returned (.bool ok)/\Rea w' q b tv uv l vs j/\Rc q b w w'/\RQ w' g b rs' L:=by
 have HV:=hide hv;clear hv;have H1:=hide h1;clear h1;have H:=hide h;have HT:=hide ht;have HTT:=hide hT;have HA:=hide hA;have HR:=hide hR;have HW:=hide hW;have hq:=aaa h.blk;have hgl:=aaa hR.slot;have hf0:∀W,(Instr.field 109 (.agg #[.int .i64 t.kind,.string t.text,.int .i64 t.pl.b,.int .i64 t.pl.g,.int .i64 t.pl.l,.int .i64 t.pl.c]) 0).run Tryz.prog W=.ok (.int .i64 t.kind) W:=fun W=>adg _ _ _ _ _ _ W
 clear h ht hA hR hT hW;go_enter Tryz.func136,Tryz.ntmps136
 go_wp2_with fail
 refine(ac2 w 1 (by decide) (by decide)).mono ?_;rintro r w1 ⟨ng0,ao0,cap0,rs0,rfl,hw1,hl1,hb1⟩;have ho1:OutW 1 2 (.agg #[.bool ng0,.slice ao0 rs0.length cap0]) w1:=⟨_,_,_,_,rfl,hw1,hl1⟩;clear hw1 hl1;go_wp2_with fail
 refine(ada w1 _ _ _ ho1.is (by omega)).mono ?_;rintro r w2 ⟨v,rfl,ho2,hb2⟩;replace ho2:OutQr (1:Rat) L v w2:=OutQr.fit ho2 (acy hL1);obtain⟨ng1,ao1,cap1,rs1,bo1,dap1,ss1,rfl,_⟩:=id ho2;have hbw2:=hb1.trans (hb2.mono hb1.size);have hbw:Below w.heap.size w (w2.alloc (.cells #[.bool ng1,.slice ao1 rs1.length cap1,.slice bo1 ss1.length dap1] 62)):=hbw2.alloc hbw2.size _;clear ho1 hb1 hb2;go_wp2_with fail
 refine(aax _ q b tv uv l vs i t (H.out.below hbw) HT.out).mono ?_;rintro r w3 ⟨rfl,hb3⟩;have hbx:w3.heap[w2.heap.size]? = some (.cells #[.bool ng1,.slice ao1 rs1.length cap1,.slice bo1 ss1.length dap1] 62 (0,0)):=(hb3.block _ (by simp)).trans (heap_alloc_new w2 _);have HBX:=hide hbx;have HO:=hide (ho2.ru (Ru.of_below ((hAl w2 _).trans (hb3.mono (hAl w2 _).size))));have HB3:=hide (hbw.trans (hb3.mono hbw.size));have hf5:w.heap.size<=w2.heap.size:=hbw2.size;generalize w2.heap.size=f5 at *
 unfold Tk.av;clear hbw hbw2 hb3 hbx ho2;rw[H1.out]at *
 obtain⟨_,x0,x1,x2,_,_,_⟩:=aac HBX.out;go_wp2_with fail
 refine(HV.out w3 _ (.of_below HB3.out) (H.out.below HB3.out) HO.out.is).mono ?_;rintro e w4 ⟨rfl,r1,r2,r3⟩;have R1:=hide r1;have R2:=hide ((Rc.of_below HB3.out).trans r2);have R3':=hide r3;clear r1 r2 r3 x0 x1 x2;go_wp2;refine bodyPost_ret (v:=_) (by simp[results,Tryz.results136,go_sem];try rfl) rfl ⟨rfl,R1.out,R2.out,R3'.out⟩
theorem aq4(w:World)(hT:Tabs w)(q b g:Nat)(tv uv:Value)(l:List Tk)(hW:Wf l)(vs:List ByteArray)(i:Nat)(h:Rea w q b tv uv l vs i)(t:Tk)(ht:l[i]? = some t)(L:Nat)(_hL:L<=10000)(hL1:1<=L)(av:Value)(sn:Bool)(hA:AddV q b g w av sn)(rs:List Rat)(hR:RQ w g b rs L)(_hqb:q≠b)(_hqg:g≠q)(h1:t.kind=2)(j:Nat)(hc:∀W,Below w.heap.size w W->Calls Tryz.prog 169 #[.pointer (some ⟨q,0,none⟩)] W fun e w'=>∃v,e=.returned (.tuple #[v,.bool false])/\OutQr0 v/\Rea w' q b tv uv l vs j/\Rc q q W w'):
  Calls Tryz.prog 136 #[.pointer (some ⟨q,0,none⟩),av] w fun e w'=>e=.returned (.bool false)/\Rea w' q b tv uv l vs j/\Rc q b w w'/\RQ w' g b rs L:=by
 have HC:=hide hc;clear hc;have H1:=hide h1;clear h1;have H:=hide h;have HT:=hide ht;have HTT:=hide hT;have HA:=hide hA;have HR:=hide hR;have HW:=hide hW;have hq:=aaa h.blk;have hgl:=aaa hR.slot;have hf0:∀W,(Instr.field 109 (.agg #[.int .i64 t.kind,.string t.text,.int .i64 t.pl.b,.int .i64 t.pl.g,.int .i64 t.pl.l,.int .i64 t.pl.c]) 0).run Tryz.prog W=.ok (.int .i64 t.kind) W:=fun W=>adg _ _ _ _ _ _ W
 clear h ht hA hR hT hW;go_enter Tryz.func136,Tryz.ntmps136
 go_wp2_with fail
 refine(ac2 w 1 (by decide) (by decide)).mono ?_;rintro r w1 ⟨ng0,ao0,cap0,rs0,rfl,hw1,hl1,hb1⟩;have ho1:OutW 1 2 (.agg #[.bool ng0,.slice ao0 rs0.length cap0]) w1:=⟨_,_,_,_,rfl,hw1,hl1⟩;clear hw1 hl1;go_wp2_with fail
 refine(ada w1 _ _ _ ho1.is (by omega)).mono ?_;rintro r w2 ⟨v,rfl,ho2,hb2⟩;replace ho2:OutQr (1:Rat) L v w2:=OutQr.fit ho2 (acy hL1);obtain⟨ng1,ao1,cap1,rs1,bo1,dap1,ss1,rfl,_⟩:=id ho2;have hbw2:=hb1.trans (hb2.mono hb1.size);have hbw:Below w.heap.size w (w2.alloc (.cells #[.bool ng1,.slice ao1 rs1.length cap1,.slice bo1 ss1.length dap1] 62)):=hbw2.alloc hbw2.size _;clear ho1 hb1 hb2;go_wp2_with fail
 refine(aax _ q b tv uv l vs i t (H.out.below hbw) HT.out).mono ?_;rintro r w3 ⟨rfl,hb3⟩;have hbx:w3.heap[w2.heap.size]? = some (.cells #[.bool ng1,.slice ao1 rs1.length cap1,.slice bo1 ss1.length dap1] 62 (0,0)):=(hb3.block _ (by simp)).trans (heap_alloc_new w2 _);have HBX:=hide hbx;have HO:=hide (ho2.ru (Ru.of_below ((hAl w2 _).trans (hb3.mono (hAl w2 _).size))));have HB3:=hide (hbw.trans (hb3.mono hbw.size));have hf5:w.heap.size<=w2.heap.size:=hbw2.size;generalize w2.heap.size=f5 at *
 unfold Tk.av;clear hbw hbw2 hb3 hbx ho2;rw[H1.out]at *
 go_wp2_with fail
 refine(HC.out w3 HB3.out).mono ?_;rintro e w4 ⟨v,rfl,rfl,r1,r2⟩;have R1:=hide r1;have R2:=hide ((Rc.of_below HB3.out).trans r2);clear r1 r2;go_wp2;refine bodyPost_ret (v:=_) (by simp[results,Tryz.results136,go_sem];try rfl) rfl ⟨rfl,R1.out.below (hAl _ _),R2.out.wide.trans (.of_below (hAl _ _)),(HR.out.rc R2.out _hqg (fun e=>_hqb e.symm)).below (hAl _ _)⟩
theorem al3(w:World)(hT:Tabs w)(q b g:Nat)(tv uv:Value)(l:List Tk)(hW:Wf l)(vs:List ByteArray)(i:Nat)(h:Rea w q b tv uv l vs i)(t:Tk)(ht:l[i]? = some t)(L:Nat)(_hL:L<=10000)(hL1:1<=L)(av:Value)(sn:Bool)(hA:AddV q b g w av sn)(rs:List Rat)(hR:RQ w g b rs L)(_hqb:q≠b)(_hqg:g≠q)(h1:t.kind=2)(j:Nat)(x r0:Rat)(hc:∀W,Below w.heap.size w W->Calls Tryz.prog 169 #[.pointer (some ⟨q,0,none⟩)] W fun e w'=>∃v,e=.returned (.tuple #[v,.bool true])/\OutQr x L v w'/\Rea w' q b tv uv l vs j/\Rc q q W w')(t1:Tk)(ht1:l[j]? = some t1)(hs:tsg t1 sTimes=false)(hk1:t1.kind≠1)(hr0:rs[vs.length]? = some r0)(hfx:Fit x L)(hfr:Fit (r0+sgq sn (-x)) L):
  Calls Tryz.prog 136 #[.pointer (some ⟨q,0,none⟩),av] w fun e w'=>e=.returned (.bool true)/\Rea w' q b tv uv l vs j/\Rc q b w w'/\RQ w' g b (rs.set vs.length (r0+sgq sn (-x))) L:=by
 have HC:=hide hc;have H1:=hide h1;have HT1:=hide ht1;have HS:=hide hs;have hjl:j<l.length:=(List.getElem?_eq_some_iff.1 ht1).1;clear hc h1 ht1 hs;obtain⟨f,cp,rfl,hf,hadd⟩:=ahe hA rs L vs.length r0 hr0 _hL;have HR0:=hide hr0;have hent:∀args W,(callFunc f args).run Tryz.prog W=.ok (.enter f args) W:=hf.enter;have HK1:Hid ((t1.kind != 1)=true):=bne_iff_ne.2 hk1;have HF:=hide (And.intro hfx hfr);obtain⟨au,cu,huv,_⟩:=id h.vrs;have HUV:=hide huv;clear huv;clear hadd hr0 hfx hfr hk1;have H:=hide h;have HT:=hide ht;have HTT:=hide hT;have HA:=hide hA;have HR:=hide hR;have HW:=hide hW;have hq:=aaa h.blk;have hgl:=aaa hR.slot;have hf0:∀W,(Instr.field 109 (.agg #[.int .i64 t.kind,.string t.text,.int .i64 t.pl.b,.int .i64 t.pl.g,.int .i64 t.pl.l,.int .i64 t.pl.c]) 0).run Tryz.prog W=.ok (.int .i64 t.kind) W:=fun W=>adg _ _ _ _ _ _ W
 clear h ht hA hR hT hW;go_enter Tryz.func136,Tryz.ntmps136
 go_wp2_with fail
 refine(ac2 w 1 (by decide) (by decide)).mono ?_;rintro r w1 ⟨ng0,ao0,cap0,rs0,rfl,hw1,hl1,hb1⟩;have ho1:OutW 1 2 (.agg #[.bool ng0,.slice ao0 rs0.length cap0]) w1:=⟨_,_,_,_,rfl,hw1,hl1⟩;clear hw1 hl1;go_wp2_with fail
 refine(ada w1 _ _ _ ho1.is (by omega)).mono ?_;rintro r w2 ⟨v,rfl,ho2,hb2⟩;replace ho2:OutQr (1:Rat) L v w2:=OutQr.fit ho2 (acy hL1);obtain⟨ng1,ao1,cap1,rs1,bo1,dap1,ss1,rfl,_⟩:=id ho2;have hbw2:=hb1.trans (hb2.mono hb1.size);have hbw:Below w.heap.size w (w2.alloc (.cells #[.bool ng1,.slice ao1 rs1.length cap1,.slice bo1 ss1.length dap1] 62)):=hbw2.alloc hbw2.size _;clear ho1 hb1 hb2;go_wp2_with fail
 refine(aax _ q b tv uv l vs i t (H.out.below hbw) HT.out).mono ?_;rintro r w3 ⟨rfl,hb3⟩;have hbx:w3.heap[w2.heap.size]? = some (.cells #[.bool ng1,.slice ao1 rs1.length cap1,.slice bo1 ss1.length dap1] 62 (0,0)):=(hb3.block _ (by simp)).trans (heap_alloc_new w2 _);have HBX:=hide hbx;have HO:=hide (ho2.ru (Ru.of_below ((hAl w2 _).trans (hb3.mono (hAl w2 _).size))));have HB3:=hide (hbw.trans (hb3.mono hbw.size));have hf5:w.heap.size<=w2.heap.size:=hbw2.size;generalize w2.heap.size=f5 at *
 unfold Tk.av;clear hbw hbw2 hb3 hbx ho2;rw[H1.out]at *
 go_wp2_with fail
 refine(HC.out w3 HB3.out).mono ?_;rintro e w4 ⟨v,rfl,hox,r1,r2⟩;obtain⟨ng6,ao6,cap6,rs6,bo6,dap6,ss6,rfl,_⟩:=id hox;have hbx4:=(r2.other _ (aaa HBX.out) (by omega) (by omega)).trans HBX.out;have hr4:Rc q q w w4:=(Rc.of_below HB3.out).trans r2;have hal:=hAl w4 (.cells #[.bool ng6,.slice ao6 rs6.length cap6,.slice bo6 ss6.length dap6] 62);have h6:=heap_alloc_new w4 (.cells #[.bool ng6,.slice ao6 rs6.length cap6,.slice bo6 ss6.length dap6] 62);have hf6:w.heap.size<=w4.heap.size:=hr4.size;have hf56:f5<w4.heap.size:=aaa hbx4;go_wp2_with fail
 refine(abe _ q b tv uv l vs j t1 (r1.below hal) HT1.out sTimes (fun h3=>HW.out.more HT1.out (by rw[h3];decide)) HW.out.len).mono ?_;rw[HS.out];rintro e w5 ⟨rfl,r3,r4⟩;have hr5:Rc q q w w5:=(hr4.trans (.of_below hal)).trans r4;have h65:=(r4.other _ (aaa h6) (by omega) (by omega)).trans h6;have h55:=(r4.other _ (aaa (aaq (o':=.cells #[.bool ng6,.slice ao6 rs6.length cap6,.slice bo6 ss6.length dap6] 62) hbx4)) (by omega) (by omega)).trans (aaq hbx4);have H65:=hide h65;have H55:=hide h55;have HOX:=hide (hox.ru ((Ru.of_below hal).trans r4.ru));have HR5:=hide hr5;have R3_:=hide r3;generalize w4.heap.size=f6 at *
 clear hox r1 r2 hbx4 hr4 hal h6 r3 r4 hr5 h65 h55;have hf01:∀W,(Instr.field 109 (.agg #[.int .i64 t1.kind,.string t1.text,.int .i64 t1.pl.b,.int .i64 t1.pl.g,.int .i64 t1.pl.l,.int .i64 t1.pl.c]) 0).run Tryz.prog W=.ok (.int .i64 t1.kind) W:=fun W=>adg _ _ _ _ _ _ W
 have hk1:=HK1.out;go_wp2_with fail
 refine(aax w5 q b tv uv l vs j t1 R3_.out HT1.out).mono ?_;rintro r w6 ⟨rfl,hb6⟩;unfold Tk.av;have R6:=hide (R3_.out.below hb6);have HR6:=hide (HR5.out.trans (.of_below hb6));have h66:=(hb6.block _ (aaa H65.out)).trans H65.out;have HOX6:=hide (HOX.out.ru (Ru.of_below hb6));obtain⟨hl6,x0,x1,x2,_,_,_⟩:=aac h66;obtain⟨f',cp',e',hf',hadd⟩:=ahe (HA.out.rc HR6.out.wide) rs L vs.length r0 HR0.out _hL;obtain⟨rfl,rfl⟩:f=f'/\cp=cp':=by simpa using e'
 have HADD:=hide hadd;have HRQ6:=hide (HR.out.rc HR6.out _hqg (fun e=>_hqb e.symm));have hq6:=aaa R6.out.blk;have k2:w6.cell? ⟨q,2,none⟩=some (.slice au vs.length cu):=by rw[cell_of_row _ _ _ _ _ (0,0) R6.out.blk,HUV.out];rfl
 generalize hnv:vs.length=nv at *
 have HNV:=hide hnv;clear hb6 h66 hadd e' hf' hnv;go_wp2_with fail
 go_region_law (first|(refine aav rfl 138 #[.tmp 39] #[62] rfl aq3 #[.agg #[.bool ng6,.slice ao6 rs6.length cap6,.slice bo6 ss6.length dap6]] (by simp[Act.eval,Act.put]) (ap9 _ _ x L L (HOX6.out.ru (Ru.of_below (show Below w6.heap.size w6 _ by(repeat' first|with_reducible(first|exact Below.refl _ _|assumption|refine gdrewN ?_ _|refine Below.alloc ?_ ?_ _|refine Below.drew ?_|refine Below.setCell ?_ ?_ _)|go_size)))).is (by omega) HF.out.1) ?_;rintro e w7 ⟨v,rfl,ho7,hb7⟩;obtain⟨ng7,ao7,cap7,rs7,bo7,dap7,ss7,rfl,_⟩:=id ho7;have HO7:=hide ho7;have hb67:Below w6.heap.size w6 w7:=(show Below w6.heap.size w6 _ by(repeat' first|with_reducible(first|exact Below.refl _ _|assumption|refine gdrewN ?_ _|refine Below.alloc ?_ ?_ _|refine Below.drew ?_|refine Below.setCell ?_ ?_ _)|go_size)).trans (hb7.mono (by simp));have HB67:=hide hb67;have k27:=(hb67.cell (p:=⟨q,2,none⟩) hq6).trans k2;clear ho7 hb7 hb67;refine⟨_,rfl,?_⟩)|(refine ah1 rfl f (.tmp 33) #[.tmp 38,.tmp 40] #[3,62] rfl hf #[cp] (by simp[Act.eval,Act.put]) #[.int .i64 (nv:Int),.agg #[.bool ng7,.slice ao7 rs7.length cap7,.slice bo7 ss7.length dap7]] (by simp[Act.eval,Act.put]) (HADD.out w7 (-x) _ HB67.out (HRQ6.out.below HB67.out) HO7.out.is (ads HF.out.1) HF.out.2) ?_;rintro e w8 ⟨rfl,hr8,hq8⟩;have HR8:=hide hr8;have HQ8:=hide hq8;clear hr8 hq8;refine⟨_,rfl,?_⟩))
 all_goals
  go_wp2;refine bodyPost_ret (v:=_) (by simp[results,Tryz.results136,go_sem];try rfl) rfl ⟨rfl,(R6.out.below HB67.out).rcR HR8.out _hqb,(HR6.out.wide.trans (.of_below HB67.out)).trans HR8.out.wideR,by rw[HNV.out];exact HQ8.out⟩
theorem aoi(w:World)(hT:Tabs w)(q b g:Nat)(tv uv:Value)(l:List Tk)(hW:Wf l)(vs:List ByteArray)(i:Nat)(h:Rea w q b tv uv l vs i)(t:Tk)(ht:l[i]? = some t)(L:Nat)(_hL:L<=10000)(hL1:1<=L)(av:Value)(sn:Bool)(hA:AddV q b g w av sn)(rs:List Rat)(hR:RQ w g b rs L)(_hqb:q≠b)(_hqg:g≠q)(h1:t.kind=2)(j:Nat)(x:Rat)(hc:∀W,Below w.heap.size w W->Calls Tryz.prog 169 #[.pointer (some ⟨q,0,none⟩)] W fun e w'=>∃v,e=.returned (.tuple #[v,.bool true])/\OutQr x L v w'/\Rea w' q b tv uv l vs j/\Rc q q W w')(t1:Tk)(ht1:l[j]? = some t1)(hs:tsg t1 sTimes=true)(ok:Bool)(k:Nat)(rs':List Rat)(hv:∀W xv,Rc q q w W->Rea W q b tv uv l vs (j+1)->IsQ x L xv W->Calls Tryz.prog 170 #[.pointer (some ⟨q,0,none⟩),xv,av] W fun e w'=>e=.returned (.bool ok)/\Rea w' q b tv uv l vs k/\Rc q b W w'/\RQ w' g b rs' L):
  Calls Tryz.prog 136 #[.pointer (some ⟨q,0,none⟩),av] w fun e w'=>e=.returned (.bool ok)/\Rea w' q b tv uv l vs k/\Rc q b w w'/\RQ w' g b rs' L:=by
 have HC:=hide hc;have H1:=hide h1;have HT1:=hide ht1;have HS:=hide hs;have hjl:j<l.length:=(List.getElem?_eq_some_iff.1 ht1).1;clear hc h1 ht1 hs;have HV:=hide hv;clear hv;have H:=hide h;have HT:=hide ht;have HTT:=hide hT;have HA:=hide hA;have HR:=hide hR;have HW:=hide hW;have hq:=aaa h.blk;have hgl:=aaa hR.slot;have hf0:∀W,(Instr.field 109 (.agg #[.int .i64 t.kind,.string t.text,.int .i64 t.pl.b,.int .i64 t.pl.g,.int .i64 t.pl.l,.int .i64 t.pl.c]) 0).run Tryz.prog W=.ok (.int .i64 t.kind) W:=fun W=>adg _ _ _ _ _ _ W
 clear h ht hA hR hT hW;go_enter Tryz.func136,Tryz.ntmps136
 go_wp2_with fail
 refine(ac2 w 1 (by decide) (by decide)).mono ?_;rintro r w1 ⟨ng0,ao0,cap0,rs0,rfl,hw1,hl1,hb1⟩;have ho1:OutW 1 2 (.agg #[.bool ng0,.slice ao0 rs0.length cap0]) w1:=⟨_,_,_,_,rfl,hw1,hl1⟩;clear hw1 hl1;go_wp2_with fail
 refine(ada w1 _ _ _ ho1.is (by omega)).mono ?_;rintro r w2 ⟨v,rfl,ho2,hb2⟩;replace ho2:OutQr (1:Rat) L v w2:=OutQr.fit ho2 (acy hL1);obtain⟨ng1,ao1,cap1,rs1,bo1,dap1,ss1,rfl,_⟩:=id ho2;have hbw2:=hb1.trans (hb2.mono hb1.size);have hbw:Below w.heap.size w (w2.alloc (.cells #[.bool ng1,.slice ao1 rs1.length cap1,.slice bo1 ss1.length dap1] 62)):=hbw2.alloc hbw2.size _;clear ho1 hb1 hb2;go_wp2_with fail
 refine(aax _ q b tv uv l vs i t (H.out.below hbw) HT.out).mono ?_;rintro r w3 ⟨rfl,hb3⟩;have hbx:w3.heap[w2.heap.size]? = some (.cells #[.bool ng1,.slice ao1 rs1.length cap1,.slice bo1 ss1.length dap1] 62 (0,0)):=(hb3.block _ (by simp)).trans (heap_alloc_new w2 _);have HBX:=hide hbx;have HO:=hide (ho2.ru (Ru.of_below ((hAl w2 _).trans (hb3.mono (hAl w2 _).size))));have HB3:=hide (hbw.trans (hb3.mono hbw.size));have hf5:w.heap.size<=w2.heap.size:=hbw2.size;generalize w2.heap.size=f5 at *
 unfold Tk.av;clear hbw hbw2 hb3 hbx ho2;rw[H1.out]at *
 go_wp2_with fail
 refine(HC.out w3 HB3.out).mono ?_;rintro e w4 ⟨v,rfl,hox,r1,r2⟩;obtain⟨ng6,ao6,cap6,rs6,bo6,dap6,ss6,rfl,_⟩:=id hox;have hbx4:=(r2.other _ (aaa HBX.out) (by omega) (by omega)).trans HBX.out;have hr4:Rc q q w w4:=(Rc.of_below HB3.out).trans r2;have hal:=hAl w4 (.cells #[.bool ng6,.slice ao6 rs6.length cap6,.slice bo6 ss6.length dap6] 62);have h6:=heap_alloc_new w4 (.cells #[.bool ng6,.slice ao6 rs6.length cap6,.slice bo6 ss6.length dap6] 62);have hf6:w.heap.size<=w4.heap.size:=hr4.size;have hf56:f5<w4.heap.size:=aaa hbx4;go_wp2_with fail
 refine(abe _ q b tv uv l vs j t1 (r1.below hal) HT1.out sTimes (fun h3=>HW.out.more HT1.out (by rw[h3];decide)) HW.out.len).mono ?_;rw[HS.out];rintro e w5 ⟨rfl,r3,r4⟩;have hr5:Rc q q w w5:=(hr4.trans (.of_below hal)).trans r4;have h65:=(r4.other _ (aaa h6) (by omega) (by omega)).trans h6;have h55:=(r4.other _ (aaa (aaq (o':=.cells #[.bool ng6,.slice ao6 rs6.length cap6,.slice bo6 ss6.length dap6] 62) hbx4)) (by omega) (by omega)).trans (aaq hbx4);have H65:=hide h65;have H55:=hide h55;have HOX:=hide (hox.ru ((Ru.of_below hal).trans r4.ru));have HR5:=hide hr5;have R3_:=hide r3;generalize w4.heap.size=f6 at *
 clear hox r1 r2 hbx4 hr4 hal h6 r3 r4 hr5 h65 h55;rw[if_pos rfl]at R3_;obtain⟨hl5,y0,y1,y2,yf0,yf1,yf2⟩:=aac H55.out;obtain⟨hl6,x0,x1,x2,_,_,_⟩:=aac H65.out;go_wp2_with fail
 obtain⟨v1,v2⟩:=H.out.fill3 R3_.out HR5.out H55.out hf5 (.bool ng6) (.slice ao6 rs6.length cap6) (.slice bo6 ss6.length dap6);refine(HV.out _ _ v2 v1 (HOX.out.ru (aeg H55.out _ _ _)).is).mono ?_;rintro e w7 ⟨rfl,r1,r2,r3⟩;have R1:=hide r1;have R2:=hide (v2.wide.trans r2);have R4:=hide r3;clear r1 r2 r3 v1 v2 x0 x1 x2 y0 y1 y2;go_wp2;refine bodyPost_ret (v:=_) (by simp[results,Tryz.results136,go_sem];try rfl) rfl ⟨rfl,R1.out,R2.out,R4.out⟩
theorem aoj(w:World)(hT:Tabs w)(q b g:Nat)(tv uv:Value)(l:List Tk)(hW:Wf l)(vs:List ByteArray)(i:Nat)(h:Rea w q b tv uv l vs i)(t:Tk)(ht:l[i]? = some t)(L:Nat)(_hL:L<=10000)(hL1:1<=L)(av:Value)(sn:Bool)(hA:AddV q b g w av sn)(rs:List Rat)(hR:RQ w g b rs L)(_hqb:q≠b)(_hqg:g≠q)(h1:t.kind=2)(j:Nat)(x:Rat)(hc:∀W,Below w.heap.size w W->Calls Tryz.prog 169 #[.pointer (some ⟨q,0,none⟩)] W fun e w'=>∃v,e=.returned (.tuple #[v,.bool true])/\OutQr x L v w'/\Rea w' q b tv uv l vs j/\Rc q q W w')(t1:Tk)(ht1:l[j]? = some t1)(hs:tsg t1 sTimes=false)(hk1:t1.kind=1)(ok:Bool)(k:Nat)(rs':List Rat)(hv:∀W xv,Rc q q w W->Rea W q b tv uv l vs j->IsQ x L xv W->Calls Tryz.prog 170 #[.pointer (some ⟨q,0,none⟩),xv,av] W fun e w'=>e=.returned (.bool ok)/\Rea w' q b tv uv l vs k/\Rc q b W w'/\RQ w' g b rs' L):
  Calls Tryz.prog 136 #[.pointer (some ⟨q,0,none⟩),av] w fun e w'=>e=.returned (.bool ok)/\Rea w' q b tv uv l vs k/\Rc q b w w'/\RQ w' g b rs' L:=by
 have HC:=hide hc;have H1:=hide h1;have HT1:=hide ht1;have HS:=hide hs;have hjl:j<l.length:=(List.getElem?_eq_some_iff.1 ht1).1;clear hc h1 ht1 hs;have HV:=hide hv;have HK1:=hide hk1;clear hv hk1;have H:=hide h;have HT:=hide ht;have HTT:=hide hT;have HA:=hide hA;have HR:=hide hR;have HW:=hide hW;have hq:=aaa h.blk;have hgl:=aaa hR.slot;have hf0:∀W,(Instr.field 109 (.agg #[.int .i64 t.kind,.string t.text,.int .i64 t.pl.b,.int .i64 t.pl.g,.int .i64 t.pl.l,.int .i64 t.pl.c]) 0).run Tryz.prog W=.ok (.int .i64 t.kind) W:=fun W=>adg _ _ _ _ _ _ W
 clear h ht hA hR hT hW;go_enter Tryz.func136,Tryz.ntmps136
 go_wp2_with fail
 refine(ac2 w 1 (by decide) (by decide)).mono ?_;rintro r w1 ⟨ng0,ao0,cap0,rs0,rfl,hw1,hl1,hb1⟩;have ho1:OutW 1 2 (.agg #[.bool ng0,.slice ao0 rs0.length cap0]) w1:=⟨_,_,_,_,rfl,hw1,hl1⟩;clear hw1 hl1;go_wp2_with fail
 refine(ada w1 _ _ _ ho1.is (by omega)).mono ?_;rintro r w2 ⟨v,rfl,ho2,hb2⟩;replace ho2:OutQr (1:Rat) L v w2:=OutQr.fit ho2 (acy hL1);obtain⟨ng1,ao1,cap1,rs1,bo1,dap1,ss1,rfl,_⟩:=id ho2;have hbw2:=hb1.trans (hb2.mono hb1.size);have hbw:Below w.heap.size w (w2.alloc (.cells #[.bool ng1,.slice ao1 rs1.length cap1,.slice bo1 ss1.length dap1] 62)):=hbw2.alloc hbw2.size _;clear ho1 hb1 hb2;go_wp2_with fail
 refine(aax _ q b tv uv l vs i t (H.out.below hbw) HT.out).mono ?_;rintro r w3 ⟨rfl,hb3⟩;have hbx:w3.heap[w2.heap.size]? = some (.cells #[.bool ng1,.slice ao1 rs1.length cap1,.slice bo1 ss1.length dap1] 62 (0,0)):=(hb3.block _ (by simp)).trans (heap_alloc_new w2 _);have HBX:=hide hbx;have HO:=hide (ho2.ru (Ru.of_below ((hAl w2 _).trans (hb3.mono (hAl w2 _).size))));have HB3:=hide (hbw.trans (hb3.mono hbw.size));have hf5:w.heap.size<=w2.heap.size:=hbw2.size;generalize w2.heap.size=f5 at *
 unfold Tk.av;clear hbw hbw2 hb3 hbx ho2;rw[H1.out]at *
 go_wp2_with fail
 refine(HC.out w3 HB3.out).mono ?_;rintro e w4 ⟨v,rfl,hox,r1,r2⟩;obtain⟨ng6,ao6,cap6,rs6,bo6,dap6,ss6,rfl,_⟩:=id hox;have hbx4:=(r2.other _ (aaa HBX.out) (by omega) (by omega)).trans HBX.out;have hr4:Rc q q w w4:=(Rc.of_below HB3.out).trans r2;have hal:=hAl w4 (.cells #[.bool ng6,.slice ao6 rs6.length cap6,.slice bo6 ss6.length dap6] 62);have h6:=heap_alloc_new w4 (.cells #[.bool ng6,.slice ao6 rs6.length cap6,.slice bo6 ss6.length dap6] 62);have hf6:w.heap.size<=w4.heap.size:=hr4.size;have hf56:f5<w4.heap.size:=aaa hbx4;go_wp2_with fail
 refine(abe _ q b tv uv l vs j t1 (r1.below hal) HT1.out sTimes (fun h3=>HW.out.more HT1.out (by rw[h3];decide)) HW.out.len).mono ?_;rw[HS.out];rintro e w5 ⟨rfl,r3,r4⟩;have hr5:Rc q q w w5:=(hr4.trans (.of_below hal)).trans r4;have h65:=(r4.other _ (aaa h6) (by omega) (by omega)).trans h6;have h55:=(r4.other _ (aaa (aaq (o':=.cells #[.bool ng6,.slice ao6 rs6.length cap6,.slice bo6 ss6.length dap6] 62) hbx4)) (by omega) (by omega)).trans (aaq hbx4);have H65:=hide h65;have H55:=hide h55;have HOX:=hide (hox.ru ((Ru.of_below hal).trans r4.ru));have HR5:=hide hr5;have R3_:=hide r3;generalize w4.heap.size=f6 at *
 clear hox r1 r2 hbx4 hr4 hal h6 r3 r4 hr5 h65 h55;rw[if_neg (by decide)]at R3_;have hf01:∀W,(Instr.field 109 (.agg #[.int .i64 t1.kind,.string t1.text,.int .i64 t1.pl.b,.int .i64 t1.pl.g,.int .i64 t1.pl.l,.int .i64 t1.pl.c]) 0).run Tryz.prog W=.ok (.int .i64 1) W:=fun W=>(adg _ _ _ _ _ _ W).trans (by rw[HK1.out])
 go_wp2_with fail
 refine(aax w5 q b tv uv l vs j t1 R3_.out HT1.out).mono ?_;rintro r w6 ⟨rfl,hb6⟩;unfold Tk.av;replace R3_:=hide (R3_.out.below hb6);replace HR5:=hide (HR5.out.trans (.of_below hb6));replace H65:=hide ((hb6.block _ (aaa H65.out)).trans H65.out);replace H55:=hide ((hb6.block _ (aaa H55.out)).trans H55.out);replace HOX:=hide (HOX.out.ru (Ru.of_below hb6));clear hb6;obtain⟨hl5,y0,y1,y2,yf0,yf1,yf2⟩:=aac H55.out;obtain⟨hl6,x0,x1,x2,_,_,_⟩:=aac H65.out;go_wp2_with fail
 obtain⟨v1,v2⟩:=H.out.fill3 R3_.out HR5.out H55.out hf5 (.bool ng6) (.slice ao6 rs6.length cap6) (.slice bo6 ss6.length dap6);refine(HV.out _ _ v2 v1 (HOX.out.ru (aeg H55.out _ _ _)).is).mono ?_;rintro e w7 ⟨rfl,r1,r2,r3⟩;have R1:=hide r1;have R2:=hide (v2.wide.trans r2);have R4:=hide r3;clear r1 r2 r3 v1 v2 x0 x1 x2 y0 y1 y2;go_wp2;refine bodyPost_ret (v:=_) (by simp[results,Tryz.results136,go_sem];try rfl) rfl ⟨rfl,R1.out,R2.out,R4.out⟩
inductive VarR (l:List Tk) (vs:List ByteArray) (L:Nat) (sn:Bool) (x:Rat) (rs:List Rat) (i:Nat):Bool->Nat->List Rat->Prop
 |no (t:Tk) (ht:l[i]? = some t) (hk:ixS t.text vs=none):VarR l vs L sn x rs i false i rs
 |yes (t:Tk) (k:Nat) (r:Rat) (ht:l[i]? = some t) (hk:ixS t.text vs=some k) (hr:rs[k]? = some r) (hx:Fit x L) (hf:Fit (r+sgq sn x) L):VarR l vs L sn x rs i true (i+1) (rs.set k (r+sgq sn x))
inductive TermR (l:List Tk) (vs:List ByteArray) (L:Nat) (sn:Bool) (rs:List Rat) (i:Nat):Bool->Nat->List Rat->Prop
 |other (t:Tk) (ht:l[i]? = some t) (h1:t.kind≠1) (h2:t.kind≠2):TermR l vs L sn rs i false i rs
 |name (t:Tk) (ht:l[i]? = some t) (h1:t.kind=1) (ok:Bool) (j:Nat) (rs':List Rat) (hv:VarR l vs L sn 1 rs i ok j rs'):TermR l vs L sn rs i ok j rs'
 |bad (t:Tk) (ht:l[i]? = some t) (h1:t.kind=2) (j:Nat) (x:Rat) (hc:CoefR l i false j x):TermR l vs L sn rs i false j rs
 |alone (t:Tk) (ht:l[i]? = some t) (h1:t.kind=2) (j:Nat) (x:Rat) (hc:CoefR l i true j x) (hx:Fit x L) (t1:Tk) (ht1:l[j]? = some t1) (hs:tsg t1 sTimes=false) (hk1:t1.kind≠1) (r0:Rat) (hr:rs[vs.length]? = some r0) (hf:Fit (r0+sgq sn (-x)) L):TermR l vs L sn rs i true j (rs.set vs.length (r0+sgq sn (-x)))
 |star (t:Tk) (ht:l[i]? = some t) (h1:t.kind=2) (j:Nat) (x:Rat) (hc:CoefR l i true j x) (hx:Fit x L) (t1:Tk) (ht1:l[j]? = some t1) (hs:tsg t1 sTimes=true) (ok:Bool) (k:Nat) (rs':List Rat) (hv:VarR l vs L sn x rs (j+1) ok k rs'):TermR l vs L sn rs i ok k rs'
 |next (t:Tk) (ht:l[i]? = some t) (h1:t.kind=2) (j:Nat) (x:Rat) (hc:CoefR l i true j x) (hx:Fit x L) (t1:Tk) (ht1:l[j]? = some t1) (hs:tsg t1 sTimes=false) (hk1:t1.kind=1) (ok:Bool) (k:Nat) (rs':List Rat) (hv:VarR l vs L sn x rs j ok k rs'):TermR l vs L sn rs i ok k rs'
theorem CoefR.lt{l:List Tk}{i j:Nat}{x:Rat}(h:CoefR l i true j x):i<j:=by cases h <;> omega
theorem VarR.lt{l:List Tk}{vs:List ByteArray}{L:Nat}{sn:Bool}{x:Rat}{rs rs':List Rat}{i j:Nat}(h:VarR l vs L sn x rs i true j rs'):i<j:=by cases h;omega
theorem TermR.lt{l:List Tk}{vs:List ByteArray}{L:Nat}{sn:Bool}{rs rs':List Rat}{i j:Nat}(h:TermR l vs L sn rs i true j rs'):i<j:=by
 cases h with
 |name t ht h1 ok j rs' hv=>exact hv.lt
 |alone t ht h1 j x hc hx t1 ht1 hs hk1 r0 hr hf=>exact hc.lt
 |star t ht h1 j x hc hx t1 ht1 hs ok k rs' hv=>have:=hc.lt;have:=hv.lt;omega
 |next t ht h1 j x hc hx t1 ht1 hs hk1 ok k rs' hv=>have:=hc.lt;have:=hv.lt;omega
structure Env (w:World) (q b g:Nat) (tv uv:Value) (l:List Tk) (vs:List ByteArray) (L:Nat):Prop where
 tabs:Tabs w
 wf:Wf l
 nov:(⟨#[]⟩:ByteArray)∉vs
 hL:L<=10000
 hL1:1<=L
 qb:q≠b
 gq:g≠q
theorem af2{w:World}{q b g:Nat}{tv uv:Value}{l:List Tk}{vs:List ByteArray}{L i j:Nat}{x:Rat}(E:Env w q b g tv uv l vs L)(h:Rea w q b tv uv l vs i)(hc:CoefR l i true j x)(hx:Fit x L)(W:World)(hb:Below w.heap.size w W):
  Calls Tryz.prog 169 #[.pointer (some ⟨q,0,none⟩)] W fun e w'=>∃v,e=.returned (.tuple #[v,.bool true])/\OutQr x L v w'/\Rea w' q b tv uv l vs j/\Rc q q W w':=by
 cases hc with
 |plain t t1 ht ht1 hs=>exact al1 W (E.tabs.below hb) q b tv uv l E.wf vs i (h.below hb) t t1 ht ht1 hs L hx
 |over t t1 t2 ht ht1 hs ht2 hz=>exact aog W (E.tabs.below hb) q b tv uv l E.wf vs i (h.below hb) t t1 t2 ht ht1 hs ht2 hz L hx
theorem aok{w:World}{q b g:Nat}{tv uv:Value}{l:List Tk}{vs:List ByteArray}{L i j:Nat}{x:Rat}(E:Env w q b g tv uv l vs L)(h:Rea w q b tv uv l vs i)(hc:CoefR l i false j x)(W:World)(hb:Below w.heap.size w W):
  Calls Tryz.prog 169 #[.pointer (some ⟨q,0,none⟩)] W fun e w'=>∃v,e=.returned (.tuple #[v,.bool false])/\OutQr0 v/\Rea w' q b tv uv l vs j/\Rc q q W w':=by
 cases hc with
 |bad t t1 t2 ht ht1 hs ht2 hz=>exact aq2 W (E.tabs.below hb) q b tv uv l E.wf vs i (h.below hb) t t1 t2 ht ht1 hs ht2 hz
theorem ahg{w:World}{q b g:Nat}{tv uv:Value}{l:List Tk}{vs:List ByteArray}{L i j:Nat}{x:Rat}{sn ok:Bool}{rs rs':List Rat}(E:Env w q b g tv uv l vs L)(hv:VarR l vs L sn x rs i ok j rs'){av:Value}(hA:AddV q b g w av sn)(hR:RQ w g b rs L)(W:World)(xv:Value)(hr:Rc q q w W)(h:Rea W q b tv uv l vs i)(hx:IsQ x L xv W):
  Calls Tryz.prog 170 #[.pointer (some ⟨q,0,none⟩),xv,av] W fun e w'=>e=.returned (.bool ok)/\Rea w' q b tv uv l vs j/\Rc q b W w'/\RQ w' g b rs' L:=by
 have hR':=hR.rc hr E.gq (fun e=>E.qb e.symm);cases hv with
 |no t ht hk=>
  refine(ava W q b tv uv l vs i h t ht x L xv av hx hk).mono ?_;rintro e w' ⟨rfl,h1,h2⟩;exact⟨rfl,h1,h2.wide,hR'.rc h2 E.gq (fun e=>E.qb e.symm)⟩
 |yes t k r ht hk hrk hfx hf=>
  have hj:i+1<l.length:=by
   have h1:=(List.getElem?_eq_some_iff.1 ht).1;by_cases he:i+1=l.length
   ·have h2:=(E.wf.stop _ _ ht he).2;rw[h2]at hk;exact absurd (List.mem_of_getElem? (awp hk)) E.nov
   ·omega
  exact ate W q b tv uv l vs i h t ht x L xv av hx g k rs r sn hk hj E.wf.len (hA.rc hr.wide) hR' hrk E.hL hfx hf E.qb E.gq
theorem acz(w:World)(q b g:Nat)(tv uv:Value)(l:List Tk)(vs:List ByteArray)(L:Nat)(E:Env w q b g tv uv l vs L)(sn ok:Bool)(rs rs':List Rat)(i j:Nat)(ht:TermR l vs L sn rs i ok j rs')(av:Value)(hA:AddV q b g w av sn)(hR:RQ w g b rs L)(h:Rea w q b tv uv l vs i):
  Calls Tryz.prog 136 #[.pointer (some ⟨q,0,none⟩),av] w fun e w'=>e=.returned (.bool ok)/\Rea w' q b tv uv l vs j/\Rc q b w w'/\RQ w' g b rs' L:=by
 cases ht with
 |other t ht h1 h2=>exact al2 w E.tabs q b g tv uv l E.wf vs i h t ht L E.hL E.hL1 av sn hA rs hR E.qb E.gq h1 h2
 |name t ht h1 ok j rs' hv=>exact aoh w E.tabs q b g tv uv l E.wf vs i h t ht L E.hL E.hL1 av sn hA rs hR E.qb E.gq h1 ok j rs' (ahg E hv hA hR)
 |bad t ht h1 j x hc=>exact aq4 w E.tabs q b g tv uv l E.wf vs i h t ht L E.hL E.hL1 av sn hA rs hR E.qb E.gq h1 j (aok E h hc)
 |alone t ht h1 j x hc hx t1 ht1 hs hk1 r0 hr hf=>exact al3 w E.tabs q b g tv uv l E.wf vs i h t ht L E.hL E.hL1 av sn hA rs hR E.qb E.gq h1 j x r0 (af2 E h hc hx) t1 ht1 hs hk1 hr hx hf
 |star t ht h1 j x hc hx t1 ht1 hs ok k rs' hv=>exact aoi w E.tabs q b g tv uv l E.wf vs i h t ht L E.hL E.hL1 av sn hA rs hR E.qb E.gq h1 j x (af2 E h hc hx) t1 ht1 hs _ _ _ (ahg E hv hA hR)
 |next t ht h1 j x hc hx t1 ht1 hs hk1 ok k rs' hv=>exact aoj w E.tabs q b g tv uv l E.wf vs i h t ht L E.hL E.hL1 av sn hA rs hR E.qb E.gq h1 j x (af2 E h hc hx) t1 ht1 hs hk1 _ _ _ (ahg E hv hA hR)
inductive SideL (l:List Tk) (vs:List ByteArray) (L:Nat) (sn:Bool):Bool->Nat->List Rat->Bool->Nat->List Rat->Prop
 |bad (m:Bool) (i j:Nat) (rs rs':List Rat) (h:TermR l vs L (m != sn) rs i false j rs'):SideL l vs L sn m i rs false j rs'
 |last (m:Bool) (i j:Nat) (rs rs':List Rat) (h:TermR l vs L (m != sn) rs i true j rs') (t:Tk) (ht:l[j]? = some t) (hp:tpm t=false):SideL l vs L sn m i rs true j rs'
 |more (m:Bool) (i j k:Nat) (rs rs' rs'':List Rat) (ok:Bool) (h:TermR l vs L (m != sn) rs i true j rs') (t:Tk) (ht:l[j]? = some t) (hp:tpm t=true) (hr:SideL l vs L sn (tsg t sMinus) (j+1) rs' ok k rs''):SideL l vs L sn m i rs ok k rs''
def SideR(l:List Tk)(vs:List ByteArray)(L:Nat)(sn:Bool)(i:Nat)(rs:List Rat)(ok:Bool)(k:Nat)(rs':List Rat):Prop:=∃t,l[i]? = some t/\SideL l vs L sn (tsg t sMinus) (if tpm t then i+1 else i) rs ok k rs'
def nx(w:World)(q:Nat):Nat:=match w.cell? ⟨q,1,none⟩with|some (.int _ z)=>z.toNat|_=>0
theorem Rea.nx{w:World}{q b:Nat}{tv uv:Value}{l:List Tk}{vs:List ByteArray}{i:Nat}(h:Rea w q b tv uv l vs i):nx w q=i:=by
 unfold Lm.nx;rw[cell_of_row _ _ _ _ _ (0,0) h.blk];simp
theorem Env.rc{w w':World}{q b g:Nat}{tv uv:Value}{l:List Tk}{vs:List ByteArray}{L i:Nat}{rs:List Rat}(E:Env w q b g tv uv l vs L)(h:Rea w q b tv uv l vs i)(hR:RQ w g b rs L)(hr:Rc q b w w'):Env w' q b g tv uv l vs L:=by
 refine⟨E.tabs.rcs hr h.no8 ?_,E.wf,E.nov,E.hL,E.hL1,E.qb,E.gq⟩;obtain⟨es,e1,e2,e3⟩:=hR.row;intro z;rw[cell_of_row _ _ _ _ _ (0,0) e2,List.getElem?_toArray];cases es with
 |nil=>simp[rf3]
 |cons e es=>simp[rf3]
theorem ab6(w:World)(q b g:Nat)(tv uv:Value)(l:List Tk)(vs:List ByteArray)(L:Nat)(E:Env w q b g tv uv l vs L)(sn ok:Bool)(rs rs':List Rat)(i k:Nat)(hs:SideR l vs L sn i rs ok k rs')(av:Value)(hA:AddV q b g w av sn)(hR:RQ w g b rs L)(h:Rea w q b tv uv l vs i):
  Calls Tryz.prog 103 #[.pointer (some ⟨q,0,none⟩),av] w fun e w'=>e=.returned (.bool ok)/\Rea w' q b tv uv l vs k/\Rc q b w w'/\RQ w' g b rs' L:=by
 obtain⟨t,ht,hs⟩:=hs;have K:=hide (aew w q b tv uv l vs i t h ht (fun h3=>E.wf.more ht (by rw[h3];decide)) E.wf.len);have HE:=hide E;have HA:=hide hA;have HR:=hide hR;have H:=hide h;have HS:=hide hs;obtain⟨j0,hj0⟩:∃j0,(if tpm t=true then i+1 else i)=j0:=⟨_,rfl⟩;rw[hj0]at K HS;clear E hA hR h hs ht hj0;generalize tsg t sMinus=m0 at K HS;generalize tpm t=p0 at K;go_enter Tryz.func103,Tryz.ntmps103
 go_wp2_with fail
 refine K.out.mono ?_;rintro e w1 ⟨rfl,r1,r2⟩;have H1:=hide r1;have HC1:=hide (show Rc q b w w1 from r2.wide);have HQ1:=hide (HR.out.rc r2 HE.out.gq (fun e=>HE.out.qb e.symm));clear r1 r2 K;go_wp2_with fail
 go_loopw [5,7] (fun mv ov wr=>Rc q b w wr/\((∃m j rsj,mv=.bool m/\ov=.bool true/\SideL l vs L sn m j rsj ok k rs'/\Rea wr q b tv uv l vs j/\RQ wr g b rsj L)\/(∃m,mv=.bool m/\ov=.bool false/\ok=true/\Rea wr q b tv uv l vs k/\RQ wr g b rs' L))) (fun _ ov wr=>(l.length-nx wr q)+(match ov with | .bool true=>1|_=>0))
 case atStart=>exact⟨HC1.out,.inl ⟨m0,j0,rs,rfl,rfl,HS.out,H1.out,HQ1.out⟩⟩
 case round=>
  obtain⟨hrc,⟨m,j,rsj,rfl,rfl,hsl,hrea,hrq⟩|⟨m,rfl,rfl,rfl,hrea,hrq⟩⟩:=hrel
  ·have HC:=hide hrc;have HSL:=hide hsl;have HRE:=hide hrea;have HRQ:=hide hrq;clear hrc hsl hrea hrq;cases m with
   |false=>
    have HEr:=hide (HE.out.rc H.out HR.out HC.out);have HAr:=hide (HA.out.rc HC.out);cases HSL.out with
    |bad _ _ j' _ _ hterm=>
     rw[show(false != sn)=sn from by cases sn <;> rfl]at hterm;have HTM:=hide hterm;clear hterm HSL;have HA2:=HAr;have HC2:=HC;have HRE2:=HRE;have HRQ2:=HRQ;have HE2:=HEr;go_wp2_with fail
     refine(acz wr q b g tv uv l vs L HE2.out sn false rsj rs' j k HTM.out av HA2.out HRQ2.out HRE2.out).mono ?_;rintro e w3 ⟨rfl,r1,r2,r3⟩;have R1:=hide r1;have R2:=hide (HC2.out.trans r2);have R3':=hide r3;clear r1 r2 r3;go_wp2;refine bodyPost_ret (v:=_) (by simp[results,Tryz.results103,go_sem];try rfl) rfl ⟨rfl,R1.out,R2.out,R3'.out⟩
    |last _ _ j' _ _ hterm t ht hp=>
     have hlt:=hterm.lt;rw[show(false != sn)=sn from by cases sn <;> rfl]at hterm;have HTM:=hide hterm;have HT:=hide ht;have HP:=hide hp;clear hterm ht hp HSL;have HA2:=HAr;have HC2:=HC;have HRE2:=HRE;have HRQ2:=HRQ;have HE2:=HEr;go_wp2_with fail
     refine(acz wr q b g tv uv l vs L HE2.out sn true rsj rs' j k HTM.out av HA2.out HRQ2.out HRE2.out).mono ?_;rintro e w3 ⟨rfl,r1,r2,r3⟩;have K2:=aew w3 q b tv uv l vs k t r1 HT.out (fun h3=>HE.out.wf.more HT.out (by rw[h3];decide)) HE.out.wf.len;rw[HP.out]at K2;have K2:=hide K2;have R2:=hide (HC2.out.trans r2);have R3':=hide r3;clear r1 r2 r3;go_wp2_with fail
     refine K2.out.mono ?_;rintro e w4 ⟨rfl,s1,s2⟩;have S1:=hide s1;have S2:=hide (R2.out.trans s2.wide);have S3:=hide (R3'.out.rc s2 HE.out.gq (fun e=>HE.out.qb e.symm));clear s1 s2 K2;go_wp2;go_roundw
     case rel=>exact⟨S2.out,.inr ⟨_,rfl,rfl,trivial,S1.out,S3.out⟩⟩
     case measure=>
      have e1:=S1.out.nx;have e2:=HRE.out.nx;have e3:=HRE.out.lt;rw[if_neg (by decide)]at e1;simp only[e1,e2];omega
    |more _ _ j' _ _ rs'' _ _ hterm t ht hp hr=>
     have hlt:=hterm.lt;rw[show(false != sn)=sn from by cases sn <;> rfl]at hterm;have HTM:=hide hterm;have HT:=hide ht;have HP:=hide hp;have HNX:=hide hr;clear hr;clear hterm ht hp HSL;have HA2:=HAr;have HC2:=HC;have HRE2:=HRE;have HRQ2:=HRQ;have HE2:=HEr;go_wp2_with fail
     refine(acz wr q b g tv uv l vs L HE2.out sn true rsj rs'' j j' HTM.out av HA2.out HRQ2.out HRE2.out).mono ?_;rintro e w3 ⟨rfl,r1,r2,r3⟩;have K2:=aew w3 q b tv uv l vs j' t r1 HT.out (fun h3=>HE.out.wf.more HT.out (by rw[h3];decide)) HE.out.wf.len;rw[HP.out]at K2;have K2:=hide K2;have R2:=hide (HC2.out.trans r2);have R3':=hide r3;clear r1 r2 r3;go_wp2_with fail
     refine K2.out.mono ?_;rintro e w4 ⟨rfl,s1,s2⟩;have S1:=hide s1;have S2:=hide (R2.out.trans s2.wide);have S3:=hide (R3'.out.rc s2 HE.out.gq (fun e=>HE.out.qb e.symm));clear s1 s2 K2;go_wp2;go_roundw
     case rel=>exact⟨S2.out,.inl ⟨_,_,_,rfl,rfl,HNX.out,S1.out,S3.out⟩⟩
     case measure=>
      have e1:=S1.out.nx;have e2:=HRE.out.nx;have e3:=HRE.out.lt;rw[if_pos trivial]at e1;simp only[e1,e2];omega
   |true=>
    have HEr:=hide (HE.out.rc H.out HR.out HC.out);have HAr:=hide (HA.out.rc HC.out);cases HSL.out with
    |bad _ _ j' _ _ hterm=>
     rw[show(true != sn)=(!sn)from by cases sn <;> rfl]at hterm;have HTM:=hide hterm;clear hterm HSL;go_wp2_with fail
     refine(ack wr av q b g sn HAr.out (aaa HRE.out.blk) (aaa HRQ.out.row.choose_spec.2.1)).mono ?_;rintro e w2 ⟨uv2,rfl,ha2,hb2⟩;have HA2:=hide ha2;have HC2:=hide (HC.out.trans (.of_below hb2));have HRE2:=hide (HRE.out.below hb2);have HRQ2:=hide (HRQ.out.below hb2);have HE2:=hide (HEr.out.rc HRE.out HRQ.out (.of_below hb2));clear ha2 hb2;go_wp2_with fail
     refine(acz w2 q b g tv uv l vs L HE2.out (!sn) false rsj rs' j k HTM.out uv2 HA2.out HRQ2.out HRE2.out).mono ?_;rintro e w3 ⟨rfl,r1,r2,r3⟩;have R1:=hide r1;have R2:=hide (HC2.out.trans r2);have R3':=hide r3;clear r1 r2 r3;go_wp2;refine bodyPost_ret (v:=_) (by simp[results,Tryz.results103,go_sem];try rfl) rfl ⟨rfl,R1.out,R2.out,R3'.out⟩
    |last _ _ j' _ _ hterm t ht hp=>
     have hlt:=hterm.lt;rw[show(true != sn)=(!sn)from by cases sn <;> rfl]at hterm;have HTM:=hide hterm;have HT:=hide ht;have HP:=hide hp;clear hterm ht hp HSL;go_wp2_with fail
     refine(ack wr av q b g sn HAr.out (aaa HRE.out.blk) (aaa HRQ.out.row.choose_spec.2.1)).mono ?_;rintro e w2 ⟨uv2,rfl,ha2,hb2⟩;have HA2:=hide ha2;have HC2:=hide (HC.out.trans (.of_below hb2));have HRE2:=hide (HRE.out.below hb2);have HRQ2:=hide (HRQ.out.below hb2);have HE2:=hide (HEr.out.rc HRE.out HRQ.out (.of_below hb2));clear ha2 hb2;go_wp2_with fail
     refine(acz w2 q b g tv uv l vs L HE2.out (!sn) true rsj rs' j k HTM.out uv2 HA2.out HRQ2.out HRE2.out).mono ?_;rintro e w3 ⟨rfl,r1,r2,r3⟩;have K2:=aew w3 q b tv uv l vs k t r1 HT.out (fun h3=>HE.out.wf.more HT.out (by rw[h3];decide)) HE.out.wf.len;rw[HP.out]at K2;have K2:=hide K2;have R2:=hide (HC2.out.trans r2);have R3':=hide r3;clear r1 r2 r3;go_wp2_with fail
     refine K2.out.mono ?_;rintro e w4 ⟨rfl,s1,s2⟩;have S1:=hide s1;have S2:=hide (R2.out.trans s2.wide);have S3:=hide (R3'.out.rc s2 HE.out.gq (fun e=>HE.out.qb e.symm));clear s1 s2 K2;go_wp2;go_roundw
     case rel=>exact⟨S2.out,.inr ⟨_,rfl,rfl,trivial,S1.out,S3.out⟩⟩
     case measure=>
      have e1:=S1.out.nx;have e2:=HRE.out.nx;have e3:=HRE.out.lt;rw[if_neg (by decide)]at e1;simp only[e1,e2];omega
    |more _ _ j' _ _ rs'' _ _ hterm t ht hp hr=>
     have hlt:=hterm.lt;rw[show(true != sn)=(!sn)from by cases sn <;> rfl]at hterm;have HTM:=hide hterm;have HT:=hide ht;have HP:=hide hp;have HNX:=hide hr;clear hr;clear hterm ht hp HSL;go_wp2_with fail
     refine(ack wr av q b g sn HAr.out (aaa HRE.out.blk) (aaa HRQ.out.row.choose_spec.2.1)).mono ?_;rintro e w2 ⟨uv2,rfl,ha2,hb2⟩;have HA2:=hide ha2;have HC2:=hide (HC.out.trans (.of_below hb2));have HRE2:=hide (HRE.out.below hb2);have HRQ2:=hide (HRQ.out.below hb2);have HE2:=hide (HEr.out.rc HRE.out HRQ.out (.of_below hb2));clear ha2 hb2;go_wp2_with fail
     refine(acz w2 q b g tv uv l vs L HE2.out (!sn) true rsj rs'' j j' HTM.out uv2 HA2.out HRQ2.out HRE2.out).mono ?_;rintro e w3 ⟨rfl,r1,r2,r3⟩;have K2:=aew w3 q b tv uv l vs j' t r1 HT.out (fun h3=>HE.out.wf.more HT.out (by rw[h3];decide)) HE.out.wf.len;rw[HP.out]at K2;have K2:=hide K2;have R2:=hide (HC2.out.trans r2);have R3':=hide r3;clear r1 r2 r3;go_wp2_with fail
     refine K2.out.mono ?_;rintro e w4 ⟨rfl,s1,s2⟩;have S1:=hide s1;have S2:=hide (R2.out.trans s2.wide);have S3:=hide (R3'.out.rc s2 HE.out.gq (fun e=>HE.out.qb e.symm));clear s1 s2 K2;go_wp2;go_roundw
     case rel=>exact⟨S2.out,.inl ⟨_,_,_,rfl,rfl,HNX.out,S1.out,S3.out⟩⟩
     case measure=>
      have e1:=S1.out.nx;have e2:=HRE.out.nx;have e3:=HRE.out.lt;rw[if_pos trivial]at e1;simp only[e1,e2];omega
  ·have HC:=hide hrc;have HRE:=hide hrea;have HRQ:=hide hrq;clear hrc hrea hrq;go_wp2;refine bodyPost_ret (v:=_) (by simp[results,Tryz.results103,go_sem];try rfl) rfl ⟨rfl,HRE.out,HC.out,HRQ.out⟩
inductive EqR (l:List Tk) (vs:List ByteArray) (L:Nat) (i:Nat) (rs:List Rat):Bool->Nat->List Rat->Prop
 |bad1 (k:Nat) (rs1:List Rat) (h:SideR l vs L false i rs false k rs1):EqR l vs L i rs false k rs1
 |bad2 (k:Nat) (rs1:List Rat) (t:Tk) (h:SideR l vs L false i rs true k rs1) (ht:l[k]? = some t) (hs:tsg t sEq=false):EqR l vs L i rs false k rs1
 |bad3 (k:Nat) (rs1:List Rat) (t:Tk) (h:SideR l vs L false i rs true k rs1) (ht:l[k]? = some t) (hs:tsg t sEq=true) (k2:Nat) (rs2:List Rat) (h2:SideR l vs L true (k+1) rs1 false k2 rs2):EqR l vs L i rs false k2 rs2
 |bad4 (k:Nat) (rs1:List Rat) (t:Tk) (h:SideR l vs L false i rs true k rs1) (ht:l[k]? = some t) (hs:tsg t sEq=true) (k2:Nat) (rs2:List Rat) (h2:SideR l vs L true (k+1) rs1 true k2 rs2) (t2:Tk) (ht2:l[k2]? = some t2) (hk:t2.kind≠0):EqR l vs L i rs false k2 rs2
 |good (k:Nat) (rs1:List Rat) (t:Tk) (h:SideR l vs L false i rs true k rs1) (ht:l[k]? = some t) (hs:tsg t sEq=true) (k2:Nat) (rs2:List Rat) (h2:SideR l vs L true (k+1) rs1 true k2 rs2) (t2:Tk) (ht2:l[k2]? = some t2) (hk:t2.kind=0):EqR l vs L i rs true k2 rs2
theorem afk(w:World)(q b g:Nat)(tv uv:Value)(l:List Tk)(vs:List ByteArray)(L:Nat)(E:Env w q b g tv uv l vs L)(ok:Bool)(rs rs':List Rat)(i k:Nat)(he:EqR l vs L i rs ok k rs')(av:Value)(hA:AddV q b g w av false)(hR:RQ w g b rs L)(h:Rea w q b tv uv l vs i):
  Calls Tryz.prog 62 #[.pointer (some ⟨q,0,none⟩),av] w fun e w'=>e=.returned (.bool ok)/\Rea w' q b tv uv l vs k/\Rc q b w w'/\RQ w' g b rs' L:=by
 have HE:=hide E;have HA:=hide hA;have HR:=hide hR;have H:=hide h;clear E hA hR h;cases he with
 |bad1 _ _ hs1=>
  have HS1:=hide hs1;clear hs1;go_enter Tryz.func62,Tryz.ntmps62
  go_wp2_with fail
  refine(ab6 w q b g tv uv l vs L HE.out false false rs rs' i k HS1.out av HA.out HR.out H.out).mono ?_;rintro e w1 ⟨rfl,r1,r2,r3⟩;have R1:=hide r1;have C1:=hide r2;have Q1:=hide r3;clear r1 r2 r3;go_wp2;refine bodyPost_ret (v:=_) (by simp[results,Tryz.results62,go_sem];try rfl) rfl ⟨rfl,R1.out,C1.out,Q1.out⟩
 |bad2 _ _ t hs1 ht hsg=>
  have HT:=hide ht;have HSG:=hide hsg;clear ht hsg;have HS1:=hide hs1;clear hs1;go_enter Tryz.func62,Tryz.ntmps62
  go_wp2_with fail
  refine(ab6 w q b g tv uv l vs L HE.out false true rs rs' i k HS1.out av HA.out HR.out H.out).mono ?_;rintro e w1 ⟨rfl,r1,r2,r3⟩;have R1:=hide r1;have C1:=hide r2;have Q1:=hide r3;clear r1 r2 r3;have K:=abe w1 q b tv uv l vs k t R1.out HT.out sEq (fun h3=>HE.out.wf.more HT.out (by rw[h3];decide)) HE.out.wf.len;rw[HSG.out]at K;unfold sEq at K;have K:=hide K;go_wp2_with fail
  refine K.out.mono ?_;rintro e w2 ⟨rfl,s1,s2⟩;have R2:=hide s1;have C2:=hide (C1.out.trans s2.wide);have Q2:=hide (Q1.out.rc s2 HE.out.gq (fun e=>HE.out.qb e.symm));clear s1 s2 K;go_wp2;refine bodyPost_ret (v:=_) (by simp[results,Tryz.results62,go_sem];try rfl) rfl ⟨rfl,R2.out,C2.out,Q2.out⟩
 |bad3 k1 rs1 t hs1 ht hsg _ _ hs2=>
  have HT:=hide ht;have HSG:=hide hsg;clear ht hsg;have HS2:=hide hs2;clear hs2;have HS1:=hide hs1;clear hs1;go_enter Tryz.func62,Tryz.ntmps62
  go_wp2_with fail
  refine(ab6 w q b g tv uv l vs L HE.out false true rs rs1 i k1 HS1.out av HA.out HR.out H.out).mono ?_;rintro e w1 ⟨rfl,r1,r2,r3⟩;have R1:=hide r1;have C1:=hide r2;have Q1:=hide r3;clear r1 r2 r3;have K:=abe w1 q b tv uv l vs k1 t R1.out HT.out sEq (fun h3=>HE.out.wf.more HT.out (by rw[h3];decide)) HE.out.wf.len;rw[HSG.out]at K;unfold sEq at K;have K:=hide K;go_wp2_with fail
  refine K.out.mono ?_;rintro e w2 ⟨rfl,s1,s2⟩;have R2:=hide s1;have C2:=hide (C1.out.trans s2.wide);have Q2:=hide (Q1.out.rc s2 HE.out.gq (fun e=>HE.out.qb e.symm));clear s1 s2 K;rw[if_pos trivial]at R2;have HE2:=hide (HE.out.rc H.out HR.out C2.out);go_wp2_with fail
  refine(ack w2 av q b g false (HA.out.rc C2.out) (aaa R2.out.blk) (aaa Q2.out.row.choose_spec.2.1)).mono ?_;rintro e w3 ⟨u3,rfl,ha3,hb3⟩;have HA3:=hide ha3;have R3:=hide (R2.out.below hb3);have C3:=hide (C2.out.trans (.of_below hb3));have Q3:=hide (Q2.out.below hb3);have HE3:=hide (HE2.out.rc R2.out Q2.out (.of_below hb3));clear ha3 hb3;go_wp2_with fail
  refine(ab6 w3 q b g tv uv l vs L HE3.out true false rs1 rs' (k1+1) k HS2.out u3 HA3.out Q3.out R3.out).mono ?_;rintro e w4 ⟨rfl,r1,r2,r3⟩;have R4:=hide r1;have C4:=hide (C3.out.trans r2);have QE4:=hide r3;clear r1 r2 r3;go_wp2;refine bodyPost_ret (v:=_) (by simp[results,Tryz.results62,go_sem];try rfl) rfl ⟨rfl,R4.out,C4.out,QE4.out⟩
 |bad4 k1 rs1 t hs1 ht hsg _ _ hs2 t2 ht2 hk=>
  have HT:=hide ht;have HSG:=hide hsg;clear ht hsg;have HS2:=hide hs2;have HT2:=hide ht2;have HK:=hide hk;clear hs2 ht2 hk;have HS1:=hide hs1;clear hs1;go_enter Tryz.func62,Tryz.ntmps62
  go_wp2_with fail
  refine(ab6 w q b g tv uv l vs L HE.out false true rs rs1 i k1 HS1.out av HA.out HR.out H.out).mono ?_;rintro e w1 ⟨rfl,r1,r2,r3⟩;have R1:=hide r1;have C1:=hide r2;have Q1:=hide r3;clear r1 r2 r3;have K:=abe w1 q b tv uv l vs k1 t R1.out HT.out sEq (fun h3=>HE.out.wf.more HT.out (by rw[h3];decide)) HE.out.wf.len;rw[HSG.out]at K;unfold sEq at K;have K:=hide K;go_wp2_with fail
  refine K.out.mono ?_;rintro e w2 ⟨rfl,s1,s2⟩;have R2:=hide s1;have C2:=hide (C1.out.trans s2.wide);have Q2:=hide (Q1.out.rc s2 HE.out.gq (fun e=>HE.out.qb e.symm));clear s1 s2 K;rw[if_pos trivial]at R2;have HE2:=hide (HE.out.rc H.out HR.out C2.out);go_wp2_with fail
  refine(ack w2 av q b g false (HA.out.rc C2.out) (aaa R2.out.blk) (aaa Q2.out.row.choose_spec.2.1)).mono ?_;rintro e w3 ⟨u3,rfl,ha3,hb3⟩;have HA3:=hide ha3;have R3:=hide (R2.out.below hb3);have C3:=hide (C2.out.trans (.of_below hb3));have Q3:=hide (Q2.out.below hb3);have HE3:=hide (HE2.out.rc R2.out Q2.out (.of_below hb3));clear ha3 hb3;go_wp2_with fail
  refine(ab6 w3 q b g tv uv l vs L HE3.out true true rs1 rs' (k1+1) k HS2.out u3 HA3.out Q3.out R3.out).mono ?_;rintro e w4 ⟨rfl,r1,r2,r3⟩;have R4:=hide r1;have C4:=hide (C3.out.trans r2);have QE4:=hide r3;clear r1 r2 r3;have hf0:∀W,(Instr.field 109 (.agg #[.int .i64 t2.kind,.string t2.text,.int .i64 t2.pl.b,.int .i64 t2.pl.g,.int .i64 t2.pl.l,.int .i64 t2.pl.c]) 0).run Tryz.prog W=.ok (.int .i64 t2.kind) W:=fun W=>adg _ _ _ _ _ _ W
  go_wp2_with fail
  refine(aax w4 q b tv uv l vs k t2 R4.out HT2.out).mono ?_;rintro e w5 ⟨rfl,hb5⟩;have R5:=hide (R4.out.below hb5);have C5:=hide (C4.out.trans (.of_below hb5));have Q5:=hide (QE4.out.below hb5);unfold Tk.av;clear hb5;have hk0:(t2.kind==0)=false:=beq_eq_false_iff_ne.2 HK.out;go_wp2;refine bodyPost_ret (v:=_) (by simp[results,Tryz.results62,go_sem];try rfl) rfl ⟨rfl,R5.out,C5.out,Q5.out⟩
 |good k1 rs1 t hs1 ht hsg _ _ hs2 t2 ht2 hk=>
  have HT:=hide ht;have HSG:=hide hsg;clear ht hsg;have HS2:=hide hs2;have HT2:=hide ht2;have HK:=hide hk;clear hs2 ht2 hk;have HS1:=hide hs1;clear hs1;go_enter Tryz.func62,Tryz.ntmps62
  go_wp2_with fail
  refine(ab6 w q b g tv uv l vs L HE.out false true rs rs1 i k1 HS1.out av HA.out HR.out H.out).mono ?_;rintro e w1 ⟨rfl,r1,r2,r3⟩;have R1:=hide r1;have C1:=hide r2;have Q1:=hide r3;clear r1 r2 r3;have K:=abe w1 q b tv uv l vs k1 t R1.out HT.out sEq (fun h3=>HE.out.wf.more HT.out (by rw[h3];decide)) HE.out.wf.len;rw[HSG.out]at K;unfold sEq at K;have K:=hide K;go_wp2_with fail
  refine K.out.mono ?_;rintro e w2 ⟨rfl,s1,s2⟩;have R2:=hide s1;have C2:=hide (C1.out.trans s2.wide);have Q2:=hide (Q1.out.rc s2 HE.out.gq (fun e=>HE.out.qb e.symm));clear s1 s2 K;rw[if_pos trivial]at R2;have HE2:=hide (HE.out.rc H.out HR.out C2.out);go_wp2_with fail
  refine(ack w2 av q b g false (HA.out.rc C2.out) (aaa R2.out.blk) (aaa Q2.out.row.choose_spec.2.1)).mono ?_;rintro e w3 ⟨u3,rfl,ha3,hb3⟩;have HA3:=hide ha3;have R3:=hide (R2.out.below hb3);have C3:=hide (C2.out.trans (.of_below hb3));have Q3:=hide (Q2.out.below hb3);have HE3:=hide (HE2.out.rc R2.out Q2.out (.of_below hb3));clear ha3 hb3;go_wp2_with fail
  refine(ab6 w3 q b g tv uv l vs L HE3.out true true rs1 rs' (k1+1) k HS2.out u3 HA3.out Q3.out R3.out).mono ?_;rintro e w4 ⟨rfl,r1,r2,r3⟩;have R4:=hide r1;have C4:=hide (C3.out.trans r2);have QE4:=hide r3;clear r1 r2 r3;have hf0:∀W,(Instr.field 109 (.agg #[.int .i64 t2.kind,.string t2.text,.int .i64 t2.pl.b,.int .i64 t2.pl.g,.int .i64 t2.pl.l,.int .i64 t2.pl.c]) 0).run Tryz.prog W=.ok (.int .i64 t2.kind) W:=fun W=>adg _ _ _ _ _ _ W
  go_wp2_with fail
  refine(aax w4 q b tv uv l vs k t2 R4.out HT2.out).mono ?_;rintro e w5 ⟨rfl,hb5⟩;have R5:=hide (R4.out.below hb5);have C5:=hide (C4.out.trans (.of_below hb5));have Q5:=hide (QE4.out.below hb5);unfold Tk.av;clear hb5;have hk0:(t2.kind==0)=true:=beq_iff_eq.2 HK.out;go_wp2;refine bodyPost_ret (v:=_) (by simp[results,Tryz.results62,go_sem];try rfl) rfl ⟨rfl,R5.out,C5.out,Q5.out⟩
theorem akw(p:Gl->Bool)(l:List Gl):(l.dropWhile p).length<=l.length:=by
 induction l with
 |nil=>simp
 |cons x l ih=>
  simp only[List.dropWhile_cons];split
  ·simp only[List.length_cons];omega
  ·exact Nat.le_refl _
theorem aq5{s:ByteArray}{e:Pl}{g:Gl}{r:List Gl}{k:Int}{x:ByteArray}{t:List Gl}(h:TokR s e g r (.ok k x t)):t.length<=r.length/\k≠0:=by
 unfold TokR at h;split at h
 ·next h2=>
  split at h
  ·cases h
  ·injection h with h1 h3 h4;subst h1 h4;refine⟨?_,by decide⟩;rw[List.dropWhile_cons,if_pos (by simp[inC,h2])];exact akw _ _
 ·split at h
  ·next h2=>
   obtain⟨n,ds,_,_,h⟩:=h;split at h
   ·cases h
   ·injection h with h1 h3 h4;subst h1 h4;refine⟨?_,by decide⟩;rw[List.dropWhile_cons,if_pos (by simp[inC,h2])];exact akw _ _
  ·split at h
   ·unfold signS at h;split at h
    ·injection h with h1 h3 h4;subst h1 h4;exact⟨Nat.le_refl _,by decide⟩
    ·split at h
     ·injection h with h1 h3 h4;subst h1 h4;exact⟨Nat.le_refl _,by decide⟩
     ·split at h
      ·cases r with
       |nil=>cases h
       |cons y r=>
        simp only at h;split at h
        ·injection h with h1 h3 h4;subst h1 h4;exact⟨by simp,by decide⟩
        ·cases h
      ·injection h with h1 h3 h4;subst h1 h4;exact⟨Nat.le_refl _,by decide⟩
   ·cases h
theorem atf{s:ByteArray}{e:Pl}{r:List Gl}{o:SO}(h:ScanR s e r o):∀l,o=.ok l->l.length<=r.length+1/\0<l.length/\∀(i:Nat) (t:Tk),l[i]? = some t->i+1=l.length->t.kind=0/\t.text=⟨#[]⟩:=by
 induction h with
 |done r h hb=>
  intro l hl;injection hl with hl;subst hl;refine⟨by simp,by simp,fun i t ht hi=>?_⟩;have:i=0:=by simpa using hi
  subst this;simp at ht;subst ht;exact⟨rfl,rfl⟩
 |rune r h hb=>intro l hl;cases hl
 |bad r g t k h ht=>intro l hl;cases hl
 |tok r g t kind text rest o h ht hr ih=>
  intro l hl;cases o with
  |bad k p=>cases hl
  |ok l'=>
   injection hl with hl;subst hl;obtain⟨i1,i0,i2⟩:=ih l' rfl;have h1:=(aq5 ht).1;obtain⟨j,hj,hd⟩:=asz false r;have h2:t.length+1<=r.length:=by
    have:(g::t).length=r.length-j:=by rw[<-h,hd,List.length_drop]
    simp at this;omega
   refine⟨by simp only[List.length_cons];omega,by simp,fun i u hu hi=>?_⟩;cases i with
   |zero=>simp only[List.length_cons]at hi;omega
   |succ i=>exact i2 i u (by simpa using hu) (by simp only[List.length_cons]at hi;omega)
theorem aib{s:ByteArray}{e:Pl}{gs:List Gl}{l:List Tk}(hs:s.size<=4096)(hQ:Snd s pl0 gs e)(hR:ScanR s e gs (.ok l)):Wf l/\0<l.length:=by
 obtain⟨h1,h0,h2⟩:=atf hR l rfl;have h3:=hQ.ends adz (Nat.zero_le _);have:pl0.b=0:=rfl;exact⟨⟨by omega,h2⟩,h0⟩
theorem agj{fn:Func}{a:Act}{w:World}{k k' m g:Nat}{v v' x0 x1 x2 x3:Value}(hr:fn.results = #[.tmp k,.tmp k',.cell m 56])(h1:a.eval (.tmp k)=v)(h2:a.eval (.tmp k')=v')(h3:a.eval (.tmp m)=.pointer (some ⟨g,0,none⟩))(hh:w.heap[g]? = some (.cells #[x0,x1,x2,x3] 56 (0,0))):(results fn a.tmps).run Tryz.prog w=.ok (.tuple #[v,v',.agg #[x0,x1,x2,x3]]) w:=by
 have e1:a.tmps[k]?.getD undef=v:=by simpa[Act.eval]using h1
 have e2:a.tmps[k']?.getD undef=v':=by simpa[Act.eval]using h2
 have e3:a.tmps[m]?.getD undef=.pointer (some ⟨g,0,none⟩):=by simpa[Act.eval]using h3
 have c0:w.cell? ⟨g,0,none⟩=some x0:=by rw[cell_of_row _ _ _ _ _ (0,0) hh];rfl
 have c1:w.cell? ⟨g,1,none⟩=some x1:=by rw[cell_of_row _ _ _ _ _ (0,0) hh];rfl
 have c2:w.cell? ⟨g,2,none⟩=some x2:=by rw[cell_of_row _ _ _ _ _ (0,0) hh];rfl
 have c3:w.cell? ⟨g,3,none⟩=some x3:=by rw[cell_of_row _ _ _ _ _ (0,0) hh];rfl
 simp[results,hr,e1,e2,e3,go_sem,c0,c1,c2,c3,asAddr]
theorem af3{W:World}{f:Nat}{x y z t:Value}{T:TypeId}(h:W.heap[f]? = some (.cells #[x,y,z,t] T (0,0)))(a b c d:Value):((((W.setCell ⟨f,0,none⟩ a).setCell ⟨f,1,none⟩ b).setCell ⟨f,2,none⟩ c).setCell ⟨f,3,none⟩ d).heap[f]? = some (.cells #[a,b,c,d] T (0,0)):=by
 have s1:=heap_setCell_same W f 0 _ _ a h;have s2:=heap_setCell_same _ f 1 _ _ b s1;have s3:=heap_setCell_same _ f 2 _ _ c s2;have s4:=heap_setCell_same _ f 3 _ _ d s3;rw[s4];simp
theorem axi{W:World}{f:Nat}{x y z t:Int}(h:W.heap[f]? = some (.cells #[.int .i64 x,.int .i64 y,.int .i64 z,.int .i64 t] 56 (0,0)))(a b c d:Value):Ru W ((((W.setCell ⟨f,0,none⟩ a).setCell ⟨f,1,none⟩ b).setCell ⟨f,2,none⟩ c).setCell ⟨f,3,none⟩ d):=by
 refine Ru.of_one h (by decide) ?_ (by simp[World.setCell]) (fun k _ hn=>by rw[heap_setCell_other _ ⟨f,3,none⟩ k _ hn,heap_setCell_other _ ⟨f,2,none⟩ k _ hn,heap_setCell_other _ ⟨f,1,none⟩ k _ hn,heap_setCell_other _ ⟨f,0,none⟩ k _ hn]);intro i z
 match i with
 |0=>simp
 |1=>simp
 |2=>simp
 |3=>simp
 |i+4=>simp
theorem abl{W:World}{f:Nat}{x y z t:Value}{T:TypeId}(h:W.heap[f]? = some (.cells #[x,y,z,t] T (0,0))):f<W.heap.size/\W.cell? ⟨f,0,none⟩=some x/\W.cell? ⟨f,1,none⟩=some y/\W.cell? ⟨f,2,none⟩=some z/\W.cell? ⟨f,3,none⟩=some t/\W.frozen? ⟨f,0,none⟩=false/\W.frozen? ⟨f,1,none⟩=false/\W.frozen? ⟨f,2,none⟩=false/\W.frozen? ⟨f,3,none⟩=false:=⟨aaa h,by rw[cell_of_row _ _ _ _ _ (0,0) h];rfl,by rw[cell_of_row _ _ _ _ _ (0,0) h];rfl,by rw[cell_of_row _ _ _ _ _ (0,0) h];rfl,by rw[cell_of_row _ _ _ _ _ (0,0) h];rfl,frozen_of_row _ _ _ _ _ h,frozen_of_row _ _ _ _ _ h,frozen_of_row _ _ _ _ _ h,frozen_of_row _ _ _ _ _ h⟩
theorem akx{w:World}{g b n:Nat}{L:Nat}(hg:w.heap[g]? = some (.cells #[.slice (some ⟨b,0,none⟩) n n] 34 (0,0)))(hb:w.heap[b]? = some (.cells (rf3 (List.replicate n ⟨false,none,0,0,none,0,0⟩)).toArray 62 (0,0)))(hne:g≠b):RQ w g b (List.replicate n 0) L:=by
 refine⟨by simpa using hg,⟨_,by simp,hb,fun i e r he hr=>?_⟩,hne⟩;obtain rfl:=List.eq_of_mem_replicate (List.mem_of_getElem? he);obtain rfl:=List.eq_of_mem_replicate (List.mem_of_getElem? hr);exact⟨0,0,⟨_,_,_,_,[],_,_,_,[],rfl,⟨afp w,rfl⟩,afp w,rfl,by simp,by simp⟩,Rat.divInt_zero 0⟩
theorem afl(w:World)(hT:Tabs w)(s:ByteArray)(hs:s.size<=4096)(v:Value)(vs:List ByteArray)(hv:Strs w v vs)(hN:NmsOk vs)(gs:List Gl)(e:Pl)(l:List Tk)(hQ:Snd s pl0 gs e)(hR:ScanR s e gs (.ok l))(L M:Nat)(hL:L<=10000)(hL1:1<=L)(hM:M<=100000)(k:Nat)(rs:List Rat)(hE:EqR l vs L 0 (List.replicate (vs.length+1) 0) true k rs)(hrl:rs.length=vs.length+1)(hC:∀k,k<=rs.length->((comR (rs.take k)).natAbs:Int)<pw M)(hD:∀z∈clr rs,(z.natAbs:Int)<pw M)(hnov:(⟨#[]⟩:ByteArray)∉vs):
  Calls Tryz.prog 30 #[.string s,v] w fun r w'=>Below w.heap.size w w'/\(((∀z∈canonZ rs,(z.natAbs:Int)<pw 32)/\∃x,r=.returned (.tuple #[x,.int .i64 0,.agg #[.int .i64 0,.int .i64 0,.int .i64 0,.int .i64 0]])/\ORow w.heap.size w' x (canonZ rs) M)\/((∃z∈canonZ rs,¬(z.natAbs:Int)<pw 32)/\r=.returned (.tuple #[.slice none 0 0,.int .i64 2,.agg #[.int .i64 0,.int .i64 0,.int .i64 0,.int .i64 0]]))):=by
 obtain⟨av,cv,rfl,_⟩:=id hv;have hvl:vs.length<=16:=hN.1;have hb0:Below w.heap.size w (w.alloc (.cells #[.int .i64 0,.int .i64 0,.int .i64 0,.int .i64 0] 56)):=hAl _ _;have K:=aej _ (hT.below hb0) _ vs (hv.below hb0);rw[show nmsE vs=0 from if_pos hN]at K;have K:=hide K;have HT:=hide hT;have HV:=hide hv;have HQ:=hide hQ;have HR:=hide hR;have HE:=hide hE;have HC:=hide (And.intro hC hD);have HRL:=hide hrl;obtain⟨hWf,hl0⟩:=aib hs hQ hR;have HWf:=hide hWf;have HNV:=hide hnov;obtain⟨iR,hi,hz0,hz1,hz2⟩:=info_parts infoRz;clear hT hv hQ hR hE hC hD hrl hWf hnov hN;go_enter Tryz.func30,Tryz.ntmps30
 go_wp2_with fail
 refine K.out.mono ?_;rintro r w1 ⟨rfl,hb1⟩;have hb1':=hb0.trans (hb1.mono hb0.size);have hf6:w1.heap[w.heap.size]? = some (.cells #[.int .i64 0,.int .i64 0,.int .i64 0,.int .i64 0] 56 (0,0)):=(hb1.block _ (by simp)).trans (heap_alloc_new w _);clear K hb0 hb1;go_wp2_with fail
 refine(adp w1 s (HT.out.below hb1') hs).mono ?_;rintro r w2 ⟨hb2,gs',e',o,s1,s2,s3⟩;obtain⟨rfl,rfl⟩:=s1.one HQ.out;obtain rfl:=s2.one HR.out;obtain⟨tv,rfl,hown⟩:=s3;have hts:Ts w2 tv l:=Ts.own hown;have hb2':=hb1'.trans (hb2.mono hb1'.size);have hf62:=(hb2.block _ (aaa hf6)).trans hf6;have hbA:=hAl w2 (.cells #[.int .i64 0,.int .i64 0,.int .i64 0,.int .i64 0] 56);have hb3:=hb2'.trans (hbA.mono hb2'.size);obtain⟨at_,ct,rfl,_⟩:=hts.parts;have HTS:=hide (hts.below hbA);have HF6:=hide (aaq (o':=.cells #[.int .i64 0,.int .i64 0,.int .i64 0,.int .i64 0] 56) hf62);have HB3:=hide hb3;have hlt2:w.heap.size<w2.heap.size:=aaa hf62;have hT2:w2.ownsRow w1.heap.size 109 6 (.slice at_ l.length ct) l.length (tflat l):=hown;have HOWN:=hide hT2;unfold Pl.v plz;clear hb1' hb2 hb2' hf6 hf62 s1 s2 hown hts hT2;go_wp2_with (refine wpList_make_full _ rfl (.tmp 36) (.tmp 36) 34 rfl w.heap.size 62 iR (.agg #[.bool false,.slice none 0 0,.slice none 0 0]) 3 Tryz.underlying34 hi hz0 hz1 .i64 .i64 _ _ (vs.length+1) rfl rfl (by omega) (by omega) (by rw[hz2];omega) (by unfold maxLen;omega) HB3.out.size ?hK)
 case hK=>
  intro w4 hown hgrow;have hb4:=(Below.refl _ _).grown hgrow (Nat.le_refl _) (by simp);obtain⟨_,hmb⟩:=ac6 hown;rw[afe]at hmb;have hsz4:(w2.alloc (.cells #[.int .i64 0,.int .i64 0,.int .i64 0,.int .i64 0] 56)).heap.size=w2.heap.size+1:=by simp
  have hbl4:w2.heap.size+1<w4.heap.size:=aaa hmb;generalize hW5:w4.alloc (.cells #[.slice (some ⟨w2.heap.size+1,0,none⟩) (vs.length+1) (vs.length+1)] 34)=w5;have hb45:Below w4.heap.size w4 w5:=by rw[<-hW5];exact hAl _ _
  have hg5:w5.heap[w4.heap.size]? = some (.cells #[.slice (some ⟨w2.heap.size+1,0,none⟩) (vs.length+1) (vs.length+1)] 34 (0,0)):=by rw[<-hW5];exact heap_alloc_new _ _
  have hs5:w5.heap.size=w4.heap.size+1:=by rw[<-hW5];simp
  generalize hW6:w5.alloc (.cells #[.slice at_ l.length ct,.int .i64 0,.slice av vs.length cv] 104)=w6;have hb56:Below w5.heap.size w5 w6:=by rw[<-hW6];exact hAl _ _
  have hq6:w6.heap[w4.heap.size+1]? = some (.cells #[.slice at_ l.length ct,.int .i64 ((0:Nat):Int),.slice av vs.length cv] 104 (0,0)):=by rw[<-hW6,<-hs5];exact heap_alloc_new _ _
  have hb46:=hb45.trans (hb56.mono hb45.size);have hb36:=hb4.trans (hb46.mono hb4.size);have hb06:Below w.heap.size w w6:=HB3.out.trans (hb36.mono HB3.out.size);have hRQ:RQ w6 w4.heap.size (w2.heap.size+1) (List.replicate (vs.length+1) 0) L:=by
   refine akx ((hb56.block _ (aaa hg5)).trans hg5) ((hb46.block _ (aaa hmb)).trans hmb) (by omega)
  have hsw:w.heap.size<=w2.heap.size+1:=by have:=HB3.out.size;omega
  have hRE:Rea w6 (w4.heap.size+1) (w2.heap.size+1) (.slice at_ l.length ct) (.slice av vs.length cv) l vs 0:=by
   refine⟨hq6,HTS.out.below hb36,HV.out.below hb06,hl0,?_,?_⟩
   ·rintro _ b' off n c hv';have hts2:Ts w2 (.slice at_ l.length ct) l:=Ts.own HOWN.out;obtain⟨ao',cap',e1,_,_,_,e4⟩:=hts2;rcases e4 with e4|⟨b2,off2,e4,hl2,_⟩
    ·omega
    ·rw[e4]at e1;have e5:=hv'.symm.trans e1;simp only[Value.slice.injEq,Option.some.injEq,Addr.mk.injEq]at e5;omega
   ·rintro hp b' off n c hv';obtain⟨ao',cap',e1,_,_,_,e4⟩:=HV.out;rcases e4 with e4|⟨b2,off2,e4,hl2,_⟩
    ·omega
    ·rw[e4]at e1;have e5:=hv'.symm.trans e1;simp only[Value.slice.injEq,Option.some.injEq,Addr.mk.injEq]at e5;omega
  have hEnv:Env w6 (w4.heap.size+1) (w2.heap.size+1) w4.heap.size (.slice at_ l.length ct) (.slice av vs.length cv) l vs L:=⟨HT.out.below hb06,HWf.out,HNV.out,hL,hL1,by omega,by omega⟩;have KE:=hide (afk w6 _ _ _ _ _ l vs L hEnv true _ rs 0 k HE.out _ .base hRQ hRE);have HF66:=hide ((hb36.block _ (aaa HF6.out)).trans HF6.out);have HB06:=hide hb06;have hgl:w4.heap.size<w6.heap.size:=by have:=hb56.size;omega
  have HRQ:=hide hRQ;have HW5:=hide hW5;have HW6:=hide hW6;clear hW5 hW6 hRQ hRE hEnv hb36 hb06 hb46 hb45 hb56 hb4 hmb hown hgrow hg5 hq6;go_wp2_with fail
  rw[HW5.out,HW6.out];refine KE.out.mono ?_;rintro r w7 ⟨rfl,_,hrc,hrq⟩;have hb07:Below w.heap.size w w7:=HB06.out.trans (hrc.below HB06.out.size (by omega) hsw);have hf67:=(hrc.other _ (aaa HF66.out) (by omega) (by omega)).trans HF66.out;have hsl:=hrq.slot;have HIS:=hide (hrq.row_is (by rw[HRL.out];omega));rw[HRL.out]at hsl HIS;have sg0:w7.cell? ⟨w4.heap.size,0,none⟩=some (.slice (some ⟨w2.heap.size+1,0,none⟩) (vs.length+1) (vs.length+1)):=by rw[cell_of_row _ _ _ _ _ (0,0) hsl];rfl
  have HF67:=hide hf67;have HB07:=hide hb07;clear hrc hrq hb07 hf67 hsl KE;go_wp2_with fail
  refine(aqw w7 _ rs L M HIS.out hL hL1 hM (by rw[HRL.out];omega) HC.out.1 HC.out.2 (by intro h;have:=HRL.out;rw[h]at this;simp at this)).mono ?_;rintro r w8 ⟨hb8,⟨hsm,x,rfl,hor⟩|⟨hbig,rfl⟩⟩
  ·have hf68:=(hb8.block _ (aaa HF67.out)).trans HF67.out;have HF68:=hide hf68;have HB8:=hide (HB07.out.trans (hb8.mono HB07.out.size));obtain⟨bv,rfl,hbv⟩:=id hor;have HOR:=hide hor;have HSM:=hide hsm;have h78:=HB07.out.size;obtain⟨hfl,c0,c1,c2,c3,f0,f1,f2,f3⟩:=abl hf68;clear hb8 hf68 hor hsm sg0;go_wp2;refine bodyPost_ret (v:=.tuple #[.slice (some ⟨bv,0,none⟩) (canonZ rs).length (canonZ rs).length,.int .i64 0,.agg #[.int .i64 0,.int .i64 0,.int .i64 0,.int .i64 0]]) (agj (g:=w.heap.size) rfl rfl rfl rfl (af3 HF68.out _ _ _ _)) rfl ⟨?_,.inl ⟨HSM.out,_,rfl,?_⟩⟩
   ·exact(((HB8.out.setCell (Nat.le_refl _) _).setCell (Nat.le_refl _) _).setCell (Nat.le_refl _) _).setCell (Nat.le_refl _) _
   ·obtain⟨bv',e1,e2,e3,e4⟩:=HOR.out;have hbb:bv≠w.heap.size:=by have:=hbv.1;have:=aaa HF67.out;omega
    obtain rfl:bv'=bv:=by
     simp only[Value.slice.injEq,Option.some.injEq,Addr.mk.injEq]at e1;exact e1.1.1.symm
    refine⟨bv',rfl,by omega,(PRow.low e3 h78).ru (axi HF68.out _ _ _ _) ?_,e4⟩;rw[heap_setCell_other _ ⟨w.heap.size,3,none⟩ _ _ hbb,heap_setCell_other _ ⟨w.heap.size,2,none⟩ _ _ hbb,heap_setCell_other _ ⟨w.heap.size,1,none⟩ _ _ hbb,heap_setCell_other _ ⟨w.heap.size,0,none⟩ _ _ hbb]
  ·have hf68:=(hb8.block _ (aaa HF67.out)).trans HF67.out;have HF68:=hide hf68;have HB8:=hide (HB07.out.trans (hb8.mono HB07.out.size));have HBG:=hide hbig;obtain⟨hfl,c0,c1,c2,c3,f0,f1,f2,f3⟩:=abl hf68;clear hb8 hf68 hbig sg0;go_wp2;refine bodyPost_ret (v:=.tuple #[.slice none 0 0,.int .i64 2,.agg #[.int .i64 0,.int .i64 0,.int .i64 0,.int .i64 0]]) (agj (g:=w.heap.size) rfl rfl rfl rfl (af3 HF68.out _ _ _ _)) rfl ⟨?_,.inr ⟨HBG.out,rfl⟩⟩;exact(((HB8.out.setCell (Nat.le_refl _) _).setCell (Nat.le_refl _) _).setCell (Nat.le_refl _) _).setCell (Nat.le_refl _) _
noncomputable def dig(x:Int):List Int:=@Classical.epsilon (List Int) ⟨[]⟩ fun ds=>IsDec ds x
theorem af4{ds:List Int}{x:Int}(h:IsDec ds x):ds=dig x:=aiv h (@Classical.epsilon_spec (List Int) (fun ds=>IsDec ds x) ⟨ds,h⟩)
noncomputable def txt(z:Int):ByteArray:=if z<0 then strOfNums (45::dig (z.natAbs:Int))else strOfNums (dig (z.natAbs:Int))
theorem aq6{b:Bool}{x z:Int}(hx:0<=x)(h:sg b x=z):x=(z.natAbs:Int):=by
 subst h;cases b <;> simp[sg] <;> omega
section
end
section
end
end Lm
namespace Lm
open Go Go.RowKit
open Dm (Err Fine)
theorem af5{ds:List Int}(h:∀c∈ds,0<=c/\c<256):bytesOf (strOfNums ds)=ds:=by
 rw[bytesOf,strOfNums_data,List.map_map];conv=>rhs;rw[<-List.map_id ds]
 apply List.map_congr_left;intro c hc;have:=h c hc;simp only[Function.comp_apply,id];have e:(UInt8.ofNat c.toNat).toNat=c.toNat:=by
  simp;omega
 rw[e];omega
theorem aws(n:Nat):∃ds,IsDec ds (n:Int):=by
 induction n using Nat.strongRecOn with
 |_ n ih=>
  by_cases h:n<10
  ·refine⟨[48+(n:Int)],abu.2 ⟨by omega,acv⟩,by simp[dval,p10];omega,?_⟩;by_cases h0:n=0
   ·subst h0;exact .inl ⟨rfl,rfl⟩
   ·exact .inr ⟨_,_,rfl,by omega⟩
  ·obtain⟨ds,h1,h2,h3⟩:=ih (n/10) (by omega);refine⟨ds ++ [48+((n%10:Nat):Int)],ae3 h1 (by omega) (by omega),by rw[afr,h2];omega,.inr ?_⟩;rcases h3 with⟨h3,_⟩|⟨c,cs,rfl,hc⟩
   ·omega
   ·exact⟨c,cs ++ [48+((n%10:Nat):Int)],rfl,hc⟩
theorem adu(n:Nat):IsDec (dig (n:Int)) (n:Int):=by
 obtain⟨ds,h⟩:=aws n;rw[<-af4 h];exact h
theorem af6{ds:List Int}{x:Int}{n:Nat}(h:IsDec ds x)(hx:x<p10 n)(hn:1<=n):ds.length<=n:=by
 rcases h.2.2 with⟨_,rfl⟩|⟨c,cs,rfl,hc⟩
 ·simpa using hn
 ·have h1:=h.1 c (by simp);have h2:=h.2.1;simp only[dval]at h2;have h3:=(aa5 (show Dig cs from fun y hy=>h.1 y (by simp[hy]))).1;apply Classical.byContradiction;intro hl;have h4:=abg (m:=n) (n:=cs.length) (by simp at hl;omega);have h5:1*p10 cs.length<=(c-48)*p10 cs.length:=Int.mul_le_mul_of_nonneg_right (by omega) (by have:=abz cs.length;omega);omega
theorem dig8{x:Int}{ds:List Int}(h:IsDec ds x):∀c∈ds,0<=c/\c<256:=fun c hc=>by have:=h.1 c hc;omega
theorem avb{z:Int}(h:¬z<0):bytesOf (txt z)=dig (z.natAbs:Int):=by
 rw[txt,if_neg h,af5 (dig8 (adu _))]
theorem avc{z:Int}(h:z<0):bytesOf (txt z)=45::dig (z.natAbs:Int):=by
 rw[txt,if_pos h,af5];intro c hc;rcases List.mem_cons.1 hc with rfl|hc
 ·omega
 ·exact dig8 (adu _) c hc
end Lm
namespace Lm
open Go Go.RowKit
theorem avd:Has Tryz.prog 35:=by unfold Has;kernel_rfl
theorem atg:Has Tryz.prog 32:=by unfold Has;kernel_rfl
theorem aic{B b:Nat}{p:Value}{bs:List Value}{W W':World}(h:Lib.BuilderAtF 137 5 B b p bs W)(hk:Below W.heap.size W W'):Lib.BuilderAtF 137 5 B b p bs W':=by
 have hlt:=h.lt;obtain⟨h1,v,h2,h3,h4⟩:=h;have hg:W.grownBy W' none:=⟨hk.os,hk.tape,hk.output,hk.size,fun k h _=>hk.block k h⟩;exact⟨h1,v,(hk.block b hlt).trans h2,h3.kept (row:=none) hg (Classical.em _),h4⟩
theorem Bld.keep{W W':World}{B b:Nat}{l:List UInt8}(h:Bld W B b l)(hk:Below W.heap.size W W'):Bld W' B b l:=by
 rcases h with h|h
 ·exact .inl (aic h hk)
 ·exact .inr (aic h hk)
def tpre(z:Int)(first:Bool):List UInt8:=if first then(if z<0 then [45]else []) else(if z<0 then [32,45,32]else [32,43,32])
noncomputable def tterm(z:Int)(first:Bool)(nm:List UInt8):List UInt8:=
 if z=0 then []else tpre z first++((if z.natAbs=1 then [] else(txt (z.natAbs:Int)).data.toList ++ [42])++nm)
theorem awt{z:Int}{L:Nat}{w:World}{ng:Bool}{a:Option Addr}{n c:Nat}(h:IsW z L (.agg #[.bool ng,.slice a n c]) w):IsW (z.natAbs:Int) L (.agg #[.bool false,.slice a n c]) w:=by
 obtain⟨ng',ao,n',cap,xs,hv,hA,hl⟩:=h;simp only[Value.agg.injEq,Array.mk.injEq,List.cons.injEq,Value.bool.injEq,Value.slice.injEq,and_true]at hv;obtain⟨rfl,rfl,rfl,rfl⟩:=hv;exact⟨_,_,_,_,_,rfl,⟨hA.sl,aq6 (aab hA.sl.parts.2.2.2).1 hA.worth⟩,hl⟩
theorem cmp0{a b:Int}(h:cmpI a b=0):a=b:=by
 unfold cmpI at h;split at h
 ·omega
 ·split at h
  ·omega
  ·omega
theorem ave(k:Int):(k != 0)=(!decide (k=0)):=by
 by_cases h:k=0 <;> simp[h]
theorem wtextF(w:World)(z:Int)(v:Value)(L:Nat)(h:IsW z L v w)(hL:L<=1000000):
  Calls Tryz.prog 33 #[v] w fun e w'=>e=.returned (.string (txt z))/\Below w.heap.size w w':=by
 obtain⟨ng,ao,n,cap,zs,rfl,A,l⟩:=h;have hx:=aq6 (aab A.sl.parts.2.2.2).1 A.worth;by_cases hz:z<0
 ·refine(ap0 w ng ao n cap zs A.sl (by omega) (by rw[A.worth];exact hz)).mono ?_;rintro e w' ⟨ds,rfl,hd,hb⟩;rw[hx]at hd;exact⟨by rw[txt,if_pos hz,<-af4 hd],hb⟩
 ·refine(ap1 w ng ao n cap zs A.sl (by omega) (by rw[A.worth];exact hz)).mono ?_;rintro e w' ⟨ds,rfl,hd,hb⟩;rw[hx]at hd;exact⟨by rw[txt,if_neg hz,<-af4 hd],hb⟩
theorem ahh{z:Int}{L:Nat}(h:(z.natAbs:Int)<pw L):(txt z).size<=10*L+2:=by
 have h3:=aed L;have h4:=abg (m:=10*L) (n:=10*L+1) (by omega);have h1:=af6 (adu z.natAbs) (n:=10*L+1) (by omega) (by omega);by_cases hz:z<0
 ·rw[<-abh,avc hz,List.length_cons];omega
 ·rw[<-abh,avb hz];omega
theorem ath(w:World)(z:Int)(L:Nat)(v:Value)(nm:ByteArray)(first:Bool)(hv:IsW z L v w)(hL:L<=100000)(hs:nm.size<=1000000):
    Calls Tryz.prog 59 #[v,.string nm,.bool first] w fun e w'=>e=.returned (.string ⟨(tterm z first nm.data.toList).toArray⟩)/\Below w.heap.size w w':=by
  obtain⟨ng,a,n,c,xs,rfl,_⟩:=id hv;have hb0:=hAl w (.cells #[.bool ng,.slice a n c] 60);have HV:=hide hv;have K:=hide (signF _ z _ L (hv.ru (Ru.of_below hb0)) (by omega));clear hv;by_cases hz0:z=0
  · have HE:Hid (tterm z first nm.data.toList = []):=if_pos hz0
    have K:=K.out;rw[hz0,Int.sign_zero]at K;have K:=hide K;clear hz0;go_enter Tryz.func59,Tryz.ntmps59
    go_wp2_with fail
    refine K.out.mono ?_;rintro e w1 ⟨rfl,hb1⟩;have HB01:=hide (hb0.trans (hb1.mono hb0.size));clear hb0 hb1 K;go_wp2;refine bodyPost_ret (v:=_) (aef rfl rfl) rfl ⟨by rw[HE.out];rfl,HB01.out⟩
  have HE:Hid (tterm z first nm.data.toList=tpre z first++((if z.natAbs=1 then [] else(txt (z.natAbs:Int)).data.toList ++ [42])++nm.data.toList)):=if_neg hz0;obtain⟨s,hs'⟩:∃s,Int.sign z=s:=⟨_,rfl⟩;have hs0:(s==0)=false:=beq_eq_false_iff_ne.2 (fun e=>hz0 (Int.sign_eq_zero_iff_zero.1 (by omega)));have HSZ:Hid (s<0↔z<0):=(show _↔_ by rw[<-hs'];exact Int.sign_neg_iff);have K:=K.out;rw[hs']at K;have K:=hide K;clear hz0 hs';go_enter Tryz.func59,Tryz.ntmps59
  go_wp2_with fail
  refine K.out.mono ?_;rintro e w1 ⟨rfl,hb1⟩;have hx:w1.heap[w.heap.size]? = some (.cells #[.bool ng,.slice a n c] 60 (0,0)):=(hb1.block _ (by simp)).trans (heap_alloc_new w _);obtain⟨hxl,x0,x1,_,_⟩:=aah hx;have hb01:=hb0.trans (hb1.mono hb0.size);have hB:Bld (w1.alloc (.cells #[.pointer none,.slice none 0 0] 137)) w1.heap.size w1.heap.size []:=Lib.IsBuilderF.of (Lib.fresh_isBuilder 137 5 w1);have hba0:=hAl w1 (.cells #[.pointer none,.slice none 0 0] 137);have HB:=hide hB;have HB01:=hide hb01;have HBA:=hide hba0;clear hb0 hb1 hB K hx hb01 hba0;obtain⟨pre,hpl,hpre⟩:∃pre,pre.length<=3/\tpre z first=pre:=⟨_,by unfold tpre;split <;> split <;> simp,rfl⟩;rw[hpre]at HE;have hcs:(first=true/\s<0/\pre = [45])\/(first=false/\s<0/\pre = [32,45,32])\/(first=false/\¬s<0/\pre = [32,43,32])\/(first=true/\¬s<0/\pre = []):=by
    rw[<-hpre,HSZ.out];unfold tpre;cases first <;> by_cases hz:z<0 <;> simp[hz]
  clear hpre;have HDT:Hid ((txt (z.natAbs:Int)).size<=10*L+2):=ahh (by rw[Int.natAbs_natCast];exact ad8 HV.out);rcases hcs with⟨rfl,hs1,rfl⟩|⟨rfl,hs1,rfl⟩|⟨rfl,hs1,rfl⟩|⟨rfl,hs1,rfl⟩;all_goals go_wp2_with fail
  all_goals first
    | (refine(bwstr w1.heap.size w1.heap.size [] _ _ HB.out (by simp;decide) (by simp)).mono ?_
       rintro e wa ⟨rfl,hBa,hba,_⟩;rw[List.nil_append]at hBa;have hb1a:Below w1.heap.size w1 wa:=HBA.out.trans hba;have y0:=(hb1a.cell (p:=⟨w.heap.size,0,none⟩) hxl).trans x0;have y1:=(hb1a.cell (p:=⟨w.heap.size,1,none⟩) hxl).trans x1;have hxla:w.heap.size<wa.heap.size:=Nat.lt_of_lt_of_le hxl hb1a.size;clear hba;go_wp2_with fail
       clear y0 y1 hxla
       generalize hf9:wa.heap.size=f9 at *)
    | (have hBa:=HB.out
       have hb1a:=HBA.out;have hf9:(w1.alloc (.cells #[.pointer none,.slice none 0 0] 137)).heap.size=w1.heap.size+1:=by simp
       generalize w1.alloc (.cells #[.pointer none,.slice none 0 0] 137)=wa at *
       generalize w1.heap.size+1=f9 at *)
  all_goals (
    have hal2:=hAl wa (.cells #[.bool false,.slice a n c] 60);have hnw:=heap_alloc_new wa (.cells #[.bool false,.slice a n c] 60);rw[hf9]at hnw;have hb12:=hb1a.trans (hal2.mono hb1a.size);have hB2:=Lib.IsBuilderF.alloc hBa (.cells #[.bool false,.slice a n c] 60);generalize (wa.alloc (.cells #[.bool false,.slice a n c] 60))=w2 at *
    have hb02:=HB01.out.trans (hb12.mono HB01.out.size);have hsz2:=hb12.size;have hs01:=HB01.out.size;have HM:=hide (awt (HV.out.ru (Ru.of_below hb02)));have HB02:=hide hb02;obtain⟨hnl,u0,u1,_,_⟩:=aah hnw;have HNW:=hide hnw;have HB2:=hide hB2;clear hal2 hnw hb12 hB2 hb02 x0 x1 hBa hb1a hf9 HB HBA;go_cut [34] (fun bv wx=>bv=.bool (!decide (cmpI (z.natAbs:Int) 1=0))/\Below w2.heap.size w2 wx)
    case first=>
      go_region_law (first|(refine aav rfl 35 #[.const (.int .i64 1)] #[3] rfl avd #[.int .i64 1] (by simp[Act.eval]) (ac2 _ 1 (by decide) (by decide)) ?_;rintro e w3 ⟨ng3,ao3,cap3,rs3,rfl,hw3,hl3,hb3⟩;have ho3:OutW 1 2 (.agg #[.bool ng3,.slice ao3 rs3.length cap3]) w3:=⟨_,_,_,_,rfl,hw3,hl3⟩;have HO3:=hide ho3;have hb23:Below w2.heap.size w2 w3:=(show Below w2.heap.size w2 _ by(repeat' first|with_reducible(first|exact Below.refl _ _|assumption|refine gdrewN ?_ _|refine Below.alloc ?_ ?_ _|refine Below.drew ?_|refine Below.setCell ?_ ?_ _)|go_size)).trans (hb3.mono (by simp));have HB23:=hide hb23;have u03:=(hb23.cell (p:=⟨f9,0,none⟩) hnl).trans u0;have u13:=(hb23.cell (p:=⟨f9,1,none⟩) hnl).trans u1;clear ho3 hb3 hb23 hw3 hl3;refine⟨_,rfl,?_⟩)|(refine aav rfl 32 #[.tmp 31,.tmp 32] #[60,60] rfl atg #[.agg #[.bool false,.slice a n c],.agg #[.bool ng3,.slice ao3 rs3.length cap3]] (by simp[Act.eval]) (cmpF _ (z.natAbs:Int) 1 _ _ L 2 (HM.out.ru (Ru.of_below HB23.out)) HO3.out.is (by omega) (by omega)) ?_;rintro e w4 ⟨rfl,hb4⟩;have HB24:=hide (HB23.out.trans (hb4.mono HB23.out.size));clear hb4;refine⟨_,rfl,?_⟩))
      all_goals (
        go_wp2_with fail
        go_meet
        exact⟨by rw[ave],HB24.out⟩)
    case rest=>
      obtain⟨rfl,hb5⟩:=hcut;have hB5:=Bld.keep HB2.out hb5;have hnw5:=(hb5.block _ (aaa HNW.out)).trans HNW.out;have HB05:=hide (HB02.out.trans (hb5.mono HB02.out.size));have hsz5:w1.heap.size<=wc.heap.size:=Nat.le_trans hsz2 hb5.size;have HM5:=hide (HM.out.ru (Ru.of_below hb5));have hnm8:nm.data.size<=1000000:=hs;have HBd5:=hide hB5;clear hb5 hB5 u0 u1;by_cases h1:z.natAbs=1
      · rw[show(!decide (cmpI (z.natAbs:Int) 1=0))=false by rw[h1];rfl]
        have HE':=HE.out;rw[if_pos h1,List.nil_append]at HE';have HE':=hide HE';have K5:=hide (bwstr w1.heap.size w1.heap.size _ nm wc HBd5.out (by simp;omega) hsz5);clear hnw5 h1;go_wp2_with fail
        refine K5.out.mono ?_;rintro e w6 ⟨rfl,hB6,hb6,_⟩;have HB06:=hide (HB05.out.trans (hb6.mono hs01));have K6:=hide (bstring w1.heap.size w1.heap.size _ w6 hB6 (Nat.le_trans hsz5 hb6.size));clear hB6 hb6 K5;go_wp2_with fail
        refine K6.out.mono ?_;rintro e w7 ⟨rfl,hb7⟩;have HB07:=hide (HB06.out.trans (hb7.mono hs01));clear hb7 K6;go_wp2;refine bodyPost_ret (v:=_) (aef rfl rfl) rfl ⟨by rw[HE'.out];rfl,HB07.out⟩
      · rw[show(!decide (cmpI (z.natAbs:Int) 1=0))=true by
          have hne:cmpI (z.natAbs:Int) 1≠0:=fun h=>h1 (by have:=cmp0 h;omega)
          simp[hne]]
        have HE':=HE.out;rw[if_neg h1]at HE';have HE':=hide HE';obtain⟨hnl5,v0,v1,_,_⟩:=aah hnw5;have KT:=hide (wtextF wc _ _ L HM5.out (by omega));obtain⟨sd,hsd⟩:∃sd,txt (z.natAbs:Int)=sd:=⟨_,rfl⟩;rw[hsd]at KT HE' HDT;clear hnw5 h1 hsd;go_wp2_with fail
        refine KT.out.mono ?_;rintro e w6 ⟨rfl,hb6⟩;have HB06:=hide (HB05.out.trans (hb6.mono HB05.out.size));have hds7:sd.data.size<=1000002:=by have:sd.size<=10*L+2:=HDT.out;show sd.size<=_;omega
        have hsz6:=Nat.le_trans hsz5 hb6.size;have K6:=hide (bwstr w1.heap.size w1.heap.size _ sd w6 (Bld.keep HBd5.out hb6) (by simp only[List.length_cons,List.length_nil];show _+sd.data.size<=_;omega) hsz6);clear hb6 v0 v1 KT;go_wp2_with fail
        refine K6.out.mono ?_;rintro e w7 ⟨rfl,hB7,hb7,_⟩;have HB07:=hide (HB06.out.trans (hb7.mono hs01));have hsz7:=Nat.le_trans hsz6 hb7.size;have K7:=hide (bwstr w1.heap.size w1.heap.size _ ⟨#[42]⟩ w7 hB7 (by simp only[List.length_append,List.length_cons,List.length_nil,Array.length_toList];show _+1<=_;omega) hsz7);clear hB7 hb7 K6;go_wp2_with fail
        refine K7.out.mono ?_;rintro e w8 ⟨rfl,hB8,hb8,_⟩;have HB08:=hide (HB07.out.trans (hb8.mono hs01));have hsz8:=Nat.le_trans hsz7 hb8.size;have K8:=hide (bwstr w1.heap.size w1.heap.size _ nm w8 hB8 (by simp only[List.length_append,List.length_cons,List.length_nil,Array.length_toList];show _+nm.data.size<=_;omega) hsz8);clear hB8 hb8 K7;go_wp2_with fail
        refine K8.out.mono ?_;rintro e w9 ⟨rfl,hB9,hb9,_⟩;have HB09:=hide (HB08.out.trans (hb9.mono hs01));have K9:=hide (bstring w1.heap.size w1.heap.size _ w9 hB9 (Nat.le_trans hsz8 hb9.size));clear hB9 hb9 K8;go_wp2_with fail
        refine K9.out.mono ?_;rintro e w10 ⟨rfl,hb10⟩;have HB10:=hide (HB09.out.trans (hb10.mono hs01));clear hb10 K9;go_wp2
        refine bodyPost_ret (v:=_) (aef rfl rfl) rfl ⟨by rw[HE'.out];simp only[List.append_assoc,List.cons_append,List.nil_append];rfl,HB10.out⟩)
noncomputable def lefts(zs:List Int)(vs:List ByteArray):Nat->List UInt8
 |0=>[]
 |k+1=>lefts zs vs k++tterm (zs.getD k 0) (decide (lefts zs vs k = [])) (vs.getD k ⟨#[]⟩).data.toList
noncomputable def prn(zs:List Int)(vs:List ByteArray):ByteArray:=⟨(if lefts zs vs vs.length = []then [48]else lefts zs vs vs.length).toArray⟩++⟨#[32,61,32]⟩++txt (zs.getD vs.length 0)
theorem awu(x y:List UInt8):(⟨x.toArray⟩:ByteArray)++⟨y.toArray⟩=⟨(x++y).toArray⟩:=by
 apply ByteArray.ext;rw[ByteArray.data_append];simp
theorem amr(x:List UInt8):(⟨x.toArray⟩:ByteArray).size=x.length:=by
 show x.toArray.size=_;simp
theorem aja{z:Int}{L:Nat}(h:(z.natAbs:Int)<pw L)(first:Bool)(nm:List UInt8):(tterm z first nm).length<=10*L+6+nm.length:=by
 unfold tterm;have h1:=ahh (z:=(z.natAbs:Int)) (L:=L) (by rw[Int.natAbs_natCast];exact h);have h2:(tpre z first).length<=3:=by unfold tpre;split <;> split <;> simp
 have h3:(txt (z.natAbs:Int)).data.toList.length=(txt (z.natAbs:Int)).size:=by rw[Array.length_toList];rfl
 split
 ·simp
 ·split
  ·simp only[List.length_append,List.length_nil];omega
  ·simp only[List.length_append,List.length_cons,List.length_nil,h3];omega
theorem ajb{s:ByteArray}(h:isNm s=true):s.size<=4096:=by
 apply Classical.byContradiction;intro hs;rw[ai7 (by omega)]at h;cases h
theorem ajc{zs:List Int}{vs:List ByteArray}{L:Nat}(hz:∀z∈zs,(z.natAbs:Int)<pw L)(hN:NmsOk vs):∀k,k<=vs.length->k<zs.length->(lefts zs vs k).length<=k*(10*L+4102)
 |0,_,_=>by simp[lefts]
 |k+1,h1,h2=>by
  have ih:=ajc hz hN k (by omega) (by omega);have e1:zs.getD k 0=zs[k]:=by rw[List.getD_eq_getElem?_getD,List.getElem?_eq_getElem (by omega)];rfl
  have e2:vs.getD k ⟨#[]⟩=vs[k]:=by rw[List.getD_eq_getElem?_getD,List.getElem?_eq_getElem (by omega)];rfl
  have h3:=aja (hz zs[k] (List.getElem_mem _)) (decide (lefts zs vs k = [])) vs[k].data.toList;have h4:=ajb (hN.2 k vs[k] (List.getElem?_eq_getElem _)).1;have h5:vs[k].data.toList.length=vs[k].size:=by rw[Array.length_toList];rfl
  rw[lefts,e1,e2,List.length_append,Nat.add_mul];omega
theorem ati{w:World}{v:Value}{zs:List Int}{L:Nat}(h:IsRow w v zs L):∀z∈zs,(z.natAbs:Int)<pw L:=by
 intro z hz;obtain⟨k,hk⟩:=List.mem_iff_getElem?.1 hz;obtain⟨ao,cap,rfl,_⟩:=h.parts;obtain⟨b,off,ng,a,m,c,_,_,_,_,hw⟩:=h.cell hk;exact ad8 hw
theorem aq7(w:World)(hT:Tabs w)(rv vv:Value)(zs:List Int)(vs:List ByteArray)(L:Nat)(hr:IsRow w rv zs L)(hL:L<=100000)(hv:Strs w vv vs)(hN:NmsOk vs)(hl:zs.length=vs.length+1):
  Calls Tryz.prog 26 #[rv,vv] w fun e w'=>e=.returned (.tuple #[.string (prn zs vs),.int .i64 0])/\Below w.heap.size w w':=by
 obtain⟨ra,rc,rfl,_⟩:=hr.parts;obtain⟨va,vc,rfl,_⟩:=id hv;have K:=aej w hT _ _ hv;rw[show nmsE vs=0 from if_pos hN]at K;have hlt:=ati hr;obtain⟨n,hnn⟩:∃n,vs.length=n:=⟨_,rfl⟩;have hn16:n<=16:=by have:=hN.1;omega
 rw[hl]at hr ⊢;rw[hnn]at K hr hv hl ⊢;have K:=hide K;have HR:=hide hr;have HV:=hide hv;have HN:=hide hN;have HNN:=hide hnn;have HL:=hide hl;have HLEN:Hid (∀k,k<=n->(lefts zs vs k).length<=k*(10*L+4102)):=(fun k hk=>ajc hlt hN k (by omega) (by omega));have HLT:=hide hlt;obtain⟨z9,hz9⟩:∃z,zs[n]? = some z:=⟨_,List.getElem?_eq_getElem (by omega)⟩;obtain⟨b,off,ng9,a9,m9,c9,rfl,hbl,_,_,_⟩:=hr.cell hz9;have HZ9:=hide hz9;have HP:Hid (prn zs vs=⟨(if lefts zs vs n = []then [48]else lefts zs vs n).toArray⟩++⟨#[32,61,32]⟩++txt z9):=(show _=_ by unfold prn;rw[hnn,List.getD_eq_getElem?_getD,hz9];rfl);have hwn:IntKind.i64.wrap ((n:Int)+1)=(n:Int)+1:=by rw[IntKind.wrap_i64];omega
 have hne:(((n+1:Nat):Int) != (n:Int)+1)=false:=by simp
 clear hT hr hv hN hnn hl hlt hz9;go_enter Tryz.func26,Tryz.ntmps26
 go_wp2_with fail
 refine K.out.mono ?_;rintro e w1 ⟨rfl,hb1⟩;have HB1:=hide hb1;clear hb1 K;go_wp2_with fail
 go_loopw [6,7,8,22] (fun lv _ _ iv wr=>∃k:Nat,iv=.int .i64 k/\k<=n/\lv=.string ⟨(lefts zs vs k).toArray⟩/\Below w.heap.size w wr) (fun _ _ _ iv _=>n-(intOf iv).toNat)
 case atStart=>exact⟨0,rfl,Nat.zero_le _,rfl,HB1.out⟩
 case round=>
  obtain⟨k,rfl,hk,rfl,hbw⟩:=hrel;have HW:=hide hbw;have hll:=HLEN.out k hk;obtain⟨sl,hsl⟩:∃sl,(⟨(lefts zs vs k).toArray⟩:ByteArray)=sl:=⟨_,rfl⟩;have hss:sl.size=(lefts zs vs k).length:=by rw[<-hsl,amr]
  have hsb:sl.size<=16*(10*L+4102):=by rw[hss];exact Nat.le_trans hll (Nat.mul_le_mul_right _ (by omega))
  rw[hsl];by_cases hlt:k<n
  ·have hlt':(k:Int)<(n:Int):=by omega
   obtain⟨z,hz⟩:∃z,zs[k]? = some z:=⟨_,List.getElem?_eq_getElem (by have:=HL.out;omega)⟩;obtain⟨x,hx⟩:∃x,vs[k]? = some x:=⟨_,List.getElem?_eq_getElem (by have:=HNN.out;omega)⟩;obtain⟨b',off',ng,a,m,c,hao,_,x0,x1,hxw⟩:=(HR.out.below hbw).cell hz;obtain⟨rfl,rfl⟩:b=b'/\off=off':=by simpa using hao
   obtain⟨bv,ov,rfl,hbvl,v0⟩:=(HV.out.below hbw).cell hx;have hxs:=ajb (HN.out.2 k x hx).1;have hkn:(k:Int)<((n+1:Nat):Int):=by omega
   obtain⟨f,hf⟩:∃f,decide (lefts zs vs k = [])=f:=⟨_,rfl⟩;have hef:(sl.toList == [])=f:=by
    rw[<-hf,<-hsl];by_cases h0:lefts zs vs k = []
    ·rw[h0,ByteArray.toList_eq];rfl
    ·rw[decide_eq_false h0,beq_eq_false_iff_ne];intro e;rw[ByteArray.toList_eq]at e;exact h0 (by simpa using e)
   have K:=hide (ath wr z L _ x f hxw hL (by omega));have hstep:lefts zs vs (k+1)=lefts zs vs k++tterm z f x.data.toList:=by rw[lefts,List.getD_eq_getElem?_getD,List.getD_eq_getElem?_getD,hz,hx,hf];rfl
   have htl:=aja (HLT.out z (List.mem_of_getElem? hz)) f x.data.toList;have hxl:x.data.toList.length=x.size:=by rw[Array.length_toList];rfl
   generalize tterm z f x.data.toList=tt at K hstep htl;have hadd:∀W,(Op.stringOp .add sl ⟨tt.toArray⟩).run Tryz.prog W=.ok (.string ⟨(lefts zs vs (k+1)).toArray⟩) W:=fun W=>by
    rw[run_string_add_sum (P:=Tryz.prog) W sl ⟨tt.toArray⟩ (by rw[amr tt];omega),<-hsl,awu,hstep]
   clear hbw hxw hao hz hx hf hsl hstep htl hxl hll hss hxs;generalize (⟨tt.toArray⟩:ByteArray)=tb at K hadd;go_wp2_with fail
   refine K.out.mono ?_;rintro e w2 ⟨rfl,hb2⟩;have HB2:=hide (HW.out.trans (hb2.mono HW.out.size));clear hb2 K;go_wp2;go_roundw
   case rel=>exact⟨k+1,by go_num,by omega,rfl,HB2.out⟩
   case measure=>simp[intOf];omega
  ·have hlt':decide ((k:Int)<(n:Int))=false:=by simp;omega
   obtain rfl:k=n:=by omega
   obtain⟨b',off',ng,a,m,c,hao,_,x0,x1,hxw⟩:=(HR.out.below hbw).cell HZ9.out;obtain⟨rfl,rfl⟩:b=b'/\off=off':=by simpa using hao
   have hts:=ahh (HLT.out z9 (List.mem_of_getElem? HZ9.out));have K:=hide (wtextF wr z9 _ L hxw (by omega));have hkn:(k:Int)<((k+1:Nat):Int):=by omega
   generalize txt z9=t9 at K HP hts;by_cases h0:lefts zs vs k = []
   ·have HP':=HP.out;rw[if_pos h0]at HP';have HP':=hide HP';obtain rfl:sl=⟨#[]⟩:=by rw[<-hsl,h0]
    have ha1:∀W,(Op.stringOp .add ⟨#[48]⟩ ⟨#[32,61,32]⟩).run Tryz.prog W=.ok (.string ⟨#[48,32,61,32]⟩) W:=fun W=>run_string_add_sum (P:=Tryz.prog) W _ _ (by decide)
    have ha2:∀W,(Op.stringOp .add ⟨#[48,32,61,32]⟩ t9).run Tryz.prog W=.ok (.string (⟨#[48,32,61,32]⟩++t9)) W:=fun W=>run_string_add_sum (P:=Tryz.prog) W _ _ (by show 4+_<=_;omega)
    clear hbw hxw hao h0 hsl hll hss hsb hts;go_wp2_with fail
    refine K.out.mono ?_;rintro e w2 ⟨rfl,hb2⟩;have HB2:=hide (HW.out.trans (hb2.mono HW.out.size));clear hb2 K;go_wp2;refine bodyPost_ret (v:=_) (by simp[results,Tryz.results26,go_sem];try rfl) rfl ⟨by rw[HP'.out];rfl,HB2.out⟩
   ·have HP':=HP.out;rw[if_neg h0,hsl]at HP';have HP':=hide HP';have hef:(sl.toList == [])=false:=by
     rw[<-hsl,beq_eq_false_iff_ne];intro e;rw[ByteArray.toList_eq]at e;exact h0 (by simpa using e)
    have hsz3:(sl++⟨#[32,61,32]⟩:ByteArray).size=sl.size+3:=by rw[ByteArray.size_append];rfl
    have ha1:∀W,(Op.stringOp .add sl ⟨#[32,61,32]⟩).run Tryz.prog W=.ok (.string (sl++⟨#[32,61,32]⟩)) W:=fun W=>run_string_add_sum (P:=Tryz.prog) W _ _ (by show _+3<=_;omega)
    have ha2:∀W,(Op.stringOp .add (sl++⟨#[32,61,32]⟩) t9).run Tryz.prog W=.ok (.string (sl++⟨#[32,61,32]⟩++t9)) W:=fun W=>run_string_add_sum (P:=Tryz.prog) W _ _ (by omega)
    generalize (sl++⟨#[32,61,32]⟩:ByteArray)=s3 at ha1 ha2 HP';generalize s3++t9=s4 at ha2 HP';clear hbw hxw hao h0 hsl hll hss hsb hts hsz3;go_wp2_with fail
    refine K.out.mono ?_;rintro e w2 ⟨rfl,hb2⟩;have HB2:=hide (HW.out.trans (hb2.mono HW.out.size));clear hb2 K;go_wp2;refine bodyPost_ret (v:=_) (by simp[results,Tryz.results26,go_sem];try rfl) rfl ⟨by rw[HP'.out],HB2.out⟩
theorem awv:IsDec [50] 2:=⟨by intro z hz;simp at hz;omega,by kernel_rfl,.inr ⟨50,[],rfl,by decide⟩⟩
theorem aww:IsDec [51] 3:=⟨by intro z hz;simp at hz;omega,by kernel_rfl,.inr ⟨51,[],rfl,by decide⟩⟩
theorem axj:txt 2=⟨#[50]⟩:=by
 rw[txt,if_neg (by decide),show((2:Int).natAbs:Int)=2 from rfl,<-af4 awv];rfl
theorem awx:txt (-3)=⟨#[45,51]⟩:=by
 rw[txt,if_pos (by decide),show((-3:Int).natAbs:Int)=3 from rfl,<-af4 aww];rfl
theorem aq8:prn [1,-2,-3] [⟨#[120]⟩,⟨#[121]⟩]=⟨#[120,32,45,32,50,42,121,32,61,32,45,51]⟩:=by
 have h1:lefts [1,-2,-3] [⟨#[120]⟩,⟨#[121]⟩] 1 = [120]:=rfl;have h2:lefts [1,-2,-3] [⟨#[120]⟩,⟨#[121]⟩] 2 = [120,32,45,32,50,42,121]:=by
  rw[lefts,h1,show tterm ([1,-2,-3].getD 1 0) (decide (([120]:List UInt8) = [])) (([⟨#[120]⟩,⟨#[121]⟩]:List ByteArray).getD 1 ⟨#[]⟩).data.toList = [32,45,32]++(((txt 2).data.toList ++ [42]) ++ [121])from rfl,axj];rfl
 rw[prn,show([⟨#[120]⟩,⟨#[121]⟩]:List ByteArray).length=2 from rfl,h2,show([1,-2,-3]:List Int).getD 2 0 = -3 from rfl,awx];rfl
theorem al4(w:World)(hT:Tabs w)(rv vv:Value)(L:Nat)(hr:IsRow w rv [1,-2,-3] L)(hL:L<=100000)(hv:Strs w vv [⟨#[120]⟩,⟨#[121]⟩])(hN:NmsOk [⟨#[120]⟩,⟨#[121]⟩]):
  Calls Tryz.prog 26 #[rv,vv] w fun e w'=>e=.returned (.tuple #[.string ⟨#[120,32,45,32,50,42,121,32,61,32,45,51]⟩,.int .i64 0])/\Below w.heap.size w w':=by
 refine(aq7 w hT rv vv _ _ L hr hL hv hN rfl).mono ?_;rintro e w' ⟨rfl,hb⟩;exact⟨by rw[aq8],hb⟩
end Lm
namespace Lm
open Go Go.RowKit
open Dm (WFr)
def CanRow(w:World)(v:Value)(zs:List Int)(L:Nat):Prop:=∃es:List WE,Rw w v es/\es.length=zs.length/\∀(k:Nat) (e:WE) (z:Int),es[k]? = some e->zs[k]? = some z->Canon e.zs/\val e.zs=(z.natAbs:Int)/\e.ng=decide (z<0)/\e.zs.length<=L
theorem CanRow.below{w w':World}{v:Value}{zs:List Int}{L:Nat}(h:CanRow w v zs L)(hb:Below w.heap.size w w'):CanRow w' v zs L:=by
 obtain⟨es,h1,h2,h3⟩:=h;exact⟨es,h1.below hb,h2,h3⟩
theorem CanRow.is{w:World}{v:Value}{zs:List Int}{L:Nat}(h:CanRow w v zs L):IsRow w v zs L:=by
 obtain⟨es,h1,h2,h3⟩:=h;refine⟨es,h1,?_,?_⟩
 ·apply List.ext_getElem?;intro k;rw[List.getElem?_map];cases hk:es[k]? with
  |none=>
   rw[List.getElem?_eq_none_iff]at hk;rw[Option.map_none,eq_comm,List.getElem?_eq_none_iff];omega
  |some e=>
   have hkl:=(List.getElem?_eq_some_iff.1 hk).1;obtain⟨z,hz⟩:∃z,zs[k]? = some z:=⟨_,List.getElem?_eq_getElem (by omega)⟩;obtain⟨c1,c2,c3,_⟩:=h3 k e z hk hz;rw[hz,Option.map_some];congr 1;unfold WE.z sg;rw[c2,c3];by_cases hn:z<0
   ·rw[if_pos (decide_eq_true hn)];omega
   ·rw[if_neg (by simpa using hn)];omega
 ·intro e he;obtain⟨k,hk⟩:=List.mem_iff_getElem?.1 he;have hkl:=(List.getElem?_eq_some_iff.1 hk).1;obtain⟨z,hz⟩:∃z,zs[k]? = some z:=⟨_,List.getElem?_eq_getElem (by omega)⟩;exact(h3 k e z hk hz).2.2.2
theorem ORow.can{K:Nat}{w:World}{v:Value}{zs:List Int}{L:Nat}(h:ORow K w v zs L):CanRow w v zs L:=by
 obtain⟨bv,rfl,_,h,hl⟩:=h;obtain⟨es,B,T,e1,e2,e3,e4,e5⟩:=h;refine⟨es,⟨⟨_,_,by rw[e1],by omega,by omega,aem es,.inr ⟨bv,0,rfl,aaa e2,fun j u hu=>?_⟩⟩,?_⟩,e1,?_⟩
 ·rw[Nat.zero_add,cell_of_row _ _ _ _ _ (0,0) e2,List.getElem?_toArray];exact hu
 ·intro e he;obtain⟨k,hk⟩:=List.mem_iff_getElem?.1 he;have hkl:=(List.getElem?_eq_some_iff.1 hk).1;obtain⟨z,hz⟩:∃z,zs[k]? = some z:=⟨_,List.getElem?_eq_getElem (by omega)⟩;obtain⟨g1,g2,_⟩:=e4 k e z (by omega) hk hz;have:=g1.wh.sl;rwa[<-g2]at this
 ·intro k e z hk hz;have hkl:=(List.getElem?_eq_some_iff.1 hk).1;obtain⟨g1,g2,g3,_⟩:=e4 k e z (by omega) hk hz;exact⟨g1.fr.canon,g1.fr.val,g1.sgn,g3⟩
theorem al5(w:World)(v v':Value)(zs:List Int)(L M:Nat)(h:CanRow w v zs L)(h':CanRow w v' zs M):
  Calls Tryz.prog 22 #[v,v'] w fun e w'=>e=.returned (.bool true)/\Below w.heap.size w w':=by
 obtain⟨es,h1,h2,h3⟩:=h;obtain⟨fs,g1,g2,g3⟩:=h';obtain⟨a,c,rfl,_⟩:=id h1.cl;obtain⟨a',c',rfl,_⟩:=id g1.cl;refine aqe w a _ c es h1 a' _ c' fs g1 ?_;unfold SameR;apply List.ext_getElem?;intro k;rw[List.getElem?_map,List.getElem?_map];cases hk:es[k]? with
 |none=>
  rw[List.getElem?_eq_none_iff]at hk;rw[(List.getElem?_eq_none_iff (l:=fs)).2 (by omega)]
 |some e=>
  have hkl:=(List.getElem?_eq_some_iff.1 hk).1;obtain⟨z,hz⟩:∃z,zs[k]? = some z:=⟨_,List.getElem?_eq_getElem (by omega)⟩;obtain⟨f,hf⟩:∃f,fs[k]? = some f:=⟨_,List.getElem?_eq_getElem (by omega)⟩;obtain⟨c1,c2,c3,_⟩:=h3 k e z hk hz;obtain⟨d1,d2,d3,_⟩:=g3 k f z hf hz;rw[hf,Option.map_some,Option.map_some,WE.raw,WE.raw,c3,d3,ad9 c1 d1 (c2.trans d2.symm)]
theorem al6{ops:Array Oper}{rest:List Oper}{o:Oper}{a:Act}{w:World}{Q:Exit->Act->World->Prop}{R:Value->World->Prop}(hg:o.guard=none)(h:Does Tryz.prog o a.eval w R)(hK:∀v w',R v w'->wpList Tryz.prog ops Q rest (a.put o.dst v) w'):wpList Tryz.prog ops Q (o::rest) a w:=by
 refine wpList_plain hg fun K hK'=>?_
 exact Does.wp h (fun v w' hr=>hK' _ _ (hK v w' hr))
theorem al7(w:World)(v:Int)(h1 : -9223372036854775808<=v)(h2:v<=9223372036854775807)(h0:v<0):
  Calls Tryz.prog 72 #[.int .i64 v] w fun e w'=>∃r,e=.returned r/\FrW w.heap.size v 2 r w'/\Below w.heap.size w w':=by
 obtain⟨i0,hi,hz0,hz1,hz2⟩:=info_parts abw;have hf0:=heap_alloc_new w (.cells #[.bool false,.slice none 0 0] 60);have hb0:=hAl w (.cells #[.bool false,.slice none 0 0] 60);generalize hE:w.alloc (.cells #[.bool false,.slice none 0 0] 60)=w0 at *
 have E0:=hide hE;have HF0:=hide hf0;have HB0:=hide hb0;clear hE hf0 hb0;have hw:IntKind.u64.wrap (-IntKind.u64.wrap v) = -v:=by rw[IntKind.wrap_u64,IntKind.wrap_u64];omega
 go_enter Tryz.func72,Tryz.ntmps72
 go_wp2;rw[E0.out];clear hw;go_loopw [3,4] (fun uv mv wr=>∃(u:Int) (ls:List Int),uv=.int .u64 u/\0<=u/\u<18446744073709551616/\Limb ls/\val ls+pw ls.length*u = -v/\(u=0->tl ls=ls.length)/\wr.ownsRow w0.heap.size 70 1 mv ls.length (ls.map (Value.int .u32))/\Below w0.heap.size w0 wr) (fun uv _ _=>(intOf uv).toNat)
 case atStart=>exact⟨-v,[],rfl,by omega,by omega,aag,by simp[val,pw],fun _=>rfl,World.ownsRow_nil _ _ _ _,Below.refl _ _⟩
 case round=>
  obtain⟨u,ls,rfl,hu0,hu1,hls,hv,htop,hown,hbel⟩:=hrel;have HL:=hide hls;have HV:=hide hv;have HT:=hide htop;clear hls hv htop;by_cases hu:0<u
  ·have hroom:=apm HL.out hu (by rw[HV.out];omega);have HV':=hide (apl HV.out);have HT':Hid (u/4294967296=0->tl (ls ++ [u%4294967296])=(ls ++ [u%4294967296]).length):=fun h=>ato hu h
   go_wp2_with (at_builtin;refine wpList_append_own _ rfl (.tmp 13) (.tmp 16) 38 rfl w0.heap.size 70 i0 (.int .u32 0) 1 4 Tryz.underlying38 hi hz0 hz1 hz2 rfl (by decide) _ _ _ rfl (hown.alloc _) ⟨wr.heap.size,0,none⟩ 1 1 [.int .u32 (u%4294967296)] rfl rfl (cell_one_new _ _ _) ?c2 ?c3 ?c4 ?c5 ?_)
   case c2=>first|rfl|(intro x hx;simp at hx;subst hx;rfl)
   case c3=>unfold maxLen;omega
   case c4=>omega
   case c5=>have:=hbel.size;first|omega|(simp;omega)
   intro v4 w4 hown4 hgrow4 _;have R:=aj2 hown4 hgrow4 hbel hbel.size hown.lt;clear hown4 hgrow4 hown;go_wp2;go_roundw
   case rel=>exact⟨u/4294967296,ls ++ [u%4294967296],rfl,by omega,by omega,aan.2 ⟨HL.out,aai.2 ⟨by omega,aag⟩⟩,HV'.out,HT'.out,by simpa using R.1,R.2⟩
   case measure=>simp[intOf];omega
  ·have hu':u=0:=by omega
   subst hu';have hval:val ls = -v:=by have:=HV.out;rwa[Int.mul_zero,Int.add_zero]at this
   have hcan:Canon ls:=⟨HL.out,HT.out rfl⟩;have hlen:ls.length<=2:=aaz hcan (m:=2) (by rw[hval,show pw 2=18446744073709551616 from by decide];omega);have how:=aeb hown HL.out;obtain⟨ao,cap,hmv,_⟩:=id how;subst hmv;have hfr:FrW w0.heap.size v 2 (.agg #[.bool true,.slice ao ls.length cap]) wr:=by
    refine⟨_,_,_,_,w0.heap.size,wr.heap.size,rfl,⟨⟨how,hcan,by rw[hval];omega,fun hc g off hg=>?_⟩,by simp;omega⟩,Nat.le_refl _,Nat.le_refl _,hlen⟩;subst hg;obtain⟨ao',cap',e1,_,_,_,e4⟩:=how;simp only[Value.slice.injEq]at e1;obtain⟨rfl,_,rfl⟩:=e1;rcases e4 with e4|⟨g',off',cur,e5,hB',hh,_⟩
    ·omega
    ·simp only[Option.some.injEq,Addr.mk.injEq]at e5;obtain⟨rfl,_,_⟩:=e5;exact⟨hB',aaa hh⟩
   have HFR:=hide (hfr.low HB0.out.size);have HFx:=hide ((hbel.block _ (aaa HF0.out)).trans HF0.out);have HBx:=hide (HB0.out.trans (hbel.mono HB0.out.size));obtain⟨hfl,c0,c1,fr0,fr1⟩:=aah HFx.out;have hd:decide (v<0)=true:=by simp;omega
   clear hval hown how hfr hbel hcan;go_wp2;exact bodyPost_ret (v:=.agg #[.bool true,.slice ao ls.length cap]) (acj (g:=w.heap.size) rfl rfl (lvw2 (ab1 HFx.out _ _))) rfl ⟨_,rfl,HFR.out.ru (acb HFx.out _ _),(HBx.out.setCell (Nat.le_refl _) _).setCell (Nat.le_refl _) _⟩
theorem al8(w:World)(v:Int)(h1 : -9223372036854775808<=v)(h2:v<=9223372036854775807)(h0:¬v<0):
  Calls Tryz.prog 72 #[.int .i64 v] w fun e w'=>∃r,e=.returned r/\FrW w.heap.size v 2 r w'/\Below w.heap.size w w':=by
 obtain⟨i0,hi,hz0,hz1,hz2⟩:=info_parts abw;have hf0:=heap_alloc_new w (.cells #[.bool false,.slice none 0 0] 60);have hb0:=hAl w (.cells #[.bool false,.slice none 0 0] 60);generalize hE:w.alloc (.cells #[.bool false,.slice none 0 0] 60)=w0 at *
 have E0:=hide hE;have HF0:=hide hf0;have HB0:=hide hb0;clear hE hf0 hb0;have hw:True:=trivial;go_enter Tryz.func72,Tryz.ntmps72
 go_wp2;rw[E0.out];clear hw;go_loopw [3,4] (fun uv mv wr=>∃(u:Int) (ls:List Int),uv=.int .u64 u/\0<=u/\u<18446744073709551616/\Limb ls/\val ls+pw ls.length*u=v/\(u=0->tl ls=ls.length)/\wr.ownsRow w0.heap.size 70 1 mv ls.length (ls.map (Value.int .u32))/\Below w0.heap.size w0 wr) (fun uv _ _=>(intOf uv).toNat)
 case atStart=>exact⟨v,[],rfl,by omega,by omega,aag,by simp[val,pw],fun _=>rfl,World.ownsRow_nil _ _ _ _,Below.refl _ _⟩
 case round=>
  obtain⟨u,ls,rfl,hu0,hu1,hls,hv,htop,hown,hbel⟩:=hrel;have HL:=hide hls;have HV:=hide hv;have HT:=hide htop;clear hls hv htop;by_cases hu:0<u
  ·have hroom:=apm HL.out hu (by rw[HV.out];omega);have HV':=hide (apl HV.out);have HT':Hid (u/4294967296=0->tl (ls ++ [u%4294967296])=(ls ++ [u%4294967296]).length):=fun h=>ato hu h
   go_wp2_with (at_builtin;refine wpList_append_own _ rfl (.tmp 13) (.tmp 16) 38 rfl w0.heap.size 70 i0 (.int .u32 0) 1 4 Tryz.underlying38 hi hz0 hz1 hz2 rfl (by decide) _ _ _ rfl (hown.alloc _) ⟨wr.heap.size,0,none⟩ 1 1 [.int .u32 (u%4294967296)] rfl rfl (cell_one_new _ _ _) ?c2 ?c3 ?c4 ?c5 ?_)
   case c2=>first|rfl|(intro x hx;simp at hx;subst hx;rfl)
   case c3=>unfold maxLen;omega
   case c4=>omega
   case c5=>have:=hbel.size;first|omega|(simp;omega)
   intro v4 w4 hown4 hgrow4 _;have R:=aj2 hown4 hgrow4 hbel hbel.size hown.lt;clear hown4 hgrow4 hown;go_wp2;go_roundw
   case rel=>exact⟨u/4294967296,ls ++ [u%4294967296],rfl,by omega,by omega,aan.2 ⟨HL.out,aai.2 ⟨by omega,aag⟩⟩,HV'.out,HT'.out,by simpa using R.1,R.2⟩
   case measure=>simp[intOf];omega
  ·have hu':u=0:=by omega
   subst hu';have hval:val ls=v:=by have:=HV.out;rwa[Int.mul_zero,Int.add_zero]at this
   have hcan:Canon ls:=⟨HL.out,HT.out rfl⟩;have hlen:ls.length<=2:=aaz hcan (m:=2) (by rw[hval,show pw 2=18446744073709551616 from by decide];omega);have how:=aeb hown HL.out;obtain⟨ao,cap,hmv,_⟩:=id how;subst hmv;have hfr:FrW w0.heap.size v 2 (.agg #[.bool false,.slice ao ls.length cap]) wr:=by
    refine⟨_,_,_,_,w0.heap.size,wr.heap.size,rfl,⟨⟨how,hcan,by rw[hval];omega,fun hc g off hg=>?_⟩,by simp;omega⟩,Nat.le_refl _,Nat.le_refl _,hlen⟩;subst hg;obtain⟨ao',cap',e1,_,_,_,e4⟩:=how;simp only[Value.slice.injEq]at e1;obtain⟨rfl,_,rfl⟩:=e1;rcases e4 with e4|⟨g',off',cur,e5,hB',hh,_⟩
    ·omega
    ·simp only[Option.some.injEq,Addr.mk.injEq]at e5;obtain⟨rfl,_,_⟩:=e5;exact⟨hB',aaa hh⟩
   have HFR:=hide (hfr.low HB0.out.size);have HFx:=hide ((hbel.block _ (aaa HF0.out)).trans HF0.out);have HBx:=hide (HB0.out.trans (hbel.mono HB0.out.size));obtain⟨hfl,c0,c1,fr0,fr1⟩:=aah HFx.out;have hd:decide (v<0)=false:=by simp;omega
   clear hval hown how hfr hbel hcan;go_wp2;exact bodyPost_ret (v:=.agg #[.bool false,.slice ao ls.length cap]) (acj (g:=w.heap.size) rfl rfl (lvw2 (ab1 HFx.out _ _))) rfl ⟨_,rfl,HFR.out.ru (acb HFx.out _ _),(HBx.out.setCell (Nat.le_refl _) _).setCell (Nat.le_refl _) _⟩
theorem atj(w:World)(v:Int)(h1 : -9223372036854775808<=v)(h2:v<=9223372036854775807):
  Calls Tryz.prog 72 #[.int .i64 v] w fun e w'=>∃r,e=.returned r/\FrW w.heap.size v 2 r w'/\Below w.heap.size w w':=by
 by_cases h0:v<0
 ·exact al7 w v h1 h2 h0
 ·exact al8 w v h1 h2 h0
theorem ams(w:World)(v:Value)(zs:List Int)(h:Nums w v zs)(hz:∀z∈zs,-9223372036854775808<=z/\z<=9223372036854775807)(hl:zs.length<=1000):
  Calls Tryz.prog 36 #[v] w fun e w'=>∃r,e=.returned r/\CanRow w' r zs 2/\Below w.heap.size w w':=by
 obtain⟨ao,cap,rfl,_⟩:=id h;have H:=hide h;have HZ:=hide hz;clear h hz;obtain⟨n,hn⟩:∃n,zs.length=n:=⟨_,rfl⟩;rw[hn]at H hl ⊢;have HN:=hide hn;clear hn;go_enter Tryz.func36,Tryz.ntmps36
 go_wp2_with fail
 go_loopw [3,4] (fun ov iv wr=>∃(k:Nat) (es:List WE),iv=.int .i64 k/\k<=n/\Below w.heap.size w wr/\es.length=k/\RwO w.heap.size wr ov es/\∀(j:Nat) (e:WE) (z:Int),es[j]? = some e->zs[j]? = some z->Canon e.zs/\val e.zs=(z.natAbs:Int)/\e.ng=decide (z<0)/\e.zs.length<=2) (fun _ iv _=>n-(intOf iv).toNat)
 case atStart=>exact⟨0,[],rfl,Nat.zero_le _,Below.refl _ _,rfl,aux _ _,fun j e z he=>(by simp at he)⟩
 case round=>
  obtain⟨k,es,rfl,hk,hbw,hes,hown,hall⟩:=hrel;have HW:=hide hbw;have HES:=hide hes;have HOWN:=hide hown;have HALL:=hide hall;by_cases hlt:k<n
  ·obtain⟨b,off,rfl,hc⟩:=(show Nums wr (.slice ao n cap) zs from Ce.below H.out hbw).cell (i:=k) (by have:=HN.out;omega);have hget:zs[k]? = some (zs[k]'(by have:=HN.out;omega)):=List.getElem?_eq_getElem _;generalize zs[k]'(by have:=HN.out;omega)=z at hc hget;have HG:=hide hget;have hzb:=HZ.out z (List.mem_of_getElem? hget);have hlt':(k:Int)<(n:Int):=by omega
   obtain⟨aov,capv,hov,_⟩:=Cl.own hown.own;subst hov;clear hbw hes hown hall hget;go_wp2_with fail
   refine(atj wr z hzb.1 hzb.2).mono ?_;rintro e w2 ⟨r2,rfl,hf2,hb2⟩;obtain⟨ng2,ao2,cap2,rs2,B2,T2,rfl,hwf,hB2,hT2,hl2⟩:=hf2;have hA:=hAl w2 (.cells #[.bool ng2,.slice ao2 rs2.length cap2] 60);have hb2':=hb2.trans (hA.mono hb2.size);have hR2:=HOWN.out.below hb2';have hO2:One _ w2.heap.size ng2 ao2 rs2.length cap2:=heap_alloc_new w2 (.cells #[.bool ng2,.slice ao2 rs2.length cap2] 60);have hS2:Ow w.heap.size _ (.slice ao2 rs2.length cap2) rs2:=(hwf.fr.ow.mono (Nat.le_trans HW.out.size hB2)).below hA;have hsz:w.heap.size<=(w2.alloc (.cells #[.bool ng2,.slice ao2 rs2.length cap2] 60)).heap.size:=Nat.le_trans HW.out.size hb2'.size;go_wp2_with (at_builtin;refine al6 rfl (auy (i:=11) (j:=17) rfl rfl hR2 hO2 hS2 (by rw[HES.out];omega) hsz) ?_)
   intro v3 w3 hR3 hb3;obtain⟨aov3,capv3,hov3,_⟩:=Cl.own hR3.own;subst hov3;have HR3:=hide hR3;have HB3:=hide ((HW.out.trans (hb2'.mono HW.out.size)).trans hb3);have HWF:=hide hwf;clear hR3 hb3 hR2 hO2 hS2 hsz hA hb2 hb2' hwf hB2 hT2;go_wp2;go_roundw
   case rel=>
    refine⟨k+1,es ++ [⟨ng2,ao2,rs2.length,cap2,rs2⟩],by go_num,by omega,HB3.out,by simp[HES.out],HR3.out,fun j e y he hy=>?_⟩;by_cases hj:j<es.length
    ·rw[List.getElem?_append_left hj]at he;exact HALL.out j e y he hy
    ·have hjl:=(List.getElem?_eq_some_iff.1 he).1;simp at hjl;obtain rfl:j=es.length:=by omega
     rw[List.getElem?_append_right (Nat.le_refl _)]at he;simp at he;subst he;rw[HES.out,HG.out]at hy;obtain rfl:=Option.some.inj hy;exact⟨HWF.out.fr.canon,HWF.out.fr.val,HWF.out.sgn,hl2⟩
   case measure=>simp[intOf];omega
  ·have hlt':decide ((k:Int)<(n:Int))=false:=by simp;omega
   have hkn:k=n:=by omega
   subst hkn;clear hbw hes hown hall;go_wp2;refine bodyPost_ret (v:=_) (aef rfl rfl) rfl ⟨_,rfl,⟨es,HOWN.out.rw,by rw[HES.out,HN.out],HALL.out⟩,HW.out⟩
end Lm
namespace Lm
open Go Go.RowKit
theorem aq9(c:Nat)(s:ByteArray)(gs:List Gl)(e:Pl)(l:List Tk)(_hc:c<128)(hs:s.size<=4096)(hQ:Snd s pl0 gs e)(hR:ScanR s e gs (.ok l))(hn:nmS s (.ok l)=true):isNm s=true:=by
 rw[<-amp hs hQ hR];exact hn
theorem awy:isNm ⟨#[120]⟩=true:=by
 refine aq9 120 ⟨#[120]⟩ [⟨120,⟨0,0,1,1⟩⟩] ⟨1,1,1,2⟩ [⟨1,⟨#[120]⟩,⟨0,0,1,1⟩⟩,⟨0,⟨#[]⟩,⟨1,1,1,2⟩⟩] (by decide) (by decide) ?_ ?_ (by kernel_rfl)
 ·refine abi (k:=1) (by decide) (by kernel_rfl) (by decide) ?_;exact .stop ⟨1,1,1,2⟩ (.inl (by decide))
 ·refine ScanR.tok _ ⟨120,⟨0,0,1,1⟩⟩ [] 1 ⟨#[120]⟩ [] (.ok [⟨0,⟨#[]⟩,⟨1,1,1,2⟩⟩]) (by kernel_rfl) (afd (by kernel_rfl) (by kernel_rfl) (by decide) (by kernel_rfl)) ?_;exact ScanR.done _ (by kernel_rfl) (by decide)
theorem awz:isNm ⟨#[121]⟩=true:=by
 refine aq9 121 ⟨#[121]⟩ [⟨121,⟨0,0,1,1⟩⟩] ⟨1,1,1,2⟩ [⟨1,⟨#[121]⟩,⟨0,0,1,1⟩⟩,⟨0,⟨#[]⟩,⟨1,1,1,2⟩⟩] (by decide) (by decide) ?_ ?_ (by kernel_rfl)
 ·refine abi (k:=1) (by decide) (by kernel_rfl) (by decide) ?_;exact .stop ⟨1,1,1,2⟩ (.inl (by decide))
 ·refine ScanR.tok _ ⟨121,⟨0,0,1,1⟩⟩ [] 1 ⟨#[121]⟩ [] (.ok [⟨0,⟨#[]⟩,⟨1,1,1,2⟩⟩]) (by kernel_rfl) (afd (by kernel_rfl) (by kernel_rfl) (by decide) (by kernel_rfl)) ?_;exact ScanR.done _ (by kernel_rfl) (by decide)
theorem aky:NmsOk [⟨#[120]⟩,⟨#[121]⟩]:=by
 refine⟨by decide,fun i x hx=>?_⟩
 match i with
 |0=>simp at hx;subst hx;exact⟨awy,by simp⟩
 |1=>simp at hx;subst hx;exact⟨awz,by simp⟩
 |i+2=>simp at hx
def eqs:ByteArray:=⟨#[50,120,32,61,32,52,121,32,45,32,54]⟩
def eqt:List Tk:=[⟨2,⟨#[50]⟩,⟨0,0,1,1⟩⟩,⟨1,⟨#[120]⟩,⟨1,1,1,2⟩⟩,⟨3,⟨#[61]⟩,⟨3,3,1,4⟩⟩,⟨2,⟨#[52]⟩,⟨5,5,1,6⟩⟩,⟨1,⟨#[121]⟩,⟨6,6,1,7⟩⟩,⟨3,⟨#[45]⟩,⟨8,8,1,9⟩⟩,⟨2,⟨#[54]⟩,⟨10,10,1,11⟩⟩,⟨0,⟨#[]⟩,⟨11,11,1,12⟩⟩]
theorem avf:Snd eqs pl0 [⟨50,⟨0,0,1,1⟩⟩,⟨120,⟨1,1,1,2⟩⟩,⟨32,⟨2,2,1,3⟩⟩,⟨61,⟨3,3,1,4⟩⟩,⟨32,⟨4,4,1,5⟩⟩,⟨52,⟨5,5,1,6⟩⟩,⟨121,⟨6,6,1,7⟩⟩,⟨32,⟨7,7,1,8⟩⟩,⟨45,⟨8,8,1,9⟩⟩,⟨32,⟨9,9,1,10⟩⟩,⟨54,⟨10,10,1,11⟩⟩] ⟨11,11,1,12⟩:=by
 refine abi (p:=⟨0,0,1,1⟩) (k:=1) (by decide) (by kernel_rfl) (by decide) ?_;refine abi (p:=⟨1,1,1,2⟩) (k:=1) (by decide) (by kernel_rfl) (by decide) ?_;refine abi (p:=⟨2,2,1,3⟩) (k:=1) (by decide) (by kernel_rfl) (by decide) ?_;refine abi (p:=⟨3,3,1,4⟩) (k:=1) (by decide) (by kernel_rfl) (by decide) ?_;refine abi (p:=⟨4,4,1,5⟩) (k:=1) (by decide) (by kernel_rfl) (by decide) ?_;refine abi (p:=⟨5,5,1,6⟩) (k:=1) (by decide) (by kernel_rfl) (by decide) ?_;refine abi (p:=⟨6,6,1,7⟩) (k:=1) (by decide) (by kernel_rfl) (by decide) ?_;refine abi (p:=⟨7,7,1,8⟩) (k:=1) (by decide) (by kernel_rfl) (by decide) ?_;refine abi (p:=⟨8,8,1,9⟩) (k:=1) (by decide) (by kernel_rfl) (by decide) ?_;refine abi (p:=⟨9,9,1,10⟩) (k:=1) (by decide) (by kernel_rfl) (by decide) ?_;refine abi (p:=⟨10,10,1,11⟩) (k:=1) (by decide) (by kernel_rfl) (by decide) ?_;exact .stop ⟨11,11,1,12⟩ (.inl (by decide))
theorem atk:ScanR eqs ⟨11,11,1,12⟩ [⟨50,⟨0,0,1,1⟩⟩,⟨120,⟨1,1,1,2⟩⟩,⟨32,⟨2,2,1,3⟩⟩,⟨61,⟨3,3,1,4⟩⟩,⟨32,⟨4,4,1,5⟩⟩,⟨52,⟨5,5,1,6⟩⟩,⟨121,⟨6,6,1,7⟩⟩,⟨32,⟨7,7,1,8⟩⟩,⟨45,⟨8,8,1,9⟩⟩,⟨32,⟨9,9,1,10⟩⟩,⟨54,⟨10,10,1,11⟩⟩] (.ok eqt):=by
 show ScanR eqs ⟨11,11,1,12⟩ [⟨50,⟨0,0,1,1⟩⟩,⟨120,⟨1,1,1,2⟩⟩,⟨32,⟨2,2,1,3⟩⟩,⟨61,⟨3,3,1,4⟩⟩,⟨32,⟨4,4,1,5⟩⟩,⟨52,⟨5,5,1,6⟩⟩,⟨121,⟨6,6,1,7⟩⟩,⟨32,⟨7,7,1,8⟩⟩,⟨45,⟨8,8,1,9⟩⟩,⟨32,⟨9,9,1,10⟩⟩,⟨54,⟨10,10,1,11⟩⟩] (.ok [⟨2,⟨#[50]⟩,⟨0,0,1,1⟩⟩,⟨1,⟨#[120]⟩,⟨1,1,1,2⟩⟩,⟨3,⟨#[61]⟩,⟨3,3,1,4⟩⟩,⟨2,⟨#[52]⟩,⟨5,5,1,6⟩⟩,⟨1,⟨#[121]⟩,⟨6,6,1,7⟩⟩,⟨3,⟨#[45]⟩,⟨8,8,1,9⟩⟩,⟨2,⟨#[54]⟩,⟨10,10,1,11⟩⟩,⟨0,⟨#[]⟩,⟨11,11,1,12⟩⟩]);have hn0:TokR eqs ⟨11,11,1,12⟩ ⟨50,⟨0,0,1,1⟩⟩ [⟨120,⟨1,1,1,2⟩⟩,⟨32,⟨2,2,1,3⟩⟩,⟨61,⟨3,3,1,4⟩⟩,⟨32,⟨4,4,1,5⟩⟩,⟨52,⟨5,5,1,6⟩⟩,⟨121,⟨6,6,1,7⟩⟩,⟨32,⟨7,7,1,8⟩⟩,⟨45,⟨8,8,1,9⟩⟩,⟨32,⟨9,9,1,10⟩⟩,⟨54,⟨10,10,1,11⟩⟩] (.ok 2 ⟨#[50]⟩ [⟨120,⟨1,1,1,2⟩⟩,⟨32,⟨2,2,1,3⟩⟩,⟨61,⟨3,3,1,4⟩⟩,⟨32,⟨4,4,1,5⟩⟩,⟨52,⟨5,5,1,6⟩⟩,⟨121,⟨6,6,1,7⟩⟩,⟨32,⟨7,7,1,8⟩⟩,⟨45,⟨8,8,1,9⟩⟩,⟨32,⟨9,9,1,10⟩⟩,⟨54,⟨10,10,1,11⟩⟩]):=by
  have hv:dval (bytesOf (eqs.extract 0 1))=2:=by kernel_rfl
  have h1:IsLen (dval (bytesOf (eqs.extract 0 1))) 1:=⟨[2],⟨by intro z hz;simp at hz;omega,by kernel_rfl⟩,by rw[hv];kernel_rfl,rfl⟩;have h2:IsDec [50] (dval (bytesOf (eqs.extract 0 1))):=⟨by intro z hz;simp at hz;omega,by rw[hv];kernel_rfl,.inr ⟨50,[],rfl,by decide⟩⟩;exact ad5 (s:=eqs) (e:=⟨11,11,1,12⟩) (g:=⟨50,⟨0,0,1,1⟩⟩) (r:=[⟨120,⟨1,1,1,2⟩⟩,⟨32,⟨2,2,1,3⟩⟩,⟨61,⟨3,3,1,4⟩⟩,⟨32,⟨4,4,1,5⟩⟩,⟨52,⟨5,5,1,6⟩⟩,⟨121,⟨6,6,1,7⟩⟩,⟨32,⟨7,7,1,8⟩⟩,⟨45,⟨8,8,1,9⟩⟩,⟨32,⟨9,9,1,10⟩⟩,⟨54,⟨10,10,1,11⟩⟩]) (n:=1) (ds:=[50]) (by kernel_rfl) h1 h2
 refine ScanR.tok _ ⟨50,⟨0,0,1,1⟩⟩ [⟨120,⟨1,1,1,2⟩⟩,⟨32,⟨2,2,1,3⟩⟩,⟨61,⟨3,3,1,4⟩⟩,⟨32,⟨4,4,1,5⟩⟩,⟨52,⟨5,5,1,6⟩⟩,⟨121,⟨6,6,1,7⟩⟩,⟨32,⟨7,7,1,8⟩⟩,⟨45,⟨8,8,1,9⟩⟩,⟨32,⟨9,9,1,10⟩⟩,⟨54,⟨10,10,1,11⟩⟩] 2 ⟨#[50]⟩ [⟨120,⟨1,1,1,2⟩⟩,⟨32,⟨2,2,1,3⟩⟩,⟨61,⟨3,3,1,4⟩⟩,⟨32,⟨4,4,1,5⟩⟩,⟨52,⟨5,5,1,6⟩⟩,⟨121,⟨6,6,1,7⟩⟩,⟨32,⟨7,7,1,8⟩⟩,⟨45,⟨8,8,1,9⟩⟩,⟨32,⟨9,9,1,10⟩⟩,⟨54,⟨10,10,1,11⟩⟩] (.ok [⟨1,⟨#[120]⟩,⟨1,1,1,2⟩⟩,⟨3,⟨#[61]⟩,⟨3,3,1,4⟩⟩,⟨2,⟨#[52]⟩,⟨5,5,1,6⟩⟩,⟨1,⟨#[121]⟩,⟨6,6,1,7⟩⟩,⟨3,⟨#[45]⟩,⟨8,8,1,9⟩⟩,⟨2,⟨#[54]⟩,⟨10,10,1,11⟩⟩,⟨0,⟨#[]⟩,⟨11,11,1,12⟩⟩]) (by kernel_rfl) hn0 ?_;refine ScanR.tok _ ⟨120,⟨1,1,1,2⟩⟩ [⟨32,⟨2,2,1,3⟩⟩,⟨61,⟨3,3,1,4⟩⟩,⟨32,⟨4,4,1,5⟩⟩,⟨52,⟨5,5,1,6⟩⟩,⟨121,⟨6,6,1,7⟩⟩,⟨32,⟨7,7,1,8⟩⟩,⟨45,⟨8,8,1,9⟩⟩,⟨32,⟨9,9,1,10⟩⟩,⟨54,⟨10,10,1,11⟩⟩] 1 ⟨#[120]⟩ [⟨32,⟨2,2,1,3⟩⟩,⟨61,⟨3,3,1,4⟩⟩,⟨32,⟨4,4,1,5⟩⟩,⟨52,⟨5,5,1,6⟩⟩,⟨121,⟨6,6,1,7⟩⟩,⟨32,⟨7,7,1,8⟩⟩,⟨45,⟨8,8,1,9⟩⟩,⟨32,⟨9,9,1,10⟩⟩,⟨54,⟨10,10,1,11⟩⟩] (.ok [⟨3,⟨#[61]⟩,⟨3,3,1,4⟩⟩,⟨2,⟨#[52]⟩,⟨5,5,1,6⟩⟩,⟨1,⟨#[121]⟩,⟨6,6,1,7⟩⟩,⟨3,⟨#[45]⟩,⟨8,8,1,9⟩⟩,⟨2,⟨#[54]⟩,⟨10,10,1,11⟩⟩,⟨0,⟨#[]⟩,⟨11,11,1,12⟩⟩]) (by kernel_rfl) (afd (by kernel_rfl) (by kernel_rfl) (by decide) (by kernel_rfl)) ?_;refine ScanR.tok _ ⟨61,⟨3,3,1,4⟩⟩ [⟨32,⟨4,4,1,5⟩⟩,⟨52,⟨5,5,1,6⟩⟩,⟨121,⟨6,6,1,7⟩⟩,⟨32,⟨7,7,1,8⟩⟩,⟨45,⟨8,8,1,9⟩⟩,⟨32,⟨9,9,1,10⟩⟩,⟨54,⟨10,10,1,11⟩⟩] 3 ⟨#[61]⟩ [⟨32,⟨4,4,1,5⟩⟩,⟨52,⟨5,5,1,6⟩⟩,⟨121,⟨6,6,1,7⟩⟩,⟨32,⟨7,7,1,8⟩⟩,⟨45,⟨8,8,1,9⟩⟩,⟨32,⟨9,9,1,10⟩⟩,⟨54,⟨10,10,1,11⟩⟩] (.ok [⟨2,⟨#[52]⟩,⟨5,5,1,6⟩⟩,⟨1,⟨#[121]⟩,⟨6,6,1,7⟩⟩,⟨3,⟨#[45]⟩,⟨8,8,1,9⟩⟩,⟨2,⟨#[54]⟩,⟨10,10,1,11⟩⟩,⟨0,⟨#[]⟩,⟨11,11,1,12⟩⟩]) (by kernel_rfl) (ab4 (by kernel_rfl)) ?_;have hn5:TokR eqs ⟨11,11,1,12⟩ ⟨52,⟨5,5,1,6⟩⟩ [⟨121,⟨6,6,1,7⟩⟩,⟨32,⟨7,7,1,8⟩⟩,⟨45,⟨8,8,1,9⟩⟩,⟨32,⟨9,9,1,10⟩⟩,⟨54,⟨10,10,1,11⟩⟩] (.ok 2 ⟨#[52]⟩ [⟨121,⟨6,6,1,7⟩⟩,⟨32,⟨7,7,1,8⟩⟩,⟨45,⟨8,8,1,9⟩⟩,⟨32,⟨9,9,1,10⟩⟩,⟨54,⟨10,10,1,11⟩⟩]):=by
  have hv:dval (bytesOf (eqs.extract 5 6))=4:=by kernel_rfl
  have h1:IsLen (dval (bytesOf (eqs.extract 5 6))) 1:=⟨[4],⟨by intro z hz;simp at hz;omega,by kernel_rfl⟩,by rw[hv];kernel_rfl,rfl⟩;have h2:IsDec [52] (dval (bytesOf (eqs.extract 5 6))):=⟨by intro z hz;simp at hz;omega,by rw[hv];kernel_rfl,.inr ⟨52,[],rfl,by decide⟩⟩;exact ad5 (s:=eqs) (e:=⟨11,11,1,12⟩) (g:=⟨52,⟨5,5,1,6⟩⟩) (r:=[⟨121,⟨6,6,1,7⟩⟩,⟨32,⟨7,7,1,8⟩⟩,⟨45,⟨8,8,1,9⟩⟩,⟨32,⟨9,9,1,10⟩⟩,⟨54,⟨10,10,1,11⟩⟩]) (n:=1) (ds:=[52]) (by kernel_rfl) h1 h2
 refine ScanR.tok _ ⟨52,⟨5,5,1,6⟩⟩ [⟨121,⟨6,6,1,7⟩⟩,⟨32,⟨7,7,1,8⟩⟩,⟨45,⟨8,8,1,9⟩⟩,⟨32,⟨9,9,1,10⟩⟩,⟨54,⟨10,10,1,11⟩⟩] 2 ⟨#[52]⟩ [⟨121,⟨6,6,1,7⟩⟩,⟨32,⟨7,7,1,8⟩⟩,⟨45,⟨8,8,1,9⟩⟩,⟨32,⟨9,9,1,10⟩⟩,⟨54,⟨10,10,1,11⟩⟩] (.ok [⟨1,⟨#[121]⟩,⟨6,6,1,7⟩⟩,⟨3,⟨#[45]⟩,⟨8,8,1,9⟩⟩,⟨2,⟨#[54]⟩,⟨10,10,1,11⟩⟩,⟨0,⟨#[]⟩,⟨11,11,1,12⟩⟩]) (by kernel_rfl) hn5 ?_;refine ScanR.tok _ ⟨121,⟨6,6,1,7⟩⟩ [⟨32,⟨7,7,1,8⟩⟩,⟨45,⟨8,8,1,9⟩⟩,⟨32,⟨9,9,1,10⟩⟩,⟨54,⟨10,10,1,11⟩⟩] 1 ⟨#[121]⟩ [⟨32,⟨7,7,1,8⟩⟩,⟨45,⟨8,8,1,9⟩⟩,⟨32,⟨9,9,1,10⟩⟩,⟨54,⟨10,10,1,11⟩⟩] (.ok [⟨3,⟨#[45]⟩,⟨8,8,1,9⟩⟩,⟨2,⟨#[54]⟩,⟨10,10,1,11⟩⟩,⟨0,⟨#[]⟩,⟨11,11,1,12⟩⟩]) (by kernel_rfl) (afd (by kernel_rfl) (by kernel_rfl) (by decide) (by kernel_rfl)) ?_;refine ScanR.tok _ ⟨45,⟨8,8,1,9⟩⟩ [⟨32,⟨9,9,1,10⟩⟩,⟨54,⟨10,10,1,11⟩⟩] 3 ⟨#[45]⟩ [⟨32,⟨9,9,1,10⟩⟩,⟨54,⟨10,10,1,11⟩⟩] (.ok [⟨2,⟨#[54]⟩,⟨10,10,1,11⟩⟩,⟨0,⟨#[]⟩,⟨11,11,1,12⟩⟩]) (by kernel_rfl) (ab4 (by kernel_rfl)) ?_;have hn10:TokR eqs ⟨11,11,1,12⟩ ⟨54,⟨10,10,1,11⟩⟩ [] (.ok 2 ⟨#[54]⟩ []):=by
  have hv:dval (bytesOf (eqs.extract 10 11))=6:=by kernel_rfl
  have h1:IsLen (dval (bytesOf (eqs.extract 10 11))) 1:=⟨[6],⟨by intro z hz;simp at hz;omega,by kernel_rfl⟩,by rw[hv];kernel_rfl,rfl⟩;have h2:IsDec [54] (dval (bytesOf (eqs.extract 10 11))):=⟨by intro z hz;simp at hz;omega,by rw[hv];kernel_rfl,.inr ⟨54,[],rfl,by decide⟩⟩;exact ad5 (s:=eqs) (e:=⟨11,11,1,12⟩) (g:=⟨54,⟨10,10,1,11⟩⟩) (r:=[]) (n:=1) (ds:=[54]) (by kernel_rfl) h1 h2
 refine ScanR.tok _ ⟨54,⟨10,10,1,11⟩⟩ [] 2 ⟨#[54]⟩ [] (.ok [⟨0,⟨#[]⟩,⟨11,11,1,12⟩⟩]) (by kernel_rfl) hn10 ?_;exact ScanR.done _ (by kernel_rfl) (by decide)
theorem z_2:zOf ⟨#[50]⟩=2:=by
 have h1:msplit ⟨#[50]⟩=(false,⟨#[50]⟩):=by kernel_rfl
 have h2:Dm.Fine ⟨#[50]⟩:=⟨by decide,by decide,by intro z hz;simp[bytesOf]at hz;omega⟩;have h3:zOf ⟨#[50]⟩=sg false (xOf ⟨#[50]⟩):=by unfold zOf;rw[h1]
 rw[h3,(adt h2).2];exact(by kernel_rfl:sg false (dval (bytesOf ⟨#[50]⟩))=2)
theorem z_4:zOf ⟨#[52]⟩=4:=by
 have h1:msplit ⟨#[52]⟩=(false,⟨#[52]⟩):=by kernel_rfl
 have h2:Dm.Fine ⟨#[52]⟩:=⟨by decide,by decide,by intro z hz;simp[bytesOf]at hz;omega⟩;have h3:zOf ⟨#[52]⟩=sg false (xOf ⟨#[52]⟩):=by unfold zOf;rw[h1]
 rw[h3,(adt h2).2];exact(by kernel_rfl:sg false (dval (bytesOf ⟨#[52]⟩))=4)
theorem z_6:zOf ⟨#[54]⟩=6:=by
 have h1:msplit ⟨#[54]⟩=(false,⟨#[54]⟩):=by kernel_rfl
 have h2:Dm.Fine ⟨#[54]⟩:=⟨by decide,by decide,by intro z hz;simp[bytesOf]at hz;omega⟩;have h3:zOf ⟨#[54]⟩=sg false (xOf ⟨#[54]⟩):=by unfold zOf;rw[h1]
 rw[h3,(adt h2).2];exact(by kernel_rfl:sg false (dval (bytesOf ⟨#[54]⟩))=6)
theorem abo{l:List Tk}{i:Nat}{t t1:Tk}{z:Int}(h:l[i]? = some t)(h1:l[i+1]? = some t1)(hs:tsg t1 sOver=false)(hz:zOf t.text=z):CoefR l i true (i+1) (z:Int):=by
 subst hz;exact .plain t t1 h h1 hs
def rs0:List Rat:=List.replicate 3 0
def rs1:List Rat:=rs0.set 0 (0+sgq false ((2:Int):Rat))
def rs2:List Rat:=rs1.set 1 (0+sgq true ((4:Int):Rat))
def rs3:List Rat:=rs2.set 2 (0+sgq false (-((6:Int):Rat)))
theorem avg:EqR eqt [⟨#[120]⟩,⟨#[121]⟩] 8 0 (List.replicate 3 0) true 7 rs3:=by
 refine .good 2 rs1 ⟨3,⟨#[61]⟩,⟨3,3,1,4⟩⟩ ?_ rfl (by kernel_rfl) 7 rs3 ?_ ⟨0,⟨#[]⟩,⟨11,11,1,12⟩⟩ rfl rfl
 ·refine⟨_,rfl,?_⟩;refine .last _ _ 2 _ _ ?_ ⟨3,⟨#[61]⟩,⟨3,3,1,4⟩⟩ rfl (by kernel_rfl);exact .next _ rfl rfl 1 _ (abo rfl rfl (by kernel_rfl) z_2) (by constructor <;> decide +kernel) _ rfl (by kernel_rfl) rfl _ _ _ (.yes _ 0 0 rfl (by kernel_rfl) rfl (by constructor <;> decide +kernel) (by constructor <;> decide +kernel))
 ·refine⟨_,rfl,?_⟩;refine .more _ _ 5 _ _ rs2 _ _ ?_ ⟨3,⟨#[45]⟩,⟨8,8,1,9⟩⟩ rfl (by kernel_rfl) ?_
  ·exact .next _ rfl rfl 4 _ (abo rfl rfl (by kernel_rfl) z_4) (by constructor <;> decide +kernel) _ rfl (by kernel_rfl) rfl _ _ _ (.yes _ 1 0 rfl (by kernel_rfl) rfl (by constructor <;> decide +kernel) (by constructor <;> decide +kernel))
  ·refine .last _ _ 7 _ _ ?_ ⟨0,⟨#[]⟩,⟨11,11,1,12⟩⟩ rfl (by kernel_rfl);exact .alone _ rfl rfl 7 _ (abo rfl rfl (by kernel_rfl) z_6) (by constructor <;> decide +kernel) _ rfl (by kernel_rfl) (by decide) 0 rfl (by constructor <;> decide +kernel)
theorem akz:canonZ rs3 = [1,-2,-3]:=by kernel_rfl
def dcs(ds:List Int):List Nat:=ds.map Int.toNat
theorem adw{ds:List Int}(h:Dig ds):Asc (dcs ds):=fun c hc=>by
 obtain⟨d,hd,rfl⟩:=List.mem_map.1 hc;have:=h d hd;omega
theorem aid{ds:List Int}{x:Int}(h:IsDec ds x):∃c u,ds=c::u:=by
 rcases h.2.2 with⟨_,rfl⟩|⟨c,u,rfl,_⟩
 ·exact⟨_,_,rfl⟩
 ·exact⟨_,_,rfl⟩
theorem amt{ds:List Int}{x:Int}{n:Nat}(r:List Nat)(h:IsDec ds x)(hn:IsLen x n)(hl:n<=32)(hr:Stop [3] r):TokC (dcs ds++r) 2 (strOfNums ds) r:=by
 obtain⟨c,u,rfl⟩:=aid h;have hb:=als _ (acx h.1);exact TokC.num c.toNat (dcs u) r n (c::u) (aqt h.1).1 hr (by
  rw[show c.toNat::dcs u=(c::u).map Int.toNat from rfl,hb,h.2.1]
  exact hn) hl (by
  rw[show c.toNat::dcs u=(c::u).map Int.toNat from rfl,hb,h.2.1]
  exact h)
theorem aek{ds:List Int}{x:Int}(h:IsDec ds x)(hl:ds.length<=5120):zOf (strOfNums ds)=x:=by
 have hb:=alc h.1;obtain⟨c,u,rfl⟩:=aid h;have h0:((strOfNums (c::u)).get! 0).toNat=c.toNat:=by
  have h1:=h.1 c (by simp);show(UInt8.ofNat c.toNat).toNat=c.toNat;rw[UInt8.toNat_ofNat'];omega
 have hc:=h.1 c (by simp);have h1:msplit (strOfNums (c::u))=(false,strOfNums (c::u)):=by
  unfold msplit;rw[h0,if_neg (by omega),if_neg (by omega)]
 have h2:Dm.Fine (strOfNums (c::u)):=⟨by rw[ac1];simp,by rw[ac1];exact hl,by rw[hb];exact h.1⟩;unfold zOf;rw[h1,(adt h2).2,hb,h.2.1];rfl
def pla(n:Nat):Pl:=⟨n,n,1,n+1⟩
theorem adx{cs:List Nat}(h:Asc cs)(n:Nat):adv (pla n) cs=pla (n+cs.length):=by
 rw[au2 _ _ h];simp only[pla,Pl.mk.injEq];refine⟨trivial,trivial,trivial,by omega⟩
def ScanA(n:Nat)(cs:List Nat)(o:SO):Prop:=ScanQ (pla n) cs o
theorem aie:Asc [32]:=fun c hc=>by simp at hc;omega
theorem aw0(cs:List Nat):skc false (32::cs)=skc false cs:=by
 rw[skc,if_neg (by decide),if_pos (by decide)]
theorem tq0{n:Nat}{v r:List Nat}{k:Int}{x:ByteArray}{o:SO}(hv:Asc v)(ht:TokC (v++r) k x r)(h:ScanA (n+v.length) r o):ScanA n (v++r) (o.pre ⟨k,x,pla n⟩):=by
 have:=ScanQ.tok (pla n) [] v r k x o ht.skc ht (by rw[List.nil_append,adx hv];exact h);exact this
theorem tq1{n:Nat}{v r:List Nat}{k:Int}{x:ByteArray}{o:SO}(hv:Asc v)(ht:TokC (v++r) k x r)(h:ScanA (n+1+v.length) r o):ScanA n (32::(v++r)) (o.pre ⟨k,x,pla (n+1)⟩):=by
 have:=ScanQ.tok (pla n) [32] v r k x o (by rw[List.cons_append,List.nil_append,aw0];exact ht.skc) ht (by rw[abc,adx aie,adx hv];exact h);rw[adx aie]at this;exact this
theorem agk{c:Nat}(h:32<=c/\c<127):Asc [c]:=fun d hd=>by simp at hd;subst hd;exact h
theorem sgn0{n c:Nat}{r:List Nat}{o:SO}(hc:gcls c=5)(hn:c≠8788/\c≠8800/\c≠58/\c≠33)(ha:32<=c/\c<127)(h:ScanA (n+1) r o):ScanA n (c::r) (o.pre ⟨3,strOfNums [gfold c],pla n⟩):=
 tq0 (v:=[c]) (agk ha) (.sign c r hc hn) h
theorem sgn1{n c:Nat}{r:List Nat}{o:SO}(hc:gcls c=5)(hn:c≠8788/\c≠8800/\c≠58/\c≠33)(ha:32<=c/\c<127)(h:ScanA (n+2) r o):ScanA n (32::c::r) (o.pre ⟨3,strOfNums [gfold c],pla (n+1)⟩):=
 tq1 (v:=[c]) (agk ha) (.sign c r hc hn) h
theorem nam0{n c:Nat}{r:List Nat}{o:SO}(hc:gcls c=2)(ha:32<=c/\c<127)(hr:Stop [2,3,4] r)(h:ScanA (n+1) r o):ScanA n (c::r) (o.pre ⟨1,bts (encs [c]),pla n⟩):=
 tq0 (v:=[c]) (agk ha) (.name c [] r hc (by intro d hd;simp at hd;subst hd;simp[inK,hc]) hr (by simp)) h
theorem nam1{n c:Nat}{r:List Nat}{o:SO}(hc:gcls c=2)(ha:32<=c/\c<127)(hr:Stop [2,3,4] r)(h:ScanA (n+2) r o):ScanA n (32::c::r) (o.pre ⟨1,bts (encs [c]),pla (n+1)⟩):=
 tq1 (v:=[c]) (agk ha) (.name c [] r hc (by intro d hd;simp at hd;subst hd;simp[inK,hc]) hr (by simp)) h
theorem num0{n:Nat}{ds:List Int}{x:Int}{m:Nat}{r:List Nat}{o:SO}(hd:IsDec ds x)(hm:IsLen x m)(hl:m<=32)(hr:Stop [3] r)(h:ScanA (n+ds.length) r o):ScanA n (dcs ds++r) (o.pre ⟨2,strOfNums ds,pla n⟩):=
 tq0 (adw hd.1) (amt r hd hm hl hr) (by rw[dcs,List.length_map];exact h)
theorem num1{n:Nat}{ds:List Int}{x:Int}{m:Nat}{r:List Nat}{o:SO}(hd:IsDec ds x)(hm:IsLen x m)(hl:m<=32)(hr:Stop [3] r)(h:ScanA (n+1+ds.length) r o):ScanA n (32::(dcs ds++r)) (o.pre ⟨2,strOfNums ds,pla (n+1)⟩):=
 tq1 (adw hd.1) (amt r hd hm hl hr) (by rw[dcs,List.length_map];exact h)
theorem end0(n:Nat):ScanA n [] (.ok [⟨0,⟨#[]⟩,pla n⟩]):=.done _ _ rfl
theorem aao{ks:List Int}{c:Nat}{r:List Nat}(h:inK ks c=false):Stop ks (c::r):=by
 intro d t e;obtain⟨rfl,_⟩:=List.cons.inj e;exact h
theorem abv{ks:List Int}: Stop ks []:=by intro d t e;cases e
theorem adb(c:Int)(h:49<=c/\c<=57):IsDec [c] (c-48)/\IsLen (c-48) 1:=by
 refine⟨⟨fun d hd=>by simp at hd;omega,by simp[dval,p10],.inr ⟨c,[],rfl,by omega⟩⟩,[c-48],?_,by simp[val],rfl⟩;exact⟨fun z hz=>by simp at hz;omega,by simp[tl];omega⟩
def hdc(X Y:List Int)(B:List Nat):List Nat:=dcs X++120::32::45::32::(dcs Y++47::(dcs Y++42::121::B))
def hdt(X Y:List Int):List Tk:=[⟨2,strOfNums X,pla 0⟩,⟨1,⟨#[120]⟩,pla X.length⟩,⟨3,⟨#[45]⟩,pla (X.length+2)⟩,⟨2,strOfNums Y,pla (X.length+4)⟩,⟨3,⟨#[47]⟩,pla (X.length+4+Y.length)⟩,⟨2,strOfNums Y,pla (X.length+4+Y.length+1)⟩,⟨3,⟨#[42]⟩,pla (X.length+4+Y.length+1+Y.length)⟩,⟨1,⟨#[121]⟩,pla (X.length+4+Y.length+1+Y.length+1)⟩]
theorem ara{X Y:List Int}{x y:Int}{m k:Nat}(hX:IsDec X x)(hx:IsLen x m)(hm:m<=32)(hY:IsDec Y y)(hy:IsLen y k)(hk:k<=32)(B:List Nat)(o:SO)(hB:Stop [2,3,4] B)(h:ScanA (X.length+Y.length+Y.length+7) B o):ScanA 0 (hdc X Y B) (o.pres (hdt X Y)):=by
 have h8:=nam0 (n:=X.length+4+Y.length+1+Y.length+1) (c:=121) (r:=B) (o:=o) (by decide) (by decide) hB (by rw[show X.length+4+Y.length+1+Y.length+1+1=X.length+Y.length+Y.length+7 by omega];exact h);have h7:=sgn0 (n:=X.length+4+Y.length+1+Y.length) (c:=42) (by decide) (by decide) (by decide) h8;have s3:∀(c:Nat) (r:List Nat),inK [3] c=false->Stop [3] (c::r):=fun c r h=>aao h
 have h6:=num0 (n:=X.length+4+Y.length+1) hY hy hk (s3 42 _ (by decide)) h7;have h5:=sgn0 (n:=X.length+4+Y.length) (c:=47) (by decide) (by decide) (by decide) h6;have h4:=num1 (n:=X.length+3) hY hy hk (s3 47 _ (by decide)) h5;have h3:=sgn1 (n:=X.length+1) (c:=45) (by decide) (by decide) (by decide) h4;have h2:=nam0 (n:=X.length) (c:=120) (by decide) (by decide) (aao (c:=32) (by decide)) h3;have h1:=num0 (n:=0) hX hx hm (s3 120 _ (by decide)) (by rw[Nat.zero_add];exact h2);cases o with
 |bad k p=>exact h1
 |ok l=>exact h1
end Lm
namespace Lm
open Go Go.RowKit
def vxy:List ByteArray:=[⟨#[120]⟩,⟨#[121]⟩]
def rsA(x:Int):List Rat:=(List.replicate 3 (0:Rat)).set 0 (0+sgq false (x:Rat))
def rsB(x y:Int):List Rat:=(rsA x).set 1 (0+sgq true (Rat.divInt y y))
theorem agl{z:Int}{L:Nat}(h:(z.natAbs:Int)<pw L)(hL:1<=L):Fit (z:Rat) L:=by
 have h1:pw 1<=pw L:=aa0 hL;have h2:(1:Int)<pw 1:=by decide
 exact⟨by simpa using h,by simp;omega⟩
theorem ak0{y:Int}(h:y≠0):Rat.divInt y y=1:=by
 have h1:=Rat.divInt_mul_right (n:=1) (d:=1) h;rw[Int.one_mul]at h1;rw[h1];rfl
variable {X Y:List Int} {x y:Int}
theorem atl(l:List Tk)(hX:IsDec X x)(hl:X.length<=5120)(hx:(x.natAbs:Int)<pw 8):TermR (hdt X Y++l) vxy 8 false (List.replicate 3 0) 0 true 2 (rsA x):=by
 have hf:=agl hx (by decide);refine .next _ rfl rfl 1 (x:Rat) (abo rfl rfl (by kernel_rfl) (aek hX hl)) hf _ rfl (by kernel_rfl) rfl true 2 _ (.yes _ 0 0 rfl (by kernel_rfl) rfl hf ?_);show Fit (0+(x:Rat)) 8;rw[Rat.zero_add];exact hf
theorem atm(l:List Tk)(hY:IsDec Y y)(hl:Y.length<=5120)(hy:y≠0):TermR (hdt X Y++l) vxy 8 true (rsA x) 3 true 8 (rsB x y):=by
 have hz:=aek hY hl;have hf:Fit (Rat.divInt y y) 8:=by rw[ak0 hy];constructor <;> decide +kernel
 have hc:CoefR (hdt X Y++l) 3 true 6 (Rat.divInt y y):=by
  have:=CoefR.over (l:=hdt X Y++l) (i:=3) ⟨2,strOfNums Y,pla (X.length+4)⟩ ⟨3,⟨#[47]⟩,pla (X.length+4+Y.length)⟩ ⟨2,strOfNums Y,pla (X.length+4+Y.length+1)⟩ rfl rfl (by kernel_rfl) rfl (by rw[hz];exact hy);rw[hz]at this;exact this
 refine .star _ rfl rfl 6 _ hc hf _ rfl (by kernel_rfl) true 8 _ (.yes _ 1 0 rfl (by kernel_rfl) rfl hf ?_);rw[ak0 hy];constructor <;> decide +kernel
theorem arb{t:Tk}(h:tpm t=false):tsg t sMinus=false:=by
 unfold tpm at h;cases hs:tsg t sMinus with
 |false=>rfl
 |true=>rw[hs]at h;cases h
structure HdK (X Y:List Int) (x y:Int):Prop where
 hX:IsDec X x
 hY:IsDec Y y
 x0:0<=x
 x1:x<pw 7
 y0:0<y
 y1:y<pw 7
 lx:X.length<=100
 ly:Y.length<=100
variable (K:HdK X Y x y)
include K
theorem HdK.xb:(x.natAbs:Int)<pw 8:=by
 have h1:pw 7<=pw 8:=aa0 (by decide);have:=K.x0;have:=K.x1;omega
theorem HdK.one(l:List Tk):TermR (hdt X Y++l) vxy 8 false (List.replicate 3 0) 0 true 2 (rsA x):=atl l K.hX (by have:=K.lx;omega) K.xb
theorem HdK.two(l:List Tk):TermR (hdt X Y++l) vxy 8 true (rsA x) 3 true 8 (rsB x y):=atm l K.hY (by have:=K.ly;omega) (by have:=K.y0;omega)
theorem HdK.left(l:List Tk){ok:Bool}{k:Nat}{rs:List Rat}(h:SideL (hdt X Y++l) vxy 8 false true 3 (rsA x) ok k rs):SideR (hdt X Y++l) vxy 8 false 0 (List.replicate 3 0) ok k rs:=by
 refine⟨⟨2,strOfNums X,pla 0⟩,rfl,?_⟩;rw[show tsg (⟨2,strOfNums X,pla 0⟩:Tk) sMinus=false by kernel_rfl,show tpm (⟨2,strOfNums X,pla 0⟩:Tk)=false by kernel_rfl];refine .more false _ 2 _ _ (rsA x) _ _ (K.one l) ⟨3,⟨#[45]⟩,pla (X.length+2)⟩ rfl (by kernel_rfl) ?_;rw[show tsg (⟨3,⟨#[45]⟩,pla (X.length+2)⟩:Tk) sMinus=true by kernel_rfl];exact h
theorem HdK.side(l:List Tk)(t:Tk)(ht:l[0]? = some t)(hp:tpm t=false):SideR (hdt X Y++l) vxy 8 false 0 (List.replicate 3 0) true 8 (rsB x y):=
 K.left l (.last true _ 8 _ _ (K.two l) t (by rw[<-ht];rfl) hp)
theorem HdK.bad3(p:Pl)(t:Tk)(l:List Tk)(hp:tpm t=false){k:Nat}{rs:List Rat}(h:TermR (hdt X Y++⟨3,⟨#[61]⟩,p⟩::t::l) vxy 8 true (rsB x y) 9 false k rs):EqR (hdt X Y++⟨3,⟨#[61]⟩,p⟩::t::l) vxy 8 0 (List.replicate 3 0) false k rs:=by
 refine .bad3 8 (rsB x y) ⟨3,⟨#[61]⟩,p⟩ (K.side _ _ rfl (by kernel_rfl)) rfl (by kernel_rfl) k rs ⟨t,rfl,?_⟩;rw[arb hp,hp];exact .bad false 9 k _ _ h
theorem HdK.bad4(p:Pl)(t u:Tk)(l:List Tk)(hp:tpm t=false)(hu:tpm u=false)(hk:u.kind≠0){rs:List Rat}(h:TermR (hdt X Y++⟨3,⟨#[61]⟩,p⟩::t::u::l) vxy 8 true (rsB x y) 9 true 10 rs):EqR (hdt X Y++⟨3,⟨#[61]⟩,p⟩::t::u::l) vxy 8 0 (List.replicate 3 0) false 10 rs:=by
 refine .bad4 8 (rsB x y) ⟨3,⟨#[61]⟩,p⟩ (K.side _ _ rfl (by kernel_rfl)) rfl (by kernel_rfl) 10 rs ⟨t,rfl,?_⟩ u rfl hk;rw[arb hp,hp];exact .last false 9 10 _ _ h u rfl hu
end Lm
namespace Lm
open Go Go.RowKit
variable {X Y:List Int} {x y:Int}
def hdl(X Y:List Int):Nat:=X.length+Y.length+Y.length+7
def Bads(X Y:List Int)(B:List Nat)(g:Nat):Prop:=∃l rs k t,ScanA 0 (hdc X Y B) (.ok (hdt X Y++l))/\EqR (hdt X Y++l) vxy 8 0 (List.replicate 3 0) false k rs/\(hdt X Y++l)[k]? = some t/\t.pl=pla (hdl X Y+g)
theorem d1:IsDec [49] 1/\IsLen 1 1:=adb 49 (by decide)
theorem d2:IsDec [50] 2/\IsLen 2 1:=adb 50 (by decide)
theorem d3:IsDec [51] 3/\IsLen 3 1:=adb 51 (by decide)
theorem d0:IsDec [48] 0/\IsLen 0 0:=⟨⟨fun d hd=>by simp at hd;omega,by simp[dval,p10],.inl ⟨rfl,rfl⟩⟩,[],⟨fun z hz=>by simp at hz,rfl⟩,rfl,rfl⟩
theorem agw{z:Int}(h0:0<=z)(h1:z<pw 7):∃m,IsLen z m/\m<=32:=by
 have key:∀n:Nat,∃zs,Limb zs/\val zs=n:=by
  intro n;induction n using Nat.strongRecOn with
  |_ n ih=>
   by_cases h:n=0
   ·exact⟨[],aag,by simp[val,h]⟩
   ·obtain⟨zs,hl,hv⟩:=ih (n/4294967296) (Nat.div_lt_self (by omega) (by omega));refine⟨((n%4294967296:Nat):Int)::zs,fun z hz=>?_,?_⟩
    ·rcases List.mem_cons.1 hz with rfl|hz
     ·omega
     ·exact hl z hz
    ·simp only[val,hv];omega
 obtain⟨zs,hl,hv⟩:=key z.toNat;have hv':val (zs.take (tl zs))=z:=by rw[aad,hv];omega
 have h2:=aaz (m:=7) (aaw hl) (by rw[hv'];exact h1);exact⟨_,⟨_,aaw hl,hv',rfl⟩,by omega⟩
theorem HdK.scan(K:HdK X Y x y)(B:List Nat)(o:SO)(hB:Stop [2,3,4] B)(h:ScanA (hdl X Y) B o):ScanA 0 (hdc X Y B) (o.pres (hdt X Y)):=by
 obtain⟨m,h1,h2⟩:=agw K.x0 K.x1;obtain⟨k,h3,h4⟩:=agw (by have:=K.y0;omega) K.y1;exact ara K.hX h1 h2 K.hY h3 h4 B o hB h
variable (K:HdK X Y x y)
include K
theorem HdK.b0:Bads X Y [32,61] 2:=by
 have h:=sgn1 (n:=hdl X Y) (c:=61) (by decide) (by decide) (by decide) (end0 (hdl X Y+2));exact⟨_,_,_,_,K.scan _ _ (aao (by decide)) h,K.bad3 _ _ [] (by kernel_rfl) (.other _ rfl (by simp) (by simp)),rfl,rfl⟩
theorem HdK.b1:Bads X Y [32,43,32,61,32,49] 3:=by
 have h4:=num1 (n:=hdl X Y+4) (r:=[]) d1.1 d1.2 (by decide) abv (end0 _);have h3:=sgn1 (n:=hdl X Y+2) (c:=61) (by decide) (by decide) (by decide) h4;have h:=sgn1 (n:=hdl X Y) (c:=43) (by decide) (by decide) (by decide) h3;refine⟨_,_,9,_,K.scan _ _ (aao (by decide)) h,.bad1 9 _ (K.left _ (.more true 3 8 9 _ (rsB x y) (rsB x y) false (K.two _) ⟨3,⟨#[43]⟩,pla (hdl X Y+1)⟩ rfl (by kernel_rfl) (.bad _ 9 9 _ _ (.other _ rfl (by simp) (by simp))))),rfl,rfl⟩
theorem HdK.b2:Bads X Y [32,61,61,32,49] 2:=by
 have h4:=num1 (n:=hdl X Y+3) (r:=[]) d1.1 d1.2 (by decide) abv (end0 _);have h3:=sgn0 (n:=hdl X Y+2) (c:=61) (by decide) (by decide) (by decide) h4;have h:=sgn1 (n:=hdl X Y) (c:=61) (by decide) (by decide) (by decide) h3;exact⟨_,_,_,_,K.scan _ _ (aao (by decide)) h,K.bad3 _ _ _ (by kernel_rfl) (.other _ rfl (by simp) (by simp)),rfl,rfl⟩
theorem HdK.b3:Bads X Y [32,61,32,49,32,49] 5:=by
 have h4:=num1 (n:=hdl X Y+4) (r:=[]) d1.1 d1.2 (by decide) abv (end0 _);have h3:=num1 (n:=hdl X Y+2) (r:=[32,49]) d1.1 d1.2 (by decide) (aao (by decide)) h4;have h:=sgn1 (n:=hdl X Y) (c:=61) (by decide) (by decide) (by decide) h3;have hz:zOf (strOfNums [49])=1:=aek d1.1 (by decide);refine⟨_,_,_,_,K.scan _ _ (aao (by decide)) h,K.bad4 _ _ _ _ (by kernel_rfl) (by kernel_rfl) (by simp) (.alone _ rfl rfl 10 _ (abo rfl rfl (by kernel_rfl) hz) (by constructor <;> decide +kernel) _ rfl (by kernel_rfl) (by simp) 0 rfl (by constructor <;> decide +kernel)),rfl,rfl⟩
theorem HdK.b4:Bads X Y [32,61,32,120,32,121] 5:=by
 have h4:=nam1 (n:=hdl X Y+4) (c:=121) (r:=[]) (by decide) (by decide) abv (end0 _);have h3:=nam1 (n:=hdl X Y+2) (c:=120) (r:=[32,121]) (by decide) (by decide) (aao (by decide)) h4;have h:=sgn1 (n:=hdl X Y) (c:=61) (by decide) (by decide) (by decide) h3;refine⟨_,_,_,_,K.scan _ _ (aao (by decide)) h,K.bad4 _ _ _ _ (by kernel_rfl) (by kernel_rfl) (by simp) (.name _ rfl rfl true 10 _ (.yes _ 0 (0+sgq false (x:Rat)) rfl (by kernel_rfl) rfl (acy (by decide)) ?_)),rfl,rfl⟩;show Fit (0+(x:Rat)+-1) 8;rw[Rat.zero_add,show(x:Rat)+-1=((x+-1:Int):Rat) by rw[Rat.intCast_add];rfl];refine agl ?_ (by decide);have h1:pw 7<pw 8:=by decide +kernel
 have:=K.x0;have:=K.x1;omega
theorem HdK.b5:Bads X Y [32,61,32,40,120,41] 3:=by
 have h5:=sgn0 (n:=hdl X Y+5) (c:=41) (by decide) (by decide) (by decide) (end0 _);have h4:=nam0 (n:=hdl X Y+4) (c:=120) (by decide) (by decide) (aao (c:=41) (by decide)) h5;have h3:=sgn1 (n:=hdl X Y+2) (c:=40) (by decide) (by decide) (by decide) h4;have h:=sgn1 (n:=hdl X Y) (c:=61) (by decide) (by decide) (by decide) h3;exact⟨_,_,_,_,K.scan _ _ (aao (by decide)) h,K.bad3 _ _ _ (by kernel_rfl) (.other _ rfl (by simp) (by simp)),rfl,rfl⟩
theorem HdK.b6:Bads X Y [32,61,32,49,47,48] 5:=by
 have h5:=num0 (n:=hdl X Y+5) (r:=[]) d0.1 d0.2 (by decide) abv (end0 _);have h4:=sgn0 (n:=hdl X Y+4) (c:=47) (by decide) (by decide) (by decide) h5;have h3:=num1 (n:=hdl X Y+2) (r:=[47,48]) d1.1 d1.2 (by decide) (aao (by decide)) h4;have h:=sgn1 (n:=hdl X Y) (c:=61) (by decide) (by decide) (by decide) h3;have hz:zOf (strOfNums [48])=0:=aek d0.1 (by decide);exact⟨_,_,_,_,K.scan _ _ (aao (by decide)) h,K.bad3 _ _ _ (by kernel_rfl) (.bad _ rfl rfl 11 _ (.bad _ _ _ rfl rfl (by kernel_rfl) rfl hz)),rfl,rfl⟩
theorem HdK.b7:Bads X Y [32,61,32,113] 3:=by
 have h3:=nam1 (n:=hdl X Y+2) (c:=113) (r:=[]) (by decide) (by decide) abv (end0 _);have h:=sgn1 (n:=hdl X Y) (c:=61) (by decide) (by decide) (by decide) h3;exact⟨_,_,_,_,K.scan _ _ (aao (by decide)) h,K.bad3 _ _ _ (by kernel_rfl) (.name _ rfl rfl _ _ _ (.no _ rfl (by kernel_rfl))),rfl,rfl⟩
theorem HdK.b8:Bads X Y [32,42,32,120,32,61,32,49] 1:=by
 have h5:=num1 (n:=hdl X Y+6) (r:=[]) d1.1 d1.2 (by decide) abv (end0 _);have h4:=sgn1 (n:=hdl X Y+4) (c:=61) (by decide) (by decide) (by decide) h5;have h3:=nam1 (n:=hdl X Y+2) (c:=120) (by decide) (by decide) (aao (c:=32) (by decide)) h4;have h:=sgn1 (n:=hdl X Y) (c:=42) (by decide) (by decide) (by decide) h3;exact⟨_,_,8,_,K.scan _ _ (aao (by decide)) h,.bad2 8 _ _ (K.side _ _ rfl (by kernel_rfl)) rfl (by kernel_rfl),rfl,rfl⟩
theorem HdK.b9:Bads X Y [32,61,32,50,42] 5:=by
 have h4:=sgn0 (n:=hdl X Y+4) (c:=42) (by decide) (by decide) (by decide) (end0 _);have h3:=num1 (n:=hdl X Y+2) (r:=[42]) d2.1 d2.2 (by decide) (aao (by decide)) h4;have h:=sgn1 (n:=hdl X Y) (c:=61) (by decide) (by decide) (by decide) h3;have hz:zOf (strOfNums [50])=2:=aek d2.1 (by decide);exact⟨_,_,_,_,K.scan _ _ (aao (by decide)) h,K.bad3 _ _ _ (by kernel_rfl) (.star _ rfl rfl 10 _ (abo rfl rfl (by kernel_rfl) hz) (by constructor <;> decide +kernel) _ rfl (by kernel_rfl) _ _ _ (.no _ rfl (by kernel_rfl))),rfl,rfl⟩
theorem HdK.b10:ScanA 0 (hdc X Y [32,61,32,51,32,36]) (.bad 41 (pla (hdl X Y+5))):=by
 have h4:ScanA (hdl X Y+4) [32,36] (.bad 41 (pla (hdl X Y+5))):=by
  have:=ScanQ.bad (pla (hdl X Y+4)) [32] 36 [] (by decide) (by decide);rw[adx aie]at this;exact this
 have h3:=num1 (n:=hdl X Y+2) (r:=[32,36]) d3.1 d3.2 (by decide) (aao (by decide)) h4;have h:=sgn1 (n:=hdl X Y) (c:=61) (by decide) (by decide) (by decide) h3;exact K.scan _ _ (aao (by decide)) h
theorem HdK.b11:Bads X Y [32,61,32,120,8321] 3:=by
 have hT:TokC ([120,8321] ++ []) 1 (bts (encs [120,8321])) []:=.name 120 [8321] [] (by decide) (by decide) abv (by decide);have h3:=ScanQ.tok (pla (hdl X Y+2)) [32] [120,8321] [] 1 _ _ (by decide) hT (.done _ _ rfl);rw[adx aie]at h3;have h:=sgn1 (n:=hdl X Y) (c:=61) (by decide) (by decide) (by decide) h3;exact⟨_,_,_,_,K.scan _ _ (aao (by decide)) h,K.bad3 _ _ _ (by kernel_rfl) (.name _ rfl rfl _ _ _ (.no _ rfl (by kernel_rfl))),rfl,rfl⟩
end Lm
namespace Lm
open Go Go.RowKit
theorem ak1(w:World)(hT:Tabs w)(s:ByteArray)(hs:s.size<=4096)(v:Value)(vs:List ByteArray)(hv:Strs w v vs)(hN:NmsOk vs)(gs:List Gl)(e:Pl)(l:List Tk)(hQ:Snd s pl0 gs e)(hR:ScanR s e gs (.ok l))(L:Nat)(hL:L<=10000)(hL1:1<=L)(k:Nat)(rs:List Rat)(hE:EqR l vs L 0 (List.replicate (vs.length+1) 0) false k rs)(hnov:(⟨#[]⟩:ByteArray)∉vs)(t:Tk)(ht:l[k]? = some t):
  Calls Tryz.prog 30 #[.string s,v] w fun r w'=>Below w.heap.size w w'/\r=.returned (.tuple #[.slice none 0 0,.int .i64 50,.agg #[.int .i64 t.pl.b,.int .i64 t.pl.g,.int .i64 t.pl.l,.int .i64 t.pl.c]]):=by
 obtain⟨av,cv,rfl,_⟩:=id hv;have hvl:vs.length<=16:=hN.1;have hb0:Below w.heap.size w (w.alloc (.cells #[.int .i64 0,.int .i64 0,.int .i64 0,.int .i64 0] 56)):=hAl _ _;have K:=aej _ (hT.below hb0) _ vs (hv.below hb0);rw[show nmsE vs=0 from if_pos hN]at K;have K:=hide K;have HT:=hide hT;have HV:=hide hv;have HQ:=hide hQ;have HR:=hide hR;have HE:=hide hE;obtain⟨hWf,hl0⟩:=aib hs hQ hR;have HWf:=hide hWf;have HNV:=hide hnov;obtain⟨iR,hi,hz0,hz1,hz2⟩:=info_parts infoRz;clear hT hv hQ hR hE hWf hnov hN;go_enter Tryz.func30,Tryz.ntmps30
 go_wp2_with fail
 refine K.out.mono ?_;rintro r w1 ⟨rfl,hb1⟩;have hb1':=hb0.trans (hb1.mono hb0.size);have hf6:w1.heap[w.heap.size]? = some (.cells #[.int .i64 0,.int .i64 0,.int .i64 0,.int .i64 0] 56 (0,0)):=(hb1.block _ (by simp)).trans (heap_alloc_new w _);clear K hb0 hb1;go_wp2_with fail
 refine(adp w1 s (HT.out.below hb1') hs).mono ?_;rintro r w2 ⟨hb2,gs',e',o,s1,s2,s3⟩;obtain⟨rfl,rfl⟩:=s1.one HQ.out;obtain rfl:=s2.one HR.out;obtain⟨tv,rfl,hown⟩:=s3;have hts:Ts w2 tv l:=Ts.own hown;have hb2':=hb1'.trans (hb2.mono hb1'.size);have hf62:=(hb2.block _ (aaa hf6)).trans hf6;have hbA:=hAl w2 (.cells #[.int .i64 0,.int .i64 0,.int .i64 0,.int .i64 0] 56);have hb3:=hb2'.trans (hbA.mono hb2'.size);obtain⟨at_,ct,rfl,_⟩:=hts.parts;have HTS:=hide (hts.below hbA);have HF6:=hide (aaq (o':=.cells #[.int .i64 0,.int .i64 0,.int .i64 0,.int .i64 0] 56) hf62);have HB3:=hide hb3;have hlt2:w.heap.size<w2.heap.size:=aaa hf62;have hT2:w2.ownsRow w1.heap.size 109 6 (.slice at_ l.length ct) l.length (tflat l):=hown;have HOWN:=hide hT2;unfold Pl.v plz;clear hb1' hb2 hb2' hf6 hf62 s1 s2 hown hts hT2;go_wp2_with (refine wpList_make_full _ rfl (.tmp 36) (.tmp 36) 34 rfl w.heap.size 62 iR (.agg #[.bool false,.slice none 0 0,.slice none 0 0]) 3 Tryz.underlying34 hi hz0 hz1 .i64 .i64 _ _ (vs.length+1) rfl rfl (by omega) (by omega) (by rw[hz2];omega) (by unfold maxLen;omega) HB3.out.size ?hK)
 case hK=>
  intro w4 hown hgrow;have hb4:=(Below.refl _ _).grown hgrow (Nat.le_refl _) (by simp);obtain⟨_,hmb⟩:=ac6 hown;rw[afe]at hmb;have hsz4:(w2.alloc (.cells #[.int .i64 0,.int .i64 0,.int .i64 0,.int .i64 0] 56)).heap.size=w2.heap.size+1:=by simp
  have hbl4:w2.heap.size+1<w4.heap.size:=aaa hmb;generalize hW5:w4.alloc (.cells #[.slice (some ⟨w2.heap.size+1,0,none⟩) (vs.length+1) (vs.length+1)] 34)=w5;have hb45:Below w4.heap.size w4 w5:=by rw[<-hW5];exact hAl _ _
  have hg5:w5.heap[w4.heap.size]? = some (.cells #[.slice (some ⟨w2.heap.size+1,0,none⟩) (vs.length+1) (vs.length+1)] 34 (0,0)):=by rw[<-hW5];exact heap_alloc_new _ _
  have hs5:w5.heap.size=w4.heap.size+1:=by rw[<-hW5];simp
  generalize hW6:w5.alloc (.cells #[.slice at_ l.length ct,.int .i64 0,.slice av vs.length cv] 104)=w6;have hb56:Below w5.heap.size w5 w6:=by rw[<-hW6];exact hAl _ _
  have hq6:w6.heap[w4.heap.size+1]? = some (.cells #[.slice at_ l.length ct,.int .i64 ((0:Nat):Int),.slice av vs.length cv] 104 (0,0)):=by rw[<-hW6,<-hs5];exact heap_alloc_new _ _
  have hb46:=hb45.trans (hb56.mono hb45.size);have hb36:=hb4.trans (hb46.mono hb4.size);have hb06:Below w.heap.size w w6:=HB3.out.trans (hb36.mono HB3.out.size);have hRQ:RQ w6 w4.heap.size (w2.heap.size+1) (List.replicate (vs.length+1) 0) L:=by
   refine akx ((hb56.block _ (aaa hg5)).trans hg5) ((hb46.block _ (aaa hmb)).trans hmb) (by omega)
  have hsw:w.heap.size<=w2.heap.size+1:=by have:=HB3.out.size;omega
  have hRE:Rea w6 (w4.heap.size+1) (w2.heap.size+1) (.slice at_ l.length ct) (.slice av vs.length cv) l vs 0:=by
   refine⟨hq6,HTS.out.below hb36,HV.out.below hb06,hl0,?_,?_⟩
   ·rintro _ b' off n c hv';have hts2:Ts w2 (.slice at_ l.length ct) l:=Ts.own HOWN.out;obtain⟨ao',cap',e1,_,_,_,e4⟩:=hts2;rcases e4 with e4|⟨b2,off2,e4,hl2,_⟩
    ·omega
    ·rw[e4]at e1;have e5:=hv'.symm.trans e1;simp only[Value.slice.injEq,Option.some.injEq,Addr.mk.injEq]at e5;omega
   ·rintro hp b' off n c hv';obtain⟨ao',cap',e1,_,_,_,e4⟩:=HV.out;rcases e4 with e4|⟨b2,off2,e4,hl2,_⟩
    ·omega
    ·rw[e4]at e1;have e5:=hv'.symm.trans e1;simp only[Value.slice.injEq,Option.some.injEq,Addr.mk.injEq]at e5;omega
  have hEnv:Env w6 (w4.heap.size+1) (w2.heap.size+1) w4.heap.size (.slice at_ l.length ct) (.slice av vs.length cv) l vs L:=⟨HT.out.below hb06,HWf.out,HNV.out,hL,hL1,by omega,by omega⟩;have KE:=hide (afk w6 _ _ _ _ _ l vs L hEnv false _ rs 0 k HE.out _ .base hRQ hRE);have HF66:=hide ((hb36.block _ (aaa HF6.out)).trans HF6.out);have HB06:=hide hb06;have hgl:w4.heap.size<w6.heap.size:=by have:=hb56.size;omega
  have HW5:=hide hW5;have HW6:=hide hW6;clear hW5 hW6 hRQ hRE hEnv hb36 hb06 hb46 hb45 hb56 hb4 hmb hown hgrow hg5 hq6;go_wp2_with fail
  rw[HW5.out,HW6.out];refine KE.out.mono ?_;rintro r w7 ⟨rfl,hre,hrc,_⟩;have hb07:Below w.heap.size w w7:=HB06.out.trans (hrc.below HB06.out.size (by omega) hsw);have hf67:=(hrc.other _ (aaa HF66.out) (by omega) (by omega)).trans HF66.out;have KT:=hide (aax w7 _ _ _ _ l vs k t hre ht);have HF67:=hide hf67;have HB07:=hide hb07;clear hrc hb07 hf67 hre KE;go_wp2_with fail
  refine KT.out.mono ?_;rintro r w8 ⟨rfl,hb8⟩;have hf68:=(hb8.block _ (aaa HF67.out)).trans HF67.out;have HF68:=hide hf68;have HB8:=hide (HB07.out.trans (hb8.mono HB07.out.size));obtain⟨hfl,c0,c1,c2,c3,f0,f1,f2,f3⟩:=abl hf68;clear hb8 hf68 KT;unfold Tk.av;have hf2:∀W,(Instr.field 109 (.agg #[.int .i64 t.kind,.string t.text,.int .i64 t.pl.b,.int .i64 t.pl.g,.int .i64 t.pl.l,.int .i64 t.pl.c]) 2).run Tryz.prog W=.ok (.agg #[.int .i64 t.pl.b,.int .i64 t.pl.g,.int .i64 t.pl.l,.int .i64 t.pl.c]) W:=fun W=>axh _ _ _ _ _ _ W
  go_wp2;refine bodyPost_ret (v:=.tuple #[.slice none 0 0,.int .i64 50,.agg #[.int .i64 t.pl.b,.int .i64 t.pl.g,.int .i64 t.pl.l,.int .i64 t.pl.c]]) (agj (g:=w.heap.size) rfl rfl rfl rfl (af3 HF68.out _ _ _ _)) rfl ⟨?_,rfl⟩;exact(((HB8.out.setCell (Nat.le_refl _) _).setCell (Nat.le_refl _) _).setCell (Nat.le_refl _) _).setCell (Nat.le_refl _) _
theorem ajl(w:World)(hT:Tabs w)(s:ByteArray)(hs:s.size<=4096)(v:Value)(vs:List ByteArray)(hv:Strs w v vs)(hN:NmsOk vs)(gs:List Gl)(e p:Pl)(k:Int)(hQ:Snd s pl0 gs e)(hR:ScanR s e gs (.bad k p))(hk:k≠0/\k≠2):
  Calls Tryz.prog 30 #[.string s,v] w fun r w'=>Below w.heap.size w w'/\r=.returned (.tuple #[.slice none 0 0,.int .i64 50,.agg #[.int .i64 p.b,.int .i64 p.g,.int .i64 p.l,.int .i64 p.c]]):=by
 obtain⟨av,cv,rfl,_⟩:=id hv;have hb0:Below w.heap.size w (w.alloc (.cells #[.int .i64 0,.int .i64 0,.int .i64 0,.int .i64 0] 56)):=hAl _ _;have K:=aej _ (hT.below hb0) _ vs (hv.below hb0);rw[show nmsE vs=0 from if_pos hN]at K;have K:=hide K;have HT:=hide hT;have HQ:=hide hQ;have HR:=hide hR;obtain⟨hk0,hk2⟩:=hk;clear hT hv hQ hR hN;go_enter Tryz.func30,Tryz.ntmps30
 go_wp2_with fail
 refine K.out.mono ?_;rintro r w1 ⟨rfl,hb1⟩;have hb1':=hb0.trans (hb1.mono hb0.size);have hf6:w1.heap[w.heap.size]? = some (.cells #[.int .i64 0,.int .i64 0,.int .i64 0,.int .i64 0] 56 (0,0)):=(hb1.block _ (by simp)).trans (heap_alloc_new w _);clear K hb0 hb1;go_wp2_with fail
 refine(adp w1 s (HT.out.below hb1') hs).mono ?_;rintro r w2 ⟨hb2,gs',e',o,s1,s2,s3⟩;obtain⟨rfl,rfl⟩:=s1.one HQ.out;obtain rfl:=s2.one HR.out;obtain rfl:r=.returned (.tuple #[.slice none 0 0,.int .i64 k,Pl.v p]):=s3;have hb2':=hb1'.trans (hb2.mono hb1'.size);have hf62:=(hb2.block _ (aaa hf6)).trans hf6;have HF6:=hide (aaq (o':=.cells #[.int .i64 p.b,.int .i64 p.g,.int .i64 p.l,.int .i64 p.c] 56) hf62);have HB2:=hide hb2';obtain⟨hfl,c0,c1,c2,c3,f0,f1,f2,f3⟩:=abl HF6.out;obtain⟨_,d0,d1,d2,d3,_⟩:=abl (heap_alloc_new w2 (.cells #[.int .i64 p.b,.int .i64 p.g,.int .i64 p.l,.int .i64 p.c] 56));have hbA:=hAl w2 (.cells #[.int .i64 p.b,.int .i64 p.g,.int .i64 p.l,.int .i64 p.c] 56);have HB3:=hide (hb2'.trans (hbA.mono hb2'.size));unfold Pl.v;clear hb1' hb2 hb2' hf6 hf62 s1 s2 hbA;go_wp2;generalize w2.alloc (.cells #[.int .i64 p.b,.int .i64 p.g,.int .i64 p.l,.int .i64 p.c] 56)=w3 at *
 go_region
 all_goals try go_wp2
 refine bodyPost_ret (v:=.tuple #[.slice none 0 0,.int .i64 50,.agg #[.int .i64 p.b,.int .i64 p.g,.int .i64 p.l,.int .i64 p.c]]) (agj (g:=w.heap.size) rfl rfl rfl rfl (af3 HF6.out _ _ _ _)) rfl ⟨?_,rfl⟩;exact((((HB3.out.setCell (Nat.le_refl _) _).setCell (Nat.le_refl _) _).setCell (Nat.le_refl _) _).setCell (Nat.le_refl _) _).drew
theorem ahi(w:World)(x y:ByteArray)(e:TypeId):Strs (w.alloc (.cells #[.string x,.string y] e)) (.slice (some ⟨w.heap.size,0,none⟩) 2 2) [x,y]:=by
 refine⟨_,2,rfl,Nat.le_refl _,by decide,rfl,.inr ⟨w.heap.size,0,rfl,by simp,fun j u hu=>?_⟩⟩;have hh:=heap_alloc_new w (.cells #[.string x,.string y] e);rw[Nat.zero_add,cell_of_row _ _ _ _ _ (0,0) hh]
 match j with
 |0=>simpa using hu
 |1=>simpa using hu
 |j+2=>simp at hu
theorem air(w:World)(hT:Tabs w)(v:Value)(hv:Strs w v [⟨#[120]⟩,⟨#[121]⟩]):
  Calls Tryz.prog 30 #[.string ⟨#[50,120,32,61,32,52,121,32,45,32,54]⟩,v] w fun r w'=>Below w.heap.size w w'/\∃x,r=.returned (.tuple #[x,.int .i64 0,.agg #[.int .i64 0,.int .i64 0,.int .i64 0,.int .i64 0]])/\CanRow w' x [1,-2,-3] 16:=by
 refine(afl w hT eqs (by decide) v _ hv aky _ _ eqt avf atk 8 16 (by decide) (by decide) (by decide) 7 rs3 avg rfl ?_ ?_ (by simp)).mono ?_
 ·intro k hk;have hk':k<=3:=hk
  match k,hk' with
  |0,_=>decide +kernel
  |1,_=>decide +kernel
  |2,_=>decide +kernel
  |3,_=>decide +kernel
 ·have h:clr rs3 = [2,-4,-6]:=by kernel_rfl
  rw[h];intro z hz;simp at hz;rcases hz with rfl|rfl|rfl <;> decide +kernel
 ·rintro r w' ⟨hb,⟨_,x,rfl,hO⟩|⟨⟨z,hz,hbig⟩,_⟩⟩
  ·rw[akz]at hO;exact⟨hb,x,rfl,hO.can⟩
  ·rw[akz]at hz;simp at hz;rcases hz with rfl|rfl|rfl <;> exact absurd (by decide +kernel) hbig
theorem aif(w:World)(a b c:Int)(e:TypeId):Nums (w.alloc (.cells #[.int .i64 a,.int .i64 b,.int .i64 c] e)) (.slice (some ⟨w.heap.size,0,none⟩) 3 3) [a,b,c]:=aha w [a,b,c] (by simp) e
theorem aw1(w:World)(hT:Tabs w):
  Calls Tryz.prog 9 #[] w fun r w'=>r=.returned (.bool true)/\Below w.heap.size w w':=by
 have hb0:=hAl w (.cells #[.string ⟨#[120]⟩,.string ⟨#[121]⟩] 9);have K:=hide (air _ (hT.below hb0) _ (ahi w ⟨#[120]⟩ ⟨#[121]⟩ 9));have HT:=hide hT;clear hT;go_enter Tryz.func9,Tryz.ntmps9
 go_wp2_with fail
 refine K.out.mono ?_;rintro r w1 ⟨hb1,x,rfl,hcx⟩;obtain⟨ax,cx,hvx,_⟩:=hcx.is.parts;subst hvx;have hbA:=hAl w1 (.cells #[.int .i64 0,.int .i64 0,.int .i64 0,.int .i64 0] 56);have hb1':=hb0.trans (hb1.mono hb0.size);have hb2:=hb1'.trans (hbA.mono hb1'.size);have HB2:=hide hb2;have HCX:=hide (hcx.below hbA);clear hb0 hb1 hb1' hcx K hbA;go_wp2_with fail
 generalize hW2:w1.alloc (.cells #[.int .i64 0,.int .i64 0,.int .i64 0,.int .i64 0] 56)=w2 at *
 have hs2:w2.heap.size=w1.heap.size+1:=by rw[<-hW2];simp
 rw[<-hs2];have hz3:∀z∈([1,-2,-3]:List Int),-9223372036854775808<=z/\z<=9223372036854775807:=by intro z hz;simp at hz;rcases hz with rfl|rfl|rfl <;> decide
 have HZ3:=hide hz3;have hbn2:=hAl w2 (.cells #[.int .i64 1,.int .i64 (-2),.int .i64 (-3)] 3);refine(ams _ _ [1,-2,-3] (aif w2 1 (-2) (-3) 3) hz3 (by decide)).mono ?_;rintro e w3 ⟨r3,rfl,hr3,hb3⟩;obtain⟨a3,c3,hv3,_⟩:=hr3.is.parts;subst hv3;have hb23:=hbn2.trans (hb3.mono hbn2.size);have HB3:=hide (HB2.out.trans (hb23.mono HB2.out.size));have HCX3:=hide (HCX.out.below hb23);have hbs:=hAl w3 (.cells #[.string ⟨#[120]⟩,.string ⟨#[121]⟩] 9);have K4:=hide (al4 _ ((HT.out.below HB3.out).below hbs) _ _ 2 (hr3.is.below hbs) (by decide) (ahi w3 ⟨#[120]⟩ ⟨#[121]⟩ 9) aky);have HBS:=hide hbs;clear hb3 hb23 hbn2 hr3 hbs hz3 hW2 hs2;go_wp2_with fail
 refine K4.out.mono ?_;rintro e w4 ⟨rfl,hb4⟩;have hb34:=HBS.out.trans (hb4.mono HBS.out.size);have HB4:=hide (HB3.out.trans (hb34.mono HB3.out.size));have HCX4:=hide (HCX3.out.below hb34);have hbn4:=hAl w4 (.cells #[.int .i64 1,.int .i64 (-2),.int .i64 (-3)] 3);have K5:=hide (ams _ _ [1,-2,-3] (aif w4 1 (-2) (-3) 3) HZ3.out (by decide));have HBN4:=hide hbn4;clear hb4 hb34 hbn4 K4;go_wp2_with fail
 refine K5.out.mono ?_;rintro e w5 ⟨r5,rfl,hr5,hb5⟩;obtain⟨a5,c5,hv5,_⟩:=hr5.is.parts;subst hv5;have hb45:=HBN4.out.trans (hb5.mono HBN4.out.size);have HB5:=hide (HB4.out.trans (hb45.mono HB4.out.size));have K6:=hide (al5 w5 _ _ [1,-2,-3] 16 2 (HCX4.out.below hb45) hr5);have hst:((⟨#[120,32,45,32,50,42,121,32,61,32,45,51]⟩:ByteArray).toList == [120,32,45,32,50,42,121,32,61,32,45,51])=true:=by rw[ByteArray.toList_eq];decide
 clear hb5 hb45 hr5 K5;go_wp2_with fail
 refine K6.out.mono ?_;rintro e w6 ⟨rfl,hb6⟩;have HB6:=hide (HB5.out.trans (hb6.mono HB5.out.size));clear hb6 K6;go_wp2;refine bodyPost_ret (v:=_) (by simp[results,Tryz.results9,go_sem];try rfl) rfl ⟨rfl,HB6.out⟩
end Lm
namespace Lm
open Go Go.RowKit
theorem amu(cs:List Nat):(encs cs).length<=4*cs.length:=by
 induction cs with
 |nil=>simp[encs]
 |cons c cs ih=>
  have h:(encL c).length<=4:=by unfold encL;(repeat' split) <;> simp
  rw[encs,List.length_append,List.length_cons];omega
theorem avh(X Y:List Int)(B:List Nat):(hdc X Y B).length=X.length+Y.length+Y.length+7+B.length:=by
 simp only[hdc,dcs,List.length_append,List.length_map,List.length_cons];omega
variable {X Y:List Int} {x y:Int}
theorem HdK.cod(K:HdK X Y x y){B:List Nat}(hB:∀c∈B,Cod c):∀c∈hdc X Y B,Cod c:=by
 have hX:=(adw K.hX.1).cod;have hY:=(adw K.hY.1).cod;intro c hc;simp only[hdc,List.mem_append,List.mem_cons]at hc;rcases hc with hc|rfl|rfl|rfl|rfl|hc|rfl|hc|rfl|rfl|hc
 ·exact hX c hc
 ·exact ab5 (by decide)
 ·exact ab5 (by decide)
 ·exact ab5 (by decide)
 ·exact ab5 (by decide)
 ·exact hY c hc
 ·exact ab5 (by decide)
 ·exact hY c hc
 ·exact ab5 (by decide)
 ·exact ab5 (by decide)
 ·exact hB c hc
theorem ais:NmsOk vxy:=aky
def EqB(X Y:List Int)(B:List Nat)(g:Nat):Prop:=∀(w:World),Tabs w->∀v,Strs w v vxy->Calls Tryz.prog 30 #[.string (bts (encs (hdc X Y B))),v] w fun r w'=>Below w.heap.size w w'/\r=.returned (.tuple #[.slice none 0 0,.int .i64 50,.agg #[.int .i64 (hdl X Y+g:Nat),.int .i64 (hdl X Y+g:Nat),.int .i64 1,.int .i64 (hdl X Y+g+1:Nat)]])
theorem HdK.size(K:HdK X Y x y){B:List Nat}(hB:B.length<=10):(bts (encs (hdc X Y B))).size<=4096:=by
 have h1:=amu (hdc X Y B);have h2:(bts (encs (hdc X Y B))).size=(encs (hdc X Y B)).length:=by simp[bts,ByteArray.size]
 rw[avh]at h1;have:=K.lx;have:=K.ly;omega
theorem HdK.eqb(K:HdK X Y x y){B:List Nat}{g:Nat}(hB:B.length<=10)(hc:∀c∈B,Cod c)(h:Bads X Y B g):EqB X Y B g:=by
 intro w hT v hv;obtain⟨l,rs,k,t,h1,h2,h3,h4⟩:=h;have hd:(bts (encs (hdc X Y B))).data.toList=encs (hdc X Y B):=by simp[bts]
 have hS:=ag4 (bts (encs (hdc X Y B))) _ (K.cod hc) [] [] pl0 rfl (by rw[hd];simp) (.inl rfl);have hR:=aip (bts (encs (hdc X Y B))) pl0 _ _ h1 [] rfl (by rw[hd];rfl);refine(ak1 w hT _ (K.size hB) v vxy hv ais _ _ _ hS hR 8 (by decide) (by decide) k rs h2 (by simp[vxy]) t h3).mono ?_;rintro r w' ⟨hb,rfl⟩;rw[h4];exact⟨hb,rfl⟩
theorem HdK.eqs(K:HdK X Y x y){B:List Nat}{g:Nat}(hB:B.length<=10)(hc:∀c∈B,Cod c)(h:ScanA 0 (hdc X Y B) (.bad 41 (pla (hdl X Y+g)))):EqB X Y B g:=by
 intro w hT v hv;have hd:(bts (encs (hdc X Y B))).data.toList=encs (hdc X Y B):=by simp[bts]
 have hS:=ag4 (bts (encs (hdc X Y B))) _ (K.cod hc) [] [] pl0 rfl (by rw[hd];simp) (.inl rfl);have hR:=aip (bts (encs (hdc X Y B))) pl0 _ _ h [] rfl (by rw[hd];rfl);exact ajl w hT _ (K.size hB) v vxy hv ais _ _ _ _ hS hR (by decide)
def badC:Nat->List Nat
 |0=>[32,61]|1=>[32,43,32,61,32,49]|2=>[32,61,61,32,49]|3=>[32,61,32,49,32,49]|4=>[32,61,32,120,32,121]|5=>[32,61,32,40,120,41]|6=>[32,61,32,49,47,48]|7=>[32,61,32,113]|8=>[32,42,32,120,32,61,32,49]|9=>[32,61,32,50,42]|10=>[32,61,32,51,32,36]|_=>[32,61,32,120,8321]
def gapN:Nat->Nat
 |0=>2|1=>3|2=>2|3=>5|4=>5|5=>3|6=>5|7=>3|8=>1|9=>5|10=>5|_=>3
theorem HdK.kind(K:HdK X Y x y)(k:Nat)(h:k<12):EqB X Y (badC k) (gapN k):=by
 have hc:∀c∈badC k,Cod c:=by
  have:∀k<12,∀c∈badC k,Cod c:=by unfold Cod;decide
  exact this k h
 have hl:(badC k).length<=10:=by
  have:∀k<12,(badC k).length<=10:=by decide
  exact this k h
 match k,h with
 |0,_=>exact K.eqb hl hc K.b0
 |1,_=>exact K.eqb hl hc K.b1
 |2,_=>exact K.eqb hl hc K.b2
 |3,_=>exact K.eqb hl hc K.b3
 |4,_=>exact K.eqb hl hc K.b4
 |5,_=>exact K.eqb hl hc K.b5
 |6,_=>exact K.eqb hl hc K.b6
 |7,_=>exact K.eqb hl hc K.b7
 |8,_=>exact K.eqb hl hc K.b8
 |9,_=>exact K.eqb hl hc K.b9
 |10,_=>exact K.eqs hl hc K.b10
 |11,_=>exact K.eqb hl hc K.b11
end Lm
namespace Lm
open Go Go.RowKit
def tT:Int:=((2 ^ 1023:Nat):Int)
theorem ak2:IsLen tT 32:=⟨List.replicate 31 0 ++ [2147483648],⟨fun z hz=>by
 rcases List.mem_append.1 hz with h|h
 ·have:=List.eq_of_mem_replicate h;omega
 ·simp at h;omega,by decide +kernel⟩,by decide +kernel,by simp⟩
variable {X:List Int}
theorem afh(hX:IsDec X tT):X.length<=400:=alv hX ak2 (Nat.le_refl _)
theorem zX(hX:IsDec X tT):zOf (strOfNums X)=tT:=aek hX (by have:=afh hX;omega)
theorem ait{w:World}(hT:Tabs w){v:Value}(hv:Strs w v vxy){cs:List Nat}(ha:Asc cs)(hl:cs.length<=1000){l:List Tk}(hS:ScanA 0 cs (.ok l)){k:Nat}{rs:List Rat}(hE:EqR l vxy 40 0 (List.replicate 3 0) true k rs)(hrl:rs.length=3)(hC:∀k,k<=rs.length->((comR (rs.take k)).natAbs:Int)<pw 80)(hD:∀z∈clr rs,(z.natAbs:Int)<pw 80):
  Calls Tryz.prog 30 #[.string (bts (encs cs)),v] w fun r w'=>Below w.heap.size w w'/\(((∀z∈canonZ rs,(z.natAbs:Int)<pw 32)/\∃x,r=.returned (.tuple #[x,.int .i64 0,.agg #[.int .i64 0,.int .i64 0,.int .i64 0,.int .i64 0]]))\/((∃z∈canonZ rs,¬(z.natAbs:Int)<pw 32)/\r=.returned (.tuple #[.slice none 0 0,.int .i64 2,.agg #[.int .i64 0,.int .i64 0,.int .i64 0,.int .i64 0]]))):=by
 have hd:(bts (encs cs)).data.toList=encs cs:=by simp[bts]
 have hQ:=ag4 (bts (encs cs)) _ ha.cod [] [] pl0 rfl (by rw[hd];simp) (.inl rfl);have hR:=aip (bts (encs cs)) pl0 _ _ hS [] rfl (by rw[hd];rfl);have hz:(bts (encs cs)).size=(encs cs).length:=by simp[bts,ByteArray.size]
 have h1:=amu cs;refine(afl w hT _ (by omega) v vxy hv ais _ _ _ hQ hR 40 80 (by decide) (by decide) (by decide) k rs hE hrl hC hD (by simp[vxy])).mono ?_;rintro r w' ⟨hb,⟨h2,x,h3,_⟩|h⟩
 ·exact⟨hb,.inl ⟨h2,x,h3⟩⟩
 ·exact⟨hb,.inr h⟩
def rL(c:Rat):List Rat:=((List.replicate 3 (0:Rat)).set 0 (0+sgq false c)).set 2 (0+sgq true (-((tT:Int):Rat)))
theorem ak3{c:Rat}(h0:((comR ((rL c).take 0)).natAbs:Int)<pw 80)(h1:((comR ((rL c).take 1)).natAbs:Int)<pw 80)(h2:((comR ((rL c).take 2)).natAbs:Int)<pw 80)(h3:((comR ((rL c).take 3)).natAbs:Int)<pw 80):∀k,k<=(rL c).length->((comR ((rL c).take k)).natAbs:Int)<pw 80:=by
 intro k hk;have hk':k<=3:=hk
 match k,hk' with
 |0,_=>exact h0
 |1,_=>exact h1
 |2,_=>exact h2
 |3,_=>exact h3
def lp(n d:Nat)(X:List Int):List Nat:=n::47::d::120::32::61::32::dcs X
theorem arc{n d:Nat}(hn:49<=n/\n<=57)(hd:49<=d/\d<=57)(hX:IsDec X tT):Asc (lp n d X):=by
 intro c hc;simp only[lp,List.mem_cons]at hc;rcases hc with rfl|rfl|rfl|rfl|rfl|rfl|rfl|hc;all_goals try omega
 exact adw hX.1 c hc
def lpt(n d:Int)(X:List Int):List Tk:=[⟨2,strOfNums [n],pla 0⟩,⟨3,⟨#[47]⟩,pla 1⟩,⟨2,strOfNums [d],pla 2⟩,⟨1,⟨#[120]⟩,pla 3⟩,⟨3,⟨#[61]⟩,pla 5⟩,⟨2,strOfNums X,pla 7⟩,⟨0,⟨#[]⟩,pla (7+X.length)⟩]
theorem amv{n d:Nat}(hn:49<=n/\n<=57)(hd:49<=d/\d<=57)(hX:IsDec X tT):ScanA 0 (lp n d X) (.ok (lpt n d X)):=by
 have dn:=adb (n:Int) (by omega);have dd:=adb (d:Int) (by omega);have h6:=num1 (n:=6) (r:=[]) hX ak2 (by decide) abv (end0 _);rw[List.append_nil]at h6;have h5:=sgn1 (n:=4) (c:=61) (by decide) (by decide) (by decide) h6;have h4:=nam0 (n:=3) (c:=120) (by decide) (by decide) (aao (c:=32) (by decide)) h5;have s3:∀(c:Nat) (r:List Nat),inK [3] c=false->Stop [3] (c::r):=fun c r h=>aao h
 have h3:=num0 (n:=2) dd.1 dd.2 (by decide) (s3 120 _ (by decide)) h4;have h2:=sgn0 (n:=1) (c:=47) (by decide) (by decide) (by decide) h3;exact num0 (n:=0) dn.1 dn.2 (by decide) (s3 47 _ (by decide)) h2
theorem att{n d:Int}(hn:49<=n/\n<=57)(hd:49<=d/\d<=57)(hX:IsDec X tT)(hf:Fit (Rat.divInt (n-48) (d-48)) 40):EqR (lpt n d X) vxy 40 0 (List.replicate 3 0) true 6 (rL (Rat.divInt (n-48) (d-48))):=by
 have zn:=aek (adb n hn).1 (by simp);have zd:=aek (adb d hd).1 (by simp);have hc:CoefR (lpt n d X) 0 true 3 (Rat.divInt (n-48) (d-48)):=by
  have:=CoefR.over (l:=lpt n d X) (i:=0) ⟨2,strOfNums [n],pla 0⟩ ⟨3,⟨#[47]⟩,pla 1⟩ ⟨2,strOfNums [d],pla 2⟩ rfl rfl (by kernel_rfl) rfl (by rw[zd];omega);rw[zn,zd]at this;exact this
 have hft:Fit ((tT:Int):Rat) 40:=agl (by decide +kernel) (by decide);refine .good 4 ((List.replicate 3 (0:Rat)).set 0 (0+sgq false (Rat.divInt (n-48) (d-48)))) ⟨3,⟨#[61]⟩,pla 5⟩ ⟨⟨2,strOfNums [n],pla 0⟩,rfl,?_⟩ rfl (by kernel_rfl) 6 _ ⟨⟨2,strOfNums X,pla 7⟩,rfl,?_⟩ ⟨0,⟨#[]⟩,pla (7+X.length)⟩ rfl rfl
 ·rw[show tsg (⟨2,strOfNums [n],pla 0⟩:Tk) sMinus=false by kernel_rfl,show tpm (⟨2,strOfNums [n],pla 0⟩:Tk)=false by kernel_rfl];refine .last false 0 4 _ _ (.next _ rfl rfl 3 _ hc hf _ rfl (by kernel_rfl) rfl true 4 _ (.yes _ 0 0 rfl (by kernel_rfl) rfl hf ?_)) ⟨3,⟨#[61]⟩,pla 5⟩ rfl (by kernel_rfl);show Fit (0+Rat.divInt (n-48) (d-48)) 40;rw[Rat.zero_add];exact hf
 ·rw[show tsg (⟨2,strOfNums X,pla 7⟩:Tk) sMinus=false by kernel_rfl,show tpm (⟨2,strOfNums X,pla 7⟩:Tk)=false by kernel_rfl];refine .last false 5 6 _ _ (.alone _ rfl rfl 6 _ (abo rfl rfl (by kernel_rfl) (zX hX)) hft _ rfl (by kernel_rfl) (by simp) 0 rfl ?_) ⟨0,⟨#[]⟩,pla (7+X.length)⟩ rfl (by kernel_rfl);show Fit (0+-(-((tT:Int):Rat))) 40;rw[Rat.zero_add];exact ads (ads hft)
theorem ak4{w:World}(hT:Tabs w){v:Value}(hv:Strs w v vxy)(hX:IsDec X tT){n d:Nat}(h:(n=50/\d=53)\/(n=49/\d=51)):
  Calls Tryz.prog 30 #[.string (bts (encs (lp n d X))),v] w fun r w'=>Below w.heap.size w w'/\r=.returned (.tuple #[.slice none 0 0,.int .i64 2,.agg #[.int .i64 0,.int .i64 0,.int .i64 0,.int .i64 0]]):=by
 have hn:49<=n/\n<=57:=by omega
 have hd:49<=d/\d<=57:=by omega
 have hs:=afh hX;have hl:(lp n d X).length<=1000:=by simp only[lp,dcs,List.length_cons,List.length_map];omega
 rcases h with⟨rfl,rfl⟩|⟨rfl,rfl⟩
 ·refine(ait hT hv (arc hn hd hX) hl (amv hn hd hX) (att (n:=50) (d:=53) (by decide) (by decide) hX (by constructor <;> decide +kernel)) rfl (ak3 (by decide +kernel) (by decide +kernel) (by decide +kernel) (by decide +kernel)) (by decide +kernel)).mono ?_;rintro r w' ⟨hb,⟨h1,_⟩|⟨_,h1⟩⟩
  ·exact absurd h1 (by decide +kernel)
  ·exact⟨hb,h1⟩
 ·refine(ait hT hv (arc hn hd hX) hl (amv hn hd hX) (att (n:=49) (d:=51) (by decide) (by decide) hX (by constructor <;> decide +kernel)) rfl (ak3 (by decide +kernel) (by decide +kernel) (by decide +kernel) (by decide +kernel)) (by decide +kernel)).mono ?_;rintro r w' ⟨hb,⟨h1,_⟩|⟨_,h1⟩⟩
  ·exact absurd h1 (by decide +kernel)
  ·exact⟨hb,h1⟩
def lq(X:List Int):List Nat:=120::32::61::32::dcs X
theorem ard{w:World}(hT:Tabs w){v:Value}(hv:Strs w v vxy)(hX:IsDec X tT):
  Calls Tryz.prog 30 #[.string (bts (encs (lq X))),v] w fun r w'=>Below w.heap.size w w'/\∃x,r=.returned (.tuple #[x,.int .i64 0,.agg #[.int .i64 0,.int .i64 0,.int .i64 0,.int .i64 0]]):=by
 have hs:=afh hX;have ha:Asc (lq X):=by
  intro c hc;simp only[lq,List.mem_cons]at hc;rcases hc with rfl|rfl|rfl|rfl|hc;all_goals try omega
  exact adw hX.1 c hc
 have hft:Fit ((tT:Int):Rat) 40:=agl (by decide +kernel) (by decide);have h4:=num1 (n:=3) (r:=[]) hX ak2 (by decide) abv (end0 _);rw[List.append_nil]at h4;have h5:=sgn1 (n:=1) (c:=61) (by decide) (by decide) (by decide) h4;have hS:ScanA 0 (lq X) (.ok [⟨1,⟨#[120]⟩,pla 0⟩,⟨3,⟨#[61]⟩,pla 2⟩,⟨2,strOfNums X,pla 4⟩,⟨0,⟨#[]⟩,pla (4+X.length)⟩]):=nam0 (n:=0) (c:=120) (by decide) (by decide) (aao (c:=32) (by decide)) h5;have hE:EqR [⟨1,⟨#[120]⟩,pla 0⟩,⟨3,⟨#[61]⟩,pla 2⟩,⟨2,strOfNums X,pla 4⟩,⟨0,⟨#[]⟩,pla (4+X.length)⟩] vxy 40 0 (List.replicate 3 0) true 3 (rL 1):=by
  refine .good 1 ((List.replicate 3 (0:Rat)).set 0 (0+sgq false 1)) ⟨3,⟨#[61]⟩,pla 2⟩ ⟨⟨1,⟨#[120]⟩,pla 0⟩,rfl,?_⟩ rfl (by kernel_rfl) 3 _ ⟨⟨2,strOfNums X,pla 4⟩,rfl,?_⟩ ⟨0,⟨#[]⟩,pla (4+X.length)⟩ rfl rfl
  ·rw[show tsg (⟨1,⟨#[120]⟩,pla 0⟩:Tk) sMinus=false by kernel_rfl,show tpm (⟨1,⟨#[120]⟩,pla 0⟩:Tk)=false by kernel_rfl];exact .last false 0 1 _ _ (.name _ rfl rfl true 1 _ (.yes _ 0 0 rfl (by kernel_rfl) rfl (acy (by decide)) (by constructor <;> decide +kernel))) ⟨3,⟨#[61]⟩,pla 2⟩ rfl (by kernel_rfl)
  ·rw[show tsg (⟨2,strOfNums X,pla 4⟩:Tk) sMinus=false by kernel_rfl,show tpm (⟨2,strOfNums X,pla 4⟩:Tk)=false by kernel_rfl];refine .last false 2 3 _ _ (.alone _ rfl rfl 3 _ (abo rfl rfl (by kernel_rfl) (zX hX)) hft _ rfl (by kernel_rfl) (by simp) 0 rfl ?_) ⟨0,⟨#[]⟩,pla (4+X.length)⟩ rfl (by kernel_rfl);show Fit (0+-(-((tT:Int):Rat))) 40;rw[Rat.zero_add];exact ads (ads hft)
 refine(ait hT hv ha (by simp only[lq,dcs,List.length_cons,List.length_map];omega) hS hE rfl (ak3 (by decide +kernel) (by decide +kernel) (by decide +kernel) (by decide +kernel)) (by decide +kernel)).mono ?_;rintro r w' ⟨hb,⟨_,h1⟩|⟨h1,_⟩⟩
 ·exact⟨hb,h1⟩
 ·exact absurd h1 (by decide +kernel)
end Lm
namespace Lm
open Go Go.RowKit
theorem aol(n:Int):bits .and .i64 n 4611686018427387903=n%4611686018427387904:=by
 have h63:(BitVec.ofInt 64 4611686018427387903).toNat=2 ^ 62-1:=by decide
 have key:(BitVec.ofInt 64 n &&& BitVec.ofInt 64 4611686018427387903).toNat=(n%((2 ^ 64:Nat):Int)).toNat%2 ^ 62:=by
  rw[BitVec.toNat_and,BitVec.toNat_ofInt,h63,Nat.and_two_pow_sub_one_eq_mod]
 show IntKind.i64.wrap ((BitVec.ofInt 64 n &&& BitVec.ofInt 64 4611686018427387903).toNat:Nat)=n%4611686018427387904;rw[key,IntKind.wrap_i64];omega
theorem arf(v:Int)(m:Nat)(hm:m≠0):∃V:Nat,(bits .and .i64 v 4611686018427387903).tmod (m:Int)=(V:Int)/\V<m:=by
 rw[aol];obtain⟨u,hu⟩:∃u:Nat,v%4611686018427387904=(u:Int):=⟨(v%4611686018427387904).toNat,by omega⟩;rw[hu];exact⟨u%m,by rw[Int.ofNat_tmod],Nat.mod_lt _ (by omega)⟩
end Lm
end Go.Proofs.YtooefpkhacecnaaGreatDoor
