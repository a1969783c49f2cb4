/-
  The given statement on GuardValues, for every input: the call answers true, and each argument reads behind it as it read before; and its card. Its condition: the two tables of unicode/utf8 are laid as the row lists them; the card ties that to the program's text. Beside it: A minus ahead of a text: whole.splitMinus. The number that a text says: whole.Parse; the document's Number and Parse. Package lang: a variable, an atom, a unary, read. Package lang: an atom, read. Package lang: a unary, a chain, a product, a sum, read. Package lang: a chain of parts with signs between, read. Package lang: an expression, read. Package lang: the end of a text; an expression alone. Package lang: what is thrown is caught. The reader of equations: a side, and the whole. What the tokens of a text are like. Package lang: a text is read as an expression. Package lang: an expression is read. Package lang: ReadExpr. Package lang: a number's own number, trimmed. Package guard: the form of an expression. Package guard: how many tokens an expression takes; whether an expression has a form. Package guard: Affine. Package lang: a number that is wide enough is refused. Package lang: what a sign makes of two numbers. Package lang: the value of an expression at a state. Package lang: the value of an operation: its steps, each of which may throw. Package lang: the value of any expression. Package lang: the value of an expression, caught. Package lang: ValueOf. Package lang: Value of a text that is an expression, at a state that fits. Package guard: a form as a row; its value at a state. What every program answers that is one: package affine. What Scan answers of a text, by its codes, with the places. No program is named here. Names, numbers and texts at their limits: what Scan and Name answer. Numbers written in a text: the token that they make, and what it is worth. No program is named here. A text of plain codes, token by token. No program is named here. Package guard: a form as a canonical row; what the two texts of the first question come to. Package guard: what the two texts of the first question come to. Package guard: the first question. GuardValues: where an expression has a form its value, if there is one, is the form's. GuardValues: where an expression has a form its value, if there is one, is the form's. A row of texts that is handed in: what it reads as.
-/
import Derived.Defers
import Derived.Recover
import Derived.Deep.DeepCutAuto
import Derived.Deep.RegionLaw
import Derived.Test.YtgclhjjmleiggaaGreatDoorRows
import Derived.SliceStrings
import Derived.OpenShut
import Derived.Test.YtgclhjjmleiggaaGreatDoorCards
import Derived.Test.YtgclhjjmleiggaaGreatDoorTie
import Derived.ProofKit
import Derived.ShutString
import Derived.ChangeOld
import Derived.SizedLaws
import Derived.Lib.SmallJoins
import Derived.Lib.LaidU8
import Derived.Lib.LaidIn
import Derived.Deep.DeepHandedRow
import Derived.JoinedCond
import Derived.Test.YtgclhjjmleiggaaGreatDoorLH5LawZ3
namespace Go.Proofs.YtgclhjjmleiggaaGreatDoor
namespace Lm
open Go Go.RowKit
section
variable {dst:Option Tmp} {ty:TypeId} {pos:String} {after:Array Edge} {guard:Option (Nat × Bool)} {a:Act} {w:World} {ats:Array TypeId} {i j:Nat}
theorem anm:Has Tryz.prog 66:=by unfold Has;kernel_rfl
theorem ae2 {s:ByteArray} {R:Int} {K:Nat} (h:a.eval (.tmp i)=.string s) (hT:Tabs w) (hd:(((Lib.decodeGo s).1:Nat):Int)=R∧(Lib.decodeGo s).2=K) :
  Does Tryz.prog { dst,op:=.call { callee:=.value (.func 66),args:=#[.tmp i],argTypes:=ats },type:=ty,pos,after,guard } a.eval w fun v w'=>Below w.heap.size w w'∧Tup2 (Eqs (.int .i32 R)) (Eqs (.int .i64 (K:Int))) v w' := by
 refine aa0 anm _ (by simp only [List.map_toArray,List.map_cons,List.map_nil,h]) ((agi w s hT).mono ?_)
 rintro e w' ⟨rfl,hb⟩
 obtain ⟨rfl,rfl⟩:=hd
 exact ⟨_,rfl,hb,_,_,rfl,rfl,rfl⟩
end
set_option maxRecDepth 20000 in
set_option maxHeartbeats 1000000 in
theorem au2 (w:World) (s:ByteArray) (hT:Tabs w) :
  Calls Tryz.prog 90 #[.string s] w fun e w'=>e=.returned (.tuple #[.bool (msplit s).1,.string (msplit s).2])∧Below w.heap.size w w' := by
 rcases akw s with ⟨⟨hd0,h3⟩,hm⟩ | ⟨⟨hd0,h3⟩,hm⟩ | ⟨⟨hn1',hn2',_,_⟩,hm⟩
 ·skip
  go_enter Tryz.func90,Tryz.ntmps90
  generalize hA:(Act.mk _ _)=aa
  have hn:aa.tmps.size=19:=by rw [←hA];rfl
  have hd:aa.defers = []:=by rw [←hA]
  have f0:aa.eval (.tmp 0)=.string s:=by rw [←hA];rfl
  clear hA
  have HB:Below w.heap.size w w:=Below.refl _ _
  refine wp_seq ?_
  refine aak [some 2,some 3] [Eqs ((.bool false)),Eqs ((.string ⟨#[]⟩))] [] [] (by kernel_rfl) hn rfl (by kernel_rfl) (by kernel_rfl) (by kernel_rfl) (by kernel_rfl) (by kernel_rfl) (by kernel_rfl) ⟨Eqs.mono4 _,Eqs.mono4 _,trivial⟩ aap (IsOld.all (bx:=[]) trivial) (DisOld.all (bx:=[]) trivial) ?_ ?_
  ·exact ⟨.norm 2 rfl rfl rfl (fun a_ w_ hn_ hBt hr hR hD hO hS=>aac rfl),
    .norm 3 rfl rfl rfl (fun a_ w_ hn_ hBt hr hR hD hO hS=>aac rfl),
    trivial⟩
  intro a1 w1 gs1 hn1 hd1 hBt hr hR hP hX hU
  replace hn:=hn1;replace hd:=hd1.trans hd
  replace f0:=(hR 0 rfl).trans f0
  have e2:a1.eval (.tmp 2)=(.bool false):=hP 0 (by decide)
  have f2:=e2
  have e3:a1.eval (.tmp 3)=(.string ⟨#[]⟩):=hP 1 (by decide)
  have f3:=e3
  replace HB:=HB.trans (hBt.below HB.size (UpOld.all (bx:=[]) trivial))
  clear hBt hr hR hP hX hU
  refine wp_seq ?_
  refine aak [some 7,some 8,some 6,some 9,some 10,some 4,some 5] [Eqs (.string s),Tup2 (Eqs (.int .i32 8722)) (Eqs (.int .i64 (3:Int))),Tup2 (Eqs (.int .i32 8722)) (Eqs (.int .i64 (3:Int))),Eqs (.int .i32 8722),Eqs (.int .i64 (3:Int)),Eqs (.int .i32 8722),Eqs (.int .i64 (3:Int))] [] [] (by kernel_rfl) hn rfl (by kernel_rfl) (by kernel_rfl) (by kernel_rfl) (by kernel_rfl) (by kernel_rfl) (by kernel_rfl) ⟨Eqs.mono4 _,Tup2.mono4 (Eqs.mono4 _) (Eqs.mono4 _),Tup2.mono4 (Eqs.mono4 _) (Eqs.mono4 _),Eqs.mono4 _,Eqs.mono4 _,Eqs.mono4 _,Eqs.mono4 _,trivial⟩ aap (IsOld.all (bx:=[]) trivial) (DisOld.all (bx:=[]) trivial) ?_ ?_
  ·exact ⟨.norm 7 rfl rfl rfl (fun a_ w_ hn_ hBt hr hR hD hO hS=>aaj ((hR 0 rfl).trans f0)),
    .norm 8 rfl rfl rfl (fun a_ w_ hn_ hBt hr hR hD hO hS=>ae2 (show a_.eval (.tmp 7)=.string s from hD 0 rfl) (hT.below (HB.trans (hBt.below HB.size (UpOld.all (bx:=[]) trivial)))) ⟨by rw [hd0];rfl,by rw [hd0]⟩),
    .norm 6 rfl rfl rfl (fun a_ w_ hn_ hBt hr hR hD hO hS=>adw (p:=Tup2 (Eqs (.int .i32 8722)) (Eqs (.int .i64 (3:Int)))) (show Tup2 (Eqs (.int .i32 8722)) (Eqs (.int .i64 (3:Int))) (a_.eval (.tmp 8)) w_ from hD 1 rfl)),
    .norm 9 rfl rfl rfl (fun a_ w_ hn_ hBt hr hR hD hO hS=>adx (show Tup2 (Eqs (.int .i32 8722)) (Eqs (.int .i64 (3:Int))) (a_.eval (.tmp 6)) w_ from hD 2 rfl)),
    .norm 10 rfl rfl rfl (fun a_ w_ hn_ hBt hr hR hD hO hS=>ady (show Tup2 (Eqs (.int .i32 8722)) (Eqs (.int .i64 (3:Int))) (a_.eval (.tmp 6)) w_ from hD 2 rfl)),
    .norm 4 rfl rfl rfl (fun a_ w_ hn_ hBt hr hR hD hO hS=>aac (show a_.eval (.tmp 9)=.int .i32 8722 from hD 3 rfl)),
    .norm 5 rfl rfl rfl (fun a_ w_ hn_ hBt hr hR hD hO hS=>aac (show a_.eval (.tmp 10)=.int .i64 (3:Int) from hD 4 rfl)),
    trivial⟩
  intro a2 w2 gs2 hn2 hd2 hBt hr hR hP hX hU
  replace hn:=hn2;replace hd:=hd2.trans hd
  replace f0:=(hR 0 rfl).trans f0
  replace f2:=(hR 2 rfl).trans f2
  replace f3:=(hR 3 rfl).trans f3
  have e4:a2.eval (.tmp 4)=.int .i32 8722:=hP 5 (by decide)
  have f4:=e4
  have e5:a2.eval (.tmp 5)=.int .i64 (3:Int):=hP 6 (by decide)
  have f5:=e5
  replace HB:=HB.trans (hBt.below HB.size (UpOld.all (bx:=[]) trivial))
  clear hBt hr hR hP hX hU
  refine wp_seq ?_
  refine wp_seq ?_
  refine aak [some 11] [Eqs (.int .i32 8722)] [] [] (by kernel_rfl) hn rfl (by kernel_rfl) (by kernel_rfl) (by kernel_rfl) (by kernel_rfl) (by kernel_rfl) (by kernel_rfl) ⟨Eqs.mono4 _,trivial⟩ aap (IsOld.all (bx:=[]) trivial) (DisOld.all (bx:=[]) trivial) ?_ ?_
  ·exact ⟨.norm 11 rfl rfl rfl (fun a_ w_ hn_ hBt hr hR hD hO hS=>aaj ((hR 4 rfl).trans f4)),
    trivial⟩
  intro a3 w3 gs3 hn3 hd3 hBt hr hR hP hX hU
  replace hn:=hn3;replace hd:=hd3.trans hd
  replace f0:=(hR 0 rfl).trans f0
  replace f2:=(hR 2 rfl).trans f2
  replace f3:=(hR 3 rfl).trans f3
  replace f5:=(hR 5 rfl).trans f5
  have e11:a3.eval (.tmp 11)=.int .i32 8722:=hP 0 (by decide)
  have f11:=e11
  replace HB:=HB.trans (hBt.below HB.size (UpOld.all (bx:=[]) trivial))
  clear hBt hr hR hP hX hU
  refine wp_block ?_
  refine wp_seq ?_
  refine wp_seq ?_
  refine aak [some 13,some 12] [Eqs (.bool false),Eqs (.bool false)] [] [] (by kernel_rfl) hn rfl (by kernel_rfl) (by kernel_rfl) (by kernel_rfl) (by kernel_rfl) (by kernel_rfl) (by kernel_rfl) ⟨Eqs.mono4 _,Eqs.mono4 _,trivial⟩ aap (IsOld.all (bx:=[]) trivial) (DisOld.all (bx:=[]) trivial) ?_ ?_
  ·exact ⟨.norm 13 rfl rfl rfl (fun a_ w_ hn_ hBt hr hR hD hO hS=>ae1 ((hR 11 rfl).trans f11) (by decide)),
    .norm 12 rfl rfl rfl (fun a_ w_ hn_ hBt hr hR hD hO hS=>aac (show a_.eval (.tmp 13)=.bool false from hD 0 rfl)),
    trivial⟩
  intro a4 w4 gs4 hn4 hd4 hBt hr hR hP hX hU
  replace hn:=hn4;replace hd:=hd4.trans hd
  replace f0:=(hR 0 rfl).trans f0
  replace f2:=(hR 2 rfl).trans f2
  replace f3:=(hR 3 rfl).trans f3
  replace f5:=(hR 5 rfl).trans f5
  replace f11:=(hR 11 rfl).trans f11
  have e12:a4.eval (.tmp 12)=.bool false:=hP 1 (by decide)
  have f12:=e12
  replace HB:=HB.trans (hBt.below HB.size (UpOld.all (bx:=[]) trivial))
  clear hBt hr hR hP hX hU
  refine wp_cond_false f12 ?_
  refine aak [some 14,some 12] [Eqs (.bool true),Eqs (.bool true)] [] [] (by kernel_rfl) hn rfl (by kernel_rfl) (by kernel_rfl) (by kernel_rfl) (by kernel_rfl) (by kernel_rfl) (by kernel_rfl) ⟨Eqs.mono4 _,Eqs.mono4 _,trivial⟩ aap (IsOld.all (bx:=[]) trivial) (DisOld.all (bx:=[]) trivial) ?_ ?_
  ·exact ⟨.norm 14 rfl rfl rfl (fun a_ w_ hn_ hBt hr hR hD hO hS=>aho ((hR 11 rfl).trans f11) rfl),
    .norm 12 rfl rfl rfl (fun a_ w_ hn_ hBt hr hR hD hO hS=>aac (show a_.eval (.tmp 14)=.bool true from hD 0 rfl)),
    trivial⟩
  intro a5 w5 gs5 hn5 hd5 hBt hr hR hP hX hU
  replace hn:=hn5;replace hd:=hd5.trans hd
  replace f0:=(hR 0 rfl).trans f0
  replace f2:=(hR 2 rfl).trans f2
  replace f3:=(hR 3 rfl).trans f3
  replace f5:=(hR 5 rfl).trans f5
  have e12:a5.eval (.tmp 12)=.bool true:=hP 1 (by decide)
  have f12:=e12
  replace HB:=HB.trans (hBt.below HB.size (UpOld.all (bx:=[]) trivial))
  clear hBt hr hR hP hX hU
  refine wp_cond_true f12 ?_
  refine wp_seq ?_
  refine aak [some 15,some 16,some 17,some 2,some 3] [Eqs (.string s),Eqs (.int .i64 (3:Int)),Eqs (.string ((s).extract 3 (s).size)),Eqs ((.bool true)),Eqs (.string ((s).extract 3 (s).size))] [] [] (by kernel_rfl) hn rfl (by kernel_rfl) (by kernel_rfl) (by kernel_rfl) (by kernel_rfl) (by kernel_rfl) (by kernel_rfl) ⟨Eqs.mono4 _,Eqs.mono4 _,Eqs.mono4 _,Eqs.mono4 _,Eqs.mono4 _,trivial⟩ aap (IsOld.all (bx:=[]) trivial) (DisOld.all (bx:=[]) trivial) ?_ ?_
  ·exact ⟨.norm 15 rfl rfl rfl (fun a_ w_ hn_ hBt hr hR hD hO hS=>aaj ((hR 0 rfl).trans f0)),
    .norm 16 rfl rfl rfl (fun a_ w_ hn_ hBt hr hR hD hO hS=>aaj ((hR 5 rfl).trans f5)),
    .norm 17 rfl rfl rfl (fun a_ w_ hn_ hBt hr hR hD hO hS=>aly (k:=3) (show a_.eval (.tmp 15)=.string s from hD 0 rfl) (show a_.eval (.tmp 16)=.int .i64 (3:Int) from hD 1 rfl) (by omega)),
    .norm 2 rfl rfl rfl (fun a_ w_ hn_ hBt hr hR hD hO hS=>aac rfl),
    .norm 3 rfl rfl rfl (fun a_ w_ hn_ hBt hr hR hD hO hS=>aac (show a_.eval (.tmp 17)=.string ((s).extract 3 (s).size) from hD 2 rfl)),
    trivial⟩
  intro a6 w6 gs6 hn6 hd6 hBt hr hR hP hX hU
  replace hn:=hn6;replace hd:=hd6.trans hd
  replace f0:=(hR 0 rfl).trans f0
  have e2:a6.eval (.tmp 2)=(.bool true):=hP 3 (by decide)
  have f2:=e2
  have e3:a6.eval (.tmp 3)=.string ((s).extract 3 (s).size):=hP 4 (by decide)
  have f3:=e3
  replace HB:=HB.trans (hBt.below HB.size (UpOld.all (bx:=[]) trivial))
  clear hBt hr hR hP hX hU
  refine wp_ret ?_
  repeat (first | refine ab9 ?_ | refine abx ?_ | refine abw ?_)
  exact bodyPost_ret (v:=.tuple #[.bool true,.string ((s).extract 3 (s).size)]) (ag1 rfl f2 f3) hd ⟨by rw [hm],HB⟩
 ·skip
  go_enter Tryz.func90,Tryz.ntmps90
  generalize hA:(Act.mk _ _)=aa
  have hn:aa.tmps.size=19:=by rw [←hA];rfl
  have hd:aa.defers = []:=by rw [←hA]
  have f0:aa.eval (.tmp 0)=.string s:=by rw [←hA];rfl
  clear hA
  have HB:Below w.heap.size w w:=Below.refl _ _
  refine wp_seq ?_
  refine aak [some 2,some 3] [Eqs ((.bool false)),Eqs ((.string ⟨#[]⟩))] [] [] (by kernel_rfl) hn rfl (by kernel_rfl) (by kernel_rfl) (by kernel_rfl) (by kernel_rfl) (by kernel_rfl) (by kernel_rfl) ⟨Eqs.mono4 _,Eqs.mono4 _,trivial⟩ aap (IsOld.all (bx:=[]) trivial) (DisOld.all (bx:=[]) trivial) ?_ ?_
  ·exact ⟨.norm 2 rfl rfl rfl (fun a_ w_ hn_ hBt hr hR hD hO hS=>aac rfl),
    .norm 3 rfl rfl rfl (fun a_ w_ hn_ hBt hr hR hD hO hS=>aac rfl),
    trivial⟩
  intro a1 w1 gs1 hn1 hd1 hBt hr hR hP hX hU
  replace hn:=hn1;replace hd:=hd1.trans hd
  replace f0:=(hR 0 rfl).trans f0
  have e2:a1.eval (.tmp 2)=(.bool false):=hP 0 (by decide)
  have f2:=e2
  have e3:a1.eval (.tmp 3)=(.string ⟨#[]⟩):=hP 1 (by decide)
  have f3:=e3
  replace HB:=HB.trans (hBt.below HB.size (UpOld.all (bx:=[]) trivial))
  clear hBt hr hR hP hX hU
  refine wp_seq ?_
  refine aak [some 7,some 8,some 6,some 9,some 10,some 4,some 5] [Eqs (.string s),Tup2 (Eqs (.int .i32 45)) (Eqs (.int .i64 (1:Int))),Tup2 (Eqs (.int .i32 45)) (Eqs (.int .i64 (1:Int))),Eqs (.int .i32 45),Eqs (.int .i64 (1:Int)),Eqs (.int .i32 45),Eqs (.int .i64 (1:Int))] [] [] (by kernel_rfl) hn rfl (by kernel_rfl) (by kernel_rfl) (by kernel_rfl) (by kernel_rfl) (by kernel_rfl) (by kernel_rfl) ⟨Eqs.mono4 _,Tup2.mono4 (Eqs.mono4 _) (Eqs.mono4 _),Tup2.mono4 (Eqs.mono4 _) (Eqs.mono4 _),Eqs.mono4 _,Eqs.mono4 _,Eqs.mono4 _,Eqs.mono4 _,trivial⟩ aap (IsOld.all (bx:=[]) trivial) (DisOld.all (bx:=[]) trivial) ?_ ?_
  ·exact ⟨.norm 7 rfl rfl rfl (fun a_ w_ hn_ hBt hr hR hD hO hS=>aaj ((hR 0 rfl).trans f0)),
    .norm 8 rfl rfl rfl (fun a_ w_ hn_ hBt hr hR hD hO hS=>ae2 (show a_.eval (.tmp 7)=.string s from hD 0 rfl) (hT.below (HB.trans (hBt.below HB.size (UpOld.all (bx:=[]) trivial)))) ⟨by rw [hd0];rfl,by rw [hd0]⟩),
    .norm 6 rfl rfl rfl (fun a_ w_ hn_ hBt hr hR hD hO hS=>adw (p:=Tup2 (Eqs (.int .i32 45)) (Eqs (.int .i64 (1:Int)))) (show Tup2 (Eqs (.int .i32 45)) (Eqs (.int .i64 (1:Int))) (a_.eval (.tmp 8)) w_ from hD 1 rfl)),
    .norm 9 rfl rfl rfl (fun a_ w_ hn_ hBt hr hR hD hO hS=>adx (show Tup2 (Eqs (.int .i32 45)) (Eqs (.int .i64 (1:Int))) (a_.eval (.tmp 6)) w_ from hD 2 rfl)),
    .norm 10 rfl rfl rfl (fun a_ w_ hn_ hBt hr hR hD hO hS=>ady (show Tup2 (Eqs (.int .i32 45)) (Eqs (.int .i64 (1:Int))) (a_.eval (.tmp 6)) w_ from hD 2 rfl)),
    .norm 4 rfl rfl rfl (fun a_ w_ hn_ hBt hr hR hD hO hS=>aac (show a_.eval (.tmp 9)=.int .i32 45 from hD 3 rfl)),
    .norm 5 rfl rfl rfl (fun a_ w_ hn_ hBt hr hR hD hO hS=>aac (show a_.eval (.tmp 10)=.int .i64 (1:Int) from hD 4 rfl)),
    trivial⟩
  intro a2 w2 gs2 hn2 hd2 hBt hr hR hP hX hU
  replace hn:=hn2;replace hd:=hd2.trans hd
  replace f0:=(hR 0 rfl).trans f0
  replace f2:=(hR 2 rfl).trans f2
  replace f3:=(hR 3 rfl).trans f3
  have e4:a2.eval (.tmp 4)=.int .i32 45:=hP 5 (by decide)
  have f4:=e4
  have e5:a2.eval (.tmp 5)=.int .i64 (1:Int):=hP 6 (by decide)
  have f5:=e5
  replace HB:=HB.trans (hBt.below HB.size (UpOld.all (bx:=[]) trivial))
  clear hBt hr hR hP hX hU
  refine wp_seq ?_
  refine wp_seq ?_
  refine aak [some 11] [Eqs (.int .i32 45)] [] [] (by kernel_rfl) hn rfl (by kernel_rfl) (by kernel_rfl) (by kernel_rfl) (by kernel_rfl) (by kernel_rfl) (by kernel_rfl) ⟨Eqs.mono4 _,trivial⟩ aap (IsOld.all (bx:=[]) trivial) (DisOld.all (bx:=[]) trivial) ?_ ?_
  ·exact ⟨.norm 11 rfl rfl rfl (fun a_ w_ hn_ hBt hr hR hD hO hS=>aaj ((hR 4 rfl).trans f4)),
    trivial⟩
  intro a3 w3 gs3 hn3 hd3 hBt hr hR hP hX hU
  replace hn:=hn3;replace hd:=hd3.trans hd
  replace f0:=(hR 0 rfl).trans f0
  replace f2:=(hR 2 rfl).trans f2
  replace f3:=(hR 3 rfl).trans f3
  replace f5:=(hR 5 rfl).trans f5
  have e11:a3.eval (.tmp 11)=.int .i32 45:=hP 0 (by decide)
  have f11:=e11
  replace HB:=HB.trans (hBt.below HB.size (UpOld.all (bx:=[]) trivial))
  clear hBt hr hR hP hX hU
  refine wp_block ?_
  refine wp_seq ?_
  refine wp_seq ?_
  refine aak [some 13,some 12] [Eqs (.bool true),Eqs (.bool true)] [] [] (by kernel_rfl) hn rfl (by kernel_rfl) (by kernel_rfl) (by kernel_rfl) (by kernel_rfl) (by kernel_rfl) (by kernel_rfl) ⟨Eqs.mono4 _,Eqs.mono4 _,trivial⟩ aap (IsOld.all (bx:=[]) trivial) (DisOld.all (bx:=[]) trivial) ?_ ?_
  ·exact ⟨.norm 13 rfl rfl rfl (fun a_ w_ hn_ hBt hr hR hD hO hS=>aho ((hR 11 rfl).trans f11) rfl),
    .norm 12 rfl rfl rfl (fun a_ w_ hn_ hBt hr hR hD hO hS=>aac (show a_.eval (.tmp 13)=.bool true from hD 0 rfl)),
    trivial⟩
  intro a4 w4 gs4 hn4 hd4 hBt hr hR hP hX hU
  replace hn:=hn4;replace hd:=hd4.trans hd
  replace f0:=(hR 0 rfl).trans f0
  replace f2:=(hR 2 rfl).trans f2
  replace f3:=(hR 3 rfl).trans f3
  replace f5:=(hR 5 rfl).trans f5
  replace f11:=(hR 11 rfl).trans f11
  have e12:a4.eval (.tmp 12)=.bool true:=hP 1 (by decide)
  have f12:=e12
  replace HB:=HB.trans (hBt.below HB.size (UpOld.all (bx:=[]) trivial))
  clear hBt hr hR hP hX hU
  refine wp_cond_true f12 ?_
  refine wp_skip ?_
  refine wp_cond_true f12 ?_
  refine wp_seq ?_
  refine aak [some 15,some 16,some 17,some 2,some 3] [Eqs (.string s),Eqs (.int .i64 (1:Int)),Eqs (.string ((s).extract 1 (s).size)),Eqs ((.bool true)),Eqs (.string ((s).extract 1 (s).size))] [] [] (by kernel_rfl) hn rfl (by kernel_rfl) (by kernel_rfl) (by kernel_rfl) (by kernel_rfl) (by kernel_rfl) (by kernel_rfl) ⟨Eqs.mono4 _,Eqs.mono4 _,Eqs.mono4 _,Eqs.mono4 _,Eqs.mono4 _,trivial⟩ aap (IsOld.all (bx:=[]) trivial) (DisOld.all (bx:=[]) trivial) ?_ ?_
  ·exact ⟨.norm 15 rfl rfl rfl (fun a_ w_ hn_ hBt hr hR hD hO hS=>aaj ((hR 0 rfl).trans f0)),
    .norm 16 rfl rfl rfl (fun a_ w_ hn_ hBt hr hR hD hO hS=>aaj ((hR 5 rfl).trans f5)),
    .norm 17 rfl rfl rfl (fun a_ w_ hn_ hBt hr hR hD hO hS=>aly (k:=1) (show a_.eval (.tmp 15)=.string s from hD 0 rfl) (show a_.eval (.tmp 16)=.int .i64 (1:Int) from hD 1 rfl) (by omega)),
    .norm 2 rfl rfl rfl (fun a_ w_ hn_ hBt hr hR hD hO hS=>aac rfl),
    .norm 3 rfl rfl rfl (fun a_ w_ hn_ hBt hr hR hD hO hS=>aac (show a_.eval (.tmp 17)=.string ((s).extract 1 (s).size) from hD 2 rfl)),
    trivial⟩
  intro a5 w5 gs5 hn5 hd5 hBt hr hR hP hX hU
  replace hn:=hn5;replace hd:=hd5.trans hd
  replace f0:=(hR 0 rfl).trans f0
  have e2:a5.eval (.tmp 2)=(.bool true):=hP 3 (by decide)
  have f2:=e2
  have e3:a5.eval (.tmp 3)=.string ((s).extract 1 (s).size):=hP 4 (by decide)
  have f3:=e3
  replace HB:=HB.trans (hBt.below HB.size (UpOld.all (bx:=[]) trivial))
  clear hBt hr hR hP hX hU
  refine wp_ret ?_
  repeat (first | refine ab9 ?_ | refine abx ?_ | refine abw ?_)
  exact bodyPost_ret (v:=.tuple #[.bool true,.string ((s).extract 1 (s).size)]) (ag1 rfl f2 f3) hd ⟨by rw [hm],HB⟩
 ·have hne1:(((Lib.decodeGo s).1:Nat):Int)≠45:=by omega
  have hne2:(((Lib.decodeGo s).1:Nat):Int)≠8722:=by omega
  go_enter Tryz.func90,Tryz.ntmps90
  generalize hA:(Act.mk _ _)=aa
  have hn:aa.tmps.size=19:=by rw [←hA];rfl
  have hd:aa.defers = []:=by rw [←hA]
  have f0:aa.eval (.tmp 0)=.string s:=by rw [←hA];rfl
  clear hA
  have HB:Below w.heap.size w w:=Below.refl _ _
  refine wp_seq ?_
  refine aak [some 2,some 3] [Eqs ((.bool false)),Eqs ((.string ⟨#[]⟩))] [] [] (by kernel_rfl) hn rfl (by kernel_rfl) (by kernel_rfl) (by kernel_rfl) (by kernel_rfl) (by kernel_rfl) (by kernel_rfl) ⟨Eqs.mono4 _,Eqs.mono4 _,trivial⟩ aap (IsOld.all (bx:=[]) trivial) (DisOld.all (bx:=[]) trivial) ?_ ?_
  ·exact ⟨.norm 2 rfl rfl rfl (fun a_ w_ hn_ hBt hr hR hD hO hS=>aac rfl),
    .norm 3 rfl rfl rfl (fun a_ w_ hn_ hBt hr hR hD hO hS=>aac rfl),
    trivial⟩
  intro a1 w1 gs1 hn1 hd1 hBt hr hR hP hX hU
  replace hn:=hn1;replace hd:=hd1.trans hd
  replace f0:=(hR 0 rfl).trans f0
  have e2:a1.eval (.tmp 2)=(.bool false):=hP 0 (by decide)
  have f2:=e2
  have e3:a1.eval (.tmp 3)=(.string ⟨#[]⟩):=hP 1 (by decide)
  have f3:=e3
  replace HB:=HB.trans (hBt.below HB.size (UpOld.all (bx:=[]) trivial))
  clear hBt hr hR hP hX hU
  refine wp_seq ?_
  refine aak [some 7,some 8,some 6,some 9,some 10,some 4,some 5] [Eqs (.string s),Tup2 (Eqs (.int .i32 (((Lib.decodeGo s).1:Nat):Int))) (Eqs (.int .i64 ((Lib.decodeGo s).2:Int))),Tup2 (Eqs (.int .i32 (((Lib.decodeGo s).1:Nat):Int))) (Eqs (.int .i64 ((Lib.decodeGo s).2:Int))),Eqs (.int .i32 (((Lib.decodeGo s).1:Nat):Int)),Eqs (.int .i64 ((Lib.decodeGo s).2:Int)),Eqs (.int .i32 (((Lib.decodeGo s).1:Nat):Int)),Eqs (.int .i64 ((Lib.decodeGo s).2:Int))] [] [] (by kernel_rfl) hn rfl (by kernel_rfl) (by kernel_rfl) (by kernel_rfl) (by kernel_rfl) (by kernel_rfl) (by kernel_rfl) ⟨Eqs.mono4 _,Tup2.mono4 (Eqs.mono4 _) (Eqs.mono4 _),Tup2.mono4 (Eqs.mono4 _) (Eqs.mono4 _),Eqs.mono4 _,Eqs.mono4 _,Eqs.mono4 _,Eqs.mono4 _,trivial⟩ aap (IsOld.all (bx:=[]) trivial) (DisOld.all (bx:=[]) trivial) ?_ ?_
  ·exact ⟨.norm 7 rfl rfl rfl (fun a_ w_ hn_ hBt hr hR hD hO hS=>aaj ((hR 0 rfl).trans f0)),
    .norm 8 rfl rfl rfl (fun a_ w_ hn_ hBt hr hR hD hO hS=>ae2 (show a_.eval (.tmp 7)=.string s from hD 0 rfl) (hT.below (HB.trans (hBt.below HB.size (UpOld.all (bx:=[]) trivial)))) ⟨rfl,rfl⟩),
    .norm 6 rfl rfl rfl (fun a_ w_ hn_ hBt hr hR hD hO hS=>adw (p:=Tup2 (Eqs (.int .i32 (((Lib.decodeGo s).1:Nat):Int))) (Eqs (.int .i64 ((Lib.decodeGo s).2:Int)))) (show Tup2 (Eqs (.int .i32 (((Lib.decodeGo s).1:Nat):Int))) (Eqs (.int .i64 ((Lib.decodeGo s).2:Int))) (a_.eval (.tmp 8)) w_ from hD 1 rfl)),
    .norm 9 rfl rfl rfl (fun a_ w_ hn_ hBt hr hR hD hO hS=>adx (show Tup2 (Eqs (.int .i32 (((Lib.decodeGo s).1:Nat):Int))) (Eqs (.int .i64 ((Lib.decodeGo s).2:Int))) (a_.eval (.tmp 6)) w_ from hD 2 rfl)),
    .norm 10 rfl rfl rfl (fun a_ w_ hn_ hBt hr hR hD hO hS=>ady (show Tup2 (Eqs (.int .i32 (((Lib.decodeGo s).1:Nat):Int))) (Eqs (.int .i64 ((Lib.decodeGo s).2:Int))) (a_.eval (.tmp 6)) w_ from hD 2 rfl)),
    .norm 4 rfl rfl rfl (fun a_ w_ hn_ hBt hr hR hD hO hS=>aac (show a_.eval (.tmp 9)=.int .i32 (((Lib.decodeGo s).1:Nat):Int) from hD 3 rfl)),
    .norm 5 rfl rfl rfl (fun a_ w_ hn_ hBt hr hR hD hO hS=>aac (show a_.eval (.tmp 10)=.int .i64 ((Lib.decodeGo s).2:Int) from hD 4 rfl)),
    trivial⟩
  intro a2 w2 gs2 hn2 hd2 hBt hr hR hP hX hU
  replace hn:=hn2;replace hd:=hd2.trans hd
  replace f0:=(hR 0 rfl).trans f0
  replace f2:=(hR 2 rfl).trans f2
  replace f3:=(hR 3 rfl).trans f3
  have e4:a2.eval (.tmp 4)=.int .i32 (((Lib.decodeGo s).1:Nat):Int):=hP 5 (by decide)
  have f4:=e4
  have e5:a2.eval (.tmp 5)=.int .i64 ((Lib.decodeGo s).2:Int):=hP 6 (by decide)
  have f5:=e5
  replace HB:=HB.trans (hBt.below HB.size (UpOld.all (bx:=[]) trivial))
  clear hBt hr hR hP hX hU
  refine wp_seq ?_
  refine wp_seq ?_
  refine aak [some 11] [Eqs (.int .i32 (((Lib.decodeGo s).1:Nat):Int))] [] [] (by kernel_rfl) hn rfl (by kernel_rfl) (by kernel_rfl) (by kernel_rfl) (by kernel_rfl) (by kernel_rfl) (by kernel_rfl) ⟨Eqs.mono4 _,trivial⟩ aap (IsOld.all (bx:=[]) trivial) (DisOld.all (bx:=[]) trivial) ?_ ?_
  ·exact ⟨.norm 11 rfl rfl rfl (fun a_ w_ hn_ hBt hr hR hD hO hS=>aaj ((hR 4 rfl).trans f4)),
    trivial⟩
  intro a3 w3 gs3 hn3 hd3 hBt hr hR hP hX hU
  replace hn:=hn3;replace hd:=hd3.trans hd
  replace f0:=(hR 0 rfl).trans f0
  replace f2:=(hR 2 rfl).trans f2
  replace f3:=(hR 3 rfl).trans f3
  replace f5:=(hR 5 rfl).trans f5
  have e11:a3.eval (.tmp 11)=.int .i32 (((Lib.decodeGo s).1:Nat):Int):=hP 0 (by decide)
  have f11:=e11
  replace HB:=HB.trans (hBt.below HB.size (UpOld.all (bx:=[]) trivial))
  clear hBt hr hR hP hX hU
  refine wp_block ?_
  refine wp_seq ?_
  refine wp_seq ?_
  refine aak [some 13,some 12] [Eqs (.bool false),Eqs (.bool false)] [] [] (by kernel_rfl) hn rfl (by kernel_rfl) (by kernel_rfl) (by kernel_rfl) (by kernel_rfl) (by kernel_rfl) (by kernel_rfl) ⟨Eqs.mono4 _,Eqs.mono4 _,trivial⟩ aap (IsOld.all (bx:=[]) trivial) (DisOld.all (bx:=[]) trivial) ?_ ?_
  ·exact ⟨.norm 13 rfl rfl rfl (fun a_ w_ hn_ hBt hr hR hD hO hS=>ae1 ((hR 11 rfl).trans f11) hne1),
    .norm 12 rfl rfl rfl (fun a_ w_ hn_ hBt hr hR hD hO hS=>aac (show a_.eval (.tmp 13)=.bool false from hD 0 rfl)),
    trivial⟩
  intro a4 w4 gs4 hn4 hd4 hBt hr hR hP hX hU
  replace hn:=hn4;replace hd:=hd4.trans hd
  replace f0:=(hR 0 rfl).trans f0
  replace f2:=(hR 2 rfl).trans f2
  replace f3:=(hR 3 rfl).trans f3
  replace f5:=(hR 5 rfl).trans f5
  replace f11:=(hR 11 rfl).trans f11
  have e12:a4.eval (.tmp 12)=.bool false:=hP 1 (by decide)
  have f12:=e12
  replace HB:=HB.trans (hBt.below HB.size (UpOld.all (bx:=[]) trivial))
  clear hBt hr hR hP hX hU
  refine wp_cond_false f12 ?_
  refine aak [some 14,some 12] [Eqs (.bool false),Eqs (.bool false)] [] [] (by kernel_rfl) hn rfl (by kernel_rfl) (by kernel_rfl) (by kernel_rfl) (by kernel_rfl) (by kernel_rfl) (by kernel_rfl) ⟨Eqs.mono4 _,Eqs.mono4 _,trivial⟩ aap (IsOld.all (bx:=[]) trivial) (DisOld.all (bx:=[]) trivial) ?_ ?_
  ·exact ⟨.norm 14 rfl rfl rfl (fun a_ w_ hn_ hBt hr hR hD hO hS=>ae1 ((hR 11 rfl).trans f11) hne2),
    .norm 12 rfl rfl rfl (fun a_ w_ hn_ hBt hr hR hD hO hS=>aac (show a_.eval (.tmp 14)=.bool false from hD 0 rfl)),
    trivial⟩
  intro a5 w5 gs5 hn5 hd5 hBt hr hR hP hX hU
  replace hn:=hn5;replace hd:=hd5.trans hd
  replace f0:=(hR 0 rfl).trans f0
  replace f2:=(hR 2 rfl).trans f2
  replace f3:=(hR 3 rfl).trans f3
  replace f5:=(hR 5 rfl).trans f5
  have e12:a5.eval (.tmp 12)=.bool false:=hP 1 (by decide)
  have f12:=e12
  replace HB:=HB.trans (hBt.below HB.size (UpOld.all (bx:=[]) trivial))
  clear hBt hr hR hP hX hU
  refine wp_cond_false f12 ?_
  refine wp_skip ?_
  refine aeq ?_
  refine wp_seq ?_
  refine aak [some 18,some 2,some 3] [Eqs (.string s),Eqs ((.bool false)),Eqs (.string s)] [] [] (by kernel_rfl) hn rfl (by kernel_rfl) (by kernel_rfl) (by kernel_rfl) (by kernel_rfl) (by kernel_rfl) (by kernel_rfl) ⟨Eqs.mono4 _,Eqs.mono4 _,Eqs.mono4 _,trivial⟩ aap (IsOld.all (bx:=[]) trivial) (DisOld.all (bx:=[]) trivial) ?_ ?_
  ·exact ⟨.norm 18 rfl rfl rfl (fun a_ w_ hn_ hBt hr hR hD hO hS=>aaj ((hR 0 rfl).trans f0)),
    .norm 2 rfl rfl rfl (fun a_ w_ hn_ hBt hr hR hD hO hS=>aac rfl),
    .norm 3 rfl rfl rfl (fun a_ w_ hn_ hBt hr hR hD hO hS=>aac (show a_.eval (.tmp 18)=.string s from hD 0 rfl)),
    trivial⟩
  intro a6 w6 gs6 hn6 hd6 hBt hr hR hP hX hU
  replace hn:=hn6;replace hd:=hd6.trans hd
  have e2:a6.eval (.tmp 2)=(.bool false):=hP 1 (by decide)
  have f2:=e2
  have e3:a6.eval (.tmp 3)=.string s:=hP 2 (by decide)
  have f3:=e3
  replace HB:=HB.trans (hBt.below HB.size (UpOld.all (bx:=[]) trivial))
  clear hBt hr hR hP hX hU
  refine wp_ret ?_
  repeat (first | refine ab9 ?_ | refine abx ?_ | refine abw ?_)
  exact bodyPost_ret (v:=.tuple #[.bool false,.string s]) (ag1 rfl f2 f3) hd ⟨by rw [hm],HB⟩
end Lm
end Go.Proofs.YtgclhjjmleiggaaGreatDoor
namespace Go.Proofs.YtgclhjjmleiggaaGreatDoor
namespace Lm
open Go Go.RowKit
open Dm (Err Fine)
open Classical in
noncomputable def kOf (r:ByteArray):Int:=if 5120<r.size then 2 else if 1≤r.size∧Dig (bytesOf r) then 0 else 10
open Classical in
noncomputable def xOf (r:ByteArray):Int:=if Fine r then dval (bytesOf r) else 0
theorem awi {r:ByteArray} {k:Int} (h:Err r k):k=kOf r∧xOf r=0∧kOf r≠0:=by
 have hf:¬ Fine r:=fun hf=>Dm.ai4 h hf
 have h1:k=kOf r:=by
  rcases h with ⟨rfl,h2⟩ | ⟨rfl,h2,h3⟩
  ·rw [kOf,if_pos h2]
  ·rw [kOf,if_neg (by omega),if_neg h3]
 refine ⟨h1,by rw [xOf,if_neg hf],?_⟩
 rw [←h1]
 rcases h with ⟨h1,_⟩ | ⟨h1,_⟩ <;> omega
theorem ag6 {r:ByteArray} (h:Fine r):kOf r=0∧xOf r=dval (bytesOf r):=by
 refine ⟨?_,by rw [xOf,if_pos h]⟩
 rw [kOf,if_neg (by have:=h.2.1;omega),if_pos ⟨h.1,h.2.2⟩]
theorem aqh (n:Nat):p10 n≤pw n:=by
 induction n with
 | zero=>simp [p10,pw]
 | succ n ih =>
  simp only [p10,pw]
  have:=aaw n
  omega
noncomputable def zOf (s:ByteArray):Int:=sg (msplit s).1 (xOf (msplit s).2)
noncomputable def eOf (s:ByteArray):Int:=kOf (msplit s).2
section
variable {dst:Option Tmp} {ty:TypeId} {pos:String} {after:Array Edge} {guard:Option (Nat × Bool)} {a:Act} {w:World} {ats:Array TypeId} {i j:Nat}
theorem aqi:Has Tryz.prog 90:=by unfold Has;kernel_rfl
theorem asw {s:ByteArray} (h:a.eval (.tmp i)=.string s) (hT:Tabs w) :
  Does Tryz.prog { dst,op:=.call { callee:=.value (.func 90),args:=#[.tmp i],argTypes:=ats },type:=ty,pos,after,guard } a.eval w fun v w'=>Below w.heap.size w w'∧Tup2 (Eqs (.bool (msplit s).1)) (Eqs (.string (msplit s).2)) v w' := by
 refine aa0 aqi _ (by simp only [List.map_toArray,List.map_cons,List.map_nil,h]) ((au2 w s hT).mono ?_)
 rintro e w' ⟨rfl,hb⟩
 exact ⟨_,rfl,hb,_,_,rfl,rfl,rfl⟩
theorem ann:Has Tryz.prog 87:=by unfold Has;kernel_rfl
theorem aqj {s:ByteArray} (h:a.eval (.tmp i)=.string s) :
  Does Tryz.prog { dst,op:=.call { callee:=.value (.func 87),args:=#[.tmp i],argTypes:=ats },type:=ty,pos,after,guard } a.eval w fun v w'=>Below w.heap.size w w'∧Tup2 (OutL (xOf s) 6000) (Eqs (.int .i64 (kOf s))) v w' := by
 refine aa0 ann _ (by simp only [List.map_toArray,List.map_cons,List.map_nil,h]) ((alt w s).mono ?_)
 rintro e w' ⟨⟨k,hk,rfl⟩ | ⟨hf,v,rfl,rs,ho,hc,hv⟩,hb⟩
 ·obtain ⟨h1,h2,_⟩:=awi hk
  refine ⟨_,rfl,hb,_,_,rfl,?_,by rw [h1];rfl⟩
  rw [h2]
  exact ⟨none,0,[],rfl,⟨aih w',abl,rfl⟩,by simp⟩
 ·obtain ⟨h1,h2⟩:=ag6 hf
  refine ⟨_,rfl,hb,_,_,rfl,?_,by rw [h1];rfl⟩
  rw [h2]
  obtain ⟨ao,cap,rfl,_⟩:=id ho
  refine ⟨ao,cap,rs,rfl,⟨ho.sl,hc,hv⟩,?_⟩
  have h3:=(aa6 hf.2.2).2
  rw [abk] at h3
  have h4:=aa9 hc (m:=s.size) (by rw [hv];have:=aqh s.size;omega)
  have:=hf.2.1
  omega
theorem ano:Has Tryz.prog 35:=by unfold Has;kernel_rfl
theorem anp {b:Bool} {x:Int} {L:Nat} (h1:a.eval (.tmp i)=.bool b) (h2:OutL x L (a.eval (.tmp j)) w) (hL:L≤1000000000) :
  Does Tryz.prog { dst,op:=.call { callee:=.value (.func 35),args:=#[.tmp i,.tmp j],argTypes:=ats },type:=ty,pos,after,guard } a.eval w fun v w'=>Below w.heap.size w w'∧OutW (sg b x) L v w' := by
 obtain ⟨ao,cap,rs,e,G,l⟩:=h2
 refine aa0 ano _ (by simp only [List.map_toArray,List.map_cons,List.map_nil,h1,e]) ((aat w b ao cap rs x G (by omega)).mono ?_)
 rintro e w' ⟨ng,rfl,hW,hb⟩
 exact ⟨_,rfl,hb,ng,ao,cap,rs,rfl,hW,l⟩
theorem asx {u v:Int} (h1:a.eval (.tmp i)=.int .i64 u) :
  Does Tryz.prog { dst,op:=.binOp .neq 26 (.tmp i) (.const (.int .i64 v)) 26,type:=ty,pos,after,guard } a.eval w fun v' w'=>Below w.heap.size w w'∧Eqs (.bool (!decide (u=v))) v' w' := by
 refine acq (v:=.bool (!decide (u=v))) ?_ ?_ ⟨Below.refl _ _,rfl⟩
 ·rw [h1];simp [go_sem,Act.eval]
 ·rw [h1];simp [go_sem,Act.eval];rfl
end
theorem asy {r:ByteArray} {b:Bool} (h:kOf r≠0):sg b (xOf r)=0:=by
 have hf:¬ Fine r:=fun hf=>h (ag6 hf).1
 rw [xOf,if_neg hf]
 cases b <;> rfl
theorem aqk (w:World) {L:Nat} : OutW 0 L (.agg #[.bool false,.slice none 0 0]) w:=⟨false,none,0,[],rfl,⟨⟨aih w,abl,rfl⟩,rfl⟩,by simp⟩
set_option maxRecDepth 20000 in
set_option maxHeartbeats 1000000 in
theorem asz (w:World) (s:ByteArray) (hT:Tabs w) :
  Calls Tryz.prog 73 #[.string s] w fun e w'=>∃ v,e=.returned v∧Tup2 (OutW (zOf s) 6000) (Eqs (.int .i64 (eOf s))) v w'∧Below w.heap.size w w' := by
 go_enter Tryz.func73,Tryz.ntmps73
 generalize hA:(Act.mk _ _)=aa
 have hn:aa.tmps.size=25:=by rw [←hA];rfl
 have hd:aa.defers = []:=by rw [←hA]
 have f0:aa.eval (.tmp 0)=.string s:=by rw [←hA];rfl
 clear hA
 have HB:Below w.heap.size w w:=Below.refl _ _
 refine wp_seq ?_
 refine aak [some 2,some 3] [(fun _ _=>True),Eqs ((.int .i64 0))] [⟨W2,some 0,0,2,.agg #[.bool false,.slice none 0 0],none,[]⟩] [] (by kernel_rfl) hn rfl (by kernel_rfl) (by kernel_rfl) (by kernel_rfl) (by kernel_rfl) (by kernel_rfl) (by kernel_rfl) ⟨True.mono4,Eqs.mono4 _,trivial⟩ (adu W2ok aap) (IsOld.all (bx:=[⟨W2,some 0,0,2,.agg #[.bool false,.slice none 0 0],none,[]⟩]) ⟨someNe,trivial⟩) (DisOld.all (bx:=[⟨W2,some 0,0,2,.agg #[.bool false,.slice none 0 0],none,[]⟩]) ⟨someNe,trivial⟩) ?_ ?_
 ·exact ⟨.alloc 0 _ rfl rfl (.inl ⟨rfl,rfl⟩) rfl rfl rfl rfl rfl,
   .norm 3 rfl rfl rfl (fun a_ w_ hn_ hBt hr hR hD hO hS=>aac rfl),
   trivial⟩
 intro a1 w1 gs1 hn1 hd1 hBt hr hR hP hX hU
 replace hn:=hn1;replace hd:=hd1.trans hd
 have b2:BoxV W2 w1 (gs1 0) (.agg #[.bool false,.slice none 0 0]):=(hX 0 _ rfl).2.2.2
 have f2:=(hX 0 _ rfl).1
 have u2:w.heap.size≤gs1 0:=Nat.le_trans HB.size ((hX 0 _ rfl).2.2.1 (by simp))
 replace f0:=(hR 0 rfl).trans f0
 have e3:a1.eval (.tmp 3)=(.int .i64 0):=hP 1 (by decide)
 have f3:=e3
 replace HB:=HB.trans (hBt.below HB.size (UpOld.all (bx:=[⟨W2,some 0,0,2,.agg #[.bool false,.slice none 0 0],none,[]⟩]) ⟨someNe,trivial⟩))
 clear hBt hr hR hP hX hU
 refine wp_seq ?_
 refine aak [some 9,some 10,some 8,some 11,some 12,some 4,some 5] [Eqs (.string s),Tup2 (Eqs (.bool (msplit s).1)) (Eqs (.string (msplit s).2)),Tup2 (Eqs (.bool (msplit s).1)) (Eqs (.string (msplit s).2)),Eqs (.bool (msplit s).1),Eqs (.string (msplit s).2),Eqs (.bool (msplit s).1),Eqs (.string (msplit s).2)] [] [] (by kernel_rfl) hn rfl (by kernel_rfl) (by kernel_rfl) (by kernel_rfl) (by kernel_rfl) (by kernel_rfl) (by kernel_rfl) ⟨Eqs.mono4 _,Tup2.mono4 (Eqs.mono4 _) (Eqs.mono4 _),Tup2.mono4 (Eqs.mono4 _) (Eqs.mono4 _),Eqs.mono4 _,Eqs.mono4 _,Eqs.mono4 _,Eqs.mono4 _,trivial⟩ aap (IsOld.all (bx:=[]) trivial) (DisOld.all (bx:=[]) trivial) ?_ ?_
 ·exact ⟨.norm 9 rfl rfl rfl (fun a_ w_ hn_ hBt hr hR hD hO hS=>aaj ((hR 0 rfl).trans f0)),
   .norm 10 rfl rfl rfl (fun a_ w_ hn_ hBt hr hR hD hO hS=>asw (show a_.eval (.tmp 9)=.string s from hD 0 rfl) (hT.below (HB.trans (hBt.below HB.size (UpOld.all (bx:=[]) trivial))))),
   .norm 8 rfl rfl rfl (fun a_ w_ hn_ hBt hr hR hD hO hS=>adw (p:=Tup2 (Eqs (.bool (msplit s).1)) (Eqs (.string (msplit s).2))) (show Tup2 (Eqs (.bool (msplit s).1)) (Eqs (.string (msplit s).2)) (a_.eval (.tmp 10)) w_ from hD 1 rfl)),
   .norm 11 rfl rfl rfl (fun a_ w_ hn_ hBt hr hR hD hO hS=>adx (show Tup2 (Eqs (.bool (msplit s).1)) (Eqs (.string (msplit s).2)) (a_.eval (.tmp 8)) w_ from hD 2 rfl)),
   .norm 12 rfl rfl rfl (fun a_ w_ hn_ hBt hr hR hD hO hS=>ady (show Tup2 (Eqs (.bool (msplit s).1)) (Eqs (.string (msplit s).2)) (a_.eval (.tmp 8)) w_ from hD 2 rfl)),
   .norm 4 rfl rfl rfl (fun a_ w_ hn_ hBt hr hR hD hO hS=>aac (show a_.eval (.tmp 11)=.bool (msplit s).1 from hD 3 rfl)),
   .norm 5 rfl rfl rfl (fun a_ w_ hn_ hBt hr hR hD hO hS=>aac (show a_.eval (.tmp 12)=.string (msplit s).2 from hD 4 rfl)),
   trivial⟩
 intro a2 w2 gs2 hn2 hd2 hBt hr hR hP hX hU
 replace hn:=hn2;replace hd:=hd2.trans hd
 replace b2:=b2.keep hBt trivial
 replace f2:=(hR 2 rfl).trans f2
 replace f3:=(hR 3 rfl).trans f3
 have e4:a2.eval (.tmp 4)=.bool (msplit s).1:=hP 5 (by decide)
 have f4:=e4
 have e5:a2.eval (.tmp 5)=.string (msplit s).2:=hP 6 (by decide)
 have f5:=e5
 replace HB:=HB.trans (hBt.below HB.size (UpOld.all (bx:=[]) trivial))
 clear hBt hr hR hP hX hU
 refine wp_seq ?_
 refine aak [some 14,some 15,some 13,some 16,some 17,some 6,some 7] [Eqs (.string (msplit s).2),Tup2 (OutL (xOf (msplit s).2) (6000)) (Eqs (.int .i64 (kOf (msplit s).2))),Tup2 (OutL (xOf (msplit s).2) (6000)) (Eqs (.int .i64 (kOf (msplit s).2))),OutL (xOf (msplit s).2) (6000),Eqs (.int .i64 (kOf (msplit s).2)),OutL (xOf (msplit s).2) (6000),Eqs (.int .i64 (kOf (msplit s).2))] [] [] (by kernel_rfl) hn rfl (by kernel_rfl) (by kernel_rfl) (by kernel_rfl) (by kernel_rfl) (by kernel_rfl) (by kernel_rfl) ⟨Eqs.mono4 _,Tup2.mono4 (OutL.mono4 _ _) (Eqs.mono4 _),Tup2.mono4 (OutL.mono4 _ _) (Eqs.mono4 _),OutL.mono4 _ _,Eqs.mono4 _,OutL.mono4 _ _,Eqs.mono4 _,trivial⟩ aap (IsOld.all (bx:=[]) trivial) (DisOld.all (bx:=[]) trivial) ?_ ?_
 ·exact ⟨.norm 14 rfl rfl rfl (fun a_ w_ hn_ hBt hr hR hD hO hS=>aaj ((hR 5 rfl).trans f5)),
   .norm 15 rfl rfl rfl (fun a_ w_ hn_ hBt hr hR hD hO hS=>aqj (show a_.eval (.tmp 14)=.string (msplit s).2 from hD 0 rfl)),
   .norm 13 rfl rfl rfl (fun a_ w_ hn_ hBt hr hR hD hO hS=>adw (p:=Tup2 (OutL (xOf (msplit s).2) (6000)) (Eqs (.int .i64 (kOf (msplit s).2)))) (show Tup2 (OutL (xOf (msplit s).2) (6000)) (Eqs (.int .i64 (kOf (msplit s).2))) (a_.eval (.tmp 15)) w_ from hD 1 rfl)),
   .norm 16 rfl rfl rfl (fun a_ w_ hn_ hBt hr hR hD hO hS=>adx (show Tup2 (OutL (xOf (msplit s).2) (6000)) (Eqs (.int .i64 (kOf (msplit s).2))) (a_.eval (.tmp 13)) w_ from hD 2 rfl)),
   .norm 17 rfl rfl rfl (fun a_ w_ hn_ hBt hr hR hD hO hS=>ady (show Tup2 (OutL (xOf (msplit s).2) (6000)) (Eqs (.int .i64 (kOf (msplit s).2))) (a_.eval (.tmp 13)) w_ from hD 2 rfl)),
   .norm 6 rfl rfl rfl (fun a_ w_ hn_ hBt hr hR hD hO hS=>avt (p:=OutL (xOf (msplit s).2) (6000)) (show OutL (xOf (msplit s).2) (6000) (a_.eval (.tmp 16)) w_ from hD 3 rfl)),
   .norm 7 rfl rfl rfl (fun a_ w_ hn_ hBt hr hR hD hO hS=>aac (show a_.eval (.tmp 17)=.int .i64 (kOf (msplit s).2) from hD 4 rfl)),
   trivial⟩
 intro a3 w3 gs3 hn3 hd3 hBt hr hR hP hX hU
 replace hn:=hn3;replace hd:=hd3.trans hd
 replace b2:=b2.keep hBt trivial
 replace f2:=(hR 2 rfl).trans f2
 replace f3:=(hR 3 rfl).trans f3
 replace f4:=(hR 4 rfl).trans f4
 obtain ⟨a_4,c_4,r_4,e6,K4,l4⟩:OutL (xOf (msplit s).2) (6000) (a3.eval (.tmp 6)) w3:=hP 5 (by decide)
 have S4:=K4.sl;have V4:=K4.val
 have f6:=e6
 have e7:a3.eval (.tmp 7)=.int .i64 (kOf (msplit s).2):=hP 6 (by decide)
 have f7:=e7
 replace HB:=HB.trans (hBt.below HB.size (UpOld.all (bx:=[]) trivial))
 clear hBt hr hR hP hX hU
 refine wp_seq ?_
 refine wp_seq ?_
 refine aak [some 18,some 19] [Eqs (.int .i64 (kOf (msplit s).2)),Eqs (.bool (!decide ((kOf (msplit s).2)=0)))] [] [] (by kernel_rfl) hn rfl (by kernel_rfl) (by kernel_rfl) (by kernel_rfl) (by kernel_rfl) (by kernel_rfl) (by kernel_rfl) ⟨Eqs.mono4 _,Eqs.mono4 _,trivial⟩ aap (IsOld.all (bx:=[]) trivial) (DisOld.all (bx:=[]) trivial) ?_ ?_
 ·exact ⟨.norm 18 rfl rfl rfl (fun a_ w_ hn_ hBt hr hR hD hO hS=>aaj ((hR 7 rfl).trans f7)),
   .norm 19 rfl rfl rfl (fun a_ w_ hn_ hBt hr hR hD hO hS=>asx (show a_.eval (.tmp 18)=.int .i64 (kOf (msplit s).2) from hD 0 rfl)),
   trivial⟩
 intro a5 w5 gs5 hn5 hd5 hBt hr hR hP hX hU
 replace hn:=hn5;replace hd:=hd5.trans hd
 replace b2:=b2.keep hBt trivial
 replace f2:=(hR 2 rfl).trans f2
 replace f3:=(hR 3 rfl).trans f3
 replace f4:=(hR 4 rfl).trans f4
 replace f6:=(hR 6 rfl).trans f6
 replace f7:=(hR 7 rfl).trans f7
 have e19:a5.eval (.tmp 19)=.bool (!decide ((kOf (msplit s).2)=0)):=hP 1 (by decide)
 have f19:=e19
 replace K4:=K4.rl hr
 replace S4:=S4.rl hr
 replace HB:=HB.trans (hBt.below HB.size (UpOld.all (bx:=[]) trivial))
 clear hBt hr hR hP hX hU
 refine wp_cond_split f19 (fun hc19=>?_) (fun hc19=>?_)
 ·skip
  have hk0:kOf (msplit s).2≠0:=by simpa using hc19
  refine wp_seq ?_
  refine aak [some 20,some 21,none,some 3] [Eqs (.agg #[.bool false,.slice none 0 0]),Eqs (.int .i64 (kOf (msplit s).2)),(fun _ _=>True),Eqs (.int .i64 (kOf (msplit s).2))] [⟨W2,none,(gs1 0),2,.agg #[.bool false,.slice none 0 0],some (2,20,0),[]⟩] [] (by kernel_rfl) hn rfl (by kernel_rfl) (by kernel_rfl) (by kernel_rfl) (by kernel_rfl) (by kernel_rfl) (by kernel_rfl) ⟨Eqs.mono4 _,Eqs.mono4 _,True.mono4,Eqs.mono4 _,trivial⟩ (adu W2ok aap) (IsOld.all (bx:=[⟨W2,none,(gs1 0),2,.agg #[.bool false,.slice none 0 0],some (2,20,0),[]⟩]) ⟨fun _=>⟨f2,b2⟩,trivial⟩) (DisOld.all (bx:=[⟨W2,none,(gs1 0),2,.agg #[.bool false,.slice none 0 0],some (2,20,0),[]⟩]) ⟨fun _=>trivial,trivial⟩) ?_ ?_
  ·exact ⟨.norm 20 rfl rfl rfl (fun a_ w_ hn_ hBt hr hR hD hO hS=>avw),
    .norm 21 rfl rfl rfl (fun a_ w_ hn_ hBt hr hR hD hO hS=>aaj ((hR 7 rfl).trans f7)),
    .store 0 _ _ _ rfl rfl rfl rfl rfl rfl rfl (fun ia h=>by cases h) rfl rfl rfl (avv amc),
    .norm 3 rfl rfl rfl (fun a_ w_ hn_ hBt hr hR hD hO hS=>aac (show a_.eval (.tmp 21)=.int .i64 (kOf (msplit s).2) from hD 1 rfl)),
    trivial⟩
  intro a6 w6 gs6 hn6 hd6 hBt hr hR hP hX hU
  replace hn:=hn6;replace hd:=hd6.trans hd
  have e20:a6.eval (.tmp 20)=.agg #[.bool false,.slice none 0 0]:=hP 0 (by decide)
  have b2:BoxV W2 w6 ((gs1 0)) (.agg #[.bool false,.slice none 0 0]):=ain ((hX 0 _ rfl).2.1 rfl) (hX 0 _ rfl).2.2.2 e20
  replace f2:a6.eval (.tmp 2) = _:=(hR 2 rfl).trans f2
  replace f4:=(hR 4 rfl).trans f4
  replace f6:=(hR 6 rfl).trans f6
  have e3:a6.eval (.tmp 3)=.int .i64 (kOf (msplit s).2):=hP 3 (by decide)
  have f3:=e3
  replace K4:=K4.rl hr
  replace S4:=S4.rl hr
  replace HB:=HB.trans (hBt.below HB.size (UpOld.all (bx:=[⟨W2,none,(gs1 0),2,.agg #[.bool false,.slice none 0 0],some (2,20,0),[]⟩]) ⟨fun _=>u2,trivial⟩))
  clear hBt hr hR hP hX hU
  refine wp_ret ?_
  repeat (first | refine ab9 ?_ | refine abx ?_ | refine abw ?_)
  exact bodyPost_ret (v:=.tuple #[.agg #[.bool false,.slice none 0 0],.int .i64 (kOf (msplit s).2)]) (aio rfl f2 (amd b2) f3) hd ⟨_,rfl,⟨_,_,rfl,by rw [zOf,asy hk0];exact aqk _,rfl⟩,HB⟩
 ·skip
  have hk0:kOf (msplit s).2=0:=by simpa using hc19
  refine wp_skip ?_
  refine wp_seq ?_
  refine aak [some 22,some 23,some 24,none,some 3] [Eqs (.bool (msplit s).1),Eqs (.slice a_4 r_4.length c_4),OutW (sg ((msplit s).1) (xOf (msplit s).2)) (6000),(fun _ _=>True),Eqs ((.int .i64 0))] [⟨W2,none,(gs1 0),2,.agg #[.bool false,.slice none 0 0],some (3,24,2),[]⟩] [] (by kernel_rfl) hn rfl (by kernel_rfl) (by kernel_rfl) (by kernel_rfl) (by kernel_rfl) (by kernel_rfl) (by kernel_rfl) ⟨Eqs.mono4 _,Eqs.mono4 _,OutW.mono4 _ _,True.mono4,Eqs.mono4 _,trivial⟩ (adu W2ok aap) (IsOld.all (bx:=[⟨W2,none,(gs1 0),2,.agg #[.bool false,.slice none 0 0],some (3,24,2),[]⟩]) ⟨fun _=>⟨f2,b2⟩,trivial⟩) (DisOld.all (bx:=[⟨W2,none,(gs1 0),2,.agg #[.bool false,.slice none 0 0],some (3,24,2),[]⟩]) ⟨fun _=>trivial,trivial⟩) ?_ ?_
  ·exact ⟨.norm 22 rfl rfl rfl (fun a_ w_ hn_ hBt hr hR hD hO hS=>aaj ((hR 4 rfl).trans f4)),
    .norm 23 rfl rfl rfl (fun a_ w_ hn_ hBt hr hR hD hO hS=>aaj ((hR 6 rfl).trans f6)),
    .norm 24 rfl rfl rfl (fun a_ w_ hn_ hBt hr hR hD hO hS=>anp (show a_.eval (.tmp 22)=.bool (msplit s).1 from hD 0 rfl) (at9 (show a_.eval (.tmp 23)=.slice a_4 r_4.length c_4 from hD 1 rfl) (K4.rl hr) l4) (by omega)),
    .store 0 _ _ _ rfl rfl rfl rfl rfl rfl rfl (fun ia h=>by cases h) rfl rfl rfl OutW.cs,
    .norm 3 rfl rfl rfl (fun a_ w_ hn_ hBt hr hR hD hO hS=>aac rfl),
    trivial⟩
  intro a7 w7 gs7 hn7 hd7 hBt hr hR hP hX hU
  replace hn:=hn7;replace hd:=hd7.trans hd
  obtain ⟨n_8,a_8,c_8,r_8,e24,G8,l8⟩:OutW (sg ((msplit s).1) (xOf (msplit s).2)) (6000) (a7.eval (.tmp 24)) w7:=hP 2 (by decide)
  have A8:=G8.ag
  have b2:BoxV W2 w7 ((gs1 0)) (.agg #[.bool n_8,.slice a_8 r_8.length c_8]):=ain ((hX 0 _ rfl).2.1 rfl) (hX 0 _ rfl).2.2.2 e24
  replace f2:a7.eval (.tmp 2) = _:=(hR 2 rfl).trans f2
  have e3:a7.eval (.tmp 3)=(.int .i64 0):=hP 4 (by decide)
  have f3:=e3
  replace K4:=K4.rl hr
  replace S4:=S4.rl hr
  replace HB:=HB.trans (hBt.below HB.size (UpOld.all (bx:=[⟨W2,none,(gs1 0),2,.agg #[.bool false,.slice none 0 0],some (3,24,2),[]⟩]) ⟨fun _=>u2,trivial⟩))
  clear hBt hr hR hP hX hU
  refine wp_ret ?_
  repeat (first | refine ab9 ?_ | refine abx ?_ | refine abw ?_)
  exact bodyPost_ret (v:=.tuple #[.agg #[.bool n_8,.slice a_8 r_8.length c_8],(.int .i64 0)]) (aio rfl f2 (amd b2) f3) hd ⟨_,rfl,⟨_,_,rfl,at8 rfl G8 l8,by rw [eOf,hk0];rfl⟩,HB⟩
end Lm
end Go.Proofs.YtgclhjjmleiggaaGreatDoor
namespace Go.Proofs.YtgclhjjmleiggaaGreatDoor
namespace Lm
open Go Go.RowKit
def IsX (w:World):Ex→Value→Prop
 | .num z,v=>∃ u,v=.iface 96 u∧OutW z 6000 u w
 | .var s i,v=>v=.iface 99 (.agg #[.string s,.int .i64 (i:Int)])
 | .neg x,v=>∃ u,v=.iface 101 (.agg #[u])∧IsX w x u
 | .op s l r,v=>∃ a b,v=.iface 94 (.agg #[.string s,a,b])∧IsX w l a∧IsX w r b
theorem IsX.ru {w w' : World} (hr:Ru w w'):∀ {x:Ex} {v:Value},IsX w x v→IsX w' x v
 | .num _,_,⟨u,e,h⟩=>⟨u,e,h.ru hr⟩
 | .var _ _,_,h=>h
 | .neg _,_,⟨u,e,h⟩=>⟨u,e,h.ru hr⟩
 | .op _ _ _,_,⟨a,b,e,h1,h2⟩=>⟨a,b,e,h1.ru hr,h2.ru hr⟩
def EvO (w w' : World) (q:Nat) (tv vv mv:Value) (l:List Tk) (vs ms:List ByteArray) (o:Nat) (lv:Lv) (k:Nat) (e:Ending):Prop :=
 Rc q q w w'∧((∃ t j v,e=.returned v∧IsX w' t v∧EvE l vs zOf lv k o (.ok t j)∧k<j∧Lrd w' q tv vv mv l vs ms j o)∨∃ er j tk,e=.panicked (faultL er tk.pl)∧l[j]? = some tk∧EvE l vs zOf lv k o (.bad er j))
theorem aav {l:List Tk} {k:Nat} {t:Tk} (h:l[k]? = some t):txtL l k=t.text:=by simp [txtL,h]
theorem ab1 {l:List Tk} {k:Nat} {t:Tk} (h:l[k]? = some t):knd l k=t.kind:=by simp [knd,h]
theorem alz {q gr k:Nat} {w w3:World} {cs:Array Value} {T:TypeId} (h:Rc q q w w3) (hg:w.heap.size≤gr) (hx:w3.heap[gr]? = some (.cells cs T (0,0))) (hT:T≠68) (hno:∀ (k:Nat) (z:Int),cs[k]?≠some (.int .u32 z)) (u:Value):Rc q q w (w3.setCell ⟨gr,k,none⟩ u):=by
 refine ⟨h.os,h.tape,h.output,by have:=h.size;simpa [World.setCell] using this,fun j hj h1 h2=>?_,?_⟩
 ·rw [heap_setCell_other w3 ⟨gr,k,none⟩ j u (by show j≠gr;omega)]
  exact h.other j hj h1 h2
 ·exact h.ru.trans (Ru.of_one hx hT hno (by simp [World.setCell]) (fun j _ hn=>heap_setCell_other w3 ⟨gr,k,none⟩ j u hn))
theorem aql {x y:Value} (hx:∀ z,x≠.int .u32 z) (hy:∀ z,y≠.int .u32 z):∀ (k:Nat) (z:Int),(#[x,y]:Array Value)[k]?≠some (.int .u32 z):=fun k z=>by
 match k with
 | 0=>simpa using hx z
 | 1=>simpa using hy z
 | k+2=>simp
section
variable {w:World} {q:Nat} {tv vv mv:Value} {l:List Tk} {vs ms:List ByteArray} {i o:Nat} {t:Tk}
theorem ah0 (h:Lrd w q tv vv mv l vs ms i o) (ht:l[i]? = some t) (hE:EndsL l) (hl:l.length≤100000) :
  Calls Tryz.prog 76 #[.pointer (some ⟨q,0,none⟩)] w fun e w'=>Rc q q w w'∧((∃ n:Nat,e=.returned (.agg #[.string t.text,.int .i64 (n:Int)])∧VarE l vs i (.ok (.var t.text n) (i+1))∧Lrd w' q tv vv mv l vs ms (i+1) o)∨∃ er,e=.panicked (faultL er t.pl)∧VarE l vs i (.bad er i)):=by
 have hA:=hAl w (.cells #[.string ⟨#[]⟩,.int .i64 0] 99)
 have hnew:=heap_alloc_new w (.cells #[.string ⟨#[]⟩,.int .i64 0] 99)
 have h1:=h.below hA
 by_cases hn:t.kind=1∧t.text ∉ words
 ·have hNA:NameAt l i:=⟨by rw [ab1 ht];exact hn.1,by rw [aav ht];exact hn.2⟩
  have hi:=hE.more i t ht (.inl (by omega))
  have K:=hide (aqg h1 ht hn.1 hn.2)
  have H0:=hide h
  have H1:=hide h1
  have HT:=hide ht
  have HA:=hide hA
  have HNA:=hide hNA
  have HN:=hide hnew
  clear h ht hA h1 hn hNA hnew
  go_enter Tryz.func76,Tryz.ntmps76
  go_wp2_with fail
  refine K.out.mono ?_
  rintro e1 w1 ⟨rfl,hb⟩
  have h2:=H1.out.below hb
  obtain ⟨av,cv,hvv,-⟩:=h2.vrs
  have K2:=agm w1 av vs.length cv vs t.text (hvv ▸ h2.vrs)
  subst hvv
  obtain ⟨hq,k0,k1,k2,k3,k4,hf⟩:=h2.own
  have f1:=hf 1
  cases hx:ixS t.text vs with
  | none =>
   rw [hx] at K2
   unfold ixV at K2
   have K2' := hide K2
   have HV:=hide (VarE.unk (l:=l) (vs:=vs) HNA.out (by rw [aav HT.out];exact hx))
   have H2:=hide h2
   have HB:=hide (HA.out.trans (hb.mono HA.out.size))
   clear K2 hb K h2 hf
   go_wp2_with fail
   refine K2'.out.mono ?_
   rintro e2 w2 ⟨rfl,rfl⟩
   have K3:=hide (aci 81 H2.out HT.out)
   clear K2'
   go_wp2_with fail
   refine K3.out.mono ?_
   rintro e3 w3 ⟨rfl,hb⟩
   have HB3:=hide (HB.out.trans (hb.mono HB.out.size))
   clear hb K3
   go_wp2
   exact ⟨rfl,.of_below HB3.out,.inr ⟨81,rfl,HV.out⟩⟩
  | some n =>
   rw [hx] at K2
   unfold ixV at K2
   have K2' := hide K2
   have hv0:=VarE.ok (l:=l) (vs:=vs) (k:=i) (i:=n) HNA.out (by rw [aav HT.out];exact hx)
   rw [aav HT.out] at hv0
   have HV:=hide hv0
   have HB:=hide (HA.out.trans (hb.mono HA.out.size))
   have HS:=hide (h2.set1 (Rc.refl q q _) rfl hi)
   have hn0:decide ((n:Int)<0)=false:=by simp
   have hn1:¬ (n:Int)<0:=by omega
   have hx2:=(hb.block _ (aaa HN.out)).trans HN.out
   have hqn:q≠w.heap.size:=fun e=>by
    have h3:=h2.blk
    rw [e,hx2] at h3
    simp at h3
   obtain ⟨hgl,d0,d1,g0,g1⟩:=aa1 hx2
   have HX2:=hide hx2
   have HQN:=hide hqn
   clear K2 hb K h2 hf hv0 hx2 hqn
   go_wp2_with fail
   refine K2'.out.mono ?_
   rintro e2 w2 ⟨rfl,rfl⟩
   clear K2'
   go_upto_region 6 with fail
   have hr3:=(Rc.of_below (q:=q) (b:=q) HB.out).trans HS.out.2
   have hx3:(w2.setCell ⟨q,1,none⟩ (.int .i64 ((i:Int)+1))).heap[w.heap.size]? = some (.cells #[.string ⟨#[]⟩,.int .i64 0] 99 (0,0)):=(heap_setCell_other w2 ⟨q,1,none⟩ w.heap.size _ (fun e=>HQN.out e.symm)).trans HX2.out
   have hb3:=HS.out.1.blk
   generalize w2.setCell ⟨q,1,none⟩ (.int .i64 ((i:Int)+1))=w3 at *
   obtain ⟨-,b0,b1,p0,p1⟩:=aa1 hx3
   have s4:=heap_setCell_same w3 w.heap.size 0 _ _ (.string t.text) hx3
   have hr4:=alz (k:=0) hr3 (Nat.le_refl _) hx3 (by decide) (aql (by simp) (by simp)) (.string t.text)
   have hr5:=alz (k:=1) hr4 (Nat.le_refl _) s4 (by decide) (aql (by simp) (by simp)) (.int .i64 (n:Int))
   have s5:=heap_setCell_same _ w.heap.size 1 _ _ (.int .i64 (n:Int)) s4
   have z0:(w3.setCell ⟨w.heap.size,0,none⟩ (.string t.text)).cell? ⟨w.heap.size,0,none⟩ = some (.string t.text):=by rw [cell_of_row _ _ _ _ _ (0,0) s4];rfl
   have z1:((w3.setCell ⟨w.heap.size,0,none⟩ (.string t.text)).setCell ⟨w.heap.size,1,none⟩ (.int .i64 (n:Int))).cell? ⟨w.heap.size,1,none⟩ = some (.int .i64 (n:Int)):=by rw [cell_of_row _ _ _ _ _ (0,0) s5];rfl
   have hL:=H0.out.rc (j:=i+1) (p:=o) hr5 (by rw [heap_setCell_other _ ⟨w.heap.size,1,none⟩ q _ HQN.out,heap_setCell_other _ ⟨w.heap.size,0,none⟩ q _ HQN.out];exact hb3) hi
   have HL:=hide hL
   have HR5:=hide hr5
   clear hr3 hx3 hb3 s4 s5 hr4 hr5 hL HS HX2 HB
   go_wp2
   refine bodyPost_ret (v:=_) (by simp [results,Tryz.results76,go_sem,z0,z1];try rfl) rfl ⟨HR5.out,.inl ⟨n,rfl,HV.out,HL.out⟩⟩
 ·have hV:=VarE.syn (l:=l) (vs:=vs) (k:=i) (fun hh=>hn ⟨by rw [←ab1 ht];exact hh.1,by rw [←aav ht];exact hh.2⟩)
  have K:=hide (asv h1 ht hn)
  have HV:=hide hV
  have HA:=hide hA
  clear h ht hA h1 hn hV hnew
  go_enter Tryz.func76,Tryz.ntmps76
  go_wp2_with fail
  refine K.out.mono ?_
  rintro e1 w1 ⟨rfl,hb⟩
  have HB:=hide (HA.out.trans (hb.mono HA.out.size))
  clear hb K
  go_wp2
  exact ⟨rfl,.of_below HB.out,.inr ⟨80,rfl,HV.out⟩⟩
end
theorem Tabs.rcl {w w' : World} {q:Nat} (hT:Tabs w) (hr:Rc q q w w') (hq:∀ z,w.cell? ⟨q,0,none⟩≠some (.int .u8 z)):Tabs w' := by
 obtain ⟨h1,h2⟩:=hT
 have keep:∀ g c z,(∃ z0,w.cell? ⟨g,0,none⟩ = some (.int .u8 z0))→w.cell? ⟨g,c,none⟩ = some (.int .u8 z)→w'.cell? ⟨g,c,none⟩ = some (.int .u8 z):=by
  rintro g c z ⟨z0,e0⟩ e
  have n1:g≠q:=by rintro rfl;exact hq _ e0
  rw [World.cell?_of_block (w:=w) (hr.other g (adm e) n1 n1)]
  exact e
 refine ⟨fun c hc=>keep _ _ _ ⟨_,h1 0 (by decide)⟩ (h1 c hc),fun i hi=>⟨keep _ _ _ ⟨_,(h2 0 (by decide)).1⟩ (h2 i hi).1,keep _ _ _ ⟨_,(h2 0 (by decide)).1⟩ (h2 i hi).2⟩⟩
section
variable {w:World} {q:Nat} {tv vv mv:Value} {l:List Tk} {vs ms:List ByteArray} {k o:Nat} {t:Tk}
theorem Lrd.tabs {w' : World} (h:Lrd w q tv vv mv l vs ms k o) (hT:Tabs w) (hr:Rc q q w w'):Tabs w' := hT.rcl hr (fun z e=>by
 rw [h.own.2.1] at e
 obtain ⟨ao,ct,rfl,_⟩:=h.tks.parts
 cases e)
theorem aqm (hT:Tabs w) (h:Lrd w q tv vv mv l vs ms k o) (ht:l[k]? = some t) (hE:EndsL l) (hl:l.length≤100000) (ho:o≤16) (hs:o<16→∀ W,Tabs W→Lrd W q tv vv mv l vs ms (k+1) (o+1)→Calls Tryz.prog 21 #[.pointer (some ⟨q,0,none⟩)] W fun e W'=>EvO W W' q tv vv mv l vs ms (o+1) .sum (k+1) e) :
  Calls Tryz.prog 61 #[.pointer (some ⟨q,0,none⟩)] w fun e w'=>EvO w w' q tv vv mv l vs ms o .at_ k e:=by
 have K:=hide (abc w q tv vv mv l vs ms k o t h ht)
 have H:=hide h
 have HT:=hide ht
 have HTB:=hide hT
 have HS:=hide hs
 have HE:=hide hE
 clear h ht hT hs hE
 unfold Tk.lv at K
 go_enter Tryz.func61,Tryz.ntmps61
 go_wp2_with fail
 refine K.out.mono ?_
 rintro e1 w1 ⟨rfl,hb⟩
 have hA:=hAl w1 (.cells #[.int .i64 t.kind,.string t.text,.int .i64 t.pl.b,.int .i64 t.pl.g,.int .i64 t.pl.l,.int .i64 t.pl.c] 90)
 have hn:=heap_alloc_new w1 (.cells #[.int .i64 t.kind,.string t.text,.int .i64 t.pl.b,.int .i64 t.pl.g,.int .i64 t.pl.l,.int .i64 t.pl.c] 90)
 have HB:=hide (hb.trans (hA.mono hb.size))
 obtain ⟨g1,hg1⟩:∃ g,w1.heap.size=g:=⟨_,rfl⟩
 rw [hg1] at hn
 clear hb K hA
 go_upto_region 2 with fail
 generalize hw2:w1.alloc (.cells #[.int .i64 t.kind,.string t.text,.int .i64 t.pl.b,.int .i64 t.pl.g,.int .i64 t.pl.l,.int .i64 t.pl.c] 90)=w2 at *
 have HN:=hide hn
 have c0:w2.cell? ⟨g1,0,none⟩ = some (.int .i64 t.kind):=by rw [cell_of_row _ _ _ _ _ (0,0) hn];rfl
 have c1:w2.cell? ⟨g1,1,none⟩ = some (.string t.text):=by rw [cell_of_row _ _ _ _ _ (0,0) hn];rfl
 clear hn hw2 hg1
 by_cases h2:t.kind=2
 ·have h2' : (t.kind == 2)=true:=by simpa using h2
  have hi:=HE.out.more k t HT.out (.inl (by omega))
  have K:=hide (asz w2 t.text (HTB.out.below HB.out))
  have HV:=hide (EvE.num (vs:=vs) (num:=zOf) (o:=o) (show knd l k=2 by rw [ab1 HT.out];exact h2))
  go_wp2_with fail
  refine K.out.mono ?_
  rintro e2 w3 ⟨v3,rfl,⟨x,y,rfl,hx,rfl⟩,hb⟩
  have hx0:=hx
  obtain ⟨ngx,aox,capx,rsx,rfl,hxw⟩:=hx
  have hA:=hAl w3 (.cells #[.bool ngx,.slice aox rsx.length capx] 33)
  have hn3:=heap_alloc_new w3 (.cells #[.bool ngx,.slice aox rsx.length capx] 33)
  have HB3:=hide ((HB.out.trans (hb.mono HB.out.size)).trans (hA.mono (HB.out.trans (hb.mono HB.out.size)).size))
  have HX:=hide (hx0.ru (Ru.of_below hA))
  clear hb K hx0 hxw hA c0 c1 HN
  obtain ⟨g3,hg3⟩:∃ g,w3.heap.size=g:=⟨_,rfl⟩
  rw [hg3] at hn3
  go_upto_region 4 with fail
  generalize hw4:w3.alloc (.cells #[.bool ngx,.slice aox rsx.length capx] 33)=w4 at *
  have hL4:=H.out.below HB3.out
  obtain ⟨hq,k0,k1,k2,k3,k4,hf⟩:=hL4.own
  have f1:=hf 1
  have hqn:q≠g3:=fun e=>by
   have h3:=hL4.blk
   rw [e,hn3] at h3
   simp at h3
  have HS4:=hide (hL4.set1 (Rc.refl q q _) rfl hi)
  have HN3:=hide hn3
  have HQN:=hide hqn
  clear hf hL4 hw4 hg3 hn3 hqn
  go_upto_region 5 with fail
  have hx5:(w4.setCell ⟨q,1,none⟩ (.int .i64 ((k:Int)+1))).heap[g3]? = some (.cells #[.bool ngx,.slice aox rsx.length capx] 33 (0,0)):=(heap_setCell_other w4 ⟨q,1,none⟩ g3 _ (fun e=>HQN.out e.symm)).trans HN3.out
  obtain ⟨-,d0,d1,-,-⟩:=aa1 hx5
  have HX5:=hide (HX.out.ru HS4.out.2.ru)
  have HR:=hide ((Rc.of_below (q:=q) (b:=q) HB3.out).trans HS4.out.2)
  have HL5:=hide HS4.out.1
  clear hx5 k0 k1 k2 k3 k4 f1 HN3 HQN HX HS4 HB3
  generalize w4.setCell ⟨q,1,none⟩ (.int .i64 ((k:Int)+1))=w5 at *
  have hV:=HV.out
  rw [aav HT.out] at hV
  go_wp2
  refine bodyPost_ret (v:=_) (by simp [results,Tryz.results61,go_sem];try rfl) rfl ⟨HR.out,.inl ⟨.num (zOf t.text),k+1,_,rfl,by exact ⟨_,rfl,HX5.out⟩,hV,Nat.lt_succ_self k,HL5.out⟩⟩
 ·have h2' : (t.kind == 2)=false:=by simpa using h2
  by_cases hp:t.text=⟨#[40]⟩
  ·have hi:=HE.out.more k t HT.out (.inr (by rw [hp];simp))
   have hps:(t.text.toList == (⟨#[40]⟩:ByteArray).toList)=true:=by rw [hp];kernel_rfl
   have K:=hide (abq ⟨#[40]⟩ true (H.out.below HB.out) HT.out hps)
   go_wp2_with fail
   refine K.out.mono ?_
   rintro e2 w3 ⟨rfl,hb⟩
   replace HB:=hide (HB.out.trans (hb.mono HB.out.size))
   have hb03:=HB.out
   clear hb K c0 c1 HN
   by_cases h16:o=16
   ·subst h16
    have K:=hide (ak5 ⟨#[40]⟩ (H.out.below HB.out) HT.out hps)
    have HV:=hide (EvE.deep (vs:=vs) (num:=zOf) (show knd l k≠2 by rw [ab1 HT.out];exact h2) (show txtL l k=⟨#[40]⟩ by rw [aav HT.out];exact hp))
    go_wp2_with fail
    refine K.out.mono ?_
    rintro e3 w4 ⟨rfl,hb⟩
    replace HB:=hide (HB.out.trans (hb.mono HB.out.size))
    clear hb K
    go_wp2
    exact ⟨rfl,.of_below HB.out,.inr ⟨83,k,t,rfl,HT.out,HV.out⟩⟩
   ·have K:=hide (ank ⟨#[40]⟩ (H.out.below HB.out) HT.out hps hi hl (by omega))
    go_wp2_with fail
    refine K.out.mono ?_
    rintro e3 w4 ⟨rfl,hL4,hr4⟩
    have hr04:=(Rc.of_below (q:=q) (b:=q) HB.out).trans hr4
    have K2:=hide (HS.out (by omega) w4 (H.out.tabs HTB.out hr04) hL4)
    have HR4:=hide hr04
    clear hL4 hr4 hr04 K hb03
    go_wp2_with fail
    refine K2.out.mono ?_
    rintro e5 w5 ⟨hr5,⟨x,j,v,rfl,hx,hev,hkj,hL5⟩ | ⟨er,j,tk,rfl,htk,hev⟩⟩
    ·have HR5:=hide (HR4.out.trans hr5)
     have hj:=hL5.lt
     obtain ⟨tj,htj⟩:∃ tj,l[j]? = some tj:=⟨_,List.getElem?_eq_getElem hj⟩
     have HX:=hide hx
     have HEV:=hide hev
     have HTJ:=hide htj
     have HKJ:=hide hkj
     clear hr5 K2 hx hev htj hkj
     by_cases hc:tj.text=⟨#[41]⟩
     ·have hcs:(tj.text.toList == (⟨#[41]⟩:ByteArray).toList)=true:=by rw [hc];kernel_rfl
      have hij:=HE.out.more j tj HTJ.out (.inr (by rw [hc];simp))
      have K:=hide (ak6 ⟨#[41]⟩ hL5 HTJ.out hcs hij hl (by omega))
      have HV:=hide (EvE.brO (show knd l k≠2 by rw [ab1 HT.out];exact h2) (show txtL l k=⟨#[40]⟩ by rw [aav HT.out];exact hp) h16 HEV.out (show txtL l j=⟨#[41]⟩ by rw [aav HTJ.out];exact hc))
      clear hL5 HEV
      go_wp2_with fail
      refine K.out.mono ?_
      rintro e6 w6 ⟨rfl,hL6,hr6⟩
      have HL6:=hide hL6
      have HX6:=hide (HX.out.ru hr6.ru)
      have HR6:=hide (HR5.out.trans hr6)
      clear hL6 hr6 K
      go_wp2
      refine bodyPost_ret (v:=_) (by simp [results,Tryz.results61,go_sem];try rfl) rfl ⟨HR6.out,.inl ⟨x,j+1,v,rfl,HX6.out,HV.out,by have:=HKJ.out;omega,HL6.out⟩⟩
     ·have hcs:(tj.text.toList == (⟨#[41]⟩:ByteArray).toList)=false:=afa hc
      have K:=hide (anl ⟨#[41]⟩ hL5 HTJ.out hcs)
      have HV:=hide (EvE.brX (show knd l k≠2 by rw [ab1 HT.out];exact h2) (show txtL l k=⟨#[40]⟩ by rw [aav HT.out];exact hp) h16 HEV.out (show txtL l j≠⟨#[41]⟩ by rw [aav HTJ.out];exact hc))
      clear hL5 HEV
      go_wp2_with fail
      refine K.out.mono ?_
      rintro e6 w6 ⟨rfl,hb⟩
      have HR6:=hide (HR5.out.trans (Rc.of_below (q:=q) (b:=q) hb))
      clear hb K
      go_wp2
      exact ⟨rfl,HR6.out,.inr ⟨80,j,tj,rfl,HTJ.out,HV.out⟩⟩
    ·have HR5:=hide (HR4.out.trans hr5)
     have HV:=hide (EvE.brB (show knd l k≠2 by rw [ab1 HT.out];exact h2) (show txtL l k=⟨#[40]⟩ by rw [aav HT.out];exact hp) h16 hev)
     have HTK:=hide htk
     clear hr5 K2 hev htk
     go_wp2
     exact ⟨rfl,HR5.out,.inr ⟨er,j,tk,rfl,HTK.out,HV.out⟩⟩
  ·have hps:(t.text.toList == (⟨#[40]⟩:ByteArray).toList)=false:=afa hp
   have K:=hide (abq ⟨#[40]⟩ false (H.out.below HB.out) HT.out hps)
   go_wp2_with fail
   refine K.out.mono ?_
   rintro e2 w3 ⟨rfl,hb⟩
   replace HB:=hide (HB.out.trans (hb.mono HB.out.size))
   have K2:=hide (ah0 (H.out.below HB.out) HT.out HE.out hl)
   clear hb K c0 c1 HN
   go_wp2_with fail
   refine K2.out.mono ?_
   rintro e5 w5 ⟨hr5,⟨n,rfl,hev,hL5⟩ | ⟨er,rfl,hev⟩⟩
   ·have HR5:=hide ((Rc.of_below (q:=q) (b:=q) HB.out).trans hr5)
    have HV:=hide (EvE.var (num:=zOf) (o:=o) (show knd l k≠2 by rw [ab1 HT.out];exact h2) (show txtL l k≠⟨#[40]⟩ by rw [aav HT.out];exact hp) hev)
    have HL5:=hide hL5
    clear hr5 K2 hev hL5
    go_wp2
    refine bodyPost_ret (v:=_) (by simp [results,Tryz.results61,go_sem];try rfl) rfl ⟨HR5.out,.inl ⟨.var t.text n,k+1,_,rfl,by exact rfl,HV.out,Nat.lt_succ_self k,HL5.out⟩⟩
   ·have HR5:=hide ((Rc.of_below (q:=q) (b:=q) HB.out).trans hr5)
    have HV:=hide (EvE.var (num:=zOf) (o:=o) (show knd l k≠2 by rw [ab1 HT.out];exact h2) (show txtL l k≠⟨#[40]⟩ by rw [aav HT.out];exact hp) hev)
    clear hr5 K2 hev
    go_wp2
    exact ⟨rfl,HR5.out,.inr ⟨er,k,t,rfl,HT.out,HV.out⟩⟩
end
theorem IsX.iface {w:World} : ∀ {x:Ex} {v:Value},IsX w x v→∃ T u,v=.iface T u
 | .num _,_,⟨u,e,_⟩=>⟨_,u,e⟩
 | .var _ _,_,h=>⟨_,_,h⟩
 | .neg _,_,⟨_,e,_⟩=>⟨_,_,e⟩
 | .op _ _ _,_,⟨_,_,e,_⟩=>⟨_,_,e⟩
section
variable {w:World} {q:Nat} {tv vv mv:Value} {l:List Tk} {vs ms:List ByteArray} {k o:Nat} {t:Tk}
theorem anq (hT:Tabs w) (h:Lrd w q tv vv mv l vs ms k o) (ht:l[k]? = some t) (hE:EndsL l) (hl:l.length≤100000)
  (ha:∀ W,Tabs W→Lrd W q tv vv mv l vs ms k o→Calls Tryz.prog 61 #[.pointer (some ⟨q,0,none⟩)] W fun e W'=>EvO W W' q tv vv mv l vs ms o .at_ k e)
  (hu:∀ W,Tabs W→Lrd W q tv vv mv l vs ms (k+1) o→Calls Tryz.prog 46 #[.pointer (some ⟨q,0,none⟩)] W fun e W'=>EvO W W' q tv vv mv l vs ms o .un (k+1) e) :
  Calls Tryz.prog 46 #[.pointer (some ⟨q,0,none⟩)] w fun e w'=>EvO w w' q tv vv mv l vs ms o .un k e:=by
 have H:=hide h
 have HT:=hide ht
 have HTB:=hide hT
 by_cases hp:t.text=⟨#[45]⟩
 ·have hi:=hE.more k t ht (.inr (by rw [hp];simp))
  have K:=hide (ahm ⟨#[45]⟩ h ht (by rw [hp];kernel_rfl) hi hl)
  have HU:=hide hu
  clear h ht hT ha hu hE
  go_enter Tryz.func46,Tryz.ntmps46
  go_wp2_with fail
  refine K.out.mono ?_
  rintro e1 w1 ⟨rfl,hL1,hr1⟩
  have K2:=hide (HU.out w1 (H.out.tabs HTB.out hr1) hL1)
  have HR1:=hide hr1
  clear hL1 hr1 K HU
  go_wp2_with fail
  refine K2.out.mono ?_
  rintro e2 w2 ⟨hr2,⟨x,j,v,rfl,hx,hev,hkj,hL2⟩ | ⟨er,j,tk,rfl,htk,hev⟩⟩
  ·obtain ⟨T,u,rfl⟩:=hx.iface
   have HR2:=hide (HR1.out.trans hr2)
   have HX:=hide hx
   have HV:=hide (EvE.unN (show txtL l k=⟨#[45]⟩ by rw [aav HT.out];exact hp) hev)
   have HKJ:=hide hkj
   have HL2:=hide hL2
   clear hr2 hx hev hkj hL2 K2
   go_wp2
   refine bodyPost_ret (v:=_) (by simp [results,Tryz.results46,go_sem];try rfl) rfl ⟨HR2.out,.inl ⟨.neg x,j,_,rfl,by exact ⟨_,rfl,HX.out⟩,HV.out,by have:=HKJ.out;omega,HL2.out⟩⟩
  ·have HR2:=hide (HR1.out.trans hr2)
   have HV:=hide (EvE.unN (show txtL l k=⟨#[45]⟩ by rw [aav HT.out];exact hp) hev)
   have HTK:=hide htk
   clear hr2 hev htk K2
   go_wp2
   exact ⟨rfl,HR2.out,.inr ⟨er,j,tk,rfl,HTK.out,HV.out⟩⟩
 ·have K:=hide (ajs ⟨#[45]⟩ h ht (afa hp))
  have HA:=hide ha
  clear h ht hT ha hu hE
  go_enter Tryz.func46,Tryz.ntmps46
  go_wp2_with fail
  refine K.out.mono ?_
  rintro e1 w1 ⟨rfl,hb⟩
  have K2:=hide (HA.out w1 (HTB.out.below hb) (H.out.below hb))
  have HR1:=hide (Rc.of_below (q:=q) (b:=q) hb)
  clear hb K HA
  go_wp2_with fail
  refine K2.out.mono ?_
  rintro e2 w2 ⟨hr2,⟨x,j,v,rfl,hx,hev,hkj,hL2⟩ | ⟨er,j,tk,rfl,htk,hev⟩⟩
  ·have HR2:=hide (HR1.out.trans hr2)
   have HX:=hide hx
   have HV:=hide (EvE.unA (show txtL l k≠⟨#[45]⟩ by rw [aav HT.out];exact hp) hev)
   have HKJ:=hide hkj
   have HL2:=hide hL2
   clear hr2 hx hev hkj hL2 K2
   go_wp2
   refine bodyPost_ret (v:=_) (by simp [results,Tryz.results46,go_sem];try rfl) rfl ⟨HR2.out,.inl ⟨x,j,v,rfl,HX.out,HV.out,HKJ.out,HL2.out⟩⟩
  ·have HR2:=hide (HR1.out.trans hr2)
   have HV:=hide (EvE.unA (show txtL l k≠⟨#[45]⟩ by rw [aav HT.out];exact hp) hev)
   have HTK:=hide htk
   clear hr2 hev htk K2
   go_wp2
   exact ⟨rfl,HR2.out,.inr ⟨er,j,tk,rfl,HTK.out,HV.out⟩⟩
end
def topL:Bool→Lv
 | true=>.sum
 | false=>.prod
theorem EvE.topB {l:List Tk} {vs:List ByteArray} {num:ByteArray→Int} {s:Bool} {k o j:Nat} {e:Int} (h:EvE l vs num (lowL s) k o (.bad e j)):EvE l vs num (topL s) k o (.bad e j):=by
 cases s with
 | true=>exact .sumB h
 | false=>exact .prodB h
theorem EvE.topO {l:List Tk} {vs:List ByteArray} {num:ByteArray→Int} {s:Bool} {k o j:Nat} {t:Ex} {r:PO Ex} (h:EvE l vs num (lowL s) k o (.ok t j)) (h' : EvE l vs num (.tl s t) j o r):EvE l vs num (topL s) k o r:=by
 cases s with
 | true=>exact .sumO h h'
 | false=>exact .prodO h h'
theorem awj {s:Bool} {x:ByteArray} (h:x ∈ sgs s):x≠⟨#[]⟩:=by
 cases s <;> (simp only [sgs,List.mem_cons,List.not_mem_nil,or_false] at h;rcases h with rfl | rfl | rfl <;> simp)
theorem agp {x:ByteArray} {ss:List ByteArray} : (ixS x ss).isSome=true↔x ∈ ss:=by
 constructor
 ·intro h
  obtain ⟨k,hk⟩:=Option.isSome_iff_exists.1 h
  exact List.mem_of_getElem? (ap6 hk)
 ·intro h
  cases hx:ixS x ss with
  | none=>exact absurd h (alv hx)
  | some k=>rfl
def ChS (w wr:World) (q:Nat) (tv vv mv:Value) (l:List Tk) (vs ms:List ByteArray) (o:Nat) (s:Bool) (k:Nat) (lw:Value) (t:Ex) (j:Nat):Prop:=IsX wr t lw∧Lrd wr q tv vv mv l vs ms j o∧Rc q q w wr∧k<j∧∀ r,EvE l vs zOf (.tl s t) j o r→EvE l vs zOf (topL s) k o r
section
variable {w:World} {q:Nat} {tv vv mv:Value} {l:List Tk} {vs ms:List ByteArray} {k o:Nat}
set_option maxRecDepth 20000 in
set_option maxHeartbeats 4000000 in
theorem agq (s:Bool) (f:FuncId) (hf:Has Tryz.prog f) (as_:Option Addr) (ns cs:Nat) (hT:Tabs w) (h:Lrd w q tv vv mv l vs ms k o) (hE:EndsL l) (hl:l.length≤100000)
  (hsg:Strs w (.slice as_ ns cs) (sgs s)) (hsa:0<(sgs s).length→∀ b' off n c,(Value.slice as_ ns cs)=.slice (some ⟨b',off,none⟩) n c→b'≠q∧b'≠q)
  (hp:∀ W j,k≤j→Tabs W→Lrd W q tv vv mv l vs ms j o→Calls Tryz.prog f #[.pointer (some ⟨q,0,none⟩)] W fun e W'=>EvO W W' q tv vv mv l vs ms o (lowL s) j e) :
  Calls Tryz.prog 31 #[.pointer (some ⟨q,0,none⟩),.func (.func f) #[.pointer (some ⟨q,0,none⟩)] #[],.slice as_ ns cs] w fun e w'=>EvO w w' q tv vv mv l vs ms o (topL s) k e:=by
 have H:=hide h
 have HTB:=hide hT
 have HE:=hide hE
 have HSG:=hide hsg
 have HSA:=hide hsa
 have HP:=hide hp
 have HF:=hide hf
 have K:=hide (hp w k (Nat.le_refl k) hT h)
 have hEn:∀ args w,(callFunc f args).run Tryz.prog w=.ok (.enter f args) w:=fun args w=>hf.enter args w
 clear h hT hE hsg hsa hp hf
 go_enter Tryz.func31,Tryz.ntmps31
 go_wp2_with fail
 refine K.out.mono ?_
 rintro e1 w1 ⟨hr1,⟨x,j,v,rfl,hx,hev,hkj,hL1⟩ | ⟨er,j,tk,rfl,htk,hev⟩⟩
 case inr =>
  have HR1:=hide hr1
  have HV:=hide hev.topB
  have HTK:=hide htk
  clear hr1 hev htk K
  go_wp2
  exact ⟨rfl,HR1.out,.inr ⟨er,j,tk,rfl,HTK.out,HV.out⟩⟩
 case inl =>
  obtain ⟨tj,htj⟩:∃ tj,l[j]? = some tj:=⟨_,List.getElem?_eq_getElem hL1.lt⟩
  have hst:ChS w w1 q tv vv mv l vs ms o s k v x j:=⟨hx,hL1,hr1,hkj,fun r hr=>hev.topO hr⟩
  have K2:=hide (abc w1 q tv vv mv l vs ms j o tj hL1 htj)
  have HST:=hide hst
  have HTJ:=hide htj
  clear hr1 hx hev hkj hL1 hst htj K
  unfold Tk.lv at K2
  go_wp2_with fail
  refine K2.out.mono ?_
  rintro e2 w2 ⟨rfl,hb⟩
  have hst2:ChS w w2 q tv vv mv l vs ms o s k v x j:=⟨HST.out.1.ru (Ru.of_below hb),HST.out.2.1.below hb,HST.out.2.2.1.trans (.of_below hb),HST.out.2.2.2⟩
  have HST2:=hide hst2
  have hf:=ajr tj.kind tj.text (.int .i64 tj.pl.b) (.int .i64 tj.pl.g) (.int .i64 tj.pl.l) (.int .i64 tj.pl.c)
  clear hb K2 hst2 HST
  go_wp2
  clear hf
  go_loopw [7,8] (fun lw sv wr=>∃ (y:Ex) (i:Nat) (u:Tk),l[i]? = some u∧sv=.string u.text∧ChS w wr q tv vv mv l vs ms o s k lw y i) (fun _ _ wr=>l.length - (intOf ((wr.cell? ⟨q,1,none⟩).getD (.int .i64 0))).toNat)
  case atStart=>exact ⟨x,j,tj,HTJ.out,rfl,HST2.out⟩
  case round =>
   obtain ⟨y,i,u,hu,rfl,hy,hL,hr,hki,hev⟩:=hrel
   have HU:=hide hu
   have HY:=hide hy
   have HL:=hide hL
   have HR:=hide hr
   have HEV:=hide hev
   have hSr:Strs wr (.slice as_ ns cs) (sgs s):=Ce.rc HSG.out hr HSA.out
   have K:=ael wr as_ ns cs (sgs s) u.text hSr
   have hmc:=hL.own.2.2.1
   have HMC:=hide hmc
   by_cases hm:u.text ∈ sgs s
   ·rw [agp.2 hm] at K
    have KC:=hide K
    have hi:=HE.out.more i u hu (.inr (awj hm))
    have HTX:Hid (txtL l i ∈ sgs s):=(show _ ∈ _ by rw [aav hu];exact hm)
    obtain ⟨hq,k0,k1,k2,k3,k4,hf⟩:=hL.own
    have f1:=hf 1
    have HS1:=hide (hL.set1 (Rc.refl q q _) rfl hi)
    have KP:=hide (HP.out (wr.setCell ⟨q,1,none⟩ (.int .i64 ((i:Int)+1))) (i+1) (by omega) (H.out.tabs HTB.out (hr.trans HS1.out.2)) HS1.out.1)
    clear K hf hL hr hev hSr hu hm hy hmc
    go_wp2_with fail
    refine KC.out.mono ?_
    rintro e3 w3 ⟨rfl,rfl⟩
    go_wp2_with fail
    refine KP.out.mono ?_
    rintro e4 w4 ⟨hr4,⟨z,i2,v2,rfl,hz,hev4,hki4,hL4⟩ | ⟨er,i2,tk,rfl,htk,hev4⟩⟩
    ·obtain ⟨T1,p1,rfl⟩:=HY.out.iface
     obtain ⟨T2,p2,rfl⟩:=hz.iface
     obtain ⟨t2,ht2⟩:∃ t2,l[i2]? = some t2:=⟨_,List.getElem?_eq_getElem hL4.lt⟩
     have HR4:=hide ((HR.out.trans HS1.out.2).trans hr4)
     have HY4:=hide (HY.out.ru (HS1.out.2.ru.trans hr4.ru))
     have HZ4:=hide hz
     have HEV4:=hide hev4
     have HL4:=hide hL4
     have HT2:=hide ht2
     have HK4:=hide hki4
     have K5:=hide (abc w4 q tv vv mv l vs ms i2 o t2 hL4 ht2)
     clear hr4 hz hev4 hki4 hL4 ht2 KP KC k0 k1 k2 k3 k4 f1 HS1
     unfold Tk.lv at K5
     go_wp2_with fail
     refine K5.out.mono ?_
     rintro e5 w5 ⟨rfl,hb⟩
     have hf:=ajr t2.kind t2.text (.int .i64 t2.pl.b) (.int .i64 t2.pl.g) (.int .i64 t2.pl.l) (.int .i64 t2.pl.c)
     have hL5:=HL4.out.below hb
     have HRU:=hide (Ru.of_below hb)
     have HR5:=hide (HR4.out.trans (Rc.of_below (q:=q) (b:=q) hb))
     have HL5:=hide hL5
     have HM5:=hide hL5.own.2.2.1
     clear hb K5 hL5
     go_wp2
     go_roundw
     case rel=>exact ⟨.op u.text y z,i2,t2,HT2.out,rfl,by exact ⟨_,_,rfl,HY4.out.ru HRU.out,HZ4.out.ru HRU.out⟩,HL5.out,HR5.out,by have:=HK4.out;omega,fun r hr=>HEV.out r (by
      have h1:=EvE.tlO (t:=y) (r:=r) HTX.out HEV4.out
      rw [aav HU.out] at h1
      exact h1 hr)⟩
     case measure =>
      rw [HM5.out,HMC.out]
      have h1:=HK4.out
      have h2:=HL5.out.lt
      simp [intOf]
      omega
    ·have HR4:=hide ((HR.out.trans HS1.out.2).trans hr4)
     have HV:=hide (HEV.out _ (EvE.tlB (t:=y) HTX.out hev4))
     have HTK:=hide htk
     clear hr4 hev4 htk KP KC k0 k1 k2 k3 k4 f1 HS1
     go_wp2
     exact ⟨rfl,HR4.out,.inr ⟨er,i2,tk,rfl,HTK.out,HV.out⟩⟩
   ·have hno:(ixS u.text (sgs s)).isSome=false:=by
     rw [Bool.eq_false_iff]
     intro hh
     exact hm (agp.1 hh)
    rw [hno] at K
    have KC:=hide K
    have HV:=hide (hev _ (EvE.tlE (t:=y) (show txtL l i ∉ sgs s by rw [aav hu];exact hm)))
    clear K hL hr hev hSr hu hm hy hno hmc
    go_wp2_with fail
    refine KC.out.mono ?_
    rintro e3 w3 ⟨rfl,rfl⟩
    clear KC
    go_wp2
    refine bodyPost_ret (v:=_) (by simp [results,Tryz.results31,go_sem];try rfl) rfl ⟨HR.out,.inl ⟨y,i,_,rfl,HY.out,HV.out,hki,HL.out⟩⟩
end
theorem af1 (w:World) (a b:ByteArray) (T:TypeId):Strs (w.alloc (.cells #[.string a,.string b] T)) (.slice (some ⟨w.heap.size,0,none⟩) 2 2) [a,b]:=by
 have hn:=heap_alloc_new w (.cells #[.string a,.string b] T)
 refine ⟨_,_,rfl,Nat.le_refl _,by decide,rfl,.inr ⟨w.heap.size,0,rfl,aaa hn,fun j u hu=>?_⟩⟩
 rw [Nat.zero_add,cell_of_row _ _ _ _ _ (0,0) hn]
 simpa using hu
theorem ak7 (w:World) (a b c:ByteArray) (T:TypeId):Strs (w.alloc (.cells #[.string a,.string b,.string c] T)) (.slice (some ⟨w.heap.size,0,none⟩) 3 3) [a,b,c]:=by
 have hn:=heap_alloc_new w (.cells #[.string a,.string b,.string c] T)
 refine ⟨_,_,rfl,Nat.le_refl _,by decide,rfl,.inr ⟨w.heap.size,0,rfl,aaa hn,fun j u hu=>?_⟩⟩
 rw [Nat.zero_add,cell_of_row _ _ _ _ _ (0,0) hn]
 simpa using hu
theorem anr:Has Tryz.prog 46:=by unfold Has;kernel_rfl
theorem ajt:Has Tryz.prog 32:=by unfold Has;kernel_rfl
section
variable {w:World} {q:Nat} {tv vv mv:Value} {l:List Tk} {vs ms:List ByteArray} {k o:Nat}
theorem aju (hT:Tabs w) (h:Lrd w q tv vv mv l vs ms k o) (hE:EndsL l) (hl:l.length≤100000)
  (hp:∀ W j,k≤j→Tabs W→Lrd W q tv vv mv l vs ms j o→Calls Tryz.prog 46 #[.pointer (some ⟨q,0,none⟩)] W fun e W'=>EvO W W' q tv vv mv l vs ms o .un j e) :
  Calls Tryz.prog 32 #[.pointer (some ⟨q,0,none⟩)] w fun e w'=>EvO w w' q tv vv mv l vs ms o .prod k e:=by
 have hA:=hAl w (.cells #[.string ⟨#[42]⟩,.string ⟨#[47]⟩,.string ⟨#[37]⟩] 9)
 have hq:q<w.heap.size:=aaa h.blk
 have K:=hide (agq false 46 anr _ _ _ (hT.below hA) (h.below hA) hE hl (ak7 w ⟨#[42]⟩ ⟨#[47]⟩ ⟨#[37]⟩ 9) (fun _ b' off n c e=>by
  simp only [Value.slice.injEq,Option.some.injEq,Addr.mk.injEq] at e
  obtain ⟨⟨rfl,-⟩,-⟩:=e
  exact ⟨by omega,by omega⟩) hp)
 have HA:=hide hA
 clear hT h hE hp hA
 go_enter Tryz.func32,Tryz.ntmps32
 go_wp2_with fail
 refine K.out.mono ?_
 rintro e1 w1 ⟨hr1,⟨x,j,v,rfl,hx,hev,hkj,hL1⟩ | ⟨er,j,tk,rfl,htk,hev⟩⟩
 ·have HR1:=hide ((Rc.of_below (q:=q) (b:=q) HA.out).trans hr1)
  have HX:=hide hx
  have HV:=hide hev
  have HL:=hide hL1
  clear hr1 hx hev hL1 K
  go_wp2
  refine bodyPost_ret (v:=_) (by simp [results,Tryz.results32,go_sem];try rfl) rfl ⟨HR1.out,.inl ⟨x,j,v,rfl,HX.out,HV.out,hkj,HL.out⟩⟩
 ·have HR1:=hide ((Rc.of_below (q:=q) (b:=q) HA.out).trans hr1)
  have HV:=hide hev
  have HTK:=hide htk
  clear hr1 hev htk K
  go_wp2
  exact ⟨rfl,HR1.out,.inr ⟨er,j,tk,rfl,HTK.out,HV.out⟩⟩
theorem as0 (hT:Tabs w) (h:Lrd w q tv vv mv l vs ms k o) (hE:EndsL l) (hl:l.length≤100000)
  (hp:∀ W j,k≤j→Tabs W→Lrd W q tv vv mv l vs ms j o→Calls Tryz.prog 32 #[.pointer (some ⟨q,0,none⟩)] W fun e W'=>EvO W W' q tv vv mv l vs ms o .prod j e) :
  Calls Tryz.prog 21 #[.pointer (some ⟨q,0,none⟩)] w fun e w'=>EvO w w' q tv vv mv l vs ms o .sum k e:=by
 have hA:=hAl w (.cells #[.string ⟨#[43]⟩,.string ⟨#[45]⟩] 9)
 have hq:q<w.heap.size:=aaa h.blk
 have K:=hide (agq true 32 ajt _ _ _ (hT.below hA) (h.below hA) hE hl (af1 w ⟨#[43]⟩ ⟨#[45]⟩ 9) (fun _ b' off n c e=>by
  simp only [Value.slice.injEq,Option.some.injEq,Addr.mk.injEq] at e
  obtain ⟨⟨rfl,-⟩,-⟩:=e
  exact ⟨by omega,by omega⟩) hp)
 have HA:=hide hA
 clear hT h hE hp hA
 go_enter Tryz.func21,Tryz.ntmps21
 go_wp2_with fail
 refine K.out.mono ?_
 rintro e1 w1 ⟨hr1,⟨x,j,v,rfl,hx,hev,hkj,hL1⟩ | ⟨er,j,tk,rfl,htk,hev⟩⟩
 ·have HR1:=hide ((Rc.of_below (q:=q) (b:=q) HA.out).trans hr1)
  have HX:=hide hx
  have HV:=hide hev
  have HL:=hide hL1
  clear hr1 hx hev hL1 K
  go_wp2
  refine bodyPost_ret (v:=_) (by simp [results,Tryz.results21,go_sem];try rfl) rfl ⟨HR1.out,.inl ⟨x,j,v,rfl,HX.out,HV.out,hkj,HL.out⟩⟩
 ·have HR1:=hide ((Rc.of_below (q:=q) (b:=q) HA.out).trans hr1)
  have HV:=hide hev
  have HTK:=hide htk
  clear hr1 hev htk K
  go_wp2
  exact ⟨rfl,HR1.out,.inr ⟨er,j,tk,rfl,HTK.out,HV.out⟩⟩
theorem aqn (hE:EndsL l) (hl:l.length≤100000):∀ (n k:Nat),l.length - k≤n→∀ o,o≤16→∀ w,Tabs w→Lrd w q tv vv mv l vs ms k o →
  (Calls Tryz.prog 46 #[.pointer (some ⟨q,0,none⟩)] w fun e w'=>EvO w w' q tv vv mv l vs ms o .un k e) ∧
  (Calls Tryz.prog 32 #[.pointer (some ⟨q,0,none⟩)] w fun e w'=>EvO w w' q tv vv mv l vs ms o .prod k e) ∧
  Calls Tryz.prog 21 #[.pointer (some ⟨q,0,none⟩)] w fun e w'=>EvO w w' q tv vv mv l vs ms o .sum k e:=by
 intro n
 induction n with
 | zero =>
  intro k hk o _ w _ h
  have:=h.lt
  omega
 | succ n ih =>
  intro k hk o ho w hT h
  have hat:∀ W,Tabs W→Lrd W q tv vv mv l vs ms k o→Calls Tryz.prog 61 #[.pointer (some ⟨q,0,none⟩)] W fun e W'=>EvO W W' q tv vv mv l vs ms o .at_ k e:=fun W hTW hW=>by
   obtain ⟨t,ht⟩:∃ t,l[k]? = some t:=⟨_,List.getElem?_eq_getElem hW.lt⟩
   exact aqm hTW hW ht hE hl ho (fun ho16 W2 hT2 hL2=>(ih (k+1) (by omega) (o+1) (by omega) W2 hT2 hL2).2.2)
  have hun:∀ W,Tabs W→Lrd W q tv vv mv l vs ms k o→Calls Tryz.prog 46 #[.pointer (some ⟨q,0,none⟩)] W fun e W'=>EvO W W' q tv vv mv l vs ms o .un k e:=fun W hTW hW=>by
   obtain ⟨t,ht⟩:∃ t,l[k]? = some t:=⟨_,List.getElem?_eq_getElem hW.lt⟩
   exact anq hTW hW ht hE hl hat (fun W2 hT2 hL2=>(ih (k+1) (by omega) o ho W2 hT2 hL2).1)
  have hpr:∀ W,Tabs W→Lrd W q tv vv mv l vs ms k o→Calls Tryz.prog 32 #[.pointer (some ⟨q,0,none⟩)] W fun e W'=>EvO W W' q tv vv mv l vs ms o .prod k e:=fun W hTW hW =>
   aju hTW hW hE hl (fun W2 j hj hT2 hL2=>by
    rcases Nat.eq_or_lt_of_le hj with rfl | hj
    ·exact hun W2 hT2 hL2
    ·exact (ih j (by omega) o ho W2 hT2 hL2).1)
  exact ⟨hun w hT h,hpr w hT h,as0 hT h hE hl (fun W2 j hj hT2 hL2=>by
   rcases Nat.eq_or_lt_of_le hj with rfl | hj
   ·exact hpr W2 hT2 hL2
   ·exact (ih j (by omega) o ho W2 hT2 hL2).2.1)⟩
theorem as1 (hT:Tabs w) (h:Lrd w q tv vv mv l vs ms k o) (hE:EndsL l) (hl:l.length≤100000) (ho:o≤16) :
  Calls Tryz.prog 21 #[.pointer (some ⟨q,0,none⟩)] w fun e w'=>EvO w w' q tv vv mv l vs ms o .sum k e:=(aqn hE hl (l.length - k) k (Nat.le_refl _) o ho w hT h).2.2
end
inductive ReadE (l:List Tk) (vs:List ByteArray) (num:ByteArray→Int):PO Ex→Prop
 | bad {e j} (h:EvE l vs num .sum 0 0 (.bad e j)):ReadE l vs num (.bad e j)
 | more {t j} (h:EvE l vs num .sum 0 0 (.ok t j)) (hk:knd l j≠0):ReadE l vs num (.bad 80 j)
 | ok {t j} (h:EvE l vs num .sum 0 0 (.ok t j)) (hk:knd l j=0):ReadE l vs num (.ok t j)
theorem ReadE.one {l:List Tk} {vs:List ByteArray} {num:ByteArray→Int} {r r' : PO Ex} (h:ReadE l vs num r) (h' : ReadE l vs num r'):r=r' := by
 cases h with
 | bad h =>
  cases h' with
  | bad g=>cases h.one g;rfl
  | more g _=>cases h.one g
  | ok g _=>cases h.one g
 | more h hk =>
  cases h' with
  | bad g=>cases h.one g
  | more g _=>cases h.one g;rfl
  | ok g gk=>cases h.one g;exact absurd gk hk
 | ok h hk =>
  cases h' with
  | bad g=>cases h.one g
  | more g gk=>cases h.one g;exact absurd hk gk
  | ok g _=>cases h.one g;rfl
def ReadO (w w' : World) (q:Nat) (l:List Tk) (vs:List ByteArray) (e:Ending):Prop :=
 Rc q q w w'∧((∃ t j v,e=.returned v∧IsX w' t v∧ReadE l vs zOf (.ok t j))∨∃ er j tk,e=.panicked (faultL er tk.pl)∧l[j]? = some tk∧ReadE l vs zOf (.bad er j))
section
variable {w:World} {q:Nat} {tv vv mv:Value} {l:List Tk} {vs ms:List ByteArray} {k o:Nat} {t:Tk}
theorem au3 (h:Lrd w q tv vv mv l vs ms k o) (ht:l[k]? = some t) (hk:t.kind≠0) :
  Calls Tryz.prog 30 #[.pointer (some ⟨q,0,none⟩)] w fun e w'=>e=.panicked (faultL 80 t.pl)∧Below w.heap.size w w' := by
 have K:=hide (abc w q tv vv mv l vs ms k o t h ht)
 have H:=hide h
 have HT:=hide ht
 have hk' : (t.kind != 0)=true:=by simpa using hk
 clear h ht
 unfold Tk.lv at K
 go_enter Tryz.func30,Tryz.ntmps30
 go_wp2_with fail
 refine K.out.mono ?_
 rintro e1 w1 ⟨rfl,hb⟩
 have hf:=aqe t.kind t.text (.int .i64 t.pl.b) (.int .i64 t.pl.g) (.int .i64 t.pl.l) (.int .i64 t.pl.c)
 have HB:=hide hb
 have K2:=hide (aci 80 (H.out.below hb) HT.out)
 clear hb K
 go_wp2_with fail
 refine K2.out.mono ?_
 rintro e1 w2 ⟨rfl,hb⟩
 go_wp2
 exact ⟨rfl,rfl,HB.out.trans (hb.mono HB.out.size)⟩
theorem as2 (h:Lrd w q tv vv mv l vs ms k o) (ht:l[k]? = some t) (hk:t.kind=0) :
  Calls Tryz.prog 30 #[.pointer (some ⟨q,0,none⟩)] w fun e w'=>e=.returned (.tuple #[])∧Below w.heap.size w w' := by
 have K:=hide (abc w q tv vv mv l vs ms k o t h ht)
 clear h ht
 unfold Tk.lv at K
 rw [hk] at K
 go_enter Tryz.func30,Tryz.ntmps30
 go_wp2_with fail
 refine K.out.mono ?_
 rintro e1 w1 ⟨rfl,hb⟩
 have hf:=aqe 0 t.text (.int .i64 t.pl.b) (.int .i64 t.pl.g) (.int .i64 t.pl.l) (.int .i64 t.pl.c)
 have HB:=hide hb
 clear hb K
 go_wp2
 refine bodyPost_end (results_none rfl _ _ _) rfl ⟨rfl,HB.out⟩
theorem as3:Has Tryz.prog 21:=by unfold Has;kernel_rfl
theorem ak8 (gp:Nat) (hT:Tabs w) (h:Lrd w q tv vv mv l vs ms 0 0) (hE:EndsL l) (hl:l.length≤100000) (hp:w.cell? ⟨gp,0,none⟩ = some (.func (.func 21) #[] #[])) :
  Calls Tryz.prog 29 #[.pointer (some ⟨q,0,none⟩),.pointer (some ⟨gp,0,none⟩)] w fun e w'=>ReadO w w' q l vs e:=by
 have K:=hide (as1 hT h hE hl (by decide))
 have hEn:∀ args w,(callFunc 21 args).run Tryz.prog w=.ok (.enter 21 args) w:=fun args w=>as3.enter args w
 clear hT h hE
 go_enter Tryz.func29,Tryz.ntmps29
 go_wp2_with fail
 refine K.out.mono ?_
 rintro e1 w1 ⟨hr1,⟨x,j,v,rfl,hx,hev,hkj,hL1⟩ | ⟨er,j,tk,rfl,htk,hev⟩⟩
 ·obtain ⟨tj,htj⟩:∃ tj,l[j]? = some tj:=⟨_,List.getElem?_eq_getElem hL1.lt⟩
  have HR1:=hide hr1
  have HX:=hide hx
  have HEV:=hide hev
  have HTJ:=hide htj
  by_cases h0:tj.kind=0
  ·have K2:=hide (as2 hL1 htj h0)
   clear hr1 hx hev htj hL1 K
   go_wp2_with fail
   refine K2.out.mono ?_
   rintro e2 w2 ⟨rfl,hb⟩
   have HX2:=hide (HX.out.ru (Ru.of_below hb))
   have HR2:=hide (HR1.out.trans (Rc.of_below (q:=q) (b:=q) hb))
   clear hb K2
   go_wp2
   refine bodyPost_ret (v:=_) (by simp [results,Tryz.results29,go_sem];try rfl) rfl ⟨HR2.out,.inl ⟨x,j,v,rfl,HX2.out,.ok HEV.out (by rw [ab1 HTJ.out];exact h0)⟩⟩
  ·have K2:=hide (au3 hL1 htj h0)
   clear hr1 hx hev htj hL1 K
   go_wp2_with fail
   refine K2.out.mono ?_
   rintro e2 w2 ⟨rfl,hb⟩
   have HR2:=hide (HR1.out.trans (Rc.of_below (q:=q) (b:=q) hb))
   clear hb K2
   go_wp2
   exact ⟨rfl,HR2.out,.inr ⟨80,j,tj,rfl,HTJ.out,.more HEV.out (by rw [ab1 HTJ.out];exact h0)⟩⟩
 ·have HR1:=hide hr1
  have HEV:=hide hev
  have HTK:=hide htk
  clear hr1 hev htk K
  go_wp2
  exact ⟨rfl,HR1.out,.inr ⟨er,j,tk,rfl,HTK.out,.bad HEV.out⟩⟩
theorem ak9:Has Tryz.prog 29:=by unfold Has;kernel_rfl
theorem ans (gp gb gr:Nat) (hT:Tabs w) (h:Lrd w q tv vv mv l vs ms 0 0) (hE:EndsL l) (hl:l.length≤100000) (hp:w.cell? ⟨gp,0,none⟩ = some (.func (.func 21) #[] #[])) (hb:w.cell? ⟨gb,0,none⟩ = some (.func (.func 29) #[] #[.pointer (some ⟨gp,0,none⟩)])) (hr:w.cell? ⟨gr,0,none⟩ = some (.pointer (some ⟨q,0,none⟩))) :
  Calls Tryz.prog 43 #[.pointer (some ⟨gb,0,none⟩),.pointer (some ⟨gr,0,none⟩)] w fun e w'=>ReadO w w' q l vs e:=by
 have K:=hide (ak8 gp hT h hE hl hp)
 have hEn:∀ args w,(callFunc 29 args).run Tryz.prog w=.ok (.enter 29 args) w:=fun args w=>ak9.enter args w
 clear hT h hE hp
 go_enter Tryz.func43,Tryz.ntmps43
 go_wp2_with fail
 refine K.out.mono ?_
 rintro e1 w1 ⟨hr1,⟨x,j,v,rfl,hx,hev⟩ | ⟨er,j,tk,rfl,htk,hev⟩⟩
 ·have HR1:=hide hr1
  have HX:=hide hx
  have HEV:=hide hev
  clear hr1 hx hev K
  go_wp2
  refine bodyPost_ret (v:=_) (by simp [results,Tryz.results43,go_sem];try rfl) rfl ⟨HR1.out,.inl ⟨x,j,v,rfl,HX.out,HEV.out⟩⟩
 ·have HR1:=hide hr1
  have HEV:=hide hev
  have HTK:=hide htk
  clear hr1 hev htk K
  go_wp2
  exact ⟨rfl,HR1.out,.inr ⟨er,j,tk,rfl,HTK.out,HEV.out⟩⟩
end
def fltV (e:Int) (p:Pl):Value:=.agg #[.int .i64 e,.int .i64 p.b,.int .i64 p.g,.int .i64 p.l,.int .i64 p.c]
def fltZ:Value:=.agg #[.int .i64 0,.int .i64 0,.int .i64 0,.int .i64 0,.int .i64 0]
def set5 (w:World) (g:Nat) (e:Int) (p:Pl):World:=((((w.setCell ⟨g,0,none⟩ (.int .i64 e)).setCell ⟨g,1,none⟩ (.int .i64 p.b)).setCell ⟨g,2,none⟩ (.int .i64 p.g)).setCell ⟨g,3,none⟩ (.int .i64 p.l)).setCell ⟨g,4,none⟩ (.int .i64 p.c)
theorem abh {W:World} {f:Nat} {a b c d e:Value} {T:TypeId} (h:W.heap[f]? = some (.cells #[a,b,c,d,e] T (0,0))):f<W.heap.size∧(W.cell? ⟨f,0,none⟩ = some a∧W.cell? ⟨f,1,none⟩ = some b∧W.cell? ⟨f,2,none⟩ = some c∧W.cell? ⟨f,3,none⟩ = some d∧W.cell? ⟨f,4,none⟩ = some e)∧∀ k,W.frozen? ⟨f,k,none⟩ = false :=
 ⟨aaa h,⟨by rw [cell_of_row _ _ _ _ _ (0,0) h];rfl,by rw [cell_of_row _ _ _ _ _ (0,0) h];rfl,by rw [cell_of_row _ _ _ _ _ (0,0) h];rfl,by rw [cell_of_row _ _ _ _ _ (0,0) h];rfl,by rw [cell_of_row _ _ _ _ _ (0,0) h];rfl⟩,fun k=>frozen_of_row _ _ _ _ _ h⟩
theorem ae3 {w:World} {g:Nat} {a b c d x:Value} {T:TypeId} (h:w.heap[g]? = some (.cells #[a,b,c,d,x] T (0,0))) (e:Int) (p:Pl):(set5 w g e p).heap[g]? = some (.cells #[.int .i64 e,.int .i64 p.b,.int .i64 p.g,.int .i64 p.l,.int .i64 p.c] T (0,0)):=by
 have s0:=heap_setCell_same w g 0 _ _ (.int .i64 e) h
 have s1:=heap_setCell_same _ g 1 _ _ (.int .i64 p.b) s0
 have s2:=heap_setCell_same _ g 2 _ _ (.int .i64 p.g) s1
 have s3:=heap_setCell_same _ g 3 _ _ (.int .i64 p.l) s2
 have s4:=heap_setCell_same _ g 4 _ _ (.int .i64 p.c) s3
 simpa [set5] using s4
theorem aei {w w1:World} {B g:Nat} (h:Below B w w1) (hg:B≤g) (e:Int) (p:Pl):Below B w (set5 w1 g e p) :=
 ((((h.setCell hg _).setCell hg _).setCell hg _).setCell hg _).setCell hg _
theorem ahp {w:World} {g:Nat} {a b c d x:Value} {T:TypeId} (h:w.heap[g]? = some (.cells #[a,b,c,d,x] T (0,0))):((((w.setCell ⟨g,0,none⟩ a).setCell ⟨g,1,none⟩ b).setCell ⟨g,2,none⟩ c).setCell ⟨g,3,none⟩ d).setCell ⟨g,4,none⟩ x=w:=by
 have e:∀ (k:Nat) (v:Value),(#[a,b,c,d,x]:Array Value)[k]? = some v→w.setCell ⟨g,k,none⟩ v=w:=by
  intro k v hk
  have hs:=heap_setCell_same w g k _ _ v h
  have hv:(#[a,b,c,d,x]:Array Value).setIfInBounds k v = #[a,b,c,d,x]:=by
   apply Array.ext_getElem?
   intro i
   rw [Array.getElem?_setIfInBounds]
   by_cases hi:k=i
   ·subst hi
    rw [hk]
    have:k<(#[a,b,c,d,x]:Array Value).size:=(Array.getElem?_eq_some_iff.1 hk).1
    simpa using this
   ·simp [hi]
  have he:(w.setCell ⟨g,k,none⟩ v).heap=w.heap:=by
   apply Array.ext_getElem?
   intro i
   by_cases hi:i=g
   ·subst hi
    rw [hs,h,hv]
   ·exact heap_setCell_other w ⟨g,k,none⟩ i v hi
  cases w
  simp only [World.setCell] at he ⊢
  simpa using he
 rw [e 0 a rfl,e 1 b rfl,e 2 c rfl,e 3 d rfl,e 4 x rfl]
theorem agr (e:Int) (p:Pl) (xt:TypeId) (w:World):(Instr.typeAssert (.iface 62 (fltV e p)) xt 62 false).run Tryz.prog w=.ok (fltV e p) w:=by
 kernel_rfl
theorem af2 (g:Nat) (e:Int) (p:Pl) (older:List PanicEntry) (w:World) (a b c d x:Value) (T:TypeId) (h:w.heap[g]? = some (.cells #[a,b,c,d,x] T (0,0))) :
  CallsD Tryz.prog 59 #[.pointer (some ⟨g,0,none⟩)] (.panicking ({ v:=.iface 62 (fltV e p),recovered:=false } :: older)) w fun en u' w' =>
   en=.returned (.tuple #[])∧u' = .panicking ({ v:=.iface 62 (fltV e p),recovered:=true } :: older)∧w' = set5 w g e p:=by
 obtain ⟨-,⟨c0,c1,c2,c3,c4⟩,hf⟩:=abh h
 refine callsD_of_wpS Tryz.func59 rfl fun c₀ cs hu=>?_
 apply wpS_seq
 apply wpS_region
 simp [wpOpsS,go_sem,recoverD,hu,Tryz.ntmps59,Exit.thenS]
 apply wpS_seq
 apply wpS_region
 simp [wpOpsS,go_sem,Exit.thenS]
 refine wpS_cond (t:=true) (by simp [Act.eval,Array.replicate]) ?_
 simp only [if_true]
 apply wpS_region
 simp [wpOpsS,go_sem,agr]
 simp [fltV,go_sem,c0,c1,c2,c3,c4,hf,bodyPostS,results,Tryz.results59,set5]
theorem ala (g:Nat) (w:World) :
  CallsD Tryz.prog 59 #[.pointer (some ⟨g,0,none⟩)] .returning w fun e u' w'=>e=.returned (.tuple #[])∧u' = .returning∧w' = w:=by
 refine callsD_of_wpS Tryz.func59 rfl fun c₀ cs hu=>?_
 apply wpS_seq
 apply wpS_region
 simp [wpOpsS,go_sem,recoverD,hu,Tryz.ntmps59,Exit.thenS]
 apply wpS_seq
 apply wpS_region
 simp [wpOpsS,go_sem,recoverD,Exit.thenS]
 refine wpS_cond (t:=false) (by simp [Act.eval,Array.replicate]) ?_
 simp only [Bool.false_eq_true,if_false]
 refine wpS_of_wp (wp_skip ?_)
 cases c₀
 simp_all [bodyPostS,results,Tryz.results59]
theorem adf (g:Nat) (e:Int) (p:Pl) (older:List PanicEntry) (w:World) (a b c d x:Value) (T:TypeId) (h:w.heap[g]? = some (.cells #[a,b,c,d,x] T (0,0))) :
  CallsD Tryz.prog 34 #[.pointer (some ⟨g,0,none⟩)] (.panicking ({ v:=.iface 62 (fltV e p),recovered:=false } :: older)) w fun en u' w' =>
   en=.returned (.tuple #[])∧u' = .panicking ({ v:=.iface 62 (fltV e p),recovered:=true } :: older)∧w' = set5 w g e p:=by
 obtain ⟨-,⟨c0,c1,c2,c3,c4⟩,hf⟩:=abh h
 refine callsD_of_wpS Tryz.func34 rfl fun c₀ cs hu=>?_
 apply wpS_seq
 apply wpS_region
 simp [wpOpsS,go_sem,recoverD,hu,Tryz.ntmps34,Exit.thenS]
 apply wpS_seq
 apply wpS_region
 simp [wpOpsS,go_sem,Exit.thenS]
 refine wpS_cond (t:=true) (by simp [Act.eval,Array.replicate]) ?_
 simp only [if_true]
 apply wpS_region
 simp [wpOpsS,go_sem,agr]
 simp [fltV,go_sem,c0,c1,c2,c3,c4,hf,bodyPostS,results,Tryz.results34,set5]
theorem alb (g:Nat) (w:World) :
  CallsD Tryz.prog 34 #[.pointer (some ⟨g,0,none⟩)] .returning w fun e u' w'=>e=.returned (.tuple #[])∧u' = .returning∧w' = w:=by
 refine callsD_of_wpS Tryz.func34 rfl fun c₀ cs hu=>?_
 apply wpS_seq
 apply wpS_region
 simp [wpOpsS,go_sem,recoverD,hu,Tryz.ntmps34,Exit.thenS]
 apply wpS_seq
 apply wpS_region
 simp [wpOpsS,go_sem,recoverD,Exit.thenS]
 refine wpS_cond (t:=false) (by simp [Act.eval,Array.replicate]) ?_
 simp only [Bool.false_eq_true,if_false]
 refine wpS_of_wp (wp_skip ?_)
 cases c₀
 simp_all [bodyPostS,results,Tryz.results34]
def CaughtX (B:Nat) (w w' : World) (l:List Tk) (vs:List ByteArray) (e:Ending):Prop :=
 Below B w w'∧((∃ t j v,e=.returned (.tuple #[v,fltZ])∧IsX w' t v∧ReadE l vs zOf (.ok t j))∨∃ er j tk,e=.returned (.tuple #[.nilIface,fltV er tk.pl])∧l[j]? = some tk∧ReadE l vs zOf (.bad er j))
set_option maxRecDepth 20000 in
set_option maxHeartbeats 8000000 in
theorem ajv {w:World} {q:Nat} {l:List Tk} {vs:List ByteArray} (B:Nat) (hB:B≤w.heap.size) (hq:B≤q) (hq2:q<w.heap.size) (f:FuncId) (hf:Has Tryz.prog f) (cs:Array Value)
  (hK:∀ W,Below w.heap.size w W→Calls Tryz.prog f cs W fun e W'=>ReadO W W' q l vs e) :
  Calls Tryz.prog 42 #[.func (.func f) #[] cs] w fun e w'=>CaughtX B w w' l vs e:=by
 have hba:=hAl w (.cells #[.int .i64 0,.int .i64 0,.int .i64 0,.int .i64 0,.int .i64 0] 62)
 have hnb:=heap_alloc_new w (.cells #[.int .i64 0,.int .i64 0,.int .i64 0,.int .i64 0,.int .i64 0] 62)
 have K0:=hide (hK _ hba)
 have HBA:=hide hba
 have HNB:=hide hnb
 clear hba hnb hK
 have hEn:∀ args w,(callFunc f args).run Tryz.prog w=.ok (.enter f args) w:=fun args w=>hf.enter args w
 have hmf:∀ (fn:Fn) (first cap:Array Value) (w:World),(Instr.makeFunc fn first cap).run Tryz.prog w=.ok (.func fn first cap) w:=fun _ _ _ _=>rfl
 go_enter_defers Tryz.func42,Tryz.ntmps42
 go_wp2_with fail
 refine K0.out.mono ?_
 generalize (w.alloc (.cells #[.int .i64 0,.int .i64 0,.int .i64 0,.int .i64 0,.int .i64 0] 62))=wa at *
 rintro e w1 ⟨hr,hc⟩
 have HB1:=hide (HBA.out.mono hB |>.trans (hr.below (B:=B) (Nat.le_trans hB HBA.out.size) hq hq))
 have HN1:=hide ((hr.other w.heap.size (aaa HNB.out) (by omega) (by omega)).trans HNB.out)
 clear hr HBA HNB
 rcases hc with ⟨t,j,v,rfl,hx,hev⟩ | ⟨er,j,tk,rfl,htk,hev⟩
 ·have HX:=hide hx
  have HEV:=hide hev
  clear hx hev K0
  obtain ⟨gl,⟨c0,c1,c2,c3,c4⟩,cf⟩:=abh HN1.out
  have hid:=ahp HN1.out
  go_wp2
  refine leaves_cons (f:=59) (args:=#[.pointer (some ⟨w.heap.size,0,none⟩)]) (by simp) (by simp [go_sem]) ?_
  refine (ala w.heap.size _).mono ?_
  rintro e u' w'' ⟨rfl,rfl,rfl⟩
  simp [Leaves,settle,results,Tryz.results42,go_sem,c0,c1,c2,c3,c4]
  exact ⟨HB1.out,.inl ⟨t,j,v,rfl,HX.out,HEV.out⟩⟩
 ·have HEV:=hide hev
  have HTK:=hide htk
  clear hev htk K0
  obtain ⟨gl,⟨c0,c1,c2,c3,c4⟩,cf⟩:=abh (ae3 HN1.out er tk.pl)
  have hB2:=aei HB1.out hB er tk.pl
  unfold faultL
  go_wp2
  refine leaves_cons (f:=59) (args:=#[.pointer (some ⟨w.heap.size,0,none⟩)]) (by simp) (by simp [go_sem]) ?_
  refine (af2 w.heap.size er tk.pl [] w1 _ _ _ _ _ _ HN1.out).mono ?_
  rintro e u' w'' ⟨rfl,rfl,rfl⟩
  simp [Leaves,settle,results,Tryz.results42,go_sem,c0,c1,c2,c3,c4]
  exact ⟨hB2,.inr ⟨er,j,tk,rfl,HTK.out,HEV.out⟩⟩
def nx (w:World) (q:Nat):Nat:=match w.cell? ⟨q,1,none⟩ with | some (.int _ z)=>z.toNat | _=>0
theorem ajw (p:Gl→Bool) (l:List Gl):(l.dropWhile p).length≤l.length:=by
 induction l with
 | nil=>simp
 | cons x l ih =>
  simp only [List.dropWhile_cons]
  split
  ·simp only [List.length_cons];omega
  ·exact Nat.le_refl _
theorem aqo {s:ByteArray} {e:Pl} {g:Gl} {r:List Gl} {k:Int} {x:ByteArray} {t:List Gl} (h:TokR s e g r (.ok k x t)):t.length≤r.length∧k≠0:=by
 unfold TokR at h
 split at h
 ·next h2 =>
  split at h
  ·cases h
  ·injection h with h1 h3 h4
   subst h1 h4
   refine ⟨?_,by decide⟩
   rw [List.dropWhile_cons,if_pos (by simp [inC,h2])]
   exact ajw _ _
 ·split at h
  ·next h2 =>
   obtain ⟨n,ds,_,_,h⟩:=h
   split at h
   ·cases h
   ·injection h with h1 h3 h4
    subst h1 h4
    refine ⟨?_,by decide⟩
    rw [List.dropWhile_cons,if_pos (by simp [inC,h2])]
    exact ajw _ _
  ·split at h
   ·unfold signS at h
    split at h
    ·injection h with h1 h3 h4
     subst h1 h4
     exact ⟨Nat.le_refl _,by decide⟩
    ·split at h
     ·injection h with h1 h3 h4
      subst h1 h4
      exact ⟨Nat.le_refl _,by decide⟩
     ·split at h
      ·cases r with
       | nil=>cases h
       | cons y r =>
        simp only at h
        split at h
        ·injection h with h1 h3 h4
         subst h1 h4
         exact ⟨by simp,by decide⟩
        ·cases h
      ·injection h with h1 h3 h4
       subst h1 h4
       exact ⟨Nat.le_refl _,by decide⟩
   ·cases h
theorem ajx {s:ByteArray} {e:Pl} {r:List Gl} {o:SO} (h:ScanR s e r o):∀ l,o=.ok l→l.length≤r.length+1∧0<l.length∧∀ (i:Nat) (t:Tk),l[i]? = some t→i+1=l.length→t.kind=0∧t.text=⟨#[]⟩:=by
 induction h with
 | done r h hb =>
  intro l hl
  injection hl with hl
  subst hl
  refine ⟨by simp,by simp,fun i t ht hi=>?_⟩
  have:i=0:=by simpa using hi
  subst this
  simp at ht
  subst ht
  exact ⟨rfl,rfl⟩
 | rune r h hb=>intro l hl;cases hl
 | bad r g t k h ht=>intro l hl;cases hl
 | tok r g t kind text rest o h ht hr ih =>
  intro l hl
  cases o with
  | bad k p=>cases hl
  | ok l' =>
   injection hl with hl
   subst hl
   obtain ⟨i1,i0,i2⟩:=ih l' rfl
   have h1:=(aqo ht).1
   obtain ⟨j,hj,hd⟩:=asm false r
   have h2:t.length+1≤r.length:=by
    have:(g :: t).length=r.length - j:=by rw [←h,hd,List.length_drop]
    simp at this
    omega
   refine ⟨by simp only [List.length_cons];omega,by simp,fun i u hu hi=>?_⟩
   cases i with
   | zero=>simp only [List.length_cons] at hi;omega
   | succ i=>exact i2 i u (by simpa using hu) (by simp only [List.length_cons] at hi;omega)
inductive RO where
 | bad (e:Int) (p:Pl)
 | ok (t:Ex)
inductive RdX (s:ByteArray) (vs:List ByteArray):RO→Prop
 | long (h:4096<s.size):RdX s vs (.bad 2 plz)
 | scan {gs e k p} (h:s.size≤4096) (hQ:Snd s pl0 gs e) (hR:ScanR s e gs (.bad k p)):RdX s vs (.bad k p)
 | bad {gs e l er j tk} (h:s.size≤4096) (hQ:Snd s pl0 gs e) (hR:ScanR s e gs (.ok l)) (hE:ReadE l vs zOf (.bad er j)) (ht:l[j]? = some tk):RdX s vs (.bad er tk.pl)
 | ok {gs e l t j} (h:s.size≤4096) (hQ:Snd s pl0 gs e) (hR:ScanR s e gs (.ok l)) (hE:ReadE l vs zOf (.ok t j)):RdX s vs (.ok t)
theorem RdX.one {s:ByteArray} {vs:List ByteArray} {r r' : RO} (h:RdX s vs r) (h' : RdX s vs r'):r=r' := by
 cases h with
 | long h =>
  cases h' with
  | long _=>rfl
  | scan g _ _=>omega
  | bad g _ _ _ _=>omega
  | ok g _ _ _=>omega
 | scan h hQ hR =>
  cases h' with
  | long g=>omega
  | scan g gQ gR=>obtain ⟨rfl,rfl⟩:=hQ.one gQ;cases hR.one gR;rfl
  | bad g gQ gR _ _=>obtain ⟨rfl,rfl⟩:=hQ.one gQ;cases hR.one gR
  | ok g gQ gR _=>obtain ⟨rfl,rfl⟩:=hQ.one gQ;cases hR.one gR
 | bad h hQ hR hE ht =>
  cases h' with
  | long g=>omega
  | scan g gQ gR=>obtain ⟨rfl,rfl⟩:=hQ.one gQ;cases hR.one gR
  | bad g gQ gR gE gt=>obtain ⟨rfl,rfl⟩:=hQ.one gQ;cases hR.one gR;cases hE.one gE;rw [ht] at gt;cases gt;rfl
  | ok g gQ gR gE=>obtain ⟨rfl,rfl⟩:=hQ.one gQ;cases hR.one gR;cases hE.one gE
 | ok h hQ hR hE =>
  cases h' with
  | long g=>omega
  | scan g gQ gR=>obtain ⟨rfl,rfl⟩:=hQ.one gQ;cases hR.one gR
  | bad g gQ gR gE _=>obtain ⟨rfl,rfl⟩:=hQ.one gQ;cases hR.one gR;cases hE.one gE
  | ok g gQ gR gE=>obtain ⟨rfl,rfl⟩:=hQ.one gQ;cases hR.one gR;cases hE.one gE;rfl
theorem VarE.nz {l:List Tk} {vs:List ByteArray} {k:Nat} {r:PO Ex} (h:VarE l vs k r):∀ e j,r=.bad e j→e≠0:=by
 intro e j he
 subst he
 cases h <;> decide
theorem EvE.nz {l:List Tk} {vs:List ByteArray} {num:ByteArray→Int} {v:Lv} {k o:Nat} {r:PO Ex} (h:EvE l vs num v k o r):∀ e j,r=.bad e j→e≠0:=by
 induction h with
 | sumB h ih=>intro e j he;cases he;exact ih _ _ rfl
 | sumO h h' ih ih'=>exact ih'
 | prodB h ih=>intro e j he;cases he;exact ih _ _ rfl
 | prodO h h' ih ih'=>exact ih'
 | tlE h=>intro e j he;cases he
 | tlB h h' ih=>intro e j he;cases he;exact ih _ _ rfl
 | tlO h h' h'' ih ih'=>exact ih'
 | @unN k o r h h' ih =>
  intro e j he
  cases r with
  | ok t j=>cases he
  | bad e' j'=>cases he;exact ih _ _ rfl
 | unA h h' ih=>exact ih
 | num h=>intro e j he;cases he
 | deep h h'=>intro e j he;cases he;decide
 | brB h h' ho hs ih=>intro e j he;cases he;exact ih _ _ rfl
 | brO h h' ho hs he' ih=>intro e j he;cases he
 | brX h h' ho hs he' ih=>intro e j he;cases he;decide
 | var h h' hv=>exact hv.nz
theorem ReadE.nz {l:List Tk} {vs:List ByteArray} {num:ByteArray→Int} {e:Int} {j:Nat} (h:ReadE l vs num (.bad e j)):e≠0:=by
 cases h with
 | bad h=>exact h.nz _ _ rfl
 | more h hk=>decide
theorem ah1 {s:ByteArray} {e:Pl} {gs:List Gl} {l:List Tk} (hs:s.size≤4096) (hQ:Snd s pl0 gs e) (hR:ScanR s e gs (.ok l)):EndsL l∧l.length≤100000∧0<l.length:=by
 obtain ⟨h1,h0,h2⟩:=ajx hR l rfl
 have h3:=hQ.ends acx (Nat.zero_le _)
 have:pl0.b=0:=rfl
 refine ⟨⟨fun k t ht hne=>?_⟩,by omega,h0⟩
 have hk:=(List.getElem?_eq_some_iff.1 ht).1
 by_cases he:k+1=l.length
 ·obtain ⟨a,b⟩:=h2 k t ht he
  rcases hne with hne | hne
  ·exact absurd a hne
  ·exact absurd b hne
 ·omega
def RdO (w' : World) (s:ByteArray) (vs:List ByteArray) (e:Ending):Prop :=
 (∃ t v,e=.returned (.tuple #[v,.int .i64 0,plz.v])∧IsX w' t v∧RdX s vs (.ok t))∨∃ er p,er≠0∧e=.returned (.tuple #[.nilIface,.int .i64 er,p.v])∧RdX s vs (.bad er p)
theorem ant:Has Tryz.prog 43:=by unfold Has;kernel_rfl
theorem aas {W:World} {f:Nat} {a b c d:Value} {T:TypeId} (h:W.heap[f]? = some (.cells #[a,b,c,d] T (0,0))):f<W.heap.size∧(W.cell? ⟨f,0,none⟩ = some a∧W.cell? ⟨f,1,none⟩ = some b∧W.cell? ⟨f,2,none⟩ = some c∧W.cell? ⟨f,3,none⟩ = some d)∧∀ k,W.frozen? ⟨f,k,none⟩ = false :=
 ⟨aaa h,⟨by rw [cell_of_row _ _ _ _ _ (0,0) h];rfl,by rw [cell_of_row _ _ _ _ _ (0,0) h];rfl,by rw [cell_of_row _ _ _ _ _ (0,0) h];rfl,by rw [cell_of_row _ _ _ _ _ (0,0) h];rfl⟩,fun k=>frozen_of_row _ _ _ _ _ h⟩
def set4 (w:World) (g:Nat) (p:Pl):World:=(((w.setCell ⟨g,0,none⟩ (.int .i64 p.b)).setCell ⟨g,1,none⟩ (.int .i64 p.g)).setCell ⟨g,2,none⟩ (.int .i64 p.l)).setCell ⟨g,3,none⟩ (.int .i64 p.c)
theorem acj {w:World} {g:Nat} {a b c d:Value} {T:TypeId} (h:w.heap[g]? = some (.cells #[a,b,c,d] T (0,0))) (p:Pl):(set4 w g p).heap[g]? = some (.cells #[.int .i64 p.b,.int .i64 p.g,.int .i64 p.l,.int .i64 p.c] T (0,0)):=by
 have s0:=heap_setCell_same w g 0 _ _ (.int .i64 p.b) h
 have s1:=heap_setCell_same _ g 1 _ _ (.int .i64 p.g) s0
 have s2:=heap_setCell_same _ g 2 _ _ (.int .i64 p.l) s1
 have s3:=heap_setCell_same _ g 3 _ _ (.int .i64 p.c) s2
 simpa [set4] using s3
theorem ahq (w:World):w.drew.heap=w.heap:=rfl
theorem ac5 {w w1:World} {B g:Nat} (h:Below B w w1) (hg:B≤g) (p:Pl):Below B w (set4 w1 g p) :=
 (((h.setCell hg _).setCell hg _).setCell hg _).setCell hg _
theorem ack {w:World} {g:Nat} {a b c d:Value} {T:TypeId} (h:w.heap[g]? = some (.cells #[a,b,c,d] T (0,0))):(((w.setCell ⟨g,0,none⟩ a).setCell ⟨g,1,none⟩ b).setCell ⟨g,2,none⟩ c).setCell ⟨g,3,none⟩ d=w:=by
 have e:∀ (k:Nat) (v:Value),(#[a,b,c,d]:Array Value)[k]? = some v→w.setCell ⟨g,k,none⟩ v=w:=by
  intro k v hk
  have hs:=heap_setCell_same w g k _ _ v h
  have hv:(#[a,b,c,d]:Array Value).setIfInBounds k v = #[a,b,c,d]:=by
   apply Array.ext_getElem?
   intro i
   rw [Array.getElem?_setIfInBounds]
   by_cases hi:k=i
   ·subst hi
    rw [hk]
    have:k<(#[a,b,c,d]:Array Value).size:=(Array.getElem?_eq_some_iff.1 hk).1
    simpa using this
   ·simp [hi]
  have he:(w.setCell ⟨g,k,none⟩ v).heap=w.heap:=by
   apply Array.ext_getElem?
   intro i
   by_cases hi:i=g
   ·subst hi
    rw [hs,h,hv]
   ·exact heap_setCell_other w ⟨g,k,none⟩ i v hi
  cases w
  simp only [World.setCell] at he ⊢
  simpa using he
 rw [e 0 a rfl,e 1 b rfl,e 2 c rfl,e 3 d rfl]
theorem Ce.apart {w:World} {v:Value} {size n:Nat} {xs:List Value} {q:Nat} (h:Ce w v size n xs) (hq:w.heap.size≤q):0<n→∀ b' off n' c,v=.slice (some ⟨b',off,none⟩) n' c→b'≠q∧b'≠q:=by
 obtain ⟨ao,cap,rfl,h1,h2,h3,h4⟩:=h
 intro hn b' off n' c he
 rcases h4 with h4 | ⟨b,off',rfl,hl,_⟩
 ·omega
 ·injection he with he1 _ _
  injection he1 with he1
  injection he1 with he1 _ _
  omega
set_option maxRecDepth 20000 in
set_option maxHeartbeats 8000000 in
theorem aqp (w:World) (hT:Tabs w) (s:ByteArray) (av:Option Addr) (nv cv:Nat) (vs:List ByteArray) (hv:Strs w (.slice av nv cv) vs) (gp:Nat) (hp:w.cell? ⟨gp,0,none⟩ = some (.func (.func 21) #[] #[])) (hgp:gp<w.heap.size) :
  Calls Tryz.prog 28 #[.string s,.slice av nv cv,.func (.func 29) #[] #[.pointer (some ⟨gp,0,none⟩)]] w fun e w'=>RdO w' s vs e∧Below w.heap.size w w' := by
 have HT:=hide hT
 have HV:=hide hv
 have HP:=hide hp
 have hba:=abg w (.cells #[.func (.func 29) #[] #[.pointer (some ⟨gp,0,none⟩)]] 55) (.cells #[.int .i64 0,.int .i64 0,.int .i64 0,.int .i64 0] 28)
 have hn0:=heap_alloc_new w (.cells #[.func (.func 29) #[] #[.pointer (some ⟨gp,0,none⟩)]] 55)
 have hn1:=heap_alloc_new (w.alloc (.cells #[.func (.func 29) #[] #[.pointer (some ⟨gp,0,none⟩)]] 55)) (.cells #[.int .i64 0,.int .i64 0,.int .i64 0,.int .i64 0] 28)
 have hn0' := ((hAl (w.alloc (.cells #[.func (.func 29) #[] #[.pointer (some ⟨gp,0,none⟩)]] 55)) (.cells #[.int .i64 0,.int .i64 0,.int .i64 0,.int .i64 0] 28)).block _ (aaa hn0)).trans hn0
 rw [World.size_alloc] at hn1
 have HBA:=hide hba
 have HN0:=hide hn0'
 have HN1:=hide hn1
 clear hT hv hp hba hn0 hn0' hn1
 have hmf:∀ (fn:Fn) (first cap:Array Value) (w:World),(Instr.makeFunc fn first cap).run Tryz.prog w=.ok (.func fn first cap) w:=fun _ _ _ _=>rfl
 go_enter Tryz.func28,Tryz.ntmps28
 go_wp2_with fail
 refine (asi _ s (HT.out.below HBA.out)).mono ?_
 generalize ((w.alloc (.cells #[.func (.func 29) #[] #[.pointer (some ⟨gp,0,none⟩)]] 55)).alloc (.cells #[.int .i64 0,.int .i64 0,.int .i64 0,.int .i64 0] 28))=wa at *
 rintro e w1 ⟨hb1,ho⟩
 have HB1:=hide (HBA.out.trans (hb1.mono HBA.out.size))
 have HM0:=hide ((hb1.block _ (aaa HN0.out)).trans HN0.out)
 have HM1:=hide ((hb1.block _ (aaa HN1.out)).trans HN1.out)
 have ho:(∃ k p,k≠0∧e=.returned (.tuple #[.slice none 0 0,.int .i64 k,Pl.v p])∧RdX s vs (.bad k p))∨∃ gs e' l v,s.size≤4096∧Snd s pl0 gs e'∧ScanR s e' gs (.ok l)∧e=.returned (.tuple #[v,.int .i64 0,plz.v])∧Ts w1 v l:=by
  rcases ho with ⟨hs,rfl⟩ | ⟨hs,gs,e',o,hQ,hR,hO⟩
  ·exact .inl ⟨2,plz,by decide,rfl,.long hs⟩
  ·cases o with
   | bad k p=>exact .inl ⟨k,p,ahk hR,hO,.scan hs hQ hR⟩
   | ok l =>
    obtain ⟨v,h1,h2⟩:=hO
    exact .inr ⟨gs,e',l,v,hs,hQ,hR,h1,Ts.own h2⟩
 clear hb1 HBA HN0 HN1
 rcases ho with ⟨k,p,hk,rfl,hX⟩ | ⟨gs,e',l,v,hs,hQ,hR,rfl,hts⟩
 ·have HX:=hide hX
  obtain ⟨gl,⟨c0,c1,c2,c3⟩,cf⟩:=aas HM1.out
  have hk' : (k != 0)=true:=by simpa using hk
  have hk2:decide (k≠0)=true:=by simpa using hk
  clear hX
  unfold Pl.v
  go_wp2
  go_region
  have hX4:=acj (acj HM1.out p) p
  simp only [set4] at hX4
  generalize hV:World.drew _=V
  have hVB:Below w.heap.size w V:=by rw [←hV];have hB:=HB1.out;(repeat' first|with_reducible(first|exact Below.refl _ _|assumption|refine gdrewN ?_ _|refine Below.alloc ?_ ?_ _|refine Below.drew ?_|refine Below.setCell ?_ ?_ _)|go_size)
  have hVh:V.heap[w.heap.size+1]? = some (.cells #[.int .i64 p.b,.int .i64 p.g,.int .i64 p.l,.int .i64 p.c] 28 (0,0)):=by rw [←hV,ahq];exact hX4
  clear hV hX4 c0 c1 c2 c3 cf
  obtain ⟨_,⟨c0,c1,c2,c3⟩,cf⟩:=aas hVh
  go_wp2
  refine bodyPost_ret (v:=.tuple #[.nilIface,.int .i64 k,p.v]) (by simp [results,Tryz.results28,go_sem,c0,c1,c2,c3,Pl.v];try rfl) rfl ⟨.inr ⟨k,p,hk,rfl,HX.out⟩,hVB⟩
 ·have HTS:=hide hts
  have HV1:=hide (HV.out.below HB1.out)
  have HP1:=hide ((HB1.out.cell (p:=⟨gp,0,none⟩) hgp).trans HP.out)
  obtain ⟨hE,hL,h0⟩:=ah1 hs hQ hR
  have HQ:=hide hQ
  have HR:=hide hR
  have HE:=hide hE
  have hid:=ack HM1.out
  obtain ⟨gl,⟨c0,c1,c2,c3⟩,cf⟩:=aas HM1.out
  obtain ⟨ta,tc,rfl,-⟩:=id hts
  clear hts hQ hR hE
  unfold plz Pl.v
  go_wp2_with fail
  have h2:=abg w1 (.cells #[.slice ta l.length tc,.int .i64 0,.slice av nv cv,.slice none 0 0,.int .i64 0] 86) (.cells #[.pointer (some ⟨w1.heap.size,0,none⟩)] 57)
  have hr0:=heap_alloc_new w1 (.cells #[.slice ta l.length tc,.int .i64 0,.slice av nv cv,.slice none 0 0,.int .i64 0] 86)
  have hr1:=((hAl (w1.alloc (.cells #[.slice ta l.length tc,.int .i64 0,.slice av nv cv,.slice none 0 0,.int .i64 0] 86)) (.cells #[.pointer (some ⟨w1.heap.size,0,none⟩)] 57)).block _ (aaa hr0)).trans hr0
  have hp1:=heap_alloc_new (w1.alloc (.cells #[.slice ta l.length tc,.int .i64 0,.slice av nv cv,.slice none 0 0,.int .i64 0] 86)) (.cells #[.pointer (some ⟨w1.heap.size,0,none⟩)] 57)
  have hsz:((w1.alloc (.cells #[.slice ta l.length tc,.int .i64 0,.slice av nv cv,.slice none 0 0,.int .i64 0] 86)).alloc (.cells #[.pointer (some ⟨w1.heap.size,0,none⟩)] 57)).heap.size=w1.heap.size+2:=by simp [World.size_alloc]
  rw [World.size_alloc] at hp1
  have hLR:Lrd ((w1.alloc (.cells #[.slice ta l.length tc,.int .i64 0,.slice av nv cv,.slice none 0 0,.int .i64 0] 86)).alloc (.cells #[.pointer (some ⟨w1.heap.size,0,none⟩)] 57)) w1.heap.size (.slice ta l.length tc) (.slice av nv cv) (.slice none 0 0) l vs [] 0 0 :=
   ⟨hr1,HTS.out.below h2,HV1.out.below h2,⟨none,0,rfl,Nat.le_refl _,by omega,rfl,.inl rfl⟩,h0,Ce.apart HTS.out (Nat.le_refl _),Ce.apart HV1.out (Nat.le_refl _),fun h=>absurd h (by simp)⟩
  have HB2:=hide h2
  have HLR:=hide hLR
  have HPR:=hide hp1
  clear h2 hr0 hr1 hp1 hLR
  generalize ((w1.alloc (.cells #[.slice ta l.length tc,.int .i64 0,.slice av nv cv,.slice none 0 0,.int .i64 0] 86)).alloc (.cells #[.pointer (some ⟨w1.heap.size,0,none⟩)] 57))=w2 at HB2 HLR HPR hsz ⊢
  have hG:w2.cell? ⟨w.heap.size,0,none⟩ = some (.func (.func 29) #[] #[.pointer (some ⟨gp,0,none⟩)]):=by
   rw [HB2.out.cell (p:=⟨w.heap.size,0,none⟩) (by have:=aaa HM0.out;simpa using this),cell_of_row _ _ _ _ _ (0,0) HM0.out]
   rfl
  have hR2:w2.cell? ⟨w1.heap.size+1,0,none⟩ = some (.pointer (some ⟨w1.heap.size,0,none⟩)):=by
   rw [cell_of_row _ _ _ _ _ (0,0) HPR.out]
   rfl
  have hgp1:gp<w1.heap.size:=by have:=HB1.out.size;omega
  have hP2:=(HB2.out.cell (p:=⟨gp,0,none⟩) hgp1).trans HP1.out
  have hT2:=HT.out.below (HB1.out.trans (HB2.out.mono HB1.out.size))
  refine (ajv (w:=w2) (q:=w1.heap.size) (l:=l) (vs:=vs) w1.heap.size (by omega) (Nat.le_refl _) (by omega) 43 ant #[.pointer (some ⟨w.heap.size,0,none⟩),.pointer (some ⟨w1.heap.size+1,0,none⟩)]
   (fun W hW=>ans gp w.heap.size (w1.heap.size+1) (hT2.below hW) (HLR.out.below hW) HE.out hL ((hW.cell (p:=⟨gp,0,none⟩) (by simp only;omega)).trans hP2) ((hW.cell (p:=⟨w.heap.size,0,none⟩) (by simp only;omega)).trans hG) ((hW.cell (p:=⟨w1.heap.size+1,0,none⟩) (by simp only;omega)).trans hR2))).mono ?_
  rintro e w3 ⟨hb3,hc⟩
  have hc:∃ v er p,e=.returned (.tuple #[v,fltV er p])∧((∃ t,er=0∧p=plz∧IsX w3 t v∧RdX s vs (.ok t))∨(er≠0∧v=.nilIface∧RdX s vs (.bad er p))):=by
   rcases hc with ⟨t,j,v,rfl,hx,hev⟩ | ⟨er,j,tk,rfl,htk,hev⟩
   ·exact ⟨v,0,plz,rfl,.inl ⟨t,rfl,rfl,hx,.ok hs HQ.out HR.out hev⟩⟩
   ·exact ⟨.nilIface,er,tk.pl,rfl,.inr ⟨hev.nz,rfl,.bad hs HQ.out HR.out hev htk⟩⟩
  obtain ⟨v,er,p,rfl,hX⟩:=hc
  have HX:=hide hX
  have hb13:=HB2.out.trans hb3
  have HB3:=hide (HB1.out.trans (hb13.mono HB1.out.size))
  have HM3:=hide ((hb13.block _ (aaa HM1.out)).trans HM1.out)
  clear hX hb3 hb13 hid c0 c1 c2 c3 cf gl hG hR2 hP2 hT2 HB2 HLR HPR hsz HP1 HV1 HTS HE HQ HR HM0
  have hA3:=hAl w3 (.cells #[.int .i64 er,.int .i64 p.b,.int .i64 p.g,.int .i64 p.l,.int .i64 p.c] 62)
  have hn3:=heap_alloc_new w3 (.cells #[.int .i64 er,.int .i64 p.b,.int .i64 p.g,.int .i64 p.l,.int .i64 p.c] 62)
  have HM5:=hide ((hA3.block _ (aaa HM3.out)).trans HM3.out)
  have HB5:=hide (HB3.out.trans (hA3.mono HB3.out.size))
  have HR5:=hide hA3
  have HF4:=hide hn3
  clear hA3 hn3
  unfold fltV
  go_wp2_with fail
  generalize w3.alloc (.cells #[.int .i64 er,.int .i64 p.b,.int .i64 p.g,.int .i64 p.l,.int .i64 p.c] 62)=w4 at HM5 HB5 HR5 HF4 ⊢
  have hf4:=HF4.out
  have hm5:=HM5.out
  clear HF4
  obtain ⟨gl,⟨c0,c1,c2,c3,c4⟩,cf⟩:=abh hf4
  obtain ⟨gl',⟨d0,d1,d2,d3⟩,df⟩:=aas hm5
  clear hf4 hm5
  have hgg:w.heap.size+1≠w3.heap.size:=by have:=aaa HM3.out;omega
  have hgg' : w3.heap.size≠w.heap.size+1:=fun h=>hgg h.symm
  go_region
  have hX4:=acj HM5.out p
  have hXB:=ac5 HB5.out (by omega:w.heap.size≤w.heap.size+1) p
  have hXS:p=plz→set4 w4 (w.heap.size+1) p=w4:=by
   rintro rfl
   exact ack HM5.out
  simp only [set4] at hX4 hXB hXS
  generalize hV:World.drew _=V
  have hVB:Below w.heap.size w V:=by rw [←hV];exact Below.drew hXB
  have hVh:V.heap[w.heap.size+1]? = some (.cells #[.int .i64 p.b,.int .i64 p.g,.int .i64 p.l,.int .i64 p.c] 28 (0,0)):=by rw [←hV,ahq];exact hX4
  have hVX:RdO V s vs (.returned (.tuple #[v,.int .i64 er,p.v])):=by
   rcases HX.out with ⟨t,rfl,rfl,hx,hr⟩ | ⟨hne,rfl,hr⟩
   ·refine .inl ⟨t,v,rfl,?_,hr⟩
    rw [←hV,hXS rfl]
    exact hx.ru (Ru.of_below (Below.drew HR5.out))
   ·exact .inr ⟨er,p,hne,rfl,hr⟩
  clear hV hX4 hXB hXS c0 c1 c2 c3 c4 cf d0 d1 d2 d3 df
  obtain ⟨_,⟨c0,c1,c2,c3⟩,cf⟩:=aas hVh
  go_wp2
  refine bodyPost_ret (v:=.tuple #[v,.int .i64 er,p.v]) (by simp [results,Tryz.results28,go_sem,c0,c1,c2,c3,Pl.v];try rfl) rfl ⟨hVX,hVB⟩
def RxO (w' : World) (s:ByteArray) (vs:List ByteArray) (e:Ending):Prop :=
 (nmsE vs≠0∧e=.returned (.tuple #[.nilIface,.int .i64 (nmsE vs),plz.v]))∨(nmsE vs=0∧RdO w' s vs e)
theorem RdO.ret {w' : World} {s:ByteArray} {vs:List ByteArray} {e:Ending} (h:RdO w' s vs e):∃ v er p,e=.returned (.tuple #[v,.int .i64 er,Pl.v p])∧(er=0→p=plz):=by
 rcases h with ⟨t,v,he,_⟩ | ⟨er,p,hne,he,_⟩
 ·exact ⟨v,0,plz,he,fun _=>rfl⟩
 ·exact ⟨_,er,p,he,fun h=>absurd h hne⟩
set_option maxRecDepth 20000 in
set_option maxHeartbeats 8000000 in
theorem anu (w:World) (hT:Tabs w) (s:ByteArray) (av:Option Addr) (nv cv:Nat) (vs:List ByteArray) (hv:Strs w (.slice av nv cv) vs) :
  Calls Tryz.prog 20 #[.string s,.slice av nv cv,.func (.func 21) #[] #[]] w fun e w'=>RxO w' s vs e∧Below w.heap.size w w' := by
 have HT:=hide hT
 have HV:=hide hv
 have hba:=abg w (.cells #[.func (.func 21) #[] #[]] 55) (.cells #[.int .i64 0,.int .i64 0,.int .i64 0,.int .i64 0] 28)
 have hn0:=heap_alloc_new w (.cells #[.func (.func 21) #[] #[]] 55)
 have hn1:=heap_alloc_new (w.alloc (.cells #[.func (.func 21) #[] #[]] 55)) (.cells #[.int .i64 0,.int .i64 0,.int .i64 0,.int .i64 0] 28)
 have hn0' := ((hAl (w.alloc (.cells #[.func (.func 21) #[] #[]] 55)) (.cells #[.int .i64 0,.int .i64 0,.int .i64 0,.int .i64 0] 28)).block _ (aaa hn0)).trans hn0
 rw [World.size_alloc] at hn1
 have HBA:=hide hba
 have HN0:=hide hn0'
 have HN1:=hide hn1
 clear hT hv hba hn0 hn0' hn1
 have hmf:∀ (fn:Fn) (first cap:Array Value) (w:World),(Instr.makeFunc fn first cap).run Tryz.prog w=.ok (.func fn first cap) w:=fun _ _ _ _=>rfl
 go_enter Tryz.func20,Tryz.ntmps20
 go_wp2_with fail
 refine (ap8 _ (HT.out.below HBA.out) _ vs (HV.out.below HBA.out)).mono ?_
 generalize ((w.alloc (.cells #[.func (.func 21) #[] #[]] 55)).alloc (.cells #[.int .i64 0,.int .i64 0,.int .i64 0,.int .i64 0] 28))=wa at *
 rintro e w1 ⟨rfl,hb1⟩
 have HB1:=hide (HBA.out.trans (hb1.mono HBA.out.size))
 have HM0:=hide ((hb1.block _ (aaa HN0.out)).trans HN0.out)
 have HM1:=hide ((hb1.block _ (aaa HN1.out)).trans HN1.out)
 clear hb1 HBA HN0 HN1
 obtain ⟨ne,hne⟩:∃ ne,nmsE vs=ne:=⟨_,rfl⟩
 have HNE:=hide hne
 rw [hne]
 clear hne
 by_cases h0:ne=0
 ·subst h0
  have HT1:=hide (HT.out.below HB1.out)
  have HV1:=hide (HV.out.below HB1.out)
  have hgp:=aaa HM0.out
  go_wp2_with fail
  refine (aqp w1 HT1.out s av nv cv vs HV1.out w.heap.size (by rw [cell_of_row _ _ _ _ _ (0,0) HM0.out];rfl) hgp).mono ?_
  rintro e w2 ⟨hrd,hb2⟩
  have HB2:=hide (HB1.out.trans (hb2.mono HB1.out.size))
  have HM2:=hide ((hb2.block _ (aaa HM1.out)).trans HM1.out)
  obtain ⟨v,er,p,rfl,hp⟩:=hrd.ret
  have HRD:=hide hrd
  have HP:=hide hp
  clear hrd hp hb2
  obtain ⟨gl,⟨c0,c1,c2,c3⟩,cf⟩:=aas HM2.out
  unfold Pl.v
  go_wp2_with fail
  have hX4:=acj HM2.out p
  have hXB:=ac5 HB2.out (by omega:w.heap.size≤w.heap.size+1) p
  have hXS:p=plz→set4 w2 (w.heap.size+1) p=w2:=by
   rintro rfl
   exact ack HM2.out
  simp only [set4] at hX4 hXB hXS
  generalize hV:World.setCell _ _ _=V
  rw [hV] at hX4 hXB hXS
  have hVR:RdO V s vs (.returned (.tuple #[v,.int .i64 er,p.v])):=by
   rcases HRD.out with ⟨t,v',he,hx,hr⟩ | h
   ·have he0:er=0:=by
     simp at he
     exact he.2.1
    rw [hXS (HP.out he0)]
    exact .inl ⟨t,v',he,hx,hr⟩
   ·exact .inr h
  clear hV hXS c0 c1 c2 c3 cf
  obtain ⟨_,⟨c0,c1,c2,c3⟩,cf⟩:=aas hX4
  refine bodyPost_ret (v:=.tuple #[v,.int .i64 er,p.v]) (by simp [results,Tryz.results20,go_sem,c0,c1,c2,c3,Pl.v];try rfl) rfl ⟨.inr ⟨HNE.out,hVR⟩,hXB⟩
 ·have h0' : (ne != 0)=true:=by simpa using h0
  have hid:=ack HM1.out
  obtain ⟨gl,⟨c0,c1,c2,c3⟩,cf⟩:=aas HM1.out
  go_wp2
  refine bodyPost_ret (v:=.tuple #[.nilIface,.int .i64 ne,plz.v]) (by simp [results,Tryz.results20,go_sem,c0,c1,c2,c3,Pl.v,plz];try rfl) rfl ⟨.inl ⟨by rw [HNE.out];exact h0,by rw [HNE.out]⟩,HB1.out⟩
theorem RxO.ret {w' : World} {s:ByteArray} {vs:List ByteArray} {e:Ending} (h:RxO w' s vs e):∃ v er p,e=.returned (.tuple #[v,.int .i64 er,Pl.v p])∧(er=0→p=plz):=by
 rcases h with ⟨hn,he⟩ | ⟨_,h⟩
 ·exact ⟨_,_,plz,he,fun h=>absurd h hn⟩
 ·exact h.ret
set_option maxRecDepth 20000 in
set_option maxHeartbeats 8000000 in
theorem aem (w:World) (hT:Tabs w) (s:ByteArray) (av:Option Addr) (nv cv:Nat) (vs:List ByteArray) (hv:Strs w (.slice av nv cv) vs) :
  Calls Tryz.prog 13 #[.string s,.slice av nv cv] w fun e w'=>RxO w' s vs e∧Below w.heap.size w w' := by
 have hba:=hAl w (.cells #[.int .i64 0,.int .i64 0,.int .i64 0,.int .i64 0] 28)
 have K:=hide (anu (w.alloc (.cells #[.int .i64 0,.int .i64 0,.int .i64 0,.int .i64 0] 28)) (hT.below hba) s av nv cv vs (hv.below hba))
 have HBA:=hide hba
 have HN1:=hide (heap_alloc_new w (.cells #[.int .i64 0,.int .i64 0,.int .i64 0,.int .i64 0] 28))
 clear hT hv hba
 go_enter Tryz.func13,Tryz.ntmps13
 go_wp2_with fail
 refine K.out.mono ?_
 generalize w.alloc (.cells #[.int .i64 0,.int .i64 0,.int .i64 0,.int .i64 0] 28)=wa at *
 rintro e w2 ⟨hrd,hb2⟩
 have HB2:=hide (HBA.out.trans (hb2.mono HBA.out.size))
 have HM2:=hide ((hb2.block _ (aaa HN1.out)).trans HN1.out)
 obtain ⟨v,er,p,rfl,hp⟩:=hrd.ret
 have HRD:=hide hrd
 have HP:=hide hp
 clear hrd hp hb2 K HBA HN1
 obtain ⟨gl,⟨c0,c1,c2,c3⟩,cf⟩:=aas HM2.out
 unfold Pl.v
 go_wp2_with fail
 have hX4:=acj HM2.out p
 have hXB:=ac5 HB2.out (Nat.le_refl _) p
 have hXS:p=plz→set4 w2 w.heap.size p=w2:=by
  rintro rfl
  exact ack HM2.out
 simp only [set4] at hX4 hXB hXS
 generalize hV:World.setCell _ _ _=V
 rw [hV] at hX4 hXB hXS
 have hVR:RxO V s vs (.returned (.tuple #[v,.int .i64 er,p.v])):=by
  rcases HRD.out with h | ⟨hn,⟨t,v',he,hx,hr⟩ | h⟩
  ·exact .inl h
  ·have he0:er=0:=by
    simp at he
    exact he.2.1
   rw [hXS (HP.out he0)]
   exact .inr ⟨hn,.inl ⟨t,v',he,hx,hr⟩⟩
  ·exact .inr ⟨hn,.inr h⟩
 clear hV hXS c0 c1 c2 c3 cf
 obtain ⟨_,⟨c0,c1,c2,c3⟩,cf⟩:=aas hX4
 refine bodyPost_ret (v:=.tuple #[v,.int .i64 er,p.v]) (by simp [results,Tryz.results13,go_sem,c0,c1,c2,c3,Pl.v];try rfl) rfl ⟨hVR,hXB⟩
theorem trimG (w:World) (vx:Value) (x:Int) (L:Nat) (hx:IsW x L vx w) (hL:L≤400000000) :
  Calls Tryz.prog 62 #[vx] w fun e w'=>∃ v,e=.returned v∧OutW x L v w'∧Below w.heap.size w w' := by
 obtain ⟨n1,a1,m1,c1,xs,rfl,A1,l1⟩:=hx
 refine (atz w n1 a1 m1 c1 xs A1.sl (by omega)).mono ?_
 rintro e w' ⟨ng,ao,cap,rs,rfl,hw,hl,hb⟩
 rw [A1.worth] at hw
 exact ⟨_,rfl,⟨_,_,_,_,rfl,hw,by omega⟩,hb⟩
set_option maxRecDepth 20000 in
set_option maxHeartbeats 4000000 in
theorem ags (w:World) (v:Value) (z:Int) (L:Nat) (hv:OutW z L v w) (hL:L≤400000000) :
  Calls Tryz.prog 48 #[v] w fun e w'=>∃ x,e=.returned x∧OutW z L x w'∧Below w.heap.size w w' := by
 obtain ⟨ng,ao,cap,rs,rfl,hwh,hl⟩:=id hv
 have hA:=hAl w (.cells #[.bool ng,.slice ao rs.length cap] 96)
 have hA2:=hAl (w.alloc (.cells #[.bool ng,.slice ao rs.length cap] 96)) (.cells #[.bool false,.slice none 0 0] 33)
 have hn0:=heap_alloc_new (w.alloc (.cells #[.bool ng,.slice ao rs.length cap] 96)) (.cells #[.bool false,.slice none 0 0] 33)
 have hB:=hA.trans (hA2.mono hA.size)
 have hn1:=(hA2.block _ (aaa (heap_alloc_new w (.cells #[.bool ng,.slice ao rs.length cap] 96)))).trans (heap_alloc_new w (.cells #[.bool ng,.slice ao rs.length cap] 96))
 rw [World.size_alloc] at hn0
 have K:=hide (trimG _ _ z L (hv.ru (Ru.of_below hB)).is hL)
 generalize rs.length=m at *
 have HB:=hide hB
 have HN0:=hide hn0
 have c0:=cell_of_row _ w.heap.size 0 _ _ (0,0) hn1
 have c1:=cell_of_row _ w.heap.size 1 _ _ (0,0) hn1
 simp at c0 c1
 clear hv hwh hA hA2 hn0 hn1 hB hl
 go_enter Tryz.func48,Tryz.ntmps48
 go_wp2_with fail
 refine K.out.mono ?_
 generalize ((w.alloc (.cells #[.bool ng,.slice ao m cap] 96)).alloc (.cells #[.bool false,.slice none 0 0] 33))=w0 at *
 rintro e w1 ⟨x,rfl,hx,hb1⟩
 obtain ⟨nx,ax,cx,rx,rfl,hwx,hlx⟩:=id hx
 have HX:=hide hx
 have HN1:=hide ((hb1.block _ (aaa HN0.out)).trans HN0.out)
 have HB1:=hide (HB.out.trans (hb1.mono HB.out.size))
 have g0:w1.cell? ⟨w.heap.size+1,0,none⟩ = some (.bool false):=by rw [cell_of_row _ _ _ _ _ (0,0) HN1.out];rfl
 have g1:w1.cell? ⟨w.heap.size+1,1,none⟩ = some (.slice none 0 0):=by rw [cell_of_row _ _ _ _ _ (0,0) HN1.out];rfl
 have gf:=fun k=>frozen_of_row w1 (w.heap.size+1) k _ _ HN1.out
 generalize rx.length=mx at *
 clear hx hwx hlx hb1 K HB HN0 c0 c1
 go_wp2
 obtain ⟨hX,hRu,hBl⟩:=aar HN1.out HB1.out (by omega) nx ax mx cx
 generalize hV:World.setCell _ _ _=V
 rw [hV] at hX hRu hBl
 clear hV
 have x0:V.cell? ⟨w.heap.size+1,0,none⟩ = some (.bool nx):=by rw [cell_of_row _ _ _ _ _ (0,0) hX];rfl
 have x1:V.cell? ⟨w.heap.size+1,1,none⟩ = some (.slice ax mx cx):=by rw [cell_of_row _ _ _ _ _ (0,0) hX];rfl
 refine bodyPost_ret (v:=.agg #[.bool nx,.slice ax mx cx]) (by simp [results,Tryz.results48,go_sem,x0,x1];try rfl) rfl ⟨_,rfl,HX.out.ru hRu,hBl⟩
theorem IsX.mono4 (x:Ex):Mono fun v w=>IsX w x v:=fun _ _ _ hb h=>h.ru (Ru.of_below hb)
def ShG (t:Ex):Prop:=∀ (w:World) (v:Value) (n:Nat),IsX w t v→WfX n t→NumX t→n≤16→wtX t≤200000000→Calls Tryz.prog 33 #[v,.int .i64 (n:Int)] w fun e w'=>∃ r,e=.returned r∧ShS w' r n (wtX t) (formZ n t)∧Below w.heap.size w w'
theorem ajy {dst:Option Tmp} {ty:TypeId} {pos:String} {after:Array Edge} {guard:Option (Nat × Bool)} {a:Act} {w:World} {ats:Array TypeId} {i j:Nat} {t:Ex} {n:Nat} (H:ShG t) (h:IsX w t (a.eval (.tmp i))) (h1:a.eval (.tmp j)=.int .i64 (n:Int)) (hw:WfX n t) (hx:NumX t) (hn:n≤16) (hl:wtX t≤200000000) :
  Does Tryz.prog { dst,op:=.call { callee:=.value (.func 33),args:=#[.tmp i,.tmp j],argTypes:=ats },type:=ty,pos,after,guard } a.eval w fun v w'=>Below w.heap.size w w'∧ShS w' v n (wtX t) (formZ n t):=by
 obtain ⟨vx,e1⟩:∃ vx,a.eval (.tmp i)=vx:=⟨_,rfl⟩
 rw [e1] at h
 refine aa0 anh _ (by simp only [List.map_toArray,List.map_cons,List.map_nil,e1,h1]) ((H w vx n h hw hx hn hl).mono ?_)
 rintro e w' ⟨fv,rfl,h,hb⟩
 exact ⟨_,rfl,hb,h⟩
set_option maxRecDepth 20000 in
set_option maxHeartbeats 8000000 in
theorem anv (z:Int):ShG (.num z):=by
 intro w v n h _ _ hn _
 obtain ⟨u,rfl,hu⟩:=h
 obtain ⟨ng,ao,cap,rs,rfl,-,-⟩:=id hu
 have htNu:∀ xt w,(Instr.typeAssert (.iface 96 (.agg #[.bool ng,.slice ao rs.length cap])) xt 96 true).run Tryz.prog w=.ok (.tuple #[(.agg #[.bool ng,.slice ao rs.length cap]),.bool true]) w:=fun _ _=>by kernel_rfl
 have hA:=hAl w (.cells #[.bool ng,.slice ao rs.length cap] 96)
 have K:=hide (ags _ _ z 6000 (hu.ru (Ru.of_below hA)) (by omega))
 have HA:=hide hA
 generalize rs.length=m at *
 clear hu hA
 go_enter Tryz.func33,Tryz.ntmps33
 go_wp2_with fail
 refine K.out.mono ?_
 rintro e w1 ⟨x,rfl,hx,hb1⟩
 have HB1:=hide (HA.out.trans (hb1.mono HA.out.size))
 have K2:=hide (agn w1 x z 6000 hx n n (Nat.le_refl _) hn)
 clear hx hb1 K HA
 go_wp2_with fail
 refine K2.out.mono ?_
 rintro e w2 ⟨r,rfl,hr,hb2⟩
 have HB2:=hide (HB1.out.trans (hb2.mono HB1.out.size))
 have hS:ShS w2 (.iface 58 r) n (wtX (.num z)) (formZ n (.num z)):=⟨_,rfl,hr⟩
 clear hr hb2 K2 HB1
 go_wp2
 refine bodyPost_ret (v:=_) (by simp [results,Tryz.results33,go_sem];try rfl) rfl ⟨_,rfl,hS,HB2.out⟩
set_option maxRecDepth 20000 in
set_option maxHeartbeats 8000000 in
theorem anw (s:ByteArray) (i:Nat):ShG (.var s i):=by
 intro w v n h hi _ hn _
 obtain rfl:=h
 have hi:i<n:=hi
 have htNu:∀ xt w,(Instr.typeAssert (.iface 99 (.agg #[.string s,.int .i64 (i:Int)])) xt 96 true).run Tryz.prog w=.ok (.tuple #[.agg #[.bool false,.slice none 0 0],.bool false]) w:=fun _ _=>by kernel_rfl
 have htVa:∀ xt w,(Instr.typeAssert (.iface 99 (.agg #[.string s,.int .i64 (i:Int)])) xt 99 true).run Tryz.prog w=.ok (.tuple #[(.agg #[.string s,.int .i64 (i:Int)]),.bool true]) w:=fun _ _=>by kernel_rfl
 have hA:=hAl w (.cells #[.string s,.int .i64 (i:Int)] 99)
 have hn0:=heap_alloc_new w (.cells #[.string s,.int .i64 (i:Int)] 99)
 have HA:=hide hA
 have HN:=hide hn0
 have c1:(w.alloc (.cells #[.string s,.int .i64 (i:Int)] 99)).cell? ⟨w.heap.size,1,none⟩ = some (.int .i64 (i:Int)):=by rw [cell_of_row _ _ _ _ _ (0,0) hn0];rfl
 clear hA hn0
 go_enter Tryz.func33,Tryz.ntmps33
 go_upto_region 7 with fail
 generalize (w.alloc (.cells #[.string s,.int .i64 (i:Int)] 99))=wa at *
 refine abo 6 [22,23,24,25,26,27] [(OutW 1 2),Eqs (.pointer (some ⟨w.heap.size,1,none⟩)),Eqs (.int .i64 (i:Int)),Eqs (.int .i64 (n:Int)),(fun v_ w_=>FmS w_ v_ n (uf i 1) 2),(fun v_ w_=>ShS w_ v_ n 2 (some (uf i 1)))] rfl rfl (by decide) (by kernel_rfl) (by kernel_rfl) (by decide) (by kernel_rfl) ⟨(Mono.of4 (OutW.mono4 _ _)),Eqs.mono _,Eqs.mono _,Eqs.mono _,(FmS.mono4 _ _ _),(ShS.mono4 _ _ _),trivial⟩ ?_ ?_
 ·exact ⟨⟨rfl,fun a_ w_ _ hB hR hD=>au0 (by decide) (by decide)⟩,
    ⟨rfl,fun a_ w_ _ hB hR hD=>asr ((hR 6 rfl).trans (aae rfl))⟩,
    ⟨rfl,fun a_ w_ _ hB hR hD=>ass (show a_.eval (.tmp 23)=.pointer (some ⟨w.heap.size,1,none⟩) from hD 1 rfl) ((World.cell?_of_block (hB.block _ (aaa HN.out))).trans c1)⟩,
    ⟨rfl,fun a_ w_ _ hB hR hD=>aaj ((hR 1 rfl).trans (aae rfl))⟩,
    ⟨rfl,fun a_ w_ _ hB hR hD=>aez (show (OutW 1 2) (a_.eval (.tmp 22)) w_ from hD 0 rfl) (show a_.eval (.tmp 24)=.int .i64 (i:Int) from hD 2 rfl) (show a_.eval (.tmp 25)=.int .i64 (n:Int) from hD 3 rfl) (by omega) hn⟩,
    ⟨rfl,fun a_ w_ _ hB hR hD=>af0 (show (fun v_ w_=>FmS w_ v_ n (uf i 1) 2) (a_.eval (.tmp 26)) w_ from hD 4 rfl)⟩,
    trivial⟩
 ·intro a' w' hn' hd' hB' hR' hP'
  obtain ⟨u22,e22⟩:∃ u,a'.eval (.tmp 22)=u:=⟨_,rfl⟩
  have e23:a'.eval (.tmp 23)=.pointer (some ⟨w.heap.size,1,none⟩):=hP' 1 (by decide)
  have e24:a'.eval (.tmp 24)=.int .i64 (i:Int):=hP' 2 (by decide)
  have e25:a'.eval (.tmp 25)=.int .i64 (n:Int):=hP' 3 (by decide)
  obtain ⟨u26,e26⟩:∃ u,a'.eval (.tmp 26)=u:=⟨_,rfl⟩
  obtain ⟨u27,e27⟩:∃ u,a'.eval (.tmp 27)=u:=⟨_,rfl⟩
  have hT:(fun v_ w_=>ShS w_ v_ n 2 (some (uf i 1))) (a'.eval (.tmp 27)) w' := hP' 5 (by decide)
  rw [e27] at hT
  refine aby hn' hd' hR' (.s16 rfl <| .s4 rfl <| .same rfl <| .same rfl <| .new e22 <| .new e23 <| .new e24 <| .new e25 <| .new e26 <| .new e27 <| .s16 rfl <| .s4 rfl <| .s4 rfl <| .same rfl <| .same rfl <| .same rfl <| .nil) ?_
  clear e22 e23 e24 e25 e26 e27
  have HT:=hide hT
  have HB' := hide (HA.out.trans (hB'.mono HA.out.size))
  clear hT hB' hn' hd' hR' hP' c1
  go_wp2
  have hS:ShS w' u27 n (wtX (.var s i)) (formZ n (.var s i)):=HT.out.fit fun f hf k=>ad0 (n:=n) (x:=.var s i) trivial hf k
  refine bodyPost_ret (v:=_) (by simp [results,Tryz.results33,go_sem];try rfl) rfl ⟨_,rfl,hS,HB'.out⟩
set_option maxRecDepth 20000 in
set_option maxHeartbeats 8000000 in
theorem anx (x:Ex) (HX:ShG x):ShG (.neg x):=by
 intro w v n h hw hx hn hl
 obtain ⟨u,rfl,hu⟩:=h
 have hl:wtX x+1≤200000000:=hl
 obtain ⟨TU,y,rfl⟩:=hu.iface
 have htNu:∀ xt w,(Instr.typeAssert (.iface 101 (.agg #[.iface TU y])) xt 96 true).run Tryz.prog w=.ok (.tuple #[.agg #[.bool false,.slice none 0 0],.bool false]) w:=fun _ _=>by kernel_rfl
 have htVa:∀ xt w,(Instr.typeAssert (.iface 101 (.agg #[.iface TU y])) xt 99 true).run Tryz.prog w=.ok (.tuple #[.agg #[.string ⟨#[]⟩,.int .i64 0],.bool false]) w:=fun _ _=>by kernel_rfl
 have htNe:∀ xt w,(Instr.typeAssert (.iface 101 (.agg #[.iface TU y])) xt 101 true).run Tryz.prog w=.ok (.tuple #[(.agg #[.iface TU y]),.bool true]) w:=fun _ _=>by kernel_rfl
 have hA:=hAl w (.cells #[.iface TU y] 101)
 have K:=hide (HX _ _ n (hu.ru (Ru.of_below hA)) hw hx hn (by omega))
 have HA:=hide hA
 clear hu hA
 go_enter Tryz.func33,Tryz.ntmps33
 go_wp2_with fail
 refine K.out.mono ?_
 rintro e w1 ⟨r,rfl,hr,hb1⟩
 have HB1:=hide (HA.out.trans (hb1.mono HA.out.size))
 cases hf:formZ n x with
 | none =>
  have HF:=hide hf
  rw [hf] at hr
  obtain rfl:=hr
  have K2:=hide (ahz w1 n (wtX (.neg x)))
  clear hf hb1 K HA
  go_wp2_with fail
  refine K2.out.mono ?_
  rintro e w2 ⟨r,rfl,hr,hb2⟩
  have HB2:=hide (HB1.out.trans (hb2.mono HB1.out.size))
  have hS:ShS w2 r n (wtX (.neg x)) (formZ n (.neg x)):=by
   rw [formZ,HF.out]
   exact hr
  clear hr hb2 K2 HB1
  go_wp2
  refine bodyPost_ret (v:=_) (by simp [results,Tryz.results33,go_sem];try rfl) rfl ⟨_,rfl,hS,HB2.out⟩
 | some f =>
  have HF:=hide hf
  rw [hf] at hr
  obtain ⟨y,rfl,hy⟩:=hr
  have K2:=hide (ajl w1 y n f (wtX x) hy hn (by omega))
  clear hf hy hb1 K HA
  go_wp2_with fail
  refine K2.out.mono ?_
  rintro e w2 ⟨r,rfl,hr,hb2⟩
  have HB2:=hide (HB1.out.trans (hb2.mono HB1.out.size))
  have hS:ShS w2 r n (wtX (.neg x)) (formZ n (.neg x)):=by
   rw [formZ,HF.out]
   exact hr
  clear hr hb2 K2 HB1
  go_wp2
  refine bodyPost_ret (v:=_) (by simp [results,Tryz.results33,go_sem];try rfl) rfl ⟨_,rfl,hS,HB2.out⟩
set_option maxRecDepth 20000 in
set_option maxHeartbeats 8000000 in
theorem aqq (s:ByteArray) (l r:Ex) (HL:Hid (ShG l)) (HR:Hid (ShG r)):ShG (.op s l r):=by
 intro w v n h hw hx hn hl
 obtain ⟨vl,vr,rfl,hvl,hvr⟩:=h
 have hl:wtX l+wtX r+1≤200000000:=hl
 obtain ⟨TL,yl,rfl⟩:=hvl.iface
 obtain ⟨TR,yr,rfl⟩:=hvr.iface
 have htNu:∀ xt w,(Instr.typeAssert (.iface 94 (.agg #[.string s,.iface TL yl,.iface TR yr])) xt 96 true).run Tryz.prog w=.ok (.tuple #[.agg #[.bool false,.slice none 0 0],.bool false]) w:=fun _ _=>by kernel_rfl
 have htVa:∀ xt w,(Instr.typeAssert (.iface 94 (.agg #[.string s,.iface TL yl,.iface TR yr])) xt 99 true).run Tryz.prog w=.ok (.tuple #[.agg #[.string ⟨#[]⟩,.int .i64 0],.bool false]) w:=fun _ _=>by kernel_rfl
 have htNe:∀ xt w,(Instr.typeAssert (.iface 94 (.agg #[.string s,.iface TL yl,.iface TR yr])) xt 101 true).run Tryz.prog w=.ok (.tuple #[.agg #[.nilIface],.bool false]) w:=fun _ _=>by kernel_rfl
 have htOp:∀ xt w,(Instr.typeAssert (.iface 94 (.agg #[.string s,.iface TL yl,.iface TR yr])) xt 94 true).run Tryz.prog w=.ok (.tuple #[(.agg #[.string s,.iface TL yl,.iface TR yr]),.bool true]) w:=fun _ _=>by kernel_rfl
 have hA:=hAl w (.cells #[.string s,.iface TL yl,.iface TR yr] 94)
 have hn0:=heap_alloc_new w (.cells #[.string s,.iface TL yl,.iface TR yr] 94)
 have HA:=hide hA
 have HN:=hide hn0
 have HIL:=hide (hvl.ru (Ru.of_below hA))
 have HIR:=hide (hvr.ru (Ru.of_below hA))
 have hw1:WfX n l:=hw.1
 have hw2:WfX n r:=hw.2
 have hx1:NumX l:=hx.1
 have hx2:NumX r:=hx.2
 have hl1:wtX l≤200000000:=by omega
 have hl2:wtX r≤200000000:=by omega
 have HFL:=hide (fun f hf k=>ad0 (n:=n) (x:=.op s l r) (f:=f) hx hf k)
 have c0:(w.alloc (.cells #[.string s,.iface TL yl,.iface TR yr] 94)).cell? ⟨w.heap.size,0,none⟩ = some (.string s):=by rw [cell_of_row _ _ _ _ _ (0,0) hn0];rfl
 have c1:(w.alloc (.cells #[.string s,.iface TL yl,.iface TR yr] 94)).cell? ⟨w.heap.size,1,none⟩ = some (.iface TL yl):=by rw [cell_of_row _ _ _ _ _ (0,0) hn0];rfl
 have c2:(w.alloc (.cells #[.string s,.iface TL yl,.iface TR yr] 94)).cell? ⟨w.heap.size,2,none⟩ = some (.iface TR yr):=by rw [cell_of_row _ _ _ _ _ (0,0) hn0];rfl
 clear hA hn0 hvl hvr hw hx
 go_enter Tryz.func33,Tryz.ntmps33
 go_upto_region 13 with fail
 generalize (w.alloc (.cells #[.string s,.iface TL yl,.iface TR yr] 94))=wa at *
 refine abo 14 [39,40,41,42,43,44,45,46,47,48,49,50,51,52] [Eqs (.pointer (some ⟨w.heap.size,1,none⟩)),(fun v_ w_=>IsX w_ l v_),Eqs (.int .i64 (n:Int)),(fun v_ w_=>ShS w_ v_ n (wtX l) (formZ n l)),Eqs (.pointer (some ⟨w.heap.size,0,none⟩)),Eqs (.string s),Eqs (.pointer (some ⟨w.heap.size,2,none⟩)),(fun v_ w_=>IsX w_ r v_),Eqs (.int .i64 (n:Int)),(fun v_ w_=>ShS w_ v_ n (wtX r) (formZ n r)),(fun v_ w_=>MtS w_ v_ n (wtX l) (formZ n l)),(fun v_ w_=>MtS w_ v_ n (wtX l) (formZ n l)),(fun v_ w_=>ShS w_ v_ n (wtX l) (formZ n l)),(fun v_ w_=>ShS w_ v_ n (wtX l+wtX r+4) ((formZ n l).bind fun f=>(formZ n r).bind fun g=>joinF n s f g))] rfl rfl (by decide) (by kernel_rfl) (by kernel_rfl) (by decide) (by kernel_rfl) ⟨Eqs.mono _,(IsX.mono4 _),Eqs.mono _,(ShS.mono4 _ _ _),Eqs.mono _,Eqs.mono _,Eqs.mono _,(IsX.mono4 _),Eqs.mono _,(ShS.mono4 _ _ _),(MtS.mono4 _ _ _),(MtS.mono4 _ _ _),(ShS.mono4 _ _ _),(ShS.mono4 _ _ _),trivial⟩ ?_ ?_
 ·exact ⟨⟨rfl,fun a_ w_ _ hB hR hD=>afe awx ((hR 8 rfl).trans (aae rfl))⟩,
    ⟨rfl,fun a_ w_ _ hB hR hD=>ag5 (q:=fun v_ w_=>IsX w_ l v_) (show a_.eval (.tmp 39)=.pointer (some ⟨w.heap.size,1,none⟩) from hD 0 rfl) ((World.cell?_of_block (hB.block _ (aaa HN.out))).trans c1) (IsX.mono4 _ _ _ _ hB HIL.out)⟩,
    ⟨rfl,fun a_ w_ _ hB hR hD=>aaj ((hR 1 rfl).trans (aae rfl))⟩,
    ⟨rfl,fun a_ w_ _ hB hR hD=>ajy HL.out (show (fun v_ w_=>IsX w_ l v_) (a_.eval (.tmp 40)) w_ from hD 1 rfl) (show a_.eval (.tmp 41)=.int .i64 (n:Int) from hD 2 rfl) hw1 hx1 hn hl1⟩,
    ⟨rfl,fun a_ w_ _ hB hR hD=>afe aww ((hR 8 rfl).trans (aae rfl))⟩,
    ⟨rfl,fun a_ w_ _ hB hR hD=>auz (show a_.eval (.tmp 43)=.pointer (some ⟨w.heap.size,0,none⟩) from hD 4 rfl) ((World.cell?_of_block (hB.block _ (aaa HN.out))).trans c0)⟩,
    ⟨rfl,fun a_ w_ _ hB hR hD=>afe atl ((hR 8 rfl).trans (aae rfl))⟩,
    ⟨rfl,fun a_ w_ _ hB hR hD=>ag5 (q:=fun v_ w_=>IsX w_ r v_) (show a_.eval (.tmp 45)=.pointer (some ⟨w.heap.size,2,none⟩) from hD 6 rfl) ((World.cell?_of_block (hB.block _ (aaa HN.out))).trans c2) (IsX.mono4 _ _ _ _ hB HIR.out)⟩,
    ⟨rfl,fun a_ w_ _ hB hR hD=>aaj ((hR 1 rfl).trans (aae rfl))⟩,
    ⟨rfl,fun a_ w_ _ hB hR hD=>ajy HR.out (show (fun v_ w_=>IsX w_ r v_) (a_.eval (.tmp 46)) w_ from hD 7 rfl) (show a_.eval (.tmp 47)=.int .i64 (n:Int) from hD 8 rfl) hw2 hx2 hn hl2⟩,
    ⟨rfl,fun a_ w_ _ hB hR hD=>awg (show (fun v_ w_=>ShS w_ v_ n (wtX l) (formZ n l)) (a_.eval (.tmp 42)) w_ from hD 3 rfl)⟩,
    ⟨rfl,fun a_ w_ _ hB hR hD=>au1 (show (fun v_ w_=>MtS w_ v_ n (wtX l) (formZ n l)) (a_.eval (.tmp 49)) w_ from hD 10 rfl)⟩,
    ⟨rfl,fun a_ w_ _ hB hR hD=>adw (show (fun v_ w_=>ShS w_ v_ n (wtX l) (formZ n l)) (a_.eval (.tmp 42)) w_ from hD 3 rfl)⟩,
    ⟨rfl,fun a_ w_ _ hB hR hD=>ast (show (fun v_ w_=>ShS w_ v_ n (wtX l) (formZ n l)) (a_.eval (.tmp 51)) w_ from hD 12 rfl) (show a_.eval (.tmp 44)=.string s from hD 5 rfl) (show (fun v_ w_=>ShS w_ v_ n (wtX r) (formZ n r)) (a_.eval (.tmp 48)) w_ from hD 9 rfl) hn hl1 hl2⟩,
    trivial⟩
 ·intro a' w' hn' hd' hB' hR' hP'
  have e39:a'.eval (.tmp 39)=.pointer (some ⟨w.heap.size,1,none⟩):=hP' 0 (by decide)
  obtain ⟨u40,e40⟩:∃ u,a'.eval (.tmp 40)=u:=⟨_,rfl⟩
  have e41:a'.eval (.tmp 41)=.int .i64 (n:Int):=hP' 2 (by decide)
  obtain ⟨u42,e42⟩:∃ u,a'.eval (.tmp 42)=u:=⟨_,rfl⟩
  have e43:a'.eval (.tmp 43)=.pointer (some ⟨w.heap.size,0,none⟩):=hP' 4 (by decide)
  have e44:a'.eval (.tmp 44)=.string s:=hP' 5 (by decide)
  have e45:a'.eval (.tmp 45)=.pointer (some ⟨w.heap.size,2,none⟩):=hP' 6 (by decide)
  obtain ⟨u46,e46⟩:∃ u,a'.eval (.tmp 46)=u:=⟨_,rfl⟩
  have e47:a'.eval (.tmp 47)=.int .i64 (n:Int):=hP' 8 (by decide)
  obtain ⟨u48,e48⟩:∃ u,a'.eval (.tmp 48)=u:=⟨_,rfl⟩
  obtain ⟨u49,e49⟩:∃ u,a'.eval (.tmp 49)=u:=⟨_,rfl⟩
  obtain ⟨u50,e50⟩:∃ u,a'.eval (.tmp 50)=u:=⟨_,rfl⟩
  obtain ⟨u51,e51⟩:∃ u,a'.eval (.tmp 51)=u:=⟨_,rfl⟩
  obtain ⟨u52,e52⟩:∃ u,a'.eval (.tmp 52)=u:=⟨_,rfl⟩
  have hT:(fun v_ w_=>ShS w_ v_ n (wtX l+wtX r+4) ((formZ n l).bind fun f=>(formZ n r).bind fun g=>joinF n s f g)) (a'.eval (.tmp 52)) w' := hP' 13 (by decide)
  rw [e52] at hT
  refine aby hn' hd' hR' (.s16 rfl <| .s16 rfl <| .s4 rfl <| .same rfl <| .same rfl <| .same rfl <| .new e39 <| .new e40 <| .new e41 <| .new e42 <| .new e43 <| .new e44 <| .new e45 <| .new e46 <| .new e47 <| .new e48 <| .new e49 <| .new e50 <| .new e51 <| .new e52 <| .same rfl <| .same rfl <| .nil) ?_
  clear e39 e40 e41 e42 e43 e44 e45 e46 e47 e48 e49 e50 e51 e52
  have HT:=hide hT
  have HB' := hide (HA.out.trans (hB'.mono HA.out.size))
  clear hT hB' hn' hd' hR' hP' c0 c1 c2
  go_wp2
  have hS:ShS w' u52 n (wtX (.op s l r)) (formZ n (.op s l r)):=HT.out.fit HFL.out
  refine bodyPost_ret (v:=_) (by simp [results,Tryz.results33,go_sem];try rfl) rfl ⟨_,rfl,hS,HB'.out⟩
theorem ac6:∀ t:Ex,ShG t
 | .num z=>anv z
 | .var s i=>anw s i
 | .neg x=>anx x (ac6 x)
 | .op s l r=>aqq s l r (hide (ac6 l)) (hide (ac6 r))
theorem ag7 {l:List Tk} {k:Nat} {c:UInt8} (h:txtL l k=⟨#[c]⟩):k<l.length:=by
 by_cases hk:k<l.length
 ·exact hk
 ·rw [txtL,List.getElem?_eq_none (by omega)] at h
  cases h
theorem aqr {l:List Tk} {k:Nat} (h:knd l k≠0):k<l.length:=by
 by_cases hk:k<l.length
 ·exact hk
 ·rw [knd,List.getElem?_eq_none (by omega)] at h
  exact absurd rfl h
theorem awk {l:List Tk} {k:Nat} {s:Bool} (h:txtL l k ∈ sgs s):k<l.length:=by
 by_cases hk:k<l.length
 ·exact hk
 ·rw [txtL,List.getElem?_eq_none (by omega)] at h
  have key:(⟨#[]⟩:ByteArray) ∉ sgs s:=by cases s <;> simp [sgs]
  exact absurd h key
theorem EvE.wt2 {l:List Tk} {vs:List ByteArray} {num:ByteArray→Int} {v:Lv} {k o:Nat} {r:PO Ex} (h:EvE l vs num v k o r):k≤l.length→∀ t j,r=.ok t j→k≤j∧j≤l.length∧wtX t≤bwL v+6002*(j - k):=by
 induction h with
 | sumB _ _=>intro _ t j e;cases e
 | sumO _ _ ih ih1 =>
  intro hk t j e
  obtain ⟨a1,a2,a3⟩:=ih hk _ _ rfl
  obtain ⟨b1,b2,b3⟩:=ih1 a2 t j e
  simp only [bwL] at a3 b3 ⊢
  exact ⟨by omega,by omega,by omega⟩
 | prodB _ _=>intro _ t j e;cases e
 | prodO _ _ ih ih1 =>
  intro hk t j e
  obtain ⟨a1,a2,a3⟩:=ih hk _ _ rfl
  obtain ⟨b1,b2,b3⟩:=ih1 a2 t j e
  simp only [bwL] at a3 b3 ⊢
  exact ⟨by omega,by omega,by omega⟩
 | tlE _ =>
  intro hk t j e
  cases e
  exact ⟨Nat.le_refl _,hk,by simp [bwL]⟩
 | tlB _ _ _=>intro _ t j e;cases e
 | @tlO k o s t0 u j0 r hs _ _ ih ih1 =>
  intro hk t j e
  have:=awk hs
  obtain ⟨a1,a2,a3⟩:=ih (by omega) _ _ rfl
  obtain ⟨b1,b2,b3⟩:=ih1 a2 t j e
  rw [auv] at a3
  simp only [bwL,wtX] at b3 ⊢
  exact ⟨by omega,by omega,by omega⟩
 | @unN k o r hs _ ih =>
  intro hk t j e
  have:=ag7 hs
  cases r with
  | bad _ _=>cases e
  | ok x i =>
   cases e
   obtain ⟨a1,a2,a3⟩:=ih (by omega) x _ rfl
   simp only [bwL,wtX] at a3 ⊢
   exact ⟨by omega,by omega,by omega⟩
 | unA _ _ ih=>exact fun hk t j e=>ih hk t j e
 | num hk2 =>
  intro hk t j e
  cases e
  have:=aqr (l:=l) (by rw [hk2];decide)
  simp only [bwL,wtX]
  exact ⟨by omega,by omega,by omega⟩
 | deep _ _=>intro _ t j e;cases e
 | brB _ _ _ _ _=>intro _ t j e;cases e
 | brO _ h1 _ _ h2 ih =>
  intro hk t j e
  cases e
  have:=ag7 h1
  have:=ag7 h2
  obtain ⟨a1,a2,a3⟩:=ih (by omega) _ _ rfl
  simp only [bwL] at a3 ⊢
  exact ⟨by omega,by omega,by omega⟩
 | brX _ _ _ _ _ _=>intro _ t j e;cases e
 | var _ _ hv =>
  intro hk t j e
  subst e
  cases hv with
  | ok hna hi =>
   have:=aqr (l:=l) (by rw [hna.1];decide)
   simp only [bwL,wtX]
   exact ⟨by omega,by omega,by omega⟩
theorem alc {s:ByteArray} {e:Pl} {gs:List Gl} {l:List Tk} (hs:s.size≤4096) (hQ:Snd s pl0 gs e) (hR:ScanR s e gs (.ok l)):l.length≤4097:=by
 obtain ⟨h1,h0,h2⟩:=ajx hR l rfl
 have h3:=hQ.ends acx (Nat.zero_le _)
 have:pl0.b=0:=rfl
 omega
theorem IsX.num {w:World} : ∀ {x:Ex} {v:Value},IsX w x v→NumX x
 | .num _,_,⟨_,_,h⟩=>by
  obtain ⟨ng,ao,cap,rs,_,hw,hl⟩:=h
  have h1:=(aab hw.1.2.1.1).2
  rw [hw.1.2.2] at h1
  exact Int.lt_of_lt_of_le h1 (abf hl)
 | .var _ _,_,_=>trivial
 | .neg _,_,⟨_,_,h⟩=>h.num
 | .op _ _ _,_,⟨_,_,_,h1,h2⟩=>⟨h1.num,h2.num⟩
theorem RdX.facts {s:ByteArray} {vs:List ByteArray} {t:Ex} (h:RdX s vs (.ok t)):WfX vs.length t∧wtX t≤30000000:=by
 cases h with
 | ok h hQ hR hE =>
  have hl:=alc h hQ hR
  cases hE with
  | ok hE _ =>
   refine ⟨hE.wf (fun s t e=>by cases e) _ _ rfl,?_⟩
   obtain ⟨_,h2,h3⟩:=hE.wt2 (Nat.zero_le _) _ _ rfl
   simp only [bwL] at h3
   omega
def FoS (w:World) (n:Nat) (t:Ex) (v:Value) (b:Bool):Prop :=
 (b=true∧∃ f,formZ n t=some f∧FmS w v n f (wtX t))∨(b=false∧formZ n t=none∧v=.slice none 0 0)
theorem FoS.below {w w' : World} {n:Nat} {t:Ex} {v:Value} {b:Bool} (h:FoS w n t v b) (hb:Below w.heap.size w w'):FoS w' n t v b:=by
 rcases h with ⟨h1,f,h2,h3⟩ | h
 ·exact .inl ⟨h1,f,h2,h3.below hb⟩
 ·exact .inr h
theorem FoS.slice {w:World} {n:Nat} {t:Ex} {v:Value} {b:Bool} (h:FoS w n t v b):∃ ao k c,v=.slice ao k c:=by
 rcases h with ⟨_,f,_,h3⟩ | ⟨_,_,h⟩
 ·obtain ⟨q,rfl⟩:=gslice h3
  exact ⟨_,_,_,rfl⟩
 ·exact ⟨_,_,_,h⟩
set_option maxRecDepth 20000 in
set_option maxHeartbeats 4000000 in
theorem ald (w:World) (t:Ex) (v:Value) (n:Nat) (h:IsX w t v) (hw:WfX n t) (hn:n≤16) (hl:wtX t≤200000000) :
  Calls Tryz.prog 22 #[v,.int .i64 (n:Int)] w fun e w'=>∃ x b,e=.returned (.tuple #[x,.bool b])∧FoS w' n t x b∧Below w.heap.size w w' := by
 have K:=hide (ac6 t w v n h hw h.num hn hl)
 clear h hw
 go_enter Tryz.func22,Tryz.ntmps22
 go_wp2_with fail
 refine K.out.mono ?_
 rintro e w1 ⟨r,rfl,hr,hb1⟩
 have HB1:=hide hb1
 cases hf:formZ n t with
 | none =>
  have HF:=hide hf
  rw [hf] at hr
  obtain rfl:=hr
  have ht:∀ xt w,(Instr.typeAssert (.iface 105 (.agg #[])) xt 58 true).run Tryz.prog w=.ok (.tuple #[.slice none 0 0,.bool false]) w:=fun _ _=>by kernel_rfl
  clear hf hb1 K
  go_wp2
  refine bodyPost_ret (v:=_) (by simp [results,Tryz.results22,go_sem];try rfl) rfl ⟨_,_,rfl,.inr ⟨rfl,HF.out,rfl⟩,HB1.out⟩
 | some f =>
  have HF:=hide hf
  rw [hf] at hr
  obtain ⟨y,rfl,hy⟩:=hr
  have HY:=hide hy
  obtain ⟨b,rfl⟩:=gslice hy
  have ht:∀ xt w,(Instr.typeAssert (.iface 58 (.slice (some ⟨b,0,none⟩) (n+1) (n+1))) xt 58 true).run Tryz.prog w=.ok (.tuple #[.slice (some ⟨b,0,none⟩) (n+1) (n+1),.bool true]) w:=fun _ _=>by kernel_rfl
  clear hf hb1 K hy
  go_wp2
  refine bodyPost_ret (v:=_) (by simp [results,Tryz.results22,go_sem];try rfl) rfl ⟨_,_,rfl,.inl ⟨rfl,_,HF.out,HY.out⟩,HB1.out⟩
set_option maxRecDepth 20000 in
set_option maxHeartbeats 4000000 in
theorem ale (w:World) (t:Ex) (v:Value) (n:Nat) (h:IsX w t v) (hw:WfX n t) (hn:n≤16) (hl:wtX t≤200000000) :
  Calls Tryz.prog 14 #[v,.int .i64 (n:Int)] w fun e w'=>∃ x b,e=.returned (.tuple #[x,.bool b])∧FoS w' n t x b∧Below w.heap.size w w' := by
 have K:=hide (ald w t v n h hw hn hl)
 clear h hw
 go_enter Tryz.func14,Tryz.ntmps14
 go_wp2_with fail
 refine K.out.mono ?_
 rintro e w1 ⟨x,b,rfl,hx,hb1⟩
 have HB1:=hide hb1
 have HX:=hide hx
 obtain ⟨ao,k,c,rfl⟩:=hx.slice
 clear hx hb1 K
 go_wp2
 refine bodyPost_ret (v:=_) (by simp [results,Tryz.results14,go_sem];try rfl) rfl ⟨_,_,rfl,HX.out,HB1.out⟩
def AfO (w' : World) (s:ByteArray) (vs:List ByteArray) (e:Ending):Prop :=
 (∃ er p,er≠0∧e=.returned (.tuple #[.slice none 0 0,.bool false,.int .i64 er,Pl.v p])∧∀ t,RdX s vs (.ok t)→nmsE vs≠0) ∨
 (nmsE vs=0∧∃ t v b,e=.returned (.tuple #[v,.bool b,.int .i64 0,plz.v])∧RdX s vs (.ok t)∧FoS w' vs.length t v b)
theorem aqs {vs:List ByteArray} (h:nmsE vs=0):NmsOk vs:=by
 unfold nmsE at h
 split at h
 ·assumption
 ·cases h
theorem RxO.ways {w' : World} {s:ByteArray} {vs:List ByteArray} {e:Ending} (h:RxO w' s vs e):(∃ er p,er≠0∧e=.returned (.tuple #[.nilIface,.int .i64 er,Pl.v p])∧∀ t,RdX s vs (.ok t)→nmsE vs≠0)∨(nmsE vs=0∧∃ t v,e=.returned (.tuple #[v,.int .i64 0,plz.v])∧IsX w' t v∧RdX s vs (.ok t)):=by
 rcases h with ⟨hn,he⟩ | ⟨h0,⟨t,v,he,hx,hr⟩ | ⟨er,p,hne,he,hr⟩⟩
 ·exact .inl ⟨_,_,hn,he,fun _ _=>hn⟩
 ·exact .inr ⟨h0,t,v,he,hx,hr⟩
 ·refine .inl ⟨er,p,hne,he,fun t ht=>?_⟩
  have:=ht.one hr
  cases this
theorem as4 {dst:Option Tmp} {ty:TypeId} {pos:String} {after:Array Edge} {guard:Option (Nat × Bool)} {a:Act} {w:World} {k g:Nat} {p:Pl} (hp:a.eval (.tmp k)=.pointer (some ⟨g,0,none⟩)) (hb:w.heap[g]? = some (.cells #[.int .i64 p.b,.int .i64 p.g,.int .i64 p.l,.int .i64 p.c] 28 (0,0))) :
  Does Tryz.prog { dst,op:=.load 28 (.tmp k),type:=ty,pos,after,guard } a.eval w fun v' w'=>Below w.heap.size w w'∧Eqs (Pl.v p) v' w' := by
 obtain ⟨gl,⟨c0,c1,c2,c3⟩,cf⟩:=aas hb
 refine abd (v:=Pl.v p) ?_ ⟨Below.refl _ _,rfl⟩
 rw [hp]
 go_simp
 rfl
set_option maxRecDepth 20000 in
set_option maxHeartbeats 8000000 in
theorem ado (w:World) (hT:Tabs w) (s:ByteArray) (av:Option Addr) (nv cv:Nat) (vs:List ByteArray) (hv:Strs w (.slice av nv cv) vs) :
  Calls Tryz.prog 6 #[.string s,.slice av nv cv] w fun e w'=>AfO w' s vs e∧Below w.heap.size w w' := by
 have hba:=hAl w (.cells #[.int .i64 0,.int .i64 0,.int .i64 0,.int .i64 0] 28)
 have K:=hide (aem (w.alloc (.cells #[.int .i64 0,.int .i64 0,.int .i64 0,.int .i64 0] 28)) (hT.below hba) s av nv cv vs (hv.below hba))
 have HBA:=hide hba
 have HN1:=hide (heap_alloc_new w (.cells #[.int .i64 0,.int .i64 0,.int .i64 0,.int .i64 0] 28))
 have HV:=hide hv
 clear hT hba hv
 go_enter Tryz.func6,Tryz.ntmps6
 go_wp2_with fail
 refine K.out.mono ?_
 generalize w.alloc (.cells #[.int .i64 0,.int .i64 0,.int .i64 0,.int .i64 0] 28)=wa at *
 rintro e w2 ⟨hrd,hb2⟩
 have HB2:=hide (HBA.out.trans (hb2.mono HBA.out.size))
 have HM2:=hide ((hb2.block _ (aaa HN1.out)).trans HN1.out)
 have HG:=hide (aaa HM2.out)
 rcases hrd.ways with ⟨er,p,hne,rfl,hno⟩ | ⟨h0,t,v,rfl,hx,hr⟩
 ·have h0' : (er != 0)=true:=by simpa using hne
  have HNE:=hide hne
  have HNO:=hide hno
  have hA2:=hAl w2 (.cells #[.int .i64 p.b,.int .i64 p.g,.int .i64 p.l,.int .i64 p.c] 28)
  have HN2:=hide (heap_alloc_new w2 (.cells #[.int .i64 p.b,.int .i64 p.g,.int .i64 p.l,.int .i64 p.c] 28))
  have HB3:=hide (HB2.out.trans (hA2.mono HB2.out.size))
  have HM3:=hide ((hA2.block _ (aaa HM2.out)).trans HM2.out)
  clear hne hno hrd hb2 hA2 K
  unfold Pl.v
  go_upto_region 3 with fail
  generalize (w2.alloc (.cells #[.int .i64 p.b,.int .i64 p.g,.int .i64 p.l,.int .i64 p.c] 28))=w3 at *
  refine ahx 5 [22,23,4,5,6] [Eqs (.int .i64 er),Eqs (Pl.v p),Eqs (.slice none 0 0),Eqs ((.bool false)),Eqs (.int .i64 er)] rfl rfl (by decide) (by kernel_rfl) (by kernel_rfl) (by decide) (by kernel_rfl) ⟨Eqs.mono _,Eqs.mono _,Eqs.mono _,Eqs.mono _,Eqs.mono _,trivial⟩ ?_ ?_
  ·exact ⟨⟨rfl,fun a_ w_ _ hB hR hD=>aaj ((hR 9 rfl).trans (aae rfl))⟩,
     ⟨rfl,fun a_ w_ _ hB hR hD=>as4 ((hR 10 rfl).trans (aae rfl)) ((hB.block _ (aaa HN2.out)).trans HN2.out)⟩,
     ⟨rfl,fun a_ w_ _ hB hR hD=>aac rfl⟩,
     ⟨rfl,fun a_ w_ _ hB hR hD=>aac rfl⟩,
     ⟨rfl,fun a_ w_ _ hB hR hD=>aac (show a_.eval (.tmp 22)=.int .i64 er from hD 0 rfl)⟩,
     trivial⟩
  ·intro a' w' hn' hd' hB' hR' hP'
   have e22:a'.eval (.tmp 22)=.int .i64 er:=hP' 0 (by decide)
   have e23:a'.eval (.tmp 23)=Pl.v p:=hP' 1 (by decide)
   have e4:a'.eval (.tmp 4)=.slice none 0 0:=hP' 2 (by decide)
   have e5:a'.eval (.tmp 5)=(.bool false):=hP' 3 (by decide)
   have e6:a'.eval (.tmp 6)=.int .i64 er:=hP' 4 (by decide)
   refine aby hn' hd' hR' (.s4 rfl <| .new e4 <| .new e5 <| .new e6 <| .s4 rfl <| .s4 rfl <| .s4 rfl <| .same rfl <| .same rfl <| .same rfl <| .new e22 <| .new e23 <| .s4 rfl <| .s4 rfl <| .same rfl <| .same rfl <| .nil) ?_
   clear e22 e23 e4 e5 e6
   have HB4:=hide (HB3.out.trans (hB'.mono HB3.out.size))
   have HM4:=hide ((hB'.block _ (aaa HM3.out)).trans HM3.out)
   clear hB' hn' hd' hR' hP'
   obtain ⟨gl,⟨c0,c1,c2,c3⟩,cf⟩:=aas HM4.out
   unfold Pl.v
   go_wp2_with fail
   have hX4:=acj HM4.out p
   have hXB:=ac5 HB4.out (Nat.le_refl _) p
   simp only [set4] at hX4 hXB
   generalize hV:World.setCell _ _ _=V
   rw [hV] at hX4 hXB
   clear hV c0 c1 c2 c3 cf
   obtain ⟨_,⟨c0,c1,c2,c3⟩,cf⟩:=aas hX4
   refine bodyPost_ret (v:=.tuple #[.slice none 0 0,.bool false,.int .i64 er,p.v]) (by simp [results,Tryz.results6,go_sem,c0,c1,c2,c3,Pl.v];try rfl) rfl ⟨.inl ⟨_,_,HNE.out,rfl,HNO.out⟩,hXB⟩
 ·have HR:=hide hr
  have H0:=hide h0
  have hA2:=hAl w2 (.cells #[.int .i64 0,.int .i64 0,.int .i64 0,.int .i64 0] 28)
  have HB3:=hide (HB2.out.trans (hA2.mono HB2.out.size))
  have HM3:=hide ((hA2.block _ (aaa HM2.out)).trans HM2.out)
  obtain ⟨hwf,hwt⟩:=hr.facts
  have hn:vs.length≤16:=(aqs h0).1
  have K2:=hide (ale (w2.alloc (.cells #[.int .i64 0,.int .i64 0,.int .i64 0,.int .i64 0] 28)) t v vs.length (hx.ru (Ru.of_below hA2)) hwf hn (by omega))
  have hnv:nv=vs.length:=by
   obtain ⟨ao0,cap0,hv0,_⟩:=HV.out
   injection hv0
  obtain ⟨TX,y,rfl⟩:=hx.iface
  clear h0 hrd hb2 hA2 K hr hx hwf hwt
  subst hnv
  simp only [Pl.v,plz]
  go_wp2_with fail
  refine K2.out.mono ?_
  generalize (w2.alloc (.cells #[.int .i64 0,.int .i64 0,.int .i64 0,.int .i64 0] 28))=w3 at *
  rintro e w4 ⟨x,b,rfl,hx,hb4⟩
  have HB4:=hide (HB3.out.trans (hb4.mono HB3.out.size))
  have HM4:=hide ((hb4.block _ (aaa HM3.out)).trans HM3.out)
  have HX:=hide hx
  obtain ⟨ao,k,c,rfl⟩:=hx.slice
  clear hb4 K2 hx
  have hid:=ack HM4.out
  obtain ⟨gl,⟨c0,c1,c2,c3⟩,cf⟩:=aas HM4.out
  go_wp2
  refine bodyPost_ret (v:=.tuple #[.slice ao k c,.bool b,.int .i64 0,plz.v]) (by simp [results,Tryz.results6,go_sem,c0,c1,c2,c3,Pl.v,plz];try rfl) rfl ⟨.inr ⟨H0.out,_,_,_,rfl,HR.out,HX.out⟩,HB4.out⟩
theorem limbsG (w:World) (v:Value) (z:Int) (L:Nat) (h:OutW z L v w) (hL:L≤400000000) (ng:Bool) (ao:Option Addr) (n c:Nat) (hv:v=.agg #[.bool ng,.slice ao n c]) :
  Calls Tryz.prog 141 #[v] w fun e w'=>e=.returned (.int .i64 (n:Int))∧Below w.heap.size w w' := by
 obtain ⟨ng',ao',c',rs,rfl,hw,hl⟩:=h
 simp only [Value.agg.injEq,Array.mk.injEq,List.cons.injEq,Value.bool.injEq,Value.slice.injEq,and_true] at hv
 obtain ⟨-,-,rfl,-⟩:=hv
 exact amo _ ng' _ _ _ _ hw.1.1 (by omega) _ ⟨rs,hw.1.2.1,rfl,rfl⟩
set_option maxRecDepth 20000 in
set_option maxHeartbeats 4000000 in
theorem aej (w:World) (v:Value) (z:Int) (L:Nat) (hv:OutW z L v w) (hL:L≤400000000) :
  Calls Tryz.prog 139 #[v] w fun e w'=>Below w.heap.size w w'∧((∃ x,e=.returned x∧OutW z 512 x w')∨e=.panicked (faultL 2 plz)):=by
 obtain ⟨ng,ao,cap,rs,rfl,hwh,hl⟩:=id hv
 have hA:=hAl w (.cells #[.bool ng,.slice ao rs.length cap] 33)
 have hA2:=hAl (w.alloc (.cells #[.bool ng,.slice ao rs.length cap] 33)) (.cells #[.bool false,.slice none 0 0] 33)
 have hn0:=heap_alloc_new (w.alloc (.cells #[.bool ng,.slice ao rs.length cap] 33)) (.cells #[.bool false,.slice none 0 0] 33)
 have hB:=hA.trans (hA2.mono hA.size)
 have hn1:=(hA2.block _ (aaa (heap_alloc_new w (.cells #[.bool ng,.slice ao rs.length cap] 33)))).trans (heap_alloc_new w (.cells #[.bool ng,.slice ao rs.length cap] 33))
 rw [World.size_alloc] at hn0
 have HW:=hide (show rs.length≤512→OutW z 512 (.agg #[.bool ng,.slice ao rs.length cap]) ((w.alloc (.cells #[.bool ng,.slice ao rs.length cap] 33)).alloc (.cells #[.bool false,.slice none 0 0] 33)) from fun hle=>(show OutW z 512 _ w from ⟨ng,ao,cap,rs,rfl,hwh,hle⟩).ru (Ru.of_below hB))
 have K:=hide (limbsG _ _ z L (hv.ru (Ru.of_below hB)) hL _ _ _ _ rfl)
 generalize rs.length=m at *
 have HB:=hide hB
 have HN0:=hide hn0
 have HN1:=hide hn1
 have c0:((w.alloc (.cells #[.bool ng,.slice ao m cap] 33)).alloc (.cells #[.bool false,.slice none 0 0] 33)).cell? ⟨w.heap.size,0,none⟩ = some (.bool ng):=by rw [cell_of_row _ _ _ _ _ (0,0) hn1];rfl
 have c1:((w.alloc (.cells #[.bool ng,.slice ao m cap] 33)).alloc (.cells #[.bool false,.slice none 0 0] 33)).cell? ⟨w.heap.size,1,none⟩ = some (.slice ao m cap):=by rw [cell_of_row _ _ _ _ _ (0,0) hn1];rfl
 clear hv hwh hA hA2 hn0 hn1 hB hl
 go_enter Tryz.func139,Tryz.ntmps139
 go_wp2_with fail
 refine K.out.mono ?_
 generalize ((w.alloc (.cells #[.bool ng,.slice ao m cap] 33)).alloc (.cells #[.bool false,.slice none 0 0] 33))=w0 at *
 rintro e w1 ⟨rfl,hb1⟩
 have HB1:=hide (HB.out.trans (hb1.mono HB.out.size))
 have HM0:=hide ((hb1.block _ (aaa HN0.out)).trans HN0.out)
 have HM1:=hide ((hb1.block _ (aaa HN1.out)).trans HN1.out)
 by_cases hbig:m≤512
 ·have hO:=HW.out hbig
  have HO:=hide (hO.ru (Ru.of_below hb1))
  have hbig' : ¬ (512:Int)<(m:Int):=by omega
  have d0:w1.cell? ⟨w.heap.size,0,none⟩ = some (.bool ng):=by rw [cell_of_row _ _ _ _ _ (0,0) HM1.out];rfl
  have d1:w1.cell? ⟨w.heap.size,1,none⟩ = some (.slice ao m cap):=by rw [cell_of_row _ _ _ _ _ (0,0) HM1.out];rfl
  have g0:w1.cell? ⟨w.heap.size+1,0,none⟩ = some (.bool false):=by rw [cell_of_row _ _ _ _ _ (0,0) HM0.out];rfl
  have g1:w1.cell? ⟨w.heap.size+1,1,none⟩ = some (.slice none 0 0):=by rw [cell_of_row _ _ _ _ _ (0,0) HM0.out];rfl
  have gf:=fun k=>frozen_of_row w1 (w.heap.size+1) k _ _ HM0.out
  clear hb1 hO K HB HN0 HN1 c0 c1 HW hbig
  go_wp2
  obtain ⟨hX,hRu,hBl⟩:=aar HM0.out HB1.out (by omega) ng ao m cap
  generalize hV:World.setCell _ _ _=V
  rw [hV] at hX hRu hBl
  clear hV
  have x0:V.cell? ⟨w.heap.size+1,0,none⟩ = some (.bool ng):=by rw [cell_of_row _ _ _ _ _ (0,0) hX];rfl
  have x1:V.cell? ⟨w.heap.size+1,1,none⟩ = some (.slice ao m cap):=by rw [cell_of_row _ _ _ _ _ (0,0) hX];rfl
  refine bodyPost_ret (v:=.agg #[.bool ng,.slice ao m cap]) (by simp [results,Tryz.results139,go_sem,x0,x1];try rfl) rfl ⟨hBl,.inl ⟨_,rfl,HO.out.ru hRu⟩⟩
 ·have hbig' : (512:Int)<(m:Int):=by omega
  clear hb1 K HB HN0 HN1 c0 c1 HW hbig
  go_wp2
  exact ⟨rfl,HB1.out,.inr rfl⟩
theorem alf (w:World) (a b c d:Array Value) (A B C D:TypeId) :
  let W:=(((w.alloc (.cells a A)).alloc (.cells b B)).alloc (.cells c C)).alloc (.cells d D)
  Below w.heap.size w W∧W.heap[w.heap.size]? = some (.cells a A (0,0))∧W.heap[w.heap.size+1]? = some (.cells b B (0,0))∧W.heap[w.heap.size+2]? = some (.cells c C (0,0))∧W.heap[w.heap.size+3]? = some (.cells d D (0,0)):=by
 intro W
 have b1:=hAl w (.cells a A)
 have b2:=hAl (w.alloc (.cells a A)) (.cells b B)
 have b3:=hAl ((w.alloc (.cells a A)).alloc (.cells b B)) (.cells c C)
 have b4:=hAl (((w.alloc (.cells a A)).alloc (.cells b B)).alloc (.cells c C)) (.cells d D)
 have n1:=heap_alloc_new w (.cells a A)
 have n2:=heap_alloc_new (w.alloc (.cells a A)) (.cells b B)
 have n3:=heap_alloc_new ((w.alloc (.cells a A)).alloc (.cells b B)) (.cells c C)
 have n4:=heap_alloc_new (((w.alloc (.cells a A)).alloc (.cells b B)).alloc (.cells c C)) (.cells d D)
 have n1' := (b4.block _ (aaa ((b3.block _ (aaa ((b2.block _ (aaa n1)).trans n1))).trans ((b2.block _ (aaa n1)).trans n1)))).trans ((b3.block _ (aaa ((b2.block _ (aaa n1)).trans n1))).trans ((b2.block _ (aaa n1)).trans n1))
 have n2' := (b4.block _ (aaa ((b3.block _ (aaa n2)).trans n2))).trans ((b3.block _ (aaa n2)).trans n2)
 have n3' := (b4.block _ (aaa n3)).trans n3
 simp only [World.size_alloc] at n2' n3' n4
 have b12:=b1.trans (b2.mono b1.size)
 have b123:=b12.trans (b3.mono b12.size)
 exact ⟨b123.trans (b4.mono b123.size),n1',n2',n3',n4⟩
set_option maxRecDepth 20000 in
set_option maxHeartbeats 16000000 in
theorem anz (w:World) (s:ByteArray) (TA TB:TypeId) (ya yb:Value) (vx vy:Value) (x y:Int) (hx:OutW x 512 vx w) (hy:OutW y 512 vy w) :
  Calls Tryz.prog 140 #[.agg #[.string s,.iface TA ya,.iface TB yb],vx,vy] w fun e w'=>Below w.heap.size w w'∧((∃ z v,e=.returned v∧reckZ s x y=some z∧OutW z 2000 v w')∨(e=.panicked (faultL 20 plz)∧reckZ s x y=none)):=by
 obtain ⟨n1,a1,c1,r1,rfl,hw1,hl1⟩:=id hx
 obtain ⟨n2,a2,c2,r2,rfl,hw2,hl2⟩:=id hy
 obtain ⟨hB,hP,hX0,hY0,hZ⟩:=alf w #[.string s,.iface TA ya,.iface TB yb] #[.bool n1,.slice a1 r1.length c1] #[.bool n2,.slice a2 r2.length c2] #[.bool false,.slice none 0 0] 94 33 33 33
 have HX:=hide ((hx.ru (Ru.of_below hB)).is)
 have HY:=hide ((hy.ru (Ru.of_below hB)).is)
 generalize r1.length=m1 at *
 generalize r2.length=m2 at *
 have HB:=hide hB
 have HZ:=hide hZ
 have p0:((((w.alloc (.cells #[.string s,.iface TA ya,.iface TB yb] 94)).alloc (.cells #[.bool n1,.slice a1 m1 c1] 33)).alloc (.cells #[.bool n2,.slice a2 m2 c2] 33)).alloc (.cells #[.bool false,.slice none 0 0] 33)).cell? ⟨w.heap.size,0,none⟩ = some (.string s):=by rw [cell_of_row _ _ _ _ _ (0,0) hP];rfl
 have q0:((((w.alloc (.cells #[.string s,.iface TA ya,.iface TB yb] 94)).alloc (.cells #[.bool n1,.slice a1 m1 c1] 33)).alloc (.cells #[.bool n2,.slice a2 m2 c2] 33)).alloc (.cells #[.bool false,.slice none 0 0] 33)).cell? ⟨w.heap.size+1,0,none⟩ = some (.bool n1):=by rw [cell_of_row _ _ _ _ _ (0,0) hX0];rfl
 have q1:((((w.alloc (.cells #[.string s,.iface TA ya,.iface TB yb] 94)).alloc (.cells #[.bool n1,.slice a1 m1 c1] 33)).alloc (.cells #[.bool n2,.slice a2 m2 c2] 33)).alloc (.cells #[.bool false,.slice none 0 0] 33)).cell? ⟨w.heap.size+1,1,none⟩ = some (.slice a1 m1 c1):=by rw [cell_of_row _ _ _ _ _ (0,0) hX0];rfl
 have r0:((((w.alloc (.cells #[.string s,.iface TA ya,.iface TB yb] 94)).alloc (.cells #[.bool n1,.slice a1 m1 c1] 33)).alloc (.cells #[.bool n2,.slice a2 m2 c2] 33)).alloc (.cells #[.bool false,.slice none 0 0] 33)).cell? ⟨w.heap.size+2,0,none⟩ = some (.bool n2):=by rw [cell_of_row _ _ _ _ _ (0,0) hY0];rfl
 have r1:((((w.alloc (.cells #[.string s,.iface TA ya,.iface TB yb] 94)).alloc (.cells #[.bool n1,.slice a1 m1 c1] 33)).alloc (.cells #[.bool n2,.slice a2 m2 c2] 33)).alloc (.cells #[.bool false,.slice none 0 0] 33)).cell? ⟨w.heap.size+2,1,none⟩ = some (.slice a2 m2 c2):=by rw [cell_of_row _ _ _ _ _ (0,0) hY0];rfl
 have HP:=hide hP
 clear hx hy hw1 hl1 hw2 hl2 hB hP hX0 hY0 hZ
 by_cases h1:s=gPlus
 ·have hs1:=ach h1
  have hh:=h1
  clear h1
  have K:=hide (addF _ _ _ _ _ _ _ HX.out HY.out (by decide) (by decide))
  have HE:=hide (show reckZ s x y=some (x+y) by unfold reckZ;rw [if_pos hh])
  clear hh
  go_enter Tryz.func140,Tryz.ntmps140
  go_wp2_with fail
  refine K.out.mono ?_
  generalize ((((w.alloc (.cells #[.string s,.iface TA ya,.iface TB yb] 94)).alloc (.cells #[.bool n1,.slice a1 m1 c1] 33)).alloc (.cells #[.bool n2,.slice a2 m2 c2] 33)).alloc (.cells #[.bool false,.slice none 0 0] 33))=w0 at *
  rintro e w1 ⟨vz,rfl,hz,hb1⟩
  obtain ⟨nz,az,cz,rz,rfl,hwz,hlz⟩:=id hz.out
  have HO:=hide (hz.out.to (L' := 2000) rfl (by decide))
  have HB1:=hide (HB.out.trans (hb1.mono HB.out.size))
  have HZ1:=hide ((hb1.block _ (aaa HZ.out)).trans HZ.out)
  generalize rz.length=mz at *
  have g0:w1.cell? ⟨w.heap.size+3,0,none⟩ = some (.bool false):=by rw [cell_of_row _ _ _ _ _ (0,0) HZ1.out];rfl
  have g1:w1.cell? ⟨w.heap.size+3,1,none⟩ = some (.slice none 0 0):=by rw [cell_of_row _ _ _ _ _ (0,0) HZ1.out];rfl
  have gf:=fun k=>frozen_of_row w1 (w.heap.size+3) k _ _ HZ1.out
  clear hz hwz hlz hb1 K HB HZ p0 q0 q1 r0 r1
  go_wp2
  obtain ⟨hX,hRu,hBl⟩:=aar HZ1.out HB1.out (by omega) nz az mz cz
  generalize hV:World.setCell _ _ _=V
  rw [hV] at hX hRu hBl
  clear hV
  have x0:V.cell? ⟨w.heap.size+3,0,none⟩ = some (.bool nz):=by rw [cell_of_row _ _ _ _ _ (0,0) hX];rfl
  have x1:V.cell? ⟨w.heap.size+3,1,none⟩ = some (.slice az mz cz):=by rw [cell_of_row _ _ _ _ _ (0,0) hX];rfl
  refine bodyPost_ret (v:=.agg #[.bool nz,.slice az mz cz]) (by simp [results,Tryz.results140,go_sem,x0,x1];try rfl) rfl ⟨hBl,.inl ⟨_,_,rfl,HE.out,HO.out.ru hRu⟩⟩
 have hs1:=acz h1
 by_cases h2:s=gMinus
 ·have hs2:=ach h2
  have hh:=And.intro h1 h2
  clear h1 h2
  have K:=hide (subF _ _ _ _ _ _ _ HX.out HY.out (by decide) (by decide))
  have HE:=hide (show reckZ s x y=some (x - y) by unfold reckZ;rw [if_neg hh.1,if_pos hh.2])
  clear hh
  go_enter Tryz.func140,Tryz.ntmps140
  go_wp2_with fail
  refine K.out.mono ?_
  generalize ((((w.alloc (.cells #[.string s,.iface TA ya,.iface TB yb] 94)).alloc (.cells #[.bool n1,.slice a1 m1 c1] 33)).alloc (.cells #[.bool n2,.slice a2 m2 c2] 33)).alloc (.cells #[.bool false,.slice none 0 0] 33))=w0 at *
  rintro e w1 ⟨vz,rfl,hz,hb1⟩
  obtain ⟨nz,az,cz,rz,rfl,hwz,hlz⟩:=id hz.out
  have HO:=hide (hz.out.to (L' := 2000) rfl (by decide))
  have HB1:=hide (HB.out.trans (hb1.mono HB.out.size))
  have HZ1:=hide ((hb1.block _ (aaa HZ.out)).trans HZ.out)
  generalize rz.length=mz at *
  have g0:w1.cell? ⟨w.heap.size+3,0,none⟩ = some (.bool false):=by rw [cell_of_row _ _ _ _ _ (0,0) HZ1.out];rfl
  have g1:w1.cell? ⟨w.heap.size+3,1,none⟩ = some (.slice none 0 0):=by rw [cell_of_row _ _ _ _ _ (0,0) HZ1.out];rfl
  have gf:=fun k=>frozen_of_row w1 (w.heap.size+3) k _ _ HZ1.out
  clear hz hwz hlz hb1 K HB HZ p0 q0 q1 r0 r1
  go_wp2
  obtain ⟨hX,hRu,hBl⟩:=aar HZ1.out HB1.out (by omega) nz az mz cz
  generalize hV:World.setCell _ _ _=V
  rw [hV] at hX hRu hBl
  clear hV
  have x0:V.cell? ⟨w.heap.size+3,0,none⟩ = some (.bool nz):=by rw [cell_of_row _ _ _ _ _ (0,0) hX];rfl
  have x1:V.cell? ⟨w.heap.size+3,1,none⟩ = some (.slice az mz cz):=by rw [cell_of_row _ _ _ _ _ (0,0) hX];rfl
  refine bodyPost_ret (v:=.agg #[.bool nz,.slice az mz cz]) (by simp [results,Tryz.results140,go_sem,x0,x1];try rfl) rfl ⟨hBl,.inl ⟨_,_,rfl,HE.out,HO.out.ru hRu⟩⟩
 have hs2:=acz h2
 by_cases h3:s=gTimes
 ·have hs3:=ach h3
  have hh:=And.intro h1 (And.intro h2 h3)
  clear h1 h2 h3
  have K:=hide (mulF _ _ _ _ _ _ _ HX.out HY.out (by decide) (by decide))
  have HE:=hide (show reckZ s x y=some (x*y) by unfold reckZ;rw [if_neg hh.1,if_neg hh.2.1,if_pos hh.2.2])
  clear hh
  go_enter Tryz.func140,Tryz.ntmps140
  go_wp2_with fail
  refine K.out.mono ?_
  generalize ((((w.alloc (.cells #[.string s,.iface TA ya,.iface TB yb] 94)).alloc (.cells #[.bool n1,.slice a1 m1 c1] 33)).alloc (.cells #[.bool n2,.slice a2 m2 c2] 33)).alloc (.cells #[.bool false,.slice none 0 0] 33))=w0 at *
  rintro e w1 ⟨vz,rfl,hz,hb1⟩
  obtain ⟨nz,az,cz,rz,rfl,hwz,hlz⟩:=id hz.out
  have HO:=hide (hz.out.to (L' := 2000) rfl (by decide))
  have HB1:=hide (HB.out.trans (hb1.mono HB.out.size))
  have HZ1:=hide ((hb1.block _ (aaa HZ.out)).trans HZ.out)
  generalize rz.length=mz at *
  have g0:w1.cell? ⟨w.heap.size+3,0,none⟩ = some (.bool false):=by rw [cell_of_row _ _ _ _ _ (0,0) HZ1.out];rfl
  have g1:w1.cell? ⟨w.heap.size+3,1,none⟩ = some (.slice none 0 0):=by rw [cell_of_row _ _ _ _ _ (0,0) HZ1.out];rfl
  have gf:=fun k=>frozen_of_row w1 (w.heap.size+3) k _ _ HZ1.out
  clear hz hwz hlz hb1 K HB HZ p0 q0 q1 r0 r1
  go_wp2
  obtain ⟨hX,hRu,hBl⟩:=aar HZ1.out HB1.out (by omega) nz az mz cz
  generalize hV:World.setCell _ _ _=V
  rw [hV] at hX hRu hBl
  clear hV
  have x0:V.cell? ⟨w.heap.size+3,0,none⟩ = some (.bool nz):=by rw [cell_of_row _ _ _ _ _ (0,0) hX];rfl
  have x1:V.cell? ⟨w.heap.size+3,1,none⟩ = some (.slice az mz cz):=by rw [cell_of_row _ _ _ _ _ (0,0) hX];rfl
  refine bodyPost_ret (v:=.agg #[.bool nz,.slice az mz cz]) (by simp [results,Tryz.results140,go_sem,x0,x1];try rfl) rfl ⟨hBl,.inl ⟨_,_,rfl,HE.out,HO.out.ru hRu⟩⟩
 have hs3:=acz h3
 have HH:=hide (And.intro h1 (And.intro h2 h3))
 have K:=hide (divF _ _ _ _ _ _ _ HX.out HY.out (by decide) (by decide))
 clear h1 h2 h3
 go_enter Tryz.func140,Tryz.ntmps140
 go_wp2_with fail
 refine K.out.mono ?_
 generalize ((((w.alloc (.cells #[.string s,.iface TA ya,.iface TB yb] 94)).alloc (.cells #[.bool n1,.slice a1 m1 c1] 33)).alloc (.cells #[.bool n2,.slice a2 m2 c2] 33)).alloc (.cells #[.bool false,.slice none 0 0] 33))=w0 at *
 rintro e w1 ⟨vq,vr,ok,rfl,hq,hr,hok,hb1⟩
 obtain ⟨nq,aq,cq,rq,rfl,hq1⟩:=id hq.out
 obtain ⟨nr,ar,cr,rr,rfl,hr1⟩:=hr
 have hb2:=ae0 hb1 ⟨nq,aq,cq,rq,rfl,hq1⟩ ⟨nr,ar,cr,rr,rfl,hr1⟩
 obtain ⟨h7,h8,o7,o8,hbW⟩:=hb2
 have HB1:=hide (HB.out.trans (hbW.mono HB.out.size))
 have HZ1:=hide ((hbW.block _ (aaa HZ.out)).trans HZ.out)
 have HP1:=hide ((hbW.block _ (aaa HP.out)).trans HP.out)
 by_cases hy0:y=0
 ·have hokf:ok=false:=by rw [hok,hy0];rfl
  subst hokf
  have HN:=hide (show reckZ s x y=none by unfold reckZ;rw [if_neg HH.out.1,if_neg HH.out.2.1,if_neg HH.out.2.2,if_pos hy0])
  clear hq hq1 hr1 hb1 K HB HZ p0 q0 q1 r0 r1 hok hy0 h7 h8 o7 o8 hbW HX HY HH HP HP1 HZ1
  go_wp2
  exact ⟨rfl,HB1.out,.inr ⟨rfl,HN.out⟩⟩
 ·have hokt:ok=true:=by rw [hok];simpa using hy0
  subst hokt
  rw [if_neg hy0] at o8 hr1
  have HY0:=hide hy0
  have H7:=hide h7
  have H8:=hide h8
  have O7:=hide o7
  have O8:=hide o8
  have hgt:=hb1.size
  generalize rq.length=mq at *
  generalize rr.length=mr at *
  have hgt2:=aaa HZ.out
  have e0:((w1.alloc (.cells #[.bool nq,.slice aq mq cq] 33)).alloc (.cells #[.bool nr,.slice ar mr cr] 33)).cell? ⟨w.heap.size,0,none⟩ = some (.string s):=by rw [cell_of_row _ _ _ _ _ (0,0) HP1.out];rfl
  have g0:((w1.alloc (.cells #[.bool nq,.slice aq mq cq] 33)).alloc (.cells #[.bool nr,.slice ar mr cr] 33)).cell? ⟨w.heap.size+3,0,none⟩ = some (.bool false):=by rw [cell_of_row _ _ _ _ _ (0,0) HZ1.out];rfl
  have g1:((w1.alloc (.cells #[.bool nq,.slice aq mq cq] 33)).alloc (.cells #[.bool nr,.slice ar mr cr] 33)).cell? ⟨w.heap.size+3,1,none⟩ = some (.slice none 0 0):=by rw [cell_of_row _ _ _ _ _ (0,0) HZ1.out];rfl
  have gf:=fun k=>frozen_of_row ((w1.alloc (.cells #[.bool nq,.slice aq mq cq] 33)).alloc (.cells #[.bool nr,.slice ar mr cr] 33)) (w.heap.size+3) k _ _ HZ1.out
  clear hq hq1 hr1 hb1 K HB HZ p0 q0 q1 r0 r1 hok hy0 h7 h8 o7 o8 hbW HX HY HP HP1 hgt hgt2
  by_cases h4:s=gOver
  ·have hs4:=ach h4
   have HE:=hide (show reckZ s x y=some (x / y) by unfold reckZ;rw [if_neg HH.out.1,if_neg HH.out.2.1,if_neg HH.out.2.2,if_neg HY0.out,if_pos h4])
   clear h4
   go_wp2
   obtain ⟨hX,hRu,hBl⟩:=aar HZ1.out HB1.out (by omega) nq aq mq cq
   generalize hV:World.setCell _ _ _=V
   rw [hV] at hX hRu hBl
   clear hV
   have x0:V.cell? ⟨w.heap.size+3,0,none⟩ = some (.bool nq):=by rw [cell_of_row _ _ _ _ _ (0,0) hX];rfl
   have x1:V.cell? ⟨w.heap.size+3,1,none⟩ = some (.slice aq mq cq):=by rw [cell_of_row _ _ _ _ _ (0,0) hX];rfl
   refine bodyPost_ret (v:=.agg #[.bool nq,.slice aq mq cq]) (by simp [results,Tryz.results140,go_sem,x0,x1];try rfl) rfl ⟨hBl,.inl ⟨_,_,rfl,HE.out,(O7.out.to (L' := 2000) rfl (by decide)).ru hRu⟩⟩
  ·have hs4:=acz h4
   have HE:=hide (show reckZ s x y=some (x % y) by unfold reckZ;rw [if_neg HH.out.1,if_neg HH.out.2.1,if_neg HH.out.2.2,if_neg HY0.out,if_neg h4])
   clear h4
   go_wp2
   obtain ⟨hX,hRu,hBl⟩:=aar HZ1.out HB1.out (by omega) nr ar mr cr
   generalize hV:World.setCell _ _ _=V
   rw [hV] at hX hRu hBl
   clear hV
   have x0:V.cell? ⟨w.heap.size+3,0,none⟩ = some (.bool nr):=by rw [cell_of_row _ _ _ _ _ (0,0) hX];rfl
   have x1:V.cell? ⟨w.heap.size+3,1,none⟩ = some (.slice ar mr cr):=by rw [cell_of_row _ _ _ _ _ (0,0) hX];rfl
   refine bodyPost_ret (v:=.agg #[.bool nr,.slice ar mr cr]) (by simp [results,Tryz.results140,go_sem,x0,x1];try rfl) rfl ⟨hBl,.inl ⟨_,_,rfl,HE.out,(O8.out.to (L' := 2000) rfl (by decide)).ru hRu⟩⟩
def VaO (w w' : World) (st:Nat→Int) (t:Ex) (e:Ending):Prop :=
 Below w.heap.size w w'∧((∃ z v,e=.returned v∧valX st t=some z∧OutW z 512 v w')∨e=.panicked (faultL 2 plz)∨(e=.panicked (faultL 20 plz)∧valX st t=none))
def ValG (t:Ex):Prop:=∀ (w:World) (v sv:Value) (zs:List Int) (L:Nat),IsX w t v→WfX zs.length t→IsRow w sv zs L→L≤400000000 →
 ∃ T y f, v = .iface T y ∧ Has Tryz.prog f ∧ (∀ N W, (method (N + 1) T y "rafter/lang.value").run Tryz.prog W = .ok (f, y) W) ∧ Calls Tryz.prog f #[y, sv] w fun e w' => VaO w w' (fun k => zs.getD k 0) t e
theorem as5 (y : Value) (N : Nat) (W : World) : (method (N + 1) 96 y "rafter/lang.value").run Tryz.prog W = .ok (142, y) W := by kernel_rfl
theorem as6 (y : Value) (N : Nat) (W : World) : (method (N + 1) 99 y "rafter/lang.value").run Tryz.prog W = .ok (143, y) W := by kernel_rfl
theorem as7 (y : Value) (N : Nat) (W : World) : (method (N + 1) 101 y "rafter/lang.value").run Tryz.prog W = .ok (144, y) W := by kernel_rfl
theorem au4 (y : Value) (N : Nat) (W : World) : (method (N + 1) 94 y "rafter/lang.value").run Tryz.prog W = .ok (138, y) W := by kernel_rfl
set_option maxRecDepth 20000 in
set_option maxHeartbeats 8000000 in
theorem au5 (z:Int) (st:Nat→Int) (w:World) (v sv:Value) (h:OutW z 6000 v w) :
  Calls Tryz.prog 142 #[v,sv] w fun e w'=>VaO w w' st (.num z) e:=by
 obtain ⟨ng,ao,cap,rs,rfl,-,-⟩:=id h
 generalize rs.length=m at *
 have hA:=hAl w (.cells #[.bool ng,.slice ao m cap] 96)
 have hA2:=hAl (w.alloc (.cells #[.bool ng,.slice ao m cap] 96)) (.cells #[.bool false,.slice none 0 0] 33)
 have hn0:=heap_alloc_new (w.alloc (.cells #[.bool ng,.slice ao m cap] 96)) (.cells #[.bool false,.slice none 0 0] 33)
 have hn1:=(hA2.block _ (aaa (heap_alloc_new w (.cells #[.bool ng,.slice ao m cap] 96)))).trans (heap_alloc_new w (.cells #[.bool ng,.slice ao m cap] 96))
 have hB:=hA.trans (hA2.mono hA.size)
 rw [World.size_alloc] at hn0
 have K:=hide (ags _ _ z 6000 (h.ru (Ru.of_below hB)) (by decide))
 have HB:=hide hB
 have HN0:=hide hn0
 clear hA hA2 hB hn0 hn1 h
 go_enter Tryz.func142,Tryz.ntmps142
 go_wp2_with fail
 refine K.out.mono ?_
 generalize ((w.alloc (.cells #[.bool ng,.slice ao m cap] 96)).alloc (.cells #[.bool false,.slice none 0 0] 33))=wa at *
 rintro e w1 ⟨x,rfl,hx,hb1⟩
 have K2:=hide (aej w1 x z 6000 hx (by decide))
 have HB1:=hide (HB.out.trans (hb1.mono HB.out.size))
 have HN1:=hide ((hb1.block _ (aaa HN0.out)).trans HN0.out)
 clear hx hb1 K HB HN0
 go_wp2_with fail
 refine K2.out.mono ?_
 rintro e w9 ⟨hb9,⟨x9,rfl,hx9⟩ | rfl⟩
 ·have HB9:=hide (HB1.out.trans (hb9.mono HB1.out.size))
  have HN9:=hide ((hb9.block _ (aaa HN1.out)).trans HN1.out)
  have HO:=hide hx9
  obtain ⟨nx,ax,cx,rx,rfl,-,-⟩:=hx9
  generalize rx.length=mx at *
  clear hb9 K2 HB1 HN1
  have g0:w9.cell? ⟨w.heap.size+1,0,none⟩ = some (.bool false):=by rw [cell_of_row _ _ _ _ _ (0,0) HN9.out];rfl
  have g1:w9.cell? ⟨w.heap.size+1,1,none⟩ = some (.slice none 0 0):=by rw [cell_of_row _ _ _ _ _ (0,0) HN9.out];rfl
  have gf:=fun k=>frozen_of_row w9 (w.heap.size+1) k _ _ HN9.out
  go_wp2
  obtain ⟨hX,hRu,hBl⟩:=aar HN9.out HB9.out (by omega) nx ax mx cx
  generalize hV:World.setCell _ _ _=V
  rw [hV] at hX hRu hBl
  clear hV
  have x0:V.cell? ⟨w.heap.size+1,0,none⟩ = some (.bool nx):=by rw [cell_of_row _ _ _ _ _ (0,0) hX];rfl
  have x1:V.cell? ⟨w.heap.size+1,1,none⟩ = some (.slice ax mx cx):=by rw [cell_of_row _ _ _ _ _ (0,0) hX];rfl
  refine bodyPost_ret (v:=.agg #[.bool nx,.slice ax mx cx]) (by simp [results,Tryz.results142,go_sem,x0,x1];try rfl) rfl ⟨hBl,.inl ⟨z,_,rfl,rfl,HO.out.ru hRu⟩⟩
 ·have HB9:=hide (HB1.out.trans (hb9.mono HB1.out.size))
  clear hb9 K2
  go_wp2
  exact ⟨rfl,HB9.out,.inr (.inl rfl)⟩
set_option maxRecDepth 20000 in
set_option maxHeartbeats 8000000 in
theorem au6 (s:ByteArray) (i:Nat) (w:World) (sv:Value) (zs:List Int) (L:Nat) (hi:i<zs.length) (hs:IsRow w sv zs L) (hL:L≤400000000) :
  Calls Tryz.prog 143 #[.agg #[.string s,.int .i64 (i:Int)],sv] w fun e w'=>VaO w w' (fun k=>zs.getD k 0) (.var s i) e:=by
 have hA:=hAl w (.cells #[.string s,.int .i64 (i:Int)] 99)
 have hA2:=hAl (w.alloc (.cells #[.string s,.int .i64 (i:Int)] 99)) (.cells #[.bool false,.slice none 0 0] 33)
 have hn0:=heap_alloc_new (w.alloc (.cells #[.string s,.int .i64 (i:Int)] 99)) (.cells #[.bool false,.slice none 0 0] 33)
 have hn1:=(hA2.block _ (aaa (heap_alloc_new w (.cells #[.string s,.int .i64 (i:Int)] 99)))).trans (heap_alloc_new w (.cells #[.string s,.int .i64 (i:Int)] 99))
 have hB:=hA.trans (hA2.mono hA.size)
 rw [World.size_alloc] at hn0
 obtain ⟨ao,cap,rfl,hzl⟩:=hs.parts
 obtain ⟨z,hz⟩:∃ z,zs[i]? = some z:=⟨_,List.getElem?_eq_getElem hi⟩
 obtain ⟨b,off,ng,a,m,c,rfl,hbl,q0,q1,hq⟩:=(hs.below hB).cell hz
 have hg:zs.getD i 0=z:=by rw [List.getD_eq_getElem?_getD,hz];rfl
 have K:=hide (trimG _ _ z L hq hL)
 have HB:=hide hB
 have HN0:=hide hn0
 have p1:((w.alloc (.cells #[.string s,.int .i64 (i:Int)] 99)).alloc (.cells #[.bool false,.slice none 0 0] 33)).cell? ⟨w.heap.size,1,none⟩ = some (.int .i64 (i:Int)):=by rw [cell_of_row _ _ _ _ _ (0,0) hn1];rfl
 have hlt:(i:Int)<(zs.length:Int):=by omega
 have HG:=hide hg
 generalize zs.length=n at *
 clear hA hA2 hB hn0 hn1 hs hq hg
 go_enter Tryz.func143,Tryz.ntmps143
 go_wp2_with fail
 refine K.out.mono ?_
 generalize ((w.alloc (.cells #[.string s,.int .i64 (i:Int)] 99)).alloc (.cells #[.bool false,.slice none 0 0] 33))=wa at *
 rintro e w1 ⟨x,rfl,hx,hb1⟩
 have K2:=hide (aej w1 x z L hx hL)
 have HB1:=hide (HB.out.trans (hb1.mono HB.out.size))
 have HN1:=hide ((hb1.block _ (aaa HN0.out)).trans HN0.out)
 clear hx hb1 K HB HN0 p1 q0 q1
 go_wp2_with fail
 refine K2.out.mono ?_
 rintro e w9 ⟨hb9,⟨x9,rfl,hx9⟩ | rfl⟩
 ·have HB9:=hide (HB1.out.trans (hb9.mono HB1.out.size))
  have HN9:=hide ((hb9.block _ (aaa HN1.out)).trans HN1.out)
  have HO:=hide hx9
  obtain ⟨nx,ax,cx,rx,rfl,-,-⟩:=hx9
  generalize rx.length=mx at *
  clear hb9 K2 HB1 HN1
  have g0:w9.cell? ⟨w.heap.size+1,0,none⟩ = some (.bool false):=by rw [cell_of_row _ _ _ _ _ (0,0) HN9.out];rfl
  have g1:w9.cell? ⟨w.heap.size+1,1,none⟩ = some (.slice none 0 0):=by rw [cell_of_row _ _ _ _ _ (0,0) HN9.out];rfl
  have gf:=fun k=>frozen_of_row w9 (w.heap.size+1) k _ _ HN9.out
  go_wp2
  obtain ⟨hX,hRu,hBl⟩:=aar HN9.out HB9.out (by omega) nx ax mx cx
  generalize hV:World.setCell _ _ _=V
  rw [hV] at hX hRu hBl
  clear hV
  have x0:V.cell? ⟨w.heap.size+1,0,none⟩ = some (.bool nx):=by rw [cell_of_row _ _ _ _ _ (0,0) hX];rfl
  have x1:V.cell? ⟨w.heap.size+1,1,none⟩ = some (.slice ax mx cx):=by rw [cell_of_row _ _ _ _ _ (0,0) hX];rfl
  refine bodyPost_ret (v:=.agg #[.bool nx,.slice ax mx cx]) (by simp [results,Tryz.results143,go_sem,x0,x1];try rfl) rfl ⟨hBl,.inl ⟨z,_,rfl,by rw [valX,HG.out],HO.out.ru hRu⟩⟩
 ·have HB9:=hide (HB1.out.trans (hb9.mono HB1.out.size))
  clear hb9 K2
  go_wp2
  exact ⟨rfl,HB9.out,.inr (.inl rfl)⟩
set_option maxRecDepth 20000 in
set_option maxHeartbeats 8000000 in
theorem au7 (x:Ex) (HX:ValG x) (w:World) (v sv:Value) (zs:List Int) (L:Nat) (h:IsX w x v) (hw:WfX zs.length x) (hs:IsRow w sv zs L) (hL:L≤400000000) :
  Calls Tryz.prog 144 #[.agg #[v],sv] w fun e w'=>VaO w w' (fun k=>zs.getD k 0) (.neg x) e:=by
 obtain ⟨TU,y,rfl⟩:=h.iface
 have hA:=hAl w (.cells #[.iface TU y] 101)
 have hA2:=hAl (w.alloc (.cells #[.iface TU y] 101)) (.cells #[.bool false,.slice none 0 0] 33)
 have hn0:=heap_alloc_new (w.alloc (.cells #[.iface TU y] 101)) (.cells #[.bool false,.slice none 0 0] 33)
 have hn1:=(hA2.block _ (aaa (heap_alloc_new w (.cells #[.iface TU y] 101)))).trans (heap_alloc_new w (.cells #[.iface TU y] 101))
 have hB:=hA.trans (hA2.mono hA.size)
 rw [World.size_alloc] at hn0
 obtain ⟨TU',y',f,hv,hf,hm,hc⟩:=HX _ (.iface TU y) sv zs L (h.ru (Ru.of_below hB)) hw (hs.below hB) hL
 simp only [Value.iface.injEq] at hv
 obtain ⟨rfl,rfl⟩:=hv
 have K:=hide hc
 have HM:=hide hm
 have hEn:∀ args w,(callFunc f args).run Tryz.prog w=.ok (.enter f args) w:=fun args w=>hf.enter args w
 have HB:=hide hB
 have HN0:=hide hn0
 obtain ⟨ao,cap,rfl,hzl⟩:=hs.parts
 clear hA hA2 hB hn0 hn1 hc h hs hm
 go_enter Tryz.func144,Tryz.ntmps144
 go_wp2_with fail
 rw [HM.out,Result.andThen_ok,hEn,Oper.upon_enter]
 refine K.out.mono ?_
 generalize ((w.alloc (.cells #[.iface TU y] 101)).alloc (.cells #[.bool false,.slice none 0 0] 33))=wa at *
 rintro e w1 ⟨hb1,⟨z,v,rfl,hz,hv⟩ | rfl | ⟨rfl,hn⟩⟩
 ·have K2:=hide (negF _ _ _ _ hv.is (by decide))
  have HB1:=hide (HB.out.trans (hb1.mono HB.out.size))
  have HN1:=hide ((hb1.block _ (aaa HN0.out)).trans HN0.out)
  have HZ:=hide hz
  clear hv hb1 K HB HN0 HM hz
  go_wp2_with fail
  refine K2.out.mono ?_
  rintro e w9 ⟨x9,rfl,hx9,hb9⟩
  have HB9:=hide (HB1.out.trans (hb9.mono HB1.out.size))
  have HN9:=hide ((hb9.block _ (aaa HN1.out)).trans HN1.out)
  have HO:=hide hx9.out
  obtain ⟨nx,ax,cx,rx,rfl,-,-⟩:=hx9.out
  generalize rx.length=mx at *
  clear hb9 K2 HB1 HN1 hx9
  have g0:w9.cell? ⟨w.heap.size+1,0,none⟩ = some (.bool false):=by rw [cell_of_row _ _ _ _ _ (0,0) HN9.out];rfl
  have g1:w9.cell? ⟨w.heap.size+1,1,none⟩ = some (.slice none 0 0):=by rw [cell_of_row _ _ _ _ _ (0,0) HN9.out];rfl
  have gf:=fun k=>frozen_of_row w9 (w.heap.size+1) k _ _ HN9.out
  go_wp2
  obtain ⟨hX,hRu,hBl⟩:=aar HN9.out HB9.out (by omega) nx ax mx cx
  generalize hV:World.setCell _ _ _=V
  rw [hV] at hX hRu hBl
  clear hV
  have x0:V.cell? ⟨w.heap.size+1,0,none⟩ = some (.bool nx):=by rw [cell_of_row _ _ _ _ _ (0,0) hX];rfl
  have x1:V.cell? ⟨w.heap.size+1,1,none⟩ = some (.slice ax mx cx):=by rw [cell_of_row _ _ _ _ _ (0,0) hX];rfl
  refine bodyPost_ret (v:=.agg #[.bool nx,.slice ax mx cx]) (by simp [results,Tryz.results144,go_sem,x0,x1];try rfl) rfl ⟨hBl,.inl ⟨-z,_,rfl,by rw [valX,HZ.out];rfl,HO.out.ru hRu⟩⟩
 ·have HB9:=hide (HB.out.trans (hb1.mono HB.out.size))
  clear hb1 K HM HB
  go_wp2
  exact ⟨rfl,HB9.out,.inr (.inl rfl)⟩
 ·have HB9:=hide (HB.out.trans (hb1.mono HB.out.size))
  have HN:=hide hn
  clear hb1 K HM HB hn
  go_wp2
  exact ⟨rfl,HB9.out,.inr (.inr ⟨rfl,by rw [valX,HN.out];rfl⟩)⟩
theorem an0:Has Tryz.prog 140:=by unfold Has;kernel_rfl
theorem an1:Has Tryz.prog 139:=by unfold Has;kernel_rfl
def VlS (st:Nat→Int) (t:Ex) (L:Nat):Says:=fun v w=>∃ z,valX st t=some z∧OutW z L v w
theorem VlS.mono (st:Nat→Int) (t:Ex) (L:Nat):Mono (VlS st t L):=fun _ _ _ hb ⟨z,h1,h2⟩=>⟨z,h1,h2.ru (Ru.of_below hb)⟩
section
variable {dst:Option Tmp} {ty:TypeId} {pos:String} {after:Array Edge} {guard:Option (Nat × Bool)} {a:Act} {w:World} {ats:Array TypeId} {i j k g:Nat} {Q:Exit→Act→World→Prop} {st:Nat→Int}
theorem ahr {f:FuncId} {xs:Array Operand} {vs:Array Value} (hf:Has Tryz.prog f) (hx:xs.map a.eval=vs):(execOp a.eval { dst,op:=.call { callee:=.value (.func f),args:=xs,argTypes:=ats },type:=ty,pos,after,guard }).run Tryz.prog w=.ok (.enter f vs) w:=by
 have e:execOp a.eval { dst,op:=.call { callee:=.value (.func f),args:=xs,argTypes:=ats },type:=ty,pos,after,guard } = callFunc f (#[] ++ xs.map a.eval ++ #[]):=rfl
 rw [e,hf.enter]
 simp [hx]
theorem au8 {T : TypeId} {y sv : Value} {f : FuncId} (hf : Has Tryz.prog f) (hm : ∀ N W, (method (N + 1) T y "rafter/lang.value").run Tryz.prog W = .ok (f, y) W) (w : World) : (callMethod (.iface T y) "rafter/lang.value" #[sv]).run Tryz.prog w = .ok (.enter f #[y, sv]) w := by
 have hp:Sem.run Tryz.prog program w=.ok Tryz.prog w:=rfl
 have hd:0<Made.depth:=by decide
 obtain ⟨N,hN⟩:∃ N,(Tryz.prog).types.size+Made.depth=N+1:=⟨(Tryz.prog).types.size+Made.depth - 1,by omega⟩
 simp only [callMethod,Sem.run_bind]
 rw [hp,Result.andThen_ok,hN,hm,Result.andThen_ok]
 exact hf.enter _ _
theorem as8 {T : TypeId} {y sv : Value} {f : FuncId} (hi : a.eval (.tmp i) = .iface T y) (hj : a.eval (.tmp j) = sv) (hf : Has Tryz.prog f) (hm : ∀ N W, (method (N + 1) T y "rafter/lang.value").run Tryz.prog W = .ok (f, y) W) :
  (execOp a.eval { dst, op := .call { callee := .invoke (.tmp i) "rafter/lang.value", args := #[.tmp j], argTypes := ats }, type := ty, pos, after, guard }).run Tryz.prog w = .ok (.enter f #[y, sv]) w := by
 have e : execOp a.eval { dst, op := .call { callee := .invoke (.tmp i) "rafter/lang.value", args := #[.tmp j], argTypes := ats }, type := ty, pos, after, guard } = callMethod (a.eval (.tmp i)) "rafter/lang.value" #[a.eval (.tmp j)] := by
  show invoke (.fn (.method "rafter/lang.value") #[]) (#[a.eval (.tmp i)] ++ #[Operand.tmp j].map a.eval) = _
  rw [List.map_toArray]
  rfl
 rw [e,hi,hj]
 exact au8 hf hm w
theorem au9 {r:Ex} {T:TypeId} {y sv:Value} {zs:List Int} {L:Nat} (HR:ValG r) (hst:st=fun k=>zs.getD k 0) (hi:a.eval (.tmp i)=.iface T y) (hj:a.eval (.tmp j)=sv) (hx:IsX w r (.iface T y)) (hw:WfX zs.length r) (hs:IsRow w sv zs L) (hL:L≤400000000) (hq:∀ w',Below w.heap.size w w'→Q (.panic (faultL 2 plz)) a w') (hq2:∀ w',Below w.heap.size w w'→valX st r=none→Q (.panic (faultL 20 plz)) a w') :
  Oper.wp Tryz.prog { dst, op := .call { callee := .invoke (.tmp i) "rafter/lang.value", args := #[.tmp j], argTypes := ats }, type := ty, pos, after, guard } a w (fun a' w' => ∃ v, a' = a.put dst v ∧ Below w.heap.size w w' ∧ VlS st r 512 v w') Q := by
 subst hst
 obtain ⟨T',y',f,hv,hf,hm,hc⟩:=HR w _ sv zs L hx hw hs hL
 simp only [Value.iface.injEq] at hv
 obtain ⟨rfl,rfl⟩:=hv
 refine am4 (as8 hi hj hf hm) hc ?_
 rintro e w' ⟨hb,⟨z,v,rfl,hz,hv⟩ | rfl | ⟨rfl,hn⟩⟩
 ·exact ⟨hb,.inl ⟨v,rfl,z,hz,hv⟩⟩
 ·exact ⟨hb,.inr ⟨_,rfl,hq w' hb⟩⟩
 ·exact ⟨hb,.inr ⟨_,rfl,hq2 w' hb hn⟩⟩
set_option maxRecDepth 20000 in
theorem as9 {s:ByteArray} {l r:Ex} {TA TB:TypeId} {ya yb:Value} {zl:Int} (h0:a.eval (.tmp i)=.agg #[.string s,.iface TA ya,.iface TB yb]) (h1:OutW zl 512 (a.eval (.tmp j)) w) (h2:VlS st r 512 (a.eval (.tmp k)) w) (hl:valX st l=some zl) (hq2:∀ w',Below w.heap.size w w'→valX st (.op s l r)=none→Q (.panic (faultL 20 plz)) a w') :
  Oper.wp Tryz.prog { dst,op:=.call { callee:=.value (.func 140),args:=#[.tmp i,.tmp j,.tmp k],argTypes:=ats },type:=ty,pos,after,guard } a w (fun a' w'=>∃ v,a' = a.put dst v∧Below w.heap.size w w'∧VlS st (.op s l r) 2000 v w') Q:=by
 obtain ⟨vx,e1⟩:∃ vx,a.eval (.tmp j)=vx:=⟨_,rfl⟩
 obtain ⟨vy,e2⟩:∃ vy,a.eval (.tmp k)=vy:=⟨_,rfl⟩
 obtain ⟨zr,hr,h2⟩:=h2
 rw [e1] at h1
 rw [e2] at h2
 have hv:valX st (.op s l r)=reckZ s zl zr:=by rw [valX,hl,hr];rfl
 refine am4 (ahr an0 (by simp only [List.map_toArray,List.map_cons,List.map_nil,h0,e1,e2])) (anz w s TA TB ya yb vx vy zl zr h1 h2) ?_
 rintro e w' ⟨hb,⟨z,v,rfl,hz,hvv⟩ | ⟨rfl,hn⟩⟩
 ·exact ⟨hb,.inl ⟨v,rfl,z,hv.trans hz,hvv⟩⟩
 ·exact ⟨hb,.inr ⟨_,rfl,hq2 w' hb (hv.trans hn)⟩⟩
set_option maxRecDepth 20000 in
theorem an2 {t:Ex} (h:VlS st t 2000 (a.eval (.tmp i)) w) (hq:∀ w',Below w.heap.size w w'→Q (.panic (faultL 2 plz)) a w') :
  Oper.wp Tryz.prog { dst,op:=.call { callee:=.value (.func 139),args:=#[.tmp i],argTypes:=ats },type:=ty,pos,after,guard } a w (fun a' w'=>∃ v,a' = a.put dst v∧Below w.heap.size w w'∧VlS st t 512 v w') Q:=by
 obtain ⟨vx,e1⟩:∃ vx,a.eval (.tmp i)=vx:=⟨_,rfl⟩
 obtain ⟨z,hz,h⟩:=h
 rw [e1] at h
 refine am4 (ahr an1 (by simp only [List.map_toArray,List.map_cons,List.map_nil,e1])) (aej w vx z 2000 h (by decide)) ?_
 rintro e w' ⟨hb,⟨v,rfl,hv⟩ | rfl⟩
 ·exact ⟨hb,.inl ⟨v,rfl,z,hz,hv⟩⟩
 ·exact ⟨hb,.inr ⟨_,rfl,hq w' hb⟩⟩
theorem ata {s:ByteArray} {va vb:Value} {TA TB:TypeId} (hp:a.eval (.tmp k)=.pointer (some ⟨g,0,none⟩)) (hb:w.heap[g]? = some (.cells #[.string s,.iface TA va,.iface TB vb] 94 (0,0))) :
  Does Tryz.prog { dst,op:=.load 94 (.tmp k),type:=ty,pos,after,guard } a.eval w fun v' w'=>Below w.heap.size w w'∧Eqs (.agg #[.string s,.iface TA va,.iface TB vb]) v' w' := by
 have c0:w.cell? ⟨g,0,none⟩ = some (.string s):=by rw [cell_of_row _ _ _ _ _ (0,0) hb];rfl
 have c1:w.cell? ⟨g,1,none⟩ = some (.iface TA va):=by rw [cell_of_row _ _ _ _ _ (0,0) hb];rfl
 have c2:w.cell? ⟨g,2,none⟩ = some (.iface TB vb):=by rw [cell_of_row _ _ _ _ _ (0,0) hb];rfl
 refine abd (v:=.agg #[.string s,.iface TA va,.iface TB vb]) ?_ ⟨Below.refl _ _,rfl⟩
 rw [hp]
 go_simp
end
theorem atb {st:Nat→Int} {s:ByteArray} {l r:Ex} (h:valX st l=none):valX st (.op s l r)=none:=by rw [valX,h];rfl
theorem ate {st:Nat→Int} {s:ByteArray} {l r:Ex} (h:valX st r=none):valX st (.op s l r)=none:=by
 rw [valX,h]
 cases valX st l <;> rfl
set_option maxRecDepth 20000 in
set_option maxHeartbeats 16000000 in
theorem awl (s:ByteArray) (l r:Ex) (HL:ValG l) (HR:ValG r) (w:World) (va vb sv:Value) (zs:List Int) (L:Nat) (h1:IsX w l va) (h2:IsX w r vb) (hw1:WfX zs.length l) (hw2:WfX zs.length r) (hs:IsRow w sv zs L) (hL:L≤400000000) :
  Calls Tryz.prog 138 #[.agg #[.string s,va,vb],sv] w fun e w'=>VaO w w' (fun k=>zs.getD k 0) (.op s l r) e:=by
 obtain ⟨TA,ya,rfl⟩:=h1.iface
 obtain ⟨TB,yb,rfl⟩:=h2.iface
 have hA:=hAl w (.cells #[.string s,.iface TA ya,.iface TB yb] 94)
 have hA2:=hAl (w.alloc (.cells #[.string s,.iface TA ya,.iface TB yb] 94)) (.cells #[.bool false,.slice none 0 0] 33)
 have hn0:=heap_alloc_new (w.alloc (.cells #[.string s,.iface TA ya,.iface TB yb] 94)) (.cells #[.bool false,.slice none 0 0] 33)
 have hn1:=(hA2.block _ (aaa (heap_alloc_new w (.cells #[.string s,.iface TA ya,.iface TB yb] 94)))).trans (heap_alloc_new w (.cells #[.string s,.iface TA ya,.iface TB yb] 94))
 have hB:=hA.trans (hA2.mono hA.size)
 rw [World.size_alloc] at hn0
 obtain ⟨TU',y',f,hv,hf,hm,hc⟩:=HL _ (.iface TA ya) sv zs L (h1.ru (Ru.of_below hB)) hw1 (hs.below hB) hL
 simp only [Value.iface.injEq] at hv
 obtain ⟨rfl,rfl⟩:=hv
 have K:=hide hc
 have HM:=hide hm
 have hEn:∀ args w,(callFunc f args).run Tryz.prog w=.ok (.enter f args) w:=fun args w=>hf.enter args w
 have HB:=hide hB
 have HN0:=hide hn0
 have HO0:=hide hn1
 have HIR0:=hide (h2.ru (Ru.of_below hB))
 have HSV0:=hide (hs.below hB)
 obtain ⟨ao,cap,rfl,hzl⟩:=hs.parts
 clear hA hA2 hB hn0 hn1 hc h1 h2 hs hm
 go_enter Tryz.func138,Tryz.ntmps138
 go_wp2_with fail
 rw [HM.out,Result.andThen_ok,hEn,Oper.upon_enter]
 refine K.out.mono ?_
 generalize ((w.alloc (.cells #[.string s,.iface TA ya,.iface TB yb] 94)).alloc (.cells #[.bool false,.slice none 0 0] 33))=wa at *
 rintro e w1 ⟨hb1,⟨zl,v,rfl,hz,hv⟩ | rfl | ⟨rfl,hn⟩⟩
 ·obtain ⟨nl,al,cl,rl,rfl,hwl,hll⟩:=id hv
  generalize rl.length=ml at *
  have hA3:=hAl w1 (.cells #[.bool nl,.slice al ml cl] 33)
  have HL2:=hide (heap_alloc_new w1 (.cells #[.bool nl,.slice al ml cl] 33))
  have hbb:=hb1.trans (hA3.mono hb1.size)
  have HVL:=hide (hv.ru (Ru.of_below hA3))
  have HB2:=hide (HB.out.trans (hbb.mono HB.out.size))
  have HN2:=hide ((hbb.block _ (aaa HN0.out)).trans HN0.out)
  have HO2:=hide ((hbb.block _ (aaa HO0.out)).trans HO0.out)
  have HIR:=hide (HIR0.out.ru (Ru.of_below hbb))
  have HSV:=hide (HSV0.out.below hbb)
  have HZL:=hide hz
  have c2:(w1.alloc (.cells #[.bool nl,.slice al ml cl] 33)).cell? ⟨w.heap.size,2,none⟩ = some (.iface TB yb):=by rw [cell_of_row _ _ _ _ _ (0,0) HO2.out];rfl
  clear hv hwl hll hb1 hbb hA3 K HB HN0 HO0 HM hz HIR0 HSV0 hEn
  go_upto_region 2 with fail
  generalize (w1.alloc (.cells #[.bool nl,.slice al ml cl] 33))=w2 at *
  refine ai8 8 [10,11,12,13,14,15,16,17] [Eqs (.agg #[.string s,.iface TA ya,.iface TB yb]),(OutW zl 512),Eqs (.pointer (some ⟨w.heap.size,2,none⟩)),Eqs (.iface TB yb),Eqs (.slice ao zs.length cap),(VlS (fun k=>zs.getD k 0) r 512),(VlS (fun k=>zs.getD k 0) (.op s l r) 2000),(VlS (fun k=>zs.getD k 0) (.op s l r) 512)] rfl rfl (by decide) (by kernel_rfl) (by kernel_rfl) (by decide) (by kernel_rfl) ⟨Eqs.mono _,(Mono.of4 (OutW.mono4 _ _)),Eqs.mono _,Eqs.mono _,Eqs.mono _,(VlS.mono _ _ _),(VlS.mono _ _ _),(VlS.mono _ _ _),trivial⟩ ?_ ?_
  ·exact ⟨⟨rfl,rfl,fun a_ w_ hn_ hd_ hB hR hD=>aeu (ata ((hR 2 rfl).trans (aae rfl)) ((hB.block _ (aaa HO2.out)).trans HO2.out))⟩,
     ⟨rfl,rfl,fun a_ w_ hn_ hd_ hB hR hD=>aeu (agb ((hR 5 rfl).trans (aae rfl)) ((hB.block _ (aaa HL2.out)).trans HL2.out) (Mono.of4 (OutW.mono4 _ _) _ _ _ hB HVL.out))⟩,
     ⟨rfl,rfl,fun a_ w_ hn_ hd_ hB hR hD=>aeu (afe atl ((hR 2 rfl).trans (aae rfl)))⟩,
     ⟨rfl,rfl,fun a_ w_ hn_ hd_ hB hR hD=>aeu (ag5 (q:=Eqs (.iface TB yb)) (show a_.eval (.tmp 12)=.pointer (some ⟨w.heap.size,2,none⟩) from hD 2 rfl) ((World.cell?_of_block (hB.block _ (aaa HO2.out))).trans c2) rfl)⟩,
     ⟨rfl,rfl,fun a_ w_ hn_ hd_ hB hR hD=>aeu (aaj ((hR 1 rfl).trans (aae rfl)))⟩,
     ⟨rfl,rfl,fun a_ w_ hn_ hd_ hB hR hD=>au9 HR rfl (show a_.eval (.tmp 13)=.iface TB yb from hD 3 rfl) (show a_.eval (.tmp 14)=.slice ao zs.length cap from hD 4 rfl) (HIR.out.ru (Ru.of_below hB)) hw2 (HSV.out.below hB) hL (fun w'_ hb_=>⟨hd_,HB2.out.trans ((hB.trans (hb_.mono hB.size)).mono HB2.out.size),.inr (.inl rfl)⟩) (fun w'_ hb_ hn_=>⟨hd_,HB2.out.trans ((hB.trans (hb_.mono hB.size)).mono HB2.out.size),.inr (.inr ⟨rfl,ate hn_⟩)⟩)⟩,
     ⟨rfl,rfl,fun a_ w_ hn_ hd_ hB hR hD=>as9 (show a_.eval (.tmp 10)=.agg #[.string s,.iface TA ya,.iface TB yb] from hD 0 rfl) (show (OutW zl 512) (a_.eval (.tmp 11)) w_ from hD 1 rfl) (show (VlS (fun k=>zs.getD k 0) r 512) (a_.eval (.tmp 15)) w_ from hD 5 rfl) HZL.out (fun w'_ hb_ hn_=>⟨hd_,HB2.out.trans ((hB.trans (hb_.mono hB.size)).mono HB2.out.size),.inr (.inr ⟨rfl,hn_⟩)⟩)⟩,
     ⟨rfl,rfl,fun a_ w_ hn_ hd_ hB hR hD=>an2 (show (VlS (fun k=>zs.getD k 0) (.op s l r) 2000) (a_.eval (.tmp 16)) w_ from hD 6 rfl) (fun w'_ hb_=>⟨hd_,HB2.out.trans ((hB.trans (hb_.mono hB.size)).mono HB2.out.size),.inr (.inl rfl)⟩)⟩,
     trivial⟩
  ·intro a' w' hn' hd' hB' hR' hP'
   have e10:a'.eval (.tmp 10)=.agg #[.string s,.iface TA ya,.iface TB yb]:=hP' 0 (by decide)
   obtain ⟨u11,e11⟩:∃ u,a'.eval (.tmp 11)=u:=⟨_,rfl⟩
   have e12:a'.eval (.tmp 12)=.pointer (some ⟨w.heap.size,2,none⟩):=hP' 2 (by decide)
   have e13:a'.eval (.tmp 13)=.iface TB yb:=hP' 3 (by decide)
   have e14:a'.eval (.tmp 14)=.slice ao zs.length cap:=hP' 4 (by decide)
   obtain ⟨u15,e15⟩:∃ u,a'.eval (.tmp 15)=u:=⟨_,rfl⟩
   obtain ⟨u16,e16⟩:∃ u,a'.eval (.tmp 16)=u:=⟨_,rfl⟩
   obtain ⟨u17,e17⟩:∃ u,a'.eval (.tmp 17)=u:=⟨_,rfl⟩
   have hT:(VlS (fun k=>zs.getD k 0) (.op s l r) 512) (a'.eval (.tmp 17)) w' := hP' 7 (by decide)
   rw [e17] at hT
   refine aby hn' hd' hR' (.s4 rfl <| .s4 rfl <| .same rfl <| .same rfl <| .new e10 <| .new e11 <| .new e12 <| .new e13 <| .new e14 <| .new e15 <| .new e16 <| .new e17 <| .nil) ?_
   clear e10 e11 e12 e13 e14 e15 e16 e17
   obtain ⟨zo,hzo,hO⟩:=hT
   have HB9:=hide (HB2.out.trans (hB'.mono HB2.out.size))
   have HN9:=hide ((hB'.block _ (aaa HN2.out)).trans HN2.out)
   have HO:=hide hO
   have HZO:=hide hzo
   obtain ⟨nx,ax,cx,rx,rfl,-,-⟩:=hO
   generalize rx.length=mx at *
   clear hB' hn' hd' hR' hP' hzo c2
   have g0:w'.cell? ⟨w.heap.size+1,0,none⟩ = some (.bool false):=by rw [cell_of_row _ _ _ _ _ (0,0) HN9.out];rfl
   have g1:w'.cell? ⟨w.heap.size+1,1,none⟩ = some (.slice none 0 0):=by rw [cell_of_row _ _ _ _ _ (0,0) HN9.out];rfl
   have gf:=fun k=>frozen_of_row w' (w.heap.size+1) k _ _ HN9.out
   go_wp2
   obtain ⟨hX,hRu,hBl⟩:=aar HN9.out HB9.out (by omega) nx ax mx cx
   generalize hV:World.setCell _ _ _=V
   rw [hV] at hX hRu hBl
   clear hV
   have x0:V.cell? ⟨w.heap.size+1,0,none⟩ = some (.bool nx):=by rw [cell_of_row _ _ _ _ _ (0,0) hX];rfl
   have x1:V.cell? ⟨w.heap.size+1,1,none⟩ = some (.slice ax mx cx):=by rw [cell_of_row _ _ _ _ _ (0,0) hX];rfl
   refine bodyPost_ret (v:=.agg #[.bool nx,.slice ax mx cx]) (by simp [results,Tryz.results138,go_sem,x0,x1];try rfl) rfl ⟨hBl,.inl ⟨_,_,rfl,HZO.out,HO.out.ru hRu⟩⟩
 ·have HB9:=hide (HB.out.trans (hb1.mono HB.out.size))
  clear hb1 K HM HB
  go_wp2
  exact ⟨rfl,HB9.out,.inr (.inl rfl)⟩
 ·have HB9:=hide (HB.out.trans (hb1.mono HB.out.size))
  have HN:=hide hn
  clear hb1 K HM HB hn
  go_wp2
  exact ⟨rfl,HB9.out,.inr (.inr ⟨rfl,atb HN.out⟩)⟩
theorem atf:Has Tryz.prog 142:=by unfold Has;kernel_rfl
theorem atg:Has Tryz.prog 143:=by unfold Has;kernel_rfl
theorem ath:Has Tryz.prog 144:=by unfold Has;kernel_rfl
theorem ava:Has Tryz.prog 138:=by unfold Has;kernel_rfl
theorem ac7:∀ t:Ex,ValG t
 | .num z=>fun w v sv zs L h hw hs hL=>by
  obtain ⟨u,rfl,hu⟩:=h
  exact ⟨_,_,_,rfl,atf,as5 u,au5 z _ w u sv hu⟩
 | .var s i=>fun w v sv zs L h hw hs hL=>by
  obtain rfl:=h
  exact ⟨_,_,_,rfl,atg,as6 _,au6 s i w sv zs L hw hs hL⟩
 | .neg x=>fun w v sv zs L h hw hs hL=>by
  obtain ⟨u,rfl,hu⟩:=h
  exact ⟨_,_,_,rfl,ath,as7 _,au7 x (ac7 x) w u sv zs L hu hw hs hL⟩
 | .op s l r=>fun w v sv zs L h hw hs hL=>by
  obtain ⟨va,vb,rfl,h1,h2⟩:=h
  exact ⟨_,_,_,rfl,ava,au4 _,awl s l r (ac7 l) (ac7 r) w va vb sv zs L h1 h2 hw.1 hw.2 hs hL⟩
set_option maxRecDepth 20000 in
set_option maxHeartbeats 8000000 in
theorem ajz (t:Ex) (w:World) (v sv:Value) (zs:List Int) (L g0 g1:Nat) (h:IsX w t v) (hw:WfX zs.length t) (hs:IsRow w sv zs L) (hL:L≤400000000) (h0:w.cell? ⟨g0,0,none⟩ = some v) (h1:w.cell? ⟨g1,0,none⟩ = some sv) (hg0:g0<w.heap.size) (hg1:g1<w.heap.size) :
  Calls Tryz.prog 24 #[.pointer (some ⟨g0,0,none⟩),.pointer (some ⟨g1,0,none⟩)] w fun e w'=>VaO w w' (fun k=>zs.getD k 0) t e:=by
 obtain ⟨TU,y,rfl⟩:=h.iface
 have hA:=hAl w (.cells #[.bool false,.slice none 0 0] 33)
 have hn0:=heap_alloc_new w (.cells #[.bool false,.slice none 0 0] 33)
 obtain ⟨TU',y',f,hv,hf,hm,hc⟩:=ac7 t _ (.iface TU y) sv zs L (h.ru (Ru.of_below hA)) hw (hs.below hA) hL
 simp only [Value.iface.injEq] at hv
 obtain ⟨rfl,rfl⟩:=hv
 have d0:=(hA.cell (p:=⟨g0,0,none⟩) hg0).trans h0
 have d1:=(hA.cell (p:=⟨g1,0,none⟩) hg1).trans h1
 have K:=hide hc
 have HM:=hide hm
 have hEn:∀ args w,(callFunc f args).run Tryz.prog w=.ok (.enter f args) w:=fun args w=>hf.enter args w
 have HB:=hide hA
 have HN0:=hide hn0
 obtain ⟨ao,cap,rfl,hzl⟩:=hs.parts
 clear hA hn0 hc h hs hm h0 h1 hg0 hg1
 go_enter Tryz.func24,Tryz.ntmps24
 go_wp2_with fail
 rw [HM.out,Result.andThen_ok,hEn,Oper.upon_enter]
 refine K.out.mono ?_
 generalize (w.alloc (.cells #[.bool false,.slice none 0 0] 33))=wa at *
 rintro e w9 ⟨hb1,⟨z,v,rfl,hz,hv⟩ | rfl | ⟨rfl,hn⟩⟩
 ·have HB9:=hide (HB.out.trans (hb1.mono HB.out.size))
  have HN9:=hide ((hb1.block _ (aaa HN0.out)).trans HN0.out)
  have HZ:=hide hz
  have HO:=hide hv
  obtain ⟨nx,ax,cx,rx,rfl,-,-⟩:=hv
  generalize rx.length=mx at *
  clear hb1 K HB HN0 HM hz d0 d1
  have g0:w9.cell? ⟨w.heap.size,0,none⟩ = some (.bool false):=by rw [cell_of_row _ _ _ _ _ (0,0) HN9.out];rfl
  have g1:w9.cell? ⟨w.heap.size,1,none⟩ = some (.slice none 0 0):=by rw [cell_of_row _ _ _ _ _ (0,0) HN9.out];rfl
  have gf:=fun k=>frozen_of_row w9 w.heap.size k _ _ HN9.out
  go_wp2
  obtain ⟨hX,hRu,hBl⟩:=aar HN9.out HB9.out (Nat.le_refl _) nx ax mx cx
  generalize hV:World.setCell _ _ _=V
  rw [hV] at hX hRu hBl
  clear hV
  have x0:V.cell? ⟨w.heap.size,0,none⟩ = some (.bool nx):=by rw [cell_of_row _ _ _ _ _ (0,0) hX];rfl
  have x1:V.cell? ⟨w.heap.size,1,none⟩ = some (.slice ax mx cx):=by rw [cell_of_row _ _ _ _ _ (0,0) hX];rfl
  refine bodyPost_ret (v:=.agg #[.bool nx,.slice ax mx cx]) (by simp [results,Tryz.results24,go_sem,x0,x1];try rfl) rfl ⟨hBl,.inl ⟨z,_,rfl,HZ.out,HO.out.ru hRu⟩⟩
 ·have HB9:=hide (HB.out.trans (hb1.mono HB.out.size))
  clear hb1 K HM HB
  go_wp2
  exact ⟨rfl,HB9.out,.inr (.inl rfl)⟩
 ·have HB9:=hide (HB.out.trans (hb1.mono HB.out.size))
  have HN:=hide hn
  clear hb1 K HM HB hn
  go_wp2
  exact ⟨rfl,HB9.out,.inr (.inr ⟨rfl,HN.out⟩)⟩
theorem agt (w:World) (g:Nat) (e:Int) (p:Pl) {j:Nat} (hj:j≠g):(set5 w g e p).heap[j]? = w.heap[j]? := by
 unfold set5
 rw [heap_setCell_other _ ⟨g,4,none⟩ j _ hj,heap_setCell_other _ ⟨g,3,none⟩ j _ hj,heap_setCell_other _ ⟨g,2,none⟩ j _ hj,heap_setCell_other _ ⟨g,1,none⟩ j _ hj,heap_setCell_other _ ⟨g,0,none⟩ j _ hj]
def wZ:Value:=.agg #[.bool false,.slice none 0 0]
def CaughtV (w w' : World) (st:Nat→Int) (t:Ex) (e:Ending):Prop :=
 Below w.heap.size w w'∧((∃ z v,e=.returned (.tuple #[v,fltZ])∧valX st t=some z∧OutW z 512 v w')∨e=.returned (.tuple #[wZ,fltV 2 plz])∨(e=.returned (.tuple #[wZ,fltV 20 plz])∧valX st t=none))
set_option maxRecDepth 20000 in
set_option maxHeartbeats 8000000 in
theorem aj0 {w:World} {st:Nat→Int} {t:Ex} (f:FuncId) (hf:Has Tryz.prog f) (cs:Array Value)
  (hK:∀ W,Below w.heap.size w W→Calls Tryz.prog f cs W fun e W'=>VaO W W' st t e) :
  Calls Tryz.prog 23 #[.func (.func f) #[] cs] w fun e w'=>CaughtV w w' st t e:=by
 have hb1:=hAl w (.cells #[.bool false,.slice none 0 0] 33)
 have hb2:=hAl (w.alloc (.cells #[.bool false,.slice none 0 0] 33)) (.cells #[.int .i64 0,.int .i64 0,.int .i64 0,.int .i64 0,.int .i64 0] 62)
 have hn1:=heap_alloc_new w (.cells #[.bool false,.slice none 0 0] 33)
 have hn2:=heap_alloc_new (w.alloc (.cells #[.bool false,.slice none 0 0] 33)) (.cells #[.int .i64 0,.int .i64 0,.int .i64 0,.int .i64 0,.int .i64 0] 62)
 have hn1' := (hb2.block _ (aaa hn1)).trans hn1
 rw [World.size_alloc] at hn2
 have hba:=hb1.trans (hb2.mono hb1.size)
 have K0:=hide (hK _ hba)
 have HBA:=hide hba
 have HN1:=hide hn1'
 have HN2:=hide hn2
 clear hb1 hb2 hn1 hn1' hn2 hba hK
 have hEn:∀ args w,(callFunc f args).run Tryz.prog w=.ok (.enter f args) w:=fun args w=>hf.enter args w
 have hmf:∀ (fn:Fn) (first cap:Array Value) (w:World),(Instr.makeFunc fn first cap).run Tryz.prog w=.ok (.func fn first cap) w:=fun _ _ _ _=>rfl
 go_enter_defers Tryz.func23,Tryz.ntmps23
 go_wp2_with fail
 refine K0.out.mono ?_
 generalize ((w.alloc (.cells #[.bool false,.slice none 0 0] 33)).alloc (.cells #[.int .i64 0,.int .i64 0,.int .i64 0,.int .i64 0,.int .i64 0] 62))=wa at *
 rintro e w1 ⟨hb1,hc⟩
 have HB1:=hide (HBA.out.trans (hb1.mono HBA.out.size))
 have HM1:=hide ((hb1.block _ (aaa HN1.out)).trans HN1.out)
 have HM2:=hide ((hb1.block _ (aaa HN2.out)).trans HN2.out)
 clear hb1 HBA HN1 HN2
 rcases hc with ⟨z,v,rfl,hz,hv⟩ | rfl | ⟨rfl,hn⟩
 ·have HZ:=hide hz
  have HO:=hide hv
  obtain ⟨nx,ax,cx,rx,rfl,-,-⟩:=hv
  generalize rx.length=mx at *
  clear K0 hz
  obtain ⟨hX,hRu,hBl⟩:=aar HM1.out HB1.out (Nat.le_refl _) nx ax mx cx
  have hX2:((w1.setCell ⟨w.heap.size,0,none⟩ (.bool nx)).setCell ⟨w.heap.size,1,none⟩ (.slice ax mx cx)).heap[w.heap.size+1]? = some (.cells #[.int .i64 0,.int .i64 0,.int .i64 0,.int .i64 0,.int .i64 0] 62 (0,0)):=by
   rw [heap_setCell_other _ ⟨w.heap.size,1,none⟩ _ _ (by simp),heap_setCell_other _ ⟨w.heap.size,0,none⟩ _ _ (by simp)]
   exact HM2.out
  have hid:=ahp hX2
  obtain ⟨gl,⟨c0,c1,c2,c3,c4⟩,cf⟩:=abh hX2
  have y0:((w1.setCell ⟨w.heap.size,0,none⟩ (.bool nx)).setCell ⟨w.heap.size,1,none⟩ (.slice ax mx cx)).cell? ⟨w.heap.size,0,none⟩ = some (.bool nx):=by rw [cell_of_row _ _ _ _ _ (0,0) hX];rfl
  have y1:((w1.setCell ⟨w.heap.size,0,none⟩ (.bool nx)).setCell ⟨w.heap.size,1,none⟩ (.slice ax mx cx)).cell? ⟨w.heap.size,1,none⟩ = some (.slice ax mx cx):=by rw [cell_of_row _ _ _ _ _ (0,0) hX];rfl
  have HX:=hide hX
  have HRu:=hide hRu
  have HBl:=hide hBl
  clear hX hX2 hRu hBl
  have g0:w1.cell? ⟨w.heap.size,0,none⟩ = some (.bool false):=by rw [cell_of_row _ _ _ _ _ (0,0) HM1.out];rfl
  have g1:w1.cell? ⟨w.heap.size,1,none⟩ = some (.slice none 0 0):=by rw [cell_of_row _ _ _ _ _ (0,0) HM1.out];rfl
  have gf:=fun k=>frozen_of_row w1 w.heap.size k _ _ HM1.out
  go_wp2
  generalize ((w1.setCell ⟨w.heap.size,0,none⟩ (.bool nx)).setCell ⟨w.heap.size,1,none⟩ (.slice ax mx cx))=V at *
  refine leaves_cons (f:=34) (args:=#[.pointer (some ⟨w.heap.size+1,0,none⟩)]) (by simp) (by simp [go_sem]) ?_
  refine (alb (w.heap.size+1) _).mono ?_
  rintro e u' w'' ⟨rfl,rfl,rfl⟩
  simp [Leaves,settle,results,Tryz.results23,go_sem,c0,c1,c2,c3,c4,y0,y1]
  exact ⟨HBl.out,.inl ⟨z,_,rfl,HZ.out,HO.out.ru HRu.out⟩⟩
 ·clear K0
  obtain ⟨gl,⟨c0,c1,c2,c3,c4⟩,cf⟩:=abh (ae3 HM2.out 2 plz)
  have hB2:=aei HB1.out (by omega:w.heap.size≤w.heap.size+1) 2 plz
  have hX:(set5 w1 (w.heap.size+1) 2 plz).heap[w.heap.size]? = some (.cells #[.bool false,.slice none 0 0] 33 (0,0)):=by
   rw [agt _ _ _ _ (by omega)]
   exact HM1.out
  have y0:(set5 w1 (w.heap.size+1) 2 plz).cell? ⟨w.heap.size,0,none⟩ = some (.bool false):=by rw [cell_of_row _ _ _ _ _ (0,0) hX];rfl
  have y1:(set5 w1 (w.heap.size+1) 2 plz).cell? ⟨w.heap.size,1,none⟩ = some (.slice none 0 0):=by rw [cell_of_row _ _ _ _ _ (0,0) hX];rfl
  unfold faultL
  go_wp2
  refine leaves_cons (f:=34) (args:=#[.pointer (some ⟨w.heap.size+1,0,none⟩)]) (by simp) (by simp [go_sem]) ?_
  refine (adf (w.heap.size+1) 2 plz [] w1 _ _ _ _ _ _ HM2.out).mono ?_
  rintro e u' w'' ⟨rfl,rfl,rfl⟩
  simp [Leaves,settle,results,Tryz.results23,go_sem,c0,c1,c2,c3,c4,y0,y1]
  exact ⟨hB2,.inr (.inl rfl)⟩
 ·have HN:=hide hn
  clear K0 hn
  obtain ⟨gl,⟨c0,c1,c2,c3,c4⟩,cf⟩:=abh (ae3 HM2.out 20 plz)
  have hB2:=aei HB1.out (by omega:w.heap.size≤w.heap.size+1) 20 plz
  have hX:(set5 w1 (w.heap.size+1) 20 plz).heap[w.heap.size]? = some (.cells #[.bool false,.slice none 0 0] 33 (0,0)):=by
   rw [agt _ _ _ _ (by omega)]
   exact HM1.out
  have y0:(set5 w1 (w.heap.size+1) 20 plz).cell? ⟨w.heap.size,0,none⟩ = some (.bool false):=by rw [cell_of_row _ _ _ _ _ (0,0) hX];rfl
  have y1:(set5 w1 (w.heap.size+1) 20 plz).cell? ⟨w.heap.size,1,none⟩ = some (.slice none 0 0):=by rw [cell_of_row _ _ _ _ _ (0,0) hX];rfl
  unfold faultL
  go_wp2
  refine leaves_cons (f:=34) (args:=#[.pointer (some ⟨w.heap.size+1,0,none⟩)]) (by simp) (by simp [go_sem]) ?_
  refine (adf (w.heap.size+1) 20 plz [] w1 _ _ _ _ _ _ HM2.out).mono ?_
  rintro e u' w'' ⟨rfl,rfl,rfl⟩
  simp [Leaves,settle,results,Tryz.results23,go_sem,c0,c1,c2,c3,c4,y0,y1]
  exact ⟨hB2,.inr (.inr ⟨rfl,HN.out⟩)⟩
theorem aj1:Has Tryz.prog 24:=by unfold Has;kernel_rfl
def VoO (w w' : World) (st:Nat→Int) (t:Ex) (e:Ending):Prop :=
 Below w.heap.size w w'∧((∃ z v,e=.returned (.tuple #[v,.int .i64 0])∧valX st t=some z∧OutW z 512 v w')∨e=.returned (.tuple #[wZ,.int .i64 2])∨(e=.returned (.tuple #[wZ,.int .i64 20])∧valX st t=none))
theorem aj2 (w:World) (a b c:Array Value) (A B C:TypeId) :
  let W:=((w.alloc (.cells a A)).alloc (.cells b B)).alloc (.cells c C)
  Below w.heap.size w W∧W.heap[w.heap.size]? = some (.cells a A (0,0))∧W.heap[w.heap.size+1]? = some (.cells b B (0,0))∧W.heap[w.heap.size+2]? = some (.cells c C (0,0)):=by
 intro W
 have b1:=hAl w (.cells a A)
 have b2:=hAl (w.alloc (.cells a A)) (.cells b B)
 have b3:=hAl ((w.alloc (.cells a A)).alloc (.cells b B)) (.cells c C)
 have n1:=heap_alloc_new w (.cells a A)
 have n2:=heap_alloc_new (w.alloc (.cells a A)) (.cells b B)
 have n3:=heap_alloc_new ((w.alloc (.cells a A)).alloc (.cells b B)) (.cells c C)
 have n1' := (b3.block _ (aaa ((b2.block _ (aaa n1)).trans n1))).trans ((b2.block _ (aaa n1)).trans n1)
 have n2' := (b3.block _ (aaa n2)).trans n2
 simp only [World.size_alloc] at n2' n3
 have b12:=b1.trans (b2.mono b1.size)
 exact ⟨b12.trans (b3.mono b12.size),n1',n2',n3⟩
theorem CaughtV.parts {w w' : World} {st:Nat→Int} {t:Ex} {e:Ending} (h:CaughtV w w' st t e):Below w.heap.size w w'∧∃ nx ax mx cx ev,e=.returned (.tuple #[.agg #[.bool nx,.slice ax mx cx],.agg #[.int .i64 ev,.int .i64 0,.int .i64 0,.int .i64 0,.int .i64 0]])∧(∀ w2,Ru w' w2→(∃ z,ev=0∧valX st t=some z∧OutW z 512 (.agg #[.bool nx,.slice ax mx cx]) w2)∨(.agg #[.bool nx,.slice ax mx cx]=wZ∧ev=2)∨(.agg #[.bool nx,.slice ax mx cx]=wZ∧ev=20∧valX st t=none)):=by
 obtain ⟨hb,h⟩:=h
 refine ⟨hb,?_⟩
 rcases h with ⟨z,v,rfl,hz,hv⟩ | rfl | ⟨rfl,hn⟩
 ·obtain ⟨nx,ax,cx,rx,rfl,h1,h2⟩:=id hv
  exact ⟨nx,ax,rx.length,cx,0,rfl,fun w2 hr=>.inl ⟨z,rfl,hz,hv.ru hr⟩⟩
 ·exact ⟨false,none,0,0,2,rfl,fun w2 hr=>.inr (.inl ⟨rfl,rfl⟩)⟩
 ·exact ⟨false,none,0,0,20,rfl,fun w2 hr=>.inr (.inr ⟨rfl,rfl,hn⟩)⟩
set_option maxRecDepth 20000 in
set_option maxHeartbeats 8000000 in
theorem aj3 (t:Ex) (w:World) (v sv:Value) (zs:List Int) (L:Nat) (h:IsX w t v) (hw:WfX zs.length t) (hs:IsRow w sv zs L) (hL:L≤400000000) :
  Calls Tryz.prog 15 #[v,sv] w fun e w'=>VoO w w' (fun k=>zs.getD k 0) t e:=by
 obtain ⟨TU,y,rfl⟩:=h.iface
 obtain ⟨ao,cap,rfl,hzl⟩:=hs.parts
 obtain ⟨hB,h0,h1,h2⟩:=aj2 w #[.iface TU y] #[.slice ao zs.length cap] #[.bool false,.slice none 0 0] 43 23 33
 have d0:(((w.alloc (.cells #[.iface TU y] 43)).alloc (.cells #[.slice ao zs.length cap] 23)).alloc (.cells #[.bool false,.slice none 0 0] 33)).cell? ⟨w.heap.size,0,none⟩ = some (.iface TU y):=by rw [cell_of_row _ _ _ _ _ (0,0) h0];rfl
 have d1:(((w.alloc (.cells #[.iface TU y] 43)).alloc (.cells #[.slice ao zs.length cap] 23)).alloc (.cells #[.bool false,.slice none 0 0] 33)).cell? ⟨w.heap.size+1,0,none⟩ = some (.slice ao zs.length cap):=by rw [cell_of_row _ _ _ _ _ (0,0) h1];rfl
 have HD0:=hide d0
 have HD1:=hide d1
 have HX:=hide (h.ru (Ru.of_below hB))
 have HS:=hide (hs.below hB)
 have hg0:=aaa h0
 have hg1:=aaa h1
 have K:=hide (aj0 24 aj1 #[.pointer (some ⟨w.heap.size,0,none⟩),.pointer (some ⟨w.heap.size+1,0,none⟩)] (st:=fun k=>zs.getD k 0) (t:=t) fun W hW=>ajz t W (.iface TU y) _ zs L w.heap.size (w.heap.size+1) (HX.out.ru (Ru.of_below hW)) hw (HS.out.below hW) hL ((hW.cell (p:=⟨w.heap.size,0,none⟩) hg0).trans HD0.out) ((hW.cell (p:=⟨w.heap.size+1,0,none⟩) hg1).trans HD1.out) (Nat.lt_of_lt_of_le hg0 hW.size) (Nat.lt_of_lt_of_le hg1 hW.size))
 have HB:=hide hB
 have HN:=hide h2
 have hmf:∀ (fn:Fn) (first cap:Array Value) (w:World),(Instr.makeFunc fn first cap).run Tryz.prog w=.ok (.func fn first cap) w:=fun _ _ _ _=>rfl
 clear hB h0 h1 h2 d0 d1 HD0 HD1 HX HS hg0 hg1 h hs
 go_enter Tryz.func15,Tryz.ntmps15
 go_wp2_with fail
 refine K.out.mono ?_
 generalize (((w.alloc (.cells #[.iface TU y] 43)).alloc (.cells #[.slice ao zs.length cap] 23)).alloc (.cells #[.bool false,.slice none 0 0] 33))=wa at *
 rintro e w1 hc
 obtain ⟨hb1,nx,ax,mx,cx,ev,rfl,hC⟩:=hc.parts
 have ha1:=hAl w1 (.cells #[.bool nx,.slice ax mx cx] 33)
 have ha2:=hAl (w1.alloc (.cells #[.bool nx,.slice ax mx cx] 33)) (.cells #[.int .i64 ev,.int .i64 0,.int .i64 0,.int .i64 0,.int .i64 0] 62)
 have hn1:=(ha2.block _ (aaa (heap_alloc_new w1 (.cells #[.bool nx,.slice ax mx cx] 33)))).trans (heap_alloc_new w1 (.cells #[.bool nx,.slice ax mx cx] 33))
 have hn2:=heap_alloc_new (w1.alloc (.cells #[.bool nx,.slice ax mx cx] 33)) (.cells #[.int .i64 ev,.int .i64 0,.int .i64 0,.int .i64 0,.int .i64 0] 62)
 rw [World.size_alloc] at hn2
 have hab:=ha1.trans (ha2.mono ha1.size)
 have HC:=hide hC
 have HAB:=hide hab
 have HB2:=hide (HB.out.trans ((hb1.trans (hab.mono hb1.size)).mono HB.out.size))
 have HN2:=hide (((hb1.trans (hab.mono hb1.size)).block _ (aaa HN.out)).trans HN.out)
 have hlt2:w.heap.size+2<w1.heap.size:=Nat.lt_of_lt_of_le (aaa HN.out) hb1.size
 clear hc hC hb1 ha1 ha2 hab K HB HN
 go_upto_region 2 with fail
 generalize hW:((w1.alloc (.cells #[.bool nx,.slice ax mx cx] 33)).alloc (.cells #[.int .i64 ev,.int .i64 0,.int .i64 0,.int .i64 0,.int .i64 0] 62))=w2 at *
 clear hW
 have g0:w2.cell? ⟨w.heap.size+2,0,none⟩ = some (.bool false):=by rw [cell_of_row _ _ _ _ _ (0,0) HN2.out];rfl
 have g1:w2.cell? ⟨w.heap.size+2,1,none⟩ = some (.slice none 0 0):=by rw [cell_of_row _ _ _ _ _ (0,0) HN2.out];rfl
 have gf:=fun k=>frozen_of_row w2 (w.heap.size+2) k _ _ HN2.out
 have x0:w2.cell? ⟨w1.heap.size,0,none⟩ = some (.bool nx):=by rw [cell_of_row _ _ _ _ _ (0,0) hn1];rfl
 have x1:w2.cell? ⟨w1.heap.size,1,none⟩ = some (.slice ax mx cx):=by rw [cell_of_row _ _ _ _ _ (0,0) hn1];rfl
 have y0:w2.cell? ⟨w1.heap.size+1,0,none⟩ = some (.int .i64 ev):=by rw [cell_of_row _ _ _ _ _ (0,0) hn2];rfl
 have hne1:w1.heap.size+1≠w.heap.size+2:=by omega
 clear hn1 hn2
 obtain ⟨hX,hRu,hBl⟩:=aar HN2.out HB2.out (by omega) nx ax mx cx
 have HCC:=hide (HC.out _ (((Ru.of_below HAB.out).trans hRu).trans (Ru.of_below (Below.drew (Below.refl _ _)))))
 have HBl:=hide hBl
 have x0' : ((w2.setCell ⟨w.heap.size+2,0,none⟩ (.bool nx)).setCell ⟨w.heap.size+2,1,none⟩ (.slice ax mx cx)).cell? ⟨w.heap.size+2,0,none⟩ = some (.bool nx):=by rw [cell_of_row _ _ _ _ _ (0,0) hX];rfl
 have x1' : ((w2.setCell ⟨w.heap.size+2,0,none⟩ (.bool nx)).setCell ⟨w.heap.size+2,1,none⟩ (.slice ax mx cx)).cell? ⟨w.heap.size+2,1,none⟩ = some (.slice ax mx cx):=by rw [cell_of_row _ _ _ _ _ (0,0) hX];rfl
 clear hX hRu hBl
 go_region_law (fail)
 all_goals go_wp2
 all_goals generalize hV:World.setCell (World.setCell _ _ _) _ _=V at *
 all_goals have hX0:=x0'
 all_goals have hX1:=x1'
 all_goals refine bodyPost_ret (v:=.tuple #[.agg #[.bool nx,.slice ax mx cx],.int .i64 ev]) (by simp [results,Tryz.results15,go_sem,hX0,hX1,Act.put];try rfl) rfl ⟨Below.drew HBl.out,?_⟩
 all_goals
  rcases HCC.out with ⟨z,rfl,hz,hv⟩ | ⟨hwz,rfl⟩ | ⟨hwz,rfl,hn⟩
  ·exact .inl ⟨z,_,rfl,hz,hv⟩
  ·exact .inr (.inl (by rw [hwz]))
  ·exact .inr (.inr ⟨by rw [hwz],hn⟩)
theorem VoO.parts {w w' : World} {st:Nat→Int} {t:Ex} {e:Ending} (h:VoO w w' st t e):Below w.heap.size w w'∧∃ nx ax mx cx ev,e=.returned (.tuple #[.agg #[.bool nx,.slice ax mx cx],.int .i64 ev])∧(∀ w2,Ru w' w2→(∃ z,ev=0∧valX st t=some z∧OutW z 512 (.agg #[.bool nx,.slice ax mx cx]) w2)∨(.agg #[.bool nx,.slice ax mx cx]=wZ∧ev=2)∨(.agg #[.bool nx,.slice ax mx cx]=wZ∧ev=20∧valX st t=none)):=by
 obtain ⟨hb,h⟩:=h
 refine ⟨hb,?_⟩
 rcases h with ⟨z,v,rfl,hz,hv⟩ | rfl | ⟨rfl,hn⟩
 ·obtain ⟨nx,ax,cx,rx,rfl,h1,h2⟩:=id hv
  exact ⟨nx,ax,rx.length,cx,0,rfl,fun w2 hr=>.inl ⟨z,rfl,hz,hv.ru hr⟩⟩
 ·exact ⟨false,none,0,0,2,rfl,fun w2 hr=>.inr (.inl ⟨rfl,rfl⟩)⟩
 ·exact ⟨false,none,0,0,20,rfl,fun w2 hr=>.inr (.inr ⟨rfl,rfl,hn⟩)⟩
theorem RxO.ok {w' : World} {s:ByteArray} {vs:List ByteArray} {e:Ending} {t:Ex} (h:RxO w' s vs e) (h0:nmsE vs=0) (hr:RdX s vs (.ok t)):∃ v,e=.returned (.tuple #[v,.int .i64 0,plz.v])∧IsX w' t v:=by
 rcases h.ways with ⟨_,_,_,_,h⟩ | ⟨_,t',v,he,hx,hr'⟩
 ·exact absurd h0 (h t hr)
 ·have:=hr.one hr'
  cases this
  exact ⟨v,he,hx⟩
set_option maxRecDepth 20000 in
set_option maxHeartbeats 2000000 in
theorem an3 (w:World) (hT:Tabs w) (s:ByteArray) (av:Option Addr) (nv cv:Nat) (vs:List ByteArray) (hv:Strs w (.slice av nv cv) vs) (t:Ex) (h0:nmsE vs=0) (hr:RdX s vs (.ok t)) (sv:Value) (zs:List Int) (L:Nat) (hs:IsRow w sv zs L) (hL:L≤400000000) (hlen:zs.length=vs.length) :
  Calls Tryz.prog 7 #[.string s,.slice av nv cv,sv] w fun e w'=>VoO w w' (fun k=>zs.getD k 0) t e:=by
 have hba:=hAl w (.cells #[.bool false,.slice none 0 0] 33)
 have K:=hide (aem (w.alloc (.cells #[.bool false,.slice none 0 0] 33)) (hT.below hba) s av nv cv vs (hv.below hba))
 have HBA:=hide hba
 have HN1:=hide (heap_alloc_new w (.cells #[.bool false,.slice none 0 0] 33))
 have HS0:=hide (hs.below hba)
 have hnv:nv=zs.length:=by
  obtain ⟨ao0,cap0,hv0,_⟩:=hv
  injection hv0
  omega
 have HR:=hide hr
 have H0:=hide h0
 obtain ⟨ao,cap,rfl,hzl⟩:=hs.parts
 have hwf:=hide (hlen ▸ hr.facts.1)
 clear hT hba hv hs hr h0 hlen
 subst hnv
 go_enter Tryz.func7,Tryz.ntmps7
 go_wp2_with fail
 refine K.out.mono ?_
 generalize w.alloc (.cells #[.bool false,.slice none 0 0] 33)=wa at *
 rintro e w2 ⟨hrd,hb2⟩
 obtain ⟨v,rfl,hx⟩:=hrd.ok H0.out HR.out
 have hA2:=hAl w2 (.cells #[.int .i64 0,.int .i64 0,.int .i64 0,.int .i64 0] 28)
 have hbb:=hb2.trans (hA2.mono hb2.size)
 have HB3:=hide (HBA.out.trans (hbb.mono HBA.out.size))
 have HM3:=hide ((hbb.block _ (aaa HN1.out)).trans HN1.out)
 have K2:=hide (aj3 t (w2.alloc (.cells #[.int .i64 0,.int .i64 0,.int .i64 0,.int .i64 0] 28)) v _ zs L (hx.ru (Ru.of_below hA2)) hwf.out (HS0.out.below hbb) hL)
 obtain ⟨TX,y,rfl⟩:=hx.iface
 clear hrd hb2 hA2 hbb K hx HS0 HBA HN1 hwf
 simp only [Pl.v,plz]
 go_wp2_with fail
 refine K2.out.mono ?_
 generalize (w2.alloc (.cells #[.int .i64 0,.int .i64 0,.int .i64 0,.int .i64 0] 28))=w3 at *
 rintro e w4 hvo
 obtain ⟨hb4,nx,ax,mx,cx,ev,rfl,hC⟩:=hvo.parts
 have HC:=hide hC
 have HB9:=hide (HB3.out.trans (hb4.mono HB3.out.size))
 have HN9:=hide ((hb4.block _ (aaa HM3.out)).trans HM3.out)
 clear hb4 K2 hvo hC HB3 HM3
 have g0:w4.cell? ⟨w.heap.size,0,none⟩ = some (.bool false):=by rw [cell_of_row _ _ _ _ _ (0,0) HN9.out];rfl
 have g1:w4.cell? ⟨w.heap.size,1,none⟩ = some (.slice none 0 0):=by rw [cell_of_row _ _ _ _ _ (0,0) HN9.out];rfl
 have gf:=fun k=>frozen_of_row w4 w.heap.size k _ _ HN9.out
 go_wp2
 obtain ⟨hX,hRu,hBl⟩:=aar HN9.out HB9.out (Nat.le_refl _) nx ax mx cx
 generalize hV:World.setCell _ _ _=V
 rw [hV] at hX hRu hBl
 clear hV
 have x0:V.cell? ⟨w.heap.size,0,none⟩ = some (.bool nx):=by rw [cell_of_row _ _ _ _ _ (0,0) hX];rfl
 have x1:V.cell? ⟨w.heap.size,1,none⟩ = some (.slice ax mx cx):=by rw [cell_of_row _ _ _ _ _ (0,0) hX];rfl
 refine bodyPost_ret (v:=.tuple #[.agg #[.bool nx,.slice ax mx cx],.int .i64 ev]) (by simp [results,Tryz.results7,go_sem,x0,x1];try rfl) rfl ⟨hBl,?_⟩
 rcases HC.out _ hRu with ⟨z,rfl,hz,hv⟩ | ⟨hwz,rfl⟩ | ⟨hwz,rfl,hn⟩
 ·exact .inl ⟨z,_,rfl,hz,hv⟩
 ·exact .inr (.inl (by rw [hwz]))
 ·exact .inr (.inr ⟨by rw [hwz],hn⟩)
theorem aj4 (w:World) (f:Nat→Int) (L:Nat):∀ (es:List WE) (i:Nat),(∀ (k:Nat) (e:WE),es[k]? = some e→OutW (f (i+k)) L (.agg #[.bool e.ng,.slice e.a e.m e.c]) w)→∃ es' : List WE,flat es' = flat es∧es'.length=es.length∧es'.map WE.z=(List.range' i es.length).map f∧∀ e ∈ es',Sl w (.slice e.a e.m e.c) e.zs∧e.zs.length≤L
 | [],_,_=>⟨[],rfl,rfl,rfl,fun _ h=>by cases h⟩
 | e :: es,i,h=>by
  obtain ⟨es',h1,h2,h3,h4⟩:=aj4 w f L es (i+1) fun k e' hk=>by
   have:=h (k+1) e' (by simpa using hk)
   rwa [show i+(k+1)=i+1+k by omega] at this
  obtain ⟨ng,ao,cap,rs,hv,hw,hl⟩:=h 0 e rfl
  simp only [Value.agg.injEq,Array.mk.injEq,List.cons.injEq,Value.bool.injEq,Value.slice.injEq,and_true] at hv
  obtain ⟨e1,e2,e3,e4⟩:=hv
  refine ⟨⟨ng,ao,rs.length,cap,rs⟩ :: es',by rw [flat,flat,h1,e1,e2,e3,e4],by simp [h2],?_,?_⟩
  ·rw [List.map_cons,h3,List.length_cons,List.range'_succ,List.map_cons]
   congr 1
   have hz:sg ng (val rs)=f (i+0):=hw.ag.worth
   exact hz
  ·intro e' he'
   rcases List.mem_cons.1 he' with rfl | he'
   ·exact ⟨hw.1.1,hl⟩
   ·exact h4 e' he'
theorem FmS.row {w:World} {v:Value} {n:Nat} {f:Nat→Int} {L:Nat} (h:FmS w v n f L) (hn:n≤16):IsRow w v ((List.range (n+1)).map f) L:=by
 obtain ⟨b,rfl,es,h1,h2,_,h4⟩:=h
 obtain ⟨es',g1,g2,g3,g4⟩:=aj4 w f L es 0 fun k e he=>by
  have hk:=(List.getElem?_eq_some_iff.1 he).1
  have:=h4 k e (by omega) he
  rwa [←Nat.zero_add k] at this
 refine ⟨es',⟨⟨_,_,by rw [g2,h1],Nat.le_refl _,by rw [g2,h1];omega,ab2 _,.inr ⟨b,0,rfl,aaa h2,fun j u hu=>?_⟩⟩,fun e he=>(g4 e he).1⟩,?_,fun e he=>(g4 e he).2⟩
 ·rw [cell_of_row _ _ _ _ _ (0,0) h2,Nat.zero_add,List.getElem?_toArray,←g1]
  exact hu
 ·rw [g3,h1,←List.range_eq_range']
theorem aj5 (f:Nat→Int) (ss:List Int) (n:Nat):∀ k,k≤n→wsN ((List.range (n+1)).map f) ss k=dotZ f (fun i=>ss.getD i 0) k
 | 0,_=>rfl
 | k+1,h=>by
  rw [wsN,dotZ,aj5 f ss n k (by omega),List.getElem?_map,List.getElem?_range (by omega)]
  simp [List.getD_eq_getElem?_getD]
theorem an4 (w:World) (vf sv:Value) (n:Nat) (f:Nat→Int) (zs:List Int) (hf:FmS w vf n f 30000000) (hs:IsRow w sv zs 30000000) (hn:n≤16) (hl:zs.length=n) :
  Calls Tryz.prog 8 #[vf,sv] w fun e w'=>∃ r,e=.returned (.tuple #[r,.int .i64 0])∧OutW (dotZ f (fun i=>zs.getD i 0) n+f n) 90000002 r w'∧Below w.heap.size w w' := by
 refine (apr w vf sv _ zs 30000000 (f n) (hf.row hn) hs (by simp [hl]) (by omega) (by decide) (by rw [hl,List.getElem?_map,List.getElem?_range (by omega)];rfl)).mono ?_
 rintro e w' ⟨r,rfl,hr,hb⟩
 refine ⟨r,rfl,?_,hb⟩
 rw [hl,aj5 f zs n n (Nat.le_refl _)] at hr
 exact hr.out
theorem aqt (c:Nat) (s:ByteArray) (gs:List Gl) (e:Pl) (l:List Tk) (_hc:c<128) (hs:s.size≤4096) (hQ:Snd s pl0 gs e) (hR:ScanR s e gs (.ok l)) (hn:nmS s (.ok l)=true):isNm s=true:=by
 rw [←alw hs hQ hR]
 exact hn
theorem awm:isNm ⟨#[120]⟩ = true:=by
 refine aqt 120 ⟨#[120]⟩ [⟨120,⟨0,0,1,1⟩⟩] ⟨1,1,1,2⟩ [⟨1,⟨#[120]⟩,⟨0,0,1,1⟩⟩,⟨0,⟨#[]⟩,⟨1,1,1,2⟩⟩] (by decide) (by decide) ?_ ?_ (by kernel_rfl)
 ·refine ajd (k:=1) (by decide) (by kernel_rfl) (by decide) ?_
  exact .stop ⟨1,1,1,2⟩ (.inl (by decide))
 ·refine ScanR.tok _ ⟨120,⟨0,0,1,1⟩⟩ [] 1 ⟨#[120]⟩ [] (.ok [⟨0,⟨#[]⟩,⟨1,1,1,2⟩⟩]) (by kernel_rfl) (aje (by kernel_rfl) (by kernel_rfl) (by decide) (by kernel_rfl)) ?_
  exact ScanR.done _ (by kernel_rfl) (by decide)
theorem awn:isNm ⟨#[121]⟩ = true:=by
 refine aqt 121 ⟨#[121]⟩ [⟨121,⟨0,0,1,1⟩⟩] ⟨1,1,1,2⟩ [⟨1,⟨#[121]⟩,⟨0,0,1,1⟩⟩,⟨0,⟨#[]⟩,⟨1,1,1,2⟩⟩] (by decide) (by decide) ?_ ?_ (by kernel_rfl)
 ·refine ajd (k:=1) (by decide) (by kernel_rfl) (by decide) ?_
  exact .stop ⟨1,1,1,2⟩ (.inl (by decide))
 ·refine ScanR.tok _ ⟨121,⟨0,0,1,1⟩⟩ [] 1 ⟨#[121]⟩ [] (.ok [⟨0,⟨#[]⟩,⟨1,1,1,2⟩⟩]) (by kernel_rfl) (aje (by kernel_rfl) (by kernel_rfl) (by decide) (by kernel_rfl)) ?_
  exact ScanR.done _ (by kernel_rfl) (by decide)
theorem awo:NmsOk [⟨#[120]⟩,⟨#[121]⟩]:=by
 refine ⟨by decide,fun i x hx=>?_⟩
 match i with
 | 0=>simp at hx;subst hx;exact ⟨awm,by simp⟩
 | 1=>simp at hx;subst hx;exact ⟨awn,by simp⟩
 | i+2=>simp at hx
inductive ScanQ:Pl→List Nat→SO→Prop
 | done (p:Pl) (r:List Nat) (h:skc false r = []):ScanQ p r (.ok [⟨0,⟨#[]⟩,adv p r⟩])
 | bad (p:Pl) (a:List Nat) (c:Nat) (t:List Nat) (h:skc false (a ++ c :: t)=c :: t) (hc:gcls c≠2∧gcls c≠3∧gcls c≠5):ScanQ p (a ++ c :: t) (.bad 41 (adv p a))
 | tok (p:Pl) (a v r:List Nat) (k:Int) (x:ByteArray) (o:SO) (h:skc false (a ++ (v ++ r))=v ++ r) (ht:TokC (v ++ r) k x r) (hr:ScanQ (adv p (a ++ v)) r o):ScanQ p (a ++ (v ++ r)) (o.pre ⟨k,x,adv p a⟩)
theorem avb (s:ByteArray) (p:Pl) (cs:List Nat) (o:SO) (hC:ScanQ p cs o) (L:List UInt8) (hp:p.b=L.length) (h:s.data.toList=L ++ encs cs):ScanR s (adv p cs) (glf p cs) o:=by
 induction hC generalizing L with
 | done p r h1 =>
  obtain ⟨a,h2,h3⟩:=ac8 false p r
  rw [h1] at h3
  refine .done _ h3 ?_
  have:s.data.toList.length=s.size:=rfl
  rw [ae9,hp,←this,h,List.length_append]
  exact Nat.le_refl _
 | bad p a c t h1 hc =>
  obtain ⟨a',h2,h3⟩:=ac8 false p (a ++ c :: t)
  rw [h1] at h2 h3
  obtain rfl:=List.append_cancel_right h2
  refine .bad (g:=⟨c,adv p a⟩) _ _ _ h3 ?_
  unfold TokR
  rw [if_neg hc.1,if_neg hc.2.1,if_neg hc.2.2]
 | tok p a v r k x o h1 ht hr ih =>
  obtain ⟨a',h2,h3⟩:=ac8 false p (a ++ (v ++ r))
  rw [h1] at h2 h3
  obtain rfl:=List.append_cancel_right h2
  have hpa:(adv p a).b=(L ++ encs a).length:=by rw [ae9,hp,List.length_append]
  have hsa:s.data.toList=(L ++ encs a) ++ encs (v ++ r):=by rw [h,List.append_assoc,←abi]
  have hea:adv p (a ++ (v ++ r))=adv (adv p a) (v ++ r):=aa7 _ _ _
  obtain ⟨c,t,v',h4,h5,h6⟩:=awe s _ (v ++ r) _ hpa hsa _ _ _ ht
  obtain rfl:=List.append_cancel_right h5
  have h7:=ih ((L ++ encs a) ++ encs v) (by rw [aa7,ae9,hpa,←List.length_append]) (by rw [hsa,abi,List.append_assoc,List.append_assoc,List.append_assoc])
  have h9:skp false (glf p (a ++ (v ++ r)))=⟨c,adv p a⟩ :: glf ((adv p a).past c (encL c).length) t:=by rw [h3,h4];rfl
  rw [←hea] at h6
  rw [aa7] at h7
  exact ScanR.tok (s:=s) (e:=adv p (a ++ (v ++ r))) (glf p (a ++ (v ++ r))) ⟨c,adv p a⟩ (glf ((adv p a).past c (encL c).length) t) k x (glf (adv (adv p a) v) r) o h9 h6 (by rw [hea,aa7];exact h7)
def Asc (cs:List Nat):Prop:=∀ c ∈ cs,32≤c∧c<127
theorem avc (p:Pl) (cs:List Nat) (h:Asc cs):adv p cs=⟨p.b+cs.length,p.g+cs.length,p.l,p.c+cs.length⟩:=by
 induction cs generalizing p with
 | nil=>rfl
 | cons c cs ih =>
  have hc:=h c (by simp)
  rw [adv,ih _ (fun d hd=>h d (by simp [hd]))]
  have he:(encL c).length=1:=by unfold encL;rw [if_pos (by omega)];rfl
  simp only [Pl.past,he,if_neg (show c≠10 by omega),List.length_cons]
  simp only [Pl.mk.injEq]
  refine ⟨by omega,by omega,trivial,by omega⟩
theorem Asc.cod {cs:List Nat} (h:Asc cs):∀ c ∈ cs,Cod c:=fun c hc=>by
 have:=h c hc
 unfold Cod
 omega
theorem aqu {ds:List Int} (h:Dig ds):(∀ c ∈ ds.map Int.toNat,inK [3] c=true)∧(∀ c ∈ ds.map Int.toNat,Cod c):=by
 constructor
 ·intro c hc
  obtain ⟨d,hd,rfl⟩:=List.mem_map.1 hc
  have:=h d hd
  simp only [inK,ahy (show 48≤d.toNat∧d.toNat≤57 by omega)]
  decide
 ·intro c hc
  obtain ⟨d,hd,rfl⟩:=List.mem_map.1 hc
  have:=h d hd
  exact apz (by omega)
theorem aqv {ds:List Int} (h:Dig ds):∀ d ∈ ds,0≤d∧d<128:=fun d hd=>by have:=h d hd;omega
def dcs (ds:List Int):List Nat:=ds.map Int.toNat
theorem avd {ds:List Int} (h:Dig ds):Asc (dcs ds):=fun c hc=>by
 obtain ⟨d,hd,rfl⟩:=List.mem_map.1 hc
 have:=h d hd
 omega
theorem agu {ds:List Int} {x:Int} (h:IsDec ds x):∃ c u,ds=c :: u:=by
 rcases h.2.2 with ⟨_,rfl⟩ | ⟨c,u,rfl,_⟩
 ·exact ⟨_,_,rfl⟩
 ·exact ⟨_,_,rfl⟩
theorem ave {ds:List Int} {x:Int} {n:Nat} (r:List Nat) (h:IsDec ds x) (hn:IsLen x n) (hl:n≤32) (hr:Stop [3] r):TokC (dcs ds ++ r) 2 (strOfNums ds) r:=by
 obtain ⟨c,u,rfl⟩:=agu h
 have hb:=akz _ (aqv h.1)
 exact TokC.num c.toNat (dcs u) r n (c :: u) (aqu h.1).1 hr (by
  rw [show c.toNat :: dcs u=(c :: u).map Int.toNat from rfl,hb,h.2.1]
  exact hn) hl (by
  rw [show c.toNat :: dcs u=(c :: u).map Int.toNat from rfl,hb,h.2.1]
  exact h)
theorem atm {ds:List Int} {x:Int} (h:IsDec ds x) (hl:ds.length≤5120):zOf (strOfNums ds)=x:=by
 have hb:=akn h.1
 obtain ⟨c,u,rfl⟩:=agu h
 have h0:((strOfNums (c :: u)).get! 0).toNat=c.toNat:=by
  have h1:=h.1 c (by simp)
  show (UInt8.ofNat c.toNat).toNat=c.toNat
  rw [UInt8.toNat_ofNat']
  omega
 have hc:=h.1 c (by simp)
 have h1:msplit (strOfNums (c :: u))=(false,strOfNums (c :: u)):=by
  unfold msplit
  rw [h0,if_neg (by omega),if_neg (by omega)]
 have h2:Dm.Fine (strOfNums (c :: u)):=⟨by rw [age];simp,by rw [age];exact hl,by rw [hb];exact h.1⟩
 unfold zOf
 rw [h1,(ag6 h2).2,hb,h.2.1]
 rfl
def pla (n:Nat):Pl:=⟨n,n,1,n+1⟩
theorem avf {cs:List Nat} (h:Asc cs) (n:Nat):adv (pla n) cs=pla (n+cs.length):=by
 rw [avc _ _ h]
 simp only [pla,Pl.mk.injEq]
 refine ⟨trivial,trivial,trivial,by omega⟩
def ScanA (n:Nat) (cs:List Nat) (o:SO):Prop:=ScanQ (pla n) cs o
theorem tq0 {n:Nat} {v r:List Nat} {k:Int} {x:ByteArray} {o:SO} (hv:Asc v) (ht:TokC (v ++ r) k x r) (h:ScanA (n+v.length) r o):ScanA n (v ++ r) (o.pre ⟨k,x,pla n⟩):=by
 have:=ScanQ.tok (pla n) [] v r k x o ht.skc ht (by rw [List.nil_append,avf hv];exact h)
 exact this
theorem al0 {c:Nat} (h:32≤c∧c<127):Asc [c]:=fun d hd=>by simp at hd;subst hd;exact h
theorem sgn0 {n c:Nat} {r:List Nat} {o:SO} (hc:gcls c=5) (hn:c≠8788∧c≠8800∧c≠58∧c≠33) (ha:32≤c∧c<127) (h:ScanA (n+1) r o):ScanA n (c :: r) (o.pre ⟨3,strOfNums [gfold c],pla n⟩) :=
 tq0 (v:=[c]) (al0 ha) (.sign c r hc hn) h
theorem nam0 {n c:Nat} {r:List Nat} {o:SO} (hc:gcls c=2) (ha:32≤c∧c<127) (hr:Stop [2,3,4] r) (h:ScanA (n+1) r o):ScanA n (c :: r) (o.pre ⟨1,bts (encs [c]),pla n⟩) :=
 tq0 (v:=[c]) (al0 ha) (.name c [] r hc (by intro d hd;simp at hd;subst hd;simp [inK,hc]) hr (by simp)) h
theorem num0 {n:Nat} {ds:List Int} {x:Int} {m:Nat} {r:List Nat} {o:SO} (hd:IsDec ds x) (hm:IsLen x m) (hl:m≤32) (hr:Stop [3] r) (h:ScanA (n+ds.length) r o):ScanA n (dcs ds ++ r) (o.pre ⟨2,strOfNums ds,pla n⟩) :=
 tq0 (avd hd.1) (ave r hd hm hl hr) (by rw [dcs,List.length_map];exact h)
theorem end0 (n:Nat):ScanA n [] (.ok [⟨0,⟨#[]⟩,pla n⟩]):=.done _ _ rfl
theorem adl {ks:List Int} {c:Nat} {r:List Nat} (h:inK ks c=false):Stop ks (c :: r):=by
 intro d t e
 obtain ⟨rfl,_⟩:=List.cons.inj e
 exact h
theorem aj6 {ks:List Int} : Stop ks []:=by intro d t e;cases e
theorem ac9 (c:Int) (h:49≤c∧c≤57):IsDec [c] (c - 48)∧IsLen (c - 48) 1:=by
 refine ⟨⟨fun d hd=>by simp at hd;omega,by simp [dval,p10],.inr ⟨c,[],rfl,by omega⟩⟩,[c - 48],?_,by simp [val],rfl⟩
 exact ⟨fun z hz=>by simp at hz;omega,by simp [tl];omega⟩
theorem aj7 (w:World) (f:Nat→Int) (L:Nat):∀ (es:List WE) (i:Nat),(∀ (k:Nat) (e:WE),es[k]? = some e→OutW (f (i+k)) L (.agg #[.bool e.ng,.slice e.a e.m e.c]) w)→∃ es' : List WE,flat es' = flat es∧es'.length=es.length∧(∀ e ∈ es',Sl w (.slice e.a e.m e.c) e.zs)∧∀ (k:Nat) (e:WE),es'[k]? = some e→Canon e.zs∧val e.zs=((f (i+k)).natAbs:Int)∧e.ng=decide (f (i+k)<0)∧e.zs.length≤L
 | [],_,_=>⟨[],rfl,rfl,fun _ h=>(by cases h),fun _ _ h=>(by cases h)⟩
 | e :: es,i,h=>by
  obtain ⟨es',h1,h2,h3,h4⟩:=aj7 w f L es (i+1) fun k e' hk=>by
   have:=h (k+1) e' (by simpa using hk)
   rwa [show i+(k+1)=i+1+k by omega] at this
  obtain ⟨ng,ao,cap,rs,hv,hw,hl⟩:=h 0 e rfl
  simp only [Value.agg.injEq,Array.mk.injEq,List.cons.injEq,Value.bool.injEq,Value.slice.injEq,and_true] at hv
  obtain ⟨e1,e2,e3,e4⟩:=hv
  refine ⟨⟨ng,ao,rs.length,cap,rs⟩ :: es',by rw [flat,flat,h1,e1,e2,e3,e4],by simp [h2],?_,?_⟩
  ·intro e' he'
   rcases List.mem_cons.1 he' with rfl | he'
   ·exact hw.1.1
   ·exact h3 e' he'
  ·intro k e' hk
   cases k with
   | zero =>
    simp only [List.getElem?_cons_zero,Option.some.injEq] at hk
    subst hk
    exact ⟨hw.1.2.1,hw.1.2.2,hw.2,hl⟩
   | succ k =>
    have:=h4 k e' (by simpa using hk)
    rwa [show i+1+k=i+(k+1) by omega] at this
theorem FmS.can {w:World} {v:Value} {n:Nat} {f:Nat→Int} {L:Nat} (h:FmS w v n f L) (hn:n≤16):CanRow w v ((List.range (n+1)).map f) L:=by
 obtain ⟨b,rfl,es,h1,h2,_,h4⟩:=h
 obtain ⟨es',g1,g2,g3,g4⟩:=aj7 w f L es 0 fun k e he=>by
  have hk:=(List.getElem?_eq_some_iff.1 he).1
  have:=h4 k e (by omega) he
  rwa [←Nat.zero_add k] at this
 refine ⟨es',⟨⟨_,_,by rw [g2,h1],Nat.le_refl _,by rw [g2,h1];omega,ab2 _,.inr ⟨b,0,rfl,aaa h2,fun j u hu=>?_⟩⟩,g3⟩,by simp [g2,h1],fun k e z he hz=>?_⟩
 ·rw [cell_of_row _ _ _ _ _ (0,0) h2,Nat.zero_add,List.getElem?_toArray,←g1]
  exact hu
 ·have hk:=(List.getElem?_eq_some_iff.1 he).1
  rw [List.getElem?_map,List.getElem?_range (by omega)] at hz
  obtain rfl:=Option.some.inj hz
  have:=g4 k e he
  rwa [Nat.zero_add] at this
def gxy:List ByteArray:=[⟨#[120]⟩,⟨#[121]⟩]
def gT1:List Nat:=[50,42,40,120,43,51,42,121,41,45,120]
def gT2:List Nat:=[120,42,121]
def gL1:List Tk:=[⟨2,strOfNums [50],pla 0⟩,⟨3,strOfNums [gfold 42],pla 1⟩,⟨3,strOfNums [gfold 40],pla 2⟩,⟨1,bts (encs [120]),pla 3⟩,⟨3,strOfNums [gfold 43],pla 4⟩,⟨2,strOfNums [51],pla 5⟩,⟨3,strOfNums [gfold 42],pla 6⟩,⟨1,bts (encs [121]),pla 7⟩,⟨3,strOfNums [gfold 41],pla 8⟩,⟨3,strOfNums [gfold 45],pla 9⟩,⟨1,bts (encs [120]),pla 10⟩,⟨0,⟨#[]⟩,pla 11⟩]
def gL2:List Tk:=[⟨1,bts (encs [120]),pla 0⟩,⟨3,strOfNums [gfold 42],pla 1⟩,⟨1,bts (encs [121]),pla 2⟩,⟨0,⟨#[]⟩,pla 3⟩]
theorem s3G (c:Nat) (r:List Nat) (h:inK [3] c=false):Stop [3] (c :: r):=adl h
theorem awy:ScanA 0 gT2 (.ok gL2):=by
 have h4:=end0 3
 have h3:=nam0 (n:=2) (c:=121) (r:=[]) (by decide) (by decide) aj6 h4
 have h2:=sgn0 (n:=1) (c:=42) (by decide) (by decide) (by decide) h3
 exact nam0 (n:=0) (c:=120) (by decide) (by decide) (adl (c:=42) (by decide)) h2
theorem awz:ScanA 0 gT1 (.ok gL1):=by
 have h11:=end0 11
 have h10:=nam0 (n:=10) (c:=120) (r:=[]) (by decide) (by decide) aj6 h11
 have h9:=sgn0 (n:=9) (c:=45) (by decide) (by decide) (by decide) h10
 have h8:=sgn0 (n:=8) (c:=41) (by decide) (by decide) (by decide) h9
 have h7:=nam0 (n:=7) (c:=121) (by decide) (by decide) (adl (c:=41) (by decide)) h8
 have h6:=sgn0 (n:=6) (c:=42) (by decide) (by decide) (by decide) h7
 have h5:=num0 (n:=5) (ds:=[51]) (ac9 51 (by decide)).1 (ac9 51 (by decide)).2 (by decide) (s3G 42 _ (by decide)) h6
 have h4:=sgn0 (n:=4) (c:=43) (by decide) (by decide) (by decide) h5
 have h3:=nam0 (n:=3) (c:=120) (by decide) (by decide) (adl (c:=43) (by decide)) h4
 have h2:=sgn0 (n:=2) (c:=40) (by decide) (by decide) (by decide) h3
 have h1:=sgn0 (n:=1) (c:=42) (by decide) (by decide) (by decide) h2
 exact num0 (n:=0) (ds:=[50]) (ac9 50 (by decide)).1 (ac9 50 (by decide)).2 (by decide) (s3G 42 _ (by decide)) h1
theorem aw0:zOf (strOfNums [50])=2:=by
 have:=atm (ac9 50 (by decide)).1 (by decide)
 simpa using this
theorem avg:zOf (strOfNums [51])=3:=by
 have:=atm (ac9 51 (by decide)).1 (by decide)
 simpa using this
def gE1:Ex:=.op gMinus (.op gTimes (.num 2) (.op gPlus (.var ⟨#[120]⟩ 0) (.op gTimes (.num 3) (.var ⟨#[121]⟩ 1)))) (.var ⟨#[120]⟩ 0)
def gE2:Ex:=.op gTimes (.var ⟨#[120]⟩ 0) (.var ⟨#[121]⟩ 1)
def inL (c:ByteArray) (l:List ByteArray):Bool:=l.any fun d=>decide (d=c)
theorem avh {c:ByteArray} {l:List ByteArray} (h:inL c l=true):c ∈ l:=by
 obtain ⟨d,hd,he⟩:=List.any_eq_true.1 h
 exact of_decide_eq_true he ▸ hd
theorem aqw {c:ByteArray} {l:List ByteArray} (h:inL c l=false):c ∉ l:=fun hc=>by
 have:=(List.any_eq_true (p:=fun d=>decide (d=c))).2 ⟨c,hc,by simp⟩
 unfold inL at h
 rw [this] at h
 cases h
theorem ac0 {l:List Tk} {s:Bool} {t:Ex} {k o:Nat} (c:ByteArray) (hc:txtL l k=c) (h:inL c (sgs s)=false):EvE l gxy zOf (.tl s t) k o (.ok t k):=by
 subst hc
 exact .tlE (aqw h)
theorem ad2 {l:List Tk} {s:Bool} {t u:Ex} {k o j:Nat} {r:PO Ex} (c:ByteArray) (hc:txtL l k=c) (hs:inL c (sgs s)=true) (h:EvE l gxy zOf (lowL s) (k+1) o (.ok u j)) (h' : EvE l gxy zOf (.tl s (.op c t u)) j o r):EvE l gxy zOf (.tl s t) k o r:=by
 subst hc
 exact .tlO (avh hs) h h'
theorem aw1:ixS ⟨#[120]⟩ gxy=some 0:=by decide
theorem aw2:ixS ⟨#[121]⟩ gxy=some 1:=by decide
theorem aqx {l:List Tk} {k o i:Nat} {x:ByteArray} (h1:knd l k=1) (h2:txtL l k=x) (h3:inL x words=false) (h4:x≠⟨#[40]⟩) (h6:x≠⟨#[45]⟩) (h5:ixS x gxy=some i):EvE l gxy zOf .un k o (.ok (.var x i) (k+1)):=by
 subst h2
 exact .unA h6 (.var (by rw [h1];decide) h4 (.ok ⟨h1,aqw h3⟩ h5))
theorem aqy {l:List Tk} {k o:Nat} {x:ByteArray} {z:Int} (h1:knd l k=2) (h2:txtL l k=x) (h4:x≠⟨#[45]⟩) (hz:zOf x=z):EvE l gxy zOf .un k o (.ok (.num z) (k+1)):=by
 subst h2 hz
 exact .unA h4 (.num h1)
theorem un_x {l:List Tk} {k o:Nat} (h1:knd l k=1) (h2:txtL l k=⟨#[120]⟩):EvE l gxy zOf .un k o (.ok (.var ⟨#[120]⟩ 0) (k+1)):=aqx h1 h2 (by decide) (by decide) (by decide) aw1
theorem un_y {l:List Tk} {k o:Nat} (h1:knd l k=1) (h2:txtL l k=⟨#[121]⟩):EvE l gxy zOf .un k o (.ok (.var ⟨#[121]⟩ 1) (k+1)):=aqx h1 h2 (by decide) (by decide) (by decide) aw2
theorem aw3:ReadE gL2 gxy zOf (.ok gE2 3):=by
 refine .ok (.sumO (.prodO (un_x (by decide) (by decide)) (ad2 gTimes (by decide) (by decide) (un_y (by decide) (by decide)) (ac0 ⟨#[]⟩ (by decide) (by decide)))) (ac0 ⟨#[]⟩ (by decide) (by decide))) (by decide)
theorem aw4:ReadE gL1 gxy zOf (.ok gE1 11):=by
 have hin:EvE gL1 gxy zOf .sum 3 1 (.ok (.op gPlus (.var ⟨#[120]⟩ 0) (.op gTimes (.num 3) (.var ⟨#[121]⟩ 1))) 8):=by
  refine .sumO (.prodO (un_x (by decide) (by decide)) (ac0 gPlus (by decide) (by decide))) ?_
  refine ad2 gPlus (by decide) (by decide) (j:=8) (u:=.op gTimes (.num 3) (.var ⟨#[121]⟩ 1)) ?_ (ac0 ⟨#[41]⟩ (by decide) (by decide))
  exact .prodO (aqy (x:=strOfNums [51]) (by decide) (by decide) (by decide) avg) (ad2 gTimes (by decide) (by decide) (un_y (by decide) (by decide)) (ac0 ⟨#[41]⟩ (by decide) (by decide)))
 have hbr:EvE gL1 gxy zOf .un 2 0 (.ok (.op gPlus (.var ⟨#[120]⟩ 0) (.op gTimes (.num 3) (.var ⟨#[121]⟩ 1))) 9) :=
  .unA (by decide) (.brO (by decide) (by decide) (by decide) hin (by decide))
 refine .ok (.sumO (.prodO (aqy (x:=strOfNums [50]) (by decide) (by decide) (by decide) aw0) (ad2 gTimes (by decide) (by decide) hbr (ac0 gMinus (by decide) (by decide)))) ?_) (by decide)
 exact ad2 gMinus (by decide) (by decide) (.prodO (un_x (by decide) (by decide)) (ac0 ⟨#[]⟩ (by decide) (by decide))) (ac0 ⟨#[]⟩ (by decide) (by decide))
def gS1:ByteArray:=⟨#[50,42,40,120,43,51,42,121,41,45,120]⟩
def gS2:ByteArray:=⟨#[120,42,121]⟩
theorem aqz {s:ByteArray} {cs:List Nat} {l:List Tk} {t:Ex} {j:Nat} (hs:s.size≤4096) (ha:Asc cs) (hd:s.data.toList=encs cs) (hS:ScanA 0 cs (.ok l)) (hE:ReadE l gxy zOf (.ok t j)):RdX s gxy (.ok t):=by
 have hQ:=ar3 s _ ha.cod [] [] pl0 rfl (by rw [hd];simp) (.inl rfl)
 have hR:=avb s pl0 _ _ hS [] rfl (by rw [hd];rfl)
 exact .ok hs hQ hR hE
theorem rdx1:RdX gS1 gxy (.ok gE1):=aqz (by decide) (by intro c hc;simp [gT1] at hc;omega) (by decide) awz aw4
theorem rdx2:RdX gS2 gxy (.ok gE2):=aqz (by decide) (by intro c hc;simp [gT2] at hc;omega) (by decide) awy aw3
theorem atn:nmsE gxy=0:=by
 unfold nmsE
 exact if_pos awo
theorem aek {f g:Nat→Int} : joinF 2 gTimes f g=prodF 2 f g:=afm (by decide) (by decide) rfl
theorem aw5:formZ 2 gE2=none:=by
 unfold gE2
 rw [formZ,formZ,formZ,Option.bind_some,Option.bind_some,aek,prodF,if_neg (by decide),if_neg (by decide)]
theorem aw6:∃ f,formZ 2 gE1=some f∧f 0=1∧f 1=6∧f 2=0:=by
 have h1:formZ 2 (.op gTimes (.num 3) (.var ⟨#[121]⟩ 1))=some (fun k=>uf 1 1 k*uf 2 3 2):=by
  rw [formZ,formZ,formZ,Option.bind_some,Option.bind_some,aek,prodF,if_pos (by decide)]
 have h2:formZ 2 (.op gPlus (.var ⟨#[120]⟩ 0) (.op gTimes (.num 3) (.var ⟨#[121]⟩ 1)))=some (fun k=>uf 0 1 k+uf 1 1 k*uf 2 3 2):=by
  rw [formZ,h1,formZ,Option.bind_some,Option.bind_some,ago rfl]
 have h3:formZ 2 (.op gTimes (.num 2) (.op gPlus (.var ⟨#[120]⟩ 0) (.op gTimes (.num 3) (.var ⟨#[121]⟩ 1))))=some (fun k=>(uf 0 1 k+uf 1 1 k*uf 2 3 2)*uf 2 2 2):=by
  rw [formZ,h2,formZ,Option.bind_some,Option.bind_some,aek,prodF,if_pos (by decide)]
 refine ⟨fun k=>(uf 0 1 k+uf 1 1 k*uf 2 3 2)*uf 2 2 2 - uf 0 1 k,?_,by decide,by decide,by decide⟩
 ·unfold gE1
  rw [formZ,h3,formZ,Option.bind_some,Option.bind_some,afl (by decide) rfl]
theorem alg (w:World) (a b c:Int) (e:TypeId):Nums (w.alloc (.cells #[.int .i64 a,.int .i64 b,.int .i64 c] e)) (.slice (some ⟨w.heap.size,0,none⟩) 3 3) [a,b,c]:=afw w [a,b,c] (by simp) e
theorem aq0 (w:World) (hT:Tabs w) (v:Value) (hv:Strs w v gxy) :
  Calls Tryz.prog 6 #[.string gS1,v] w fun e w'=>Below w.heap.size w w'∧∃ x,e=.returned (.tuple #[x,.bool true,.int .i64 0,plz.v])∧CanRow w' x [1,6,0] 30000000:=by
 obtain ⟨ao,cap,rfl,_⟩:=id hv
 refine (ado w hT gS1 ao _ cap gxy hv).mono ?_
 rintro e w' ⟨⟨_,_,_,_,h⟩ | ⟨_,t,x,b,rfl,hr,hf⟩,hb⟩
 ·exact absurd atn (h _ rdx1)
 ·have:=rdx1.one hr
  cases this
  obtain ⟨f,h1,h2,h3,h4⟩:=aw6
  rcases hf with ⟨rfl,f',hf,hs⟩ | ⟨_,hf,_⟩
  ·have e2:formZ gxy.length gE1=formZ 2 gE1:=rfl
   rw [e2,h1] at hf
   obtain rfl:=Option.some.inj hf
   have hc:=(hs.le rdx1.facts.2).can (by decide)
   refine ⟨hb,x,rfl,?_⟩
   have el:(List.range (gxy.length+1)).map f = [1,6,0]:=by
    show [f 0,f 1,f 2] = _
    rw [h2,h3,h4]
   rwa [el] at hc
  ·have e2:formZ gxy.length gE1=formZ 2 gE1:=rfl
   rw [e2,h1] at hf
   cases hf
theorem aq1 (w:World) (hT:Tabs w) (v:Value) (hv:Strs w v gxy) :
  Calls Tryz.prog 6 #[.string gS2,v] w fun e w'=>Below w.heap.size w w'∧e=.returned (.tuple #[.slice none 0 0,.bool false,.int .i64 0,plz.v]):=by
 obtain ⟨ao,cap,rfl,_⟩:=id hv
 refine (ado w hT gS2 ao _ cap gxy hv).mono ?_
 rintro e w' ⟨⟨_,_,_,_,h⟩ | ⟨_,t,x,b,rfl,hr,hf⟩,hb⟩
 ·exact absurd atn (h _ rdx2)
 ·have:=rdx2.one hr
  cases this
  have e2:formZ gxy.length gE2=formZ 2 gE2:=rfl
  rcases hf with ⟨_,f',hf,_⟩ | ⟨rfl,_,rfl⟩
  ·rw [e2,aw5] at hf
   cases hf
  ·exact ⟨hb,rfl⟩
set_option maxRecDepth 20000 in
set_option maxHeartbeats 8000000 in
theorem awp (w:World) (hT:Tabs w) :
  Calls Tryz.prog 4 #[] w fun r w'=>r=.returned (.bool true)∧Below w.heap.size w w' := by
 have hb0:=hAl w (.cells #[.string ⟨#[120]⟩,.string ⟨#[121]⟩] 9)
 have K:=hide (aq0 _ (hT.below hb0) _ (af1 w ⟨#[120]⟩ ⟨#[121]⟩ 9))
 have HT:=hide hT
 have HB0:=hide hb0
 clear hT hb0
 unfold gS1 at K
 go_enter Tryz.func4,Tryz.ntmps4
 go_wp2_with fail
 refine K.out.mono ?_
 generalize w.alloc (.cells #[.string ⟨#[120]⟩,.string ⟨#[121]⟩] 9)=wa at *
 rintro r w1 ⟨hb1,x,rfl,hcx⟩
 obtain ⟨ax,cx,hvx,_⟩:=hcx.is.parts
 subst hvx
 have hbA:=hAl w1 (.cells #[.int .i64 0,.int .i64 0,.int .i64 0,.int .i64 0] 28)
 have hb2:=hb1.trans (hbA.mono hb1.size)
 have HB2:=hide (HB0.out.trans (hb2.mono HB0.out.size))
 have HCX:=hide (hcx.below hbA)
 clear hb1 hb2 hcx K HB0
 have hbS:=hAl (w1.alloc (.cells #[.int .i64 0,.int .i64 0,.int .i64 0,.int .i64 0] 28)) (.cells #[.string ⟨#[120]⟩,.string ⟨#[121]⟩] 9)
 have K2:=hide (aq1 ((w1.alloc (.cells #[.int .i64 0,.int .i64 0,.int .i64 0,.int .i64 0] 28)).alloc (.cells #[.string ⟨#[120]⟩,.string ⟨#[121]⟩] 9)) ((HT.out.below HB2.out).below hbS) _ (af1 _ ⟨#[120]⟩ ⟨#[121]⟩ 9))
 have HCX2:=hide (HCX.out.below hbS)
 have HB3:=hide (HB2.out.trans (hbS.mono HB2.out.size))
 clear hbA hbS HCX
 unfold gS2 at K2
 simp only [Pl.v,plz] at K2 ⊢
 rw [World.size_alloc] at K2
 go_wp2_with fail
 refine K2.out.mono ?_
 generalize ((w1.alloc (.cells #[.int .i64 0,.int .i64 0,.int .i64 0,.int .i64 0] 28)).alloc (.cells #[.string ⟨#[120]⟩,.string ⟨#[121]⟩] 9))=w3 at *
 rintro r w4 ⟨hb4,rfl⟩
 have hbP:=hAl w4 (.cells #[.int .i64 0,.int .i64 0,.int .i64 0,.int .i64 0] 28)
 have HB5:=hide (HB3.out.trans ((hb4.trans (hbP.mono hb4.size)).mono HB3.out.size))
 have HCX5:=hide (HCX2.out.below (hb4.trans (hbP.mono hb4.size)))
 clear hb4 hbP K2 HB3 HCX2
 have hbN:=hAl (w4.alloc (.cells #[.int .i64 0,.int .i64 0,.int .i64 0,.int .i64 0] 28)) (.cells #[.int .i64 1,.int .i64 6,.int .i64 0] 3)
 have hz3:∀ z ∈ ([1,6,0]:List Int),-9223372036854775808≤z∧z≤9223372036854775807:=by intro z hz;simp at hz;rcases hz with rfl | rfl | rfl <;> decide
 have K3:=hide (aup ((w4.alloc (.cells #[.int .i64 0,.int .i64 0,.int .i64 0,.int .i64 0] 28)).alloc (.cells #[.int .i64 1,.int .i64 6,.int .i64 0] 3)) _ [1,6,0] (alg _ 1 6 0 3) hz3 (by decide))
 have HB6:=hide (HB5.out.trans (hbN.mono HB5.out.size))
 have HCX6:=hide (HCX5.out.below hbN)
 clear hbN hz3 HCX5
 rw [World.size_alloc] at K3
 go_wp2_with fail
 refine K3.out.mono ?_
 generalize ((w4.alloc (.cells #[.int .i64 0,.int .i64 0,.int .i64 0,.int .i64 0] 28)).alloc (.cells #[.int .i64 1,.int .i64 6,.int .i64 0] 3))=w6 at *
 rintro e w7 ⟨r7,rfl,hr7,hb7⟩
 obtain ⟨a7,c7,hv7,_⟩:=hr7.is.parts
 subst hv7
 have K4:=hide (akr w7 _ _ [1,6,0] 30000000 2 (HCX6.out.below hb7) hr7)
 have HB7:=hide (HB6.out.trans (hb7.mono HB6.out.size))
 clear hb7 hr7 K3
 go_wp2_with fail
 refine K4.out.mono ?_
 rintro e w8 ⟨rfl,hb8⟩
 have HB8:=hide (HB7.out.trans (hb8.mono HB7.out.size))
 clear hb8 K4
 go_wp2
 refine bodyPost_ret (v:=_) (by simp [results,Tryz.results4,go_sem];try rfl) rfl ⟨rfl,HB8.out⟩
theorem IsRow.le {w:World} {v:Value} {zs:List Int} {L M:Nat} (h:IsRow w v zs L) (hl:L≤M):IsRow w v zs M:=by
 obtain ⟨es,h1,h2,h3⟩:=h
 exact ⟨es,h1,h2,fun e he=>Nat.le_trans (h3 e he) hl⟩
theorem Rw.row {w:World} {v:Value} {es:List WE} (h:Rw w v es):IsRow w v (es.map WE.z) (lenW es):=by
 refine ⟨es,h,rfl,fun e he=>?_⟩
 have h1:=(h.sl e he).parts.1
 have h2:=art he
 omega
theorem sameG (w:World) (v v' : Value) (z:Int) (L M:Nat) (h:OutW z L v w) (h' : OutW z M v' w) :
  Calls Tryz.prog 9 #[v,v'] w fun e w'=>e=.returned (.bool true)∧Below w.heap.size w w' := by
 obtain ⟨n1,a1,c1,xs,rfl,A1,l1⟩:=h
 obtain ⟨n2,a2,c2,ys,rfl,A2,l2⟩:=h'
 exact avq _ _ _ _ _ _ _ _ _ _ _ A1 A2 true (decide_eq_true rfl)
theorem aj8 {B:Nat} : ∀ {es:List WE},(∀ e ∈ es,e.m≤B)→lenW es≤es.length*(B+1)
 | [],_=>by simp [lenW]
 | e :: es,h=>by
  have h1:=h e (List.mem_cons_self ..)
  have h2:=aj8 fun e' he=>h e' (List.mem_cons_of_mem _ he)
  rw [lenW,List.length_cons,Nat.add_mul]
  omega
set_option maxRecDepth 20000 in
set_option maxHeartbeats 2000000 in
theorem avi (W:World) (hT:Tabs W) (s:ByteArray) (vv:Value) (vs:List ByteArray) (a:Option Addr) (n c:Nat) (es:List WE) (hv:Strs W vv vs) (hr:Rw W (.slice a n c) es) (hm:∀ e ∈ es,e.m≤35184372088832) :
  Calls Tryz.prog 3 #[.string s,vv,.slice a n c] W fun e w'=>e=.returned (.bool true)∧Below W.heap.size W w' := by
 obtain ⟨av,cv,rfl,hcv⟩:=id hv
 have hnn:=hr.parts
 have K1:=hide (awp W hT)
 have HT:=hide hT
 have HV:=hide hv
 have HR:=hide hr
 have HNL:=hide (show n=(es.map WE.z).length by simp [hnn.1])
 have HM:=hide hm
 clear hT hv hr hcv hnn hm
 go_enter Tryz.func3,Tryz.ntmps3
 go_wp2_with fail
 refine K1.out.mono ?_
 rintro e w1 ⟨rfl,hb1⟩
 have HB1:=hide hb1
 have K2:=hide (ar8 w1 a n c es (HR.out.below hb1) HM.out)
 clear hb1 K1
 go_wp2_with fail
 refine K2.out.mono ?_
 rintro e w2 ⟨rfl,hb2⟩
 have HB2:=hide (HB1.out.trans (hb2.mono HB1.out.size))
 clear hb2 K2
 by_cases hbig:(1500:Int)<IntKind.i64.wrap (lenW es:Int)
 ·go_wp2
  refine bodyPost_ret (v:=_) (by simp [results,Tryz.results3,go_sem];try rfl) rfl ⟨rfl,HB2.out⟩
 have HBIG:=hide hbig
 have hbf:decide ((1500:Int)<IntKind.i64.wrap (lenW es:Int))=false:=decide_eq_false hbig
 have K3:=hide (ado w2 (HT.out.below HB2.out) s av vs.length cv vs (HV.out.below HB2.out))
 go_wp2_with fail
 clear hbf hbig
 refine K3.out.mono ?_
 rintro e w3 ⟨hc,hb3⟩
 rcases hc with ⟨er,p,hne,rfl,hno⟩ | ⟨h0,t,v,b,rfl,hrd,hf⟩
 ·have hne' : (er != 0)=true:=by simpa using hne
  have hA:=hAl w3 (.cells #[.int .i64 p.b,.int .i64 p.g,.int .i64 p.l,.int .i64 p.c] 28)
  have HB4:=hide (HB2.out.trans ((hb3.trans (hA.mono hb3.size)).mono HB2.out.size))
  clear hb3 hA K3 hno hne
  unfold Pl.v
  go_wp2
  refine bodyPost_ret (v:=_) (by simp [results,Tryz.results3,go_sem];try rfl) rfl ⟨rfl,HB4.out⟩
 have hA:=hAl w3 (.cells #[.int .i64 0,.int .i64 0,.int .i64 0,.int .i64 0] 28)
 have HB4:=hide (HB2.out.trans ((hb3.trans (hA.mono hb3.size)).mono HB2.out.size))
 have HF:=hide (hf.below hA)
 have HRD:=hide hrd
 have H0:=hide h0
 clear hb3 hA K3 hrd h0 hf
 simp only [Pl.v,plz]
 rcases HF.out with ⟨rfl,f,hfz,hfs⟩ | ⟨rfl,hfz,rfl⟩
 ·obtain ⟨bf,rfl⟩:=gslice hfs
  by_cases hle:n=vs.length
  ·subst hle
   have HFS:=hide (hfs.le HRD.out.facts.2)
   have HFV:=hide (aef (st:=fun k=>(es.map WE.z).getD k 0) HRD.out.facts.1 hfz)
   have HN16:=hide (aqs H0.out).1
   have hln:es.length=vs.length:=by
    have:=HNL.out
    simpa using this.symm
   have hw1:=aj8 HM.out
   have hw2:es.length*(35184372088832+1)≤16*(35184372088832+1):=Nat.mul_le_mul_right _ (by rw [hln];exact HN16.out)
   have hw3:lenW es≤1500:=by
    have h1:=HBIG.out
    rw [auq (by omega) (by omega)] at h1
    omega
   have HROW4:=hide ((HR.out.row.le (by omega:lenW es≤30000000)).below HB4.out)
   clear hln hw1 hw2 hw3
   have K4:=hide (an3 (w3.alloc (.cells #[.int .i64 0,.int .i64 0,.int .i64 0,.int .i64 0] 28)) (HT.out.below HB4.out) s av vs.length cv vs (HV.out.below HB4.out) t H0.out HRD.out _ (es.map WE.z) 30000000 HROW4.out (by decide) HNL.out.symm)
   clear hfz hfs HF
   go_wp2_with fail
   refine K4.out.mono ?_
   generalize (w3.alloc (.cells #[.int .i64 0,.int .i64 0,.int .i64 0,.int .i64 0] 28))=w4 at *
   rintro e w5 hvo
   obtain ⟨hb5,nx,ax,mx,cx,ev,rfl,hC⟩:=hvo.parts
   have hA5:=hAl w5 (.cells #[.bool nx,.slice ax mx cx] 33)
   have hbb:=hb5.trans (hA5.mono hb5.size)
   have HC:=hide (fun w6 (h:Ru (w5.alloc (.cells #[.bool nx,.slice ax mx cx] 33)) w6)=>hC w6 ((Ru.of_below hA5).trans h))
   have HB5:=hide (HB4.out.trans (hbb.mono HB4.out.size))
   have HX5:=hide (heap_alloc_new w5 (.cells #[.bool nx,.slice ax mx cx] 33))
   have K5:=hide (an4 _ _ _ vs.length f (es.map WE.z) (HFS.out.below hbb) (HROW4.out.below hbb) HN16.out HNL.out.symm)
   clear hvo hb5 hC hA5 hbb K4
   go_wp2_with fail
   refine K5.out.mono ?_
   generalize hW6:(w5.alloc (.cells #[.bool nx,.slice ax mx cx] 33))=w6 at *
   clear hW6
   rintro e w7 ⟨r,rfl,hr,hb7⟩
   obtain ⟨nr,ar,cr,rr,rfl,hr1⟩:=id hr
   generalize rr.length=mr at *
   have hA7:=hAl w7 (.cells #[.bool nr,.slice ar mr cr] 33)
   have hbb:=hb7.trans (hA7.mono hb7.size)
   have HR7:=hide (hr.ru (Ru.of_below hA7))
   have HB7:=hide (HB5.out.trans (hbb.mono HB5.out.size))
   have HX7:=hide ((hbb.block _ (aaa HX5.out)).trans HX5.out)
   have HY7:=hide (heap_alloc_new w7 (.cells #[.bool nr,.slice ar mr cr] 33))
   have HC7:=hide (HC.out _ (Ru.of_below hbb))
   have x0:(w7.alloc (.cells #[.bool nr,.slice ar mr cr] 33)).cell? ⟨w5.heap.size,0,none⟩ = some (.bool nx):=by rw [cell_of_row _ _ _ _ _ (0,0) HX7.out];rfl
   have x1:(w7.alloc (.cells #[.bool nr,.slice ar mr cr] 33)).cell? ⟨w5.heap.size,1,none⟩ = some (.slice ax mx cx):=by rw [cell_of_row _ _ _ _ _ (0,0) HX7.out];rfl
   clear hr hr1 hb7 hA7 hbb K5 HX5 HY7
   rcases HC7.out with ⟨z,rfl,hz,hvz⟩ | ⟨hwz,rfl⟩ | ⟨hwz,rfl,hno⟩
   ·have hze:=HFV.out.symm.trans hz
    obtain rfl:=Option.some.inj hze
    have K6:=hide (sameG _ _ _ _ _ _ hvz HR7.out)
    clear hz hvz hze HC7 HC
    go_wp2_with fail
    refine K6.out.mono ?_
    rintro e w8 ⟨rfl,hb8⟩
    have HB8:=hide (HB7.out.trans (hb8.mono HB7.out.size))
    clear hb8 K6
    go_wp2
    refine bodyPost_ret (v:=_) (by simp [results,Tryz.results3,go_sem];try rfl) rfl ⟨rfl,HB8.out⟩
   ·clear hwz HC7 HC
    go_wp2
    refine bodyPost_ret (v:=_) (by simp [results,Tryz.results3,go_sem];try rfl) rfl ⟨rfl,HB7.out⟩
   ·have:=HFV.out.symm.trans hno
    cases this
  ·have hle' : ((n:Int) != (vs.length:Int))=true:=by simp;omega
   clear hle hfz hfs
   go_wp2
   refine bodyPost_ret (v:=_) (by simp [results,Tryz.results3,go_sem];try rfl) rfl ⟨rfl,HB4.out⟩
 ·go_wp2
  refine bodyPost_ret (v:=_) (by simp [results,Tryz.results3,go_sem];try rfl) rfl ⟨rfl,HB4.out⟩
end Lm
end Go.Proofs.YtgclhjjmleiggaaGreatDoor
namespace Go.Proofs.YtgclhjjmleiggaaGreatDoor
namespace Lm
open Go Go.RowKit Go.ChangeShapes Go.WideShapes Go.ChangeAt
theorem aq2 {w:World} {x:Addr} {l c:Nat} {ss:List ByteArray} (hl:l≤c) (hm:c≤maxLen) (hz:ss.length=c) (hcell:∀ i,i<ss.length→w.cell? (x.add i)=some (.string (ss.getD i ByteArray.empty))):Strs w (.slice (some x) l c) (ss.take l):=by
 have hll:(ss.take l).length=l:=by rw [List.length_take];omega
 refine ⟨some x,c,by rw [hll],by omega,by simpa [maxLen] using hm,by simp,?_⟩
 by_cases h0:l=0
 ·exact .inl (by omega)
 ·obtain ⟨b,off,spot⟩:=x
  have h1:=hcell 0 (by omega)
  have hspot:spot=none:=by simpa [Addr.add] using World.cell?_spot h1
  subst hspot
  have ha:∀ i,(⟨b,off,none⟩:Addr).add i=⟨b,off+i,none⟩:=by
   intro i
   by_cases hi0:i=0
   ·subst hi0;simp [Addr.add]
   ·simp [Addr.add,hi0]
  refine .inr ⟨b,off,rfl,?_,fun j u hu=>?_⟩
  ·rw [ha] at h1
   exact aay h1
  ·obtain ⟨hj,hju⟩:=List.getElem?_eq_some_iff.1 hu
   simp only [List.length_map,hll] at hj
   have h2:=hcell j (by omega)
   rw [ha] at h2
   rw [h2]
   simp only [List.getElem_map,List.getElem_take] at hju
   rw [←hju,List.getD_eq_getElem?_getD,List.getElem?_eq_getElem (by omega)]
   rfl
end Lm
end Go.Proofs.YtgclhjjmleiggaaGreatDoor
namespace Go.Proofs.YtgclhjjmleiggaaGreatDoor
namespace guardValuesLaw
open Go.ChangeShapes Go.WideShapes Go.ChangeAt Go.RowKit
open Go.ChangeMaps (open_string shut_string)
theorem own:ownKnob Tryz.prog.godebug=none:=by kernel_rfl
theorem laidOut:laidOutB Tryz.prog=true:=by kernel_rfl
noncomputable def laidWorld (os:Os):World :=
 let w0:=World.holding Tryz.prog os ⟨#[],#[],[]⟩
 let put (h:Array Obj) (g:Nat) (cs:Array Value):Array Obj:=h.modify g fun
  | .cells _ t frozen=>.cells cs t frozen
  | o=>o
 let h1:=put w0.heap (Tryz.lays197_ren.g 3) (Lib.firstTab.map fun z=>Value.int .u8 z).toArray
 let h2:=put h1 (Tryz.lays197_ren.g 4) ((List.range 16).flatMap fun i=>[Value.int .u8 (Lib.accLo i),Value.int .u8 (Lib.accHi i)]).toArray
 { w0 with heap:=h2 }
theorem laid_met (os:Os):laidMet Tryz.prog Rows.guardValuesRow.laid ((laidWorld os).forCall (fun _ _=>0) ⟨#[],#[.string ⟨#[]⟩,.slice none 0 0,.slice none 0 0],[]⟩).memory :=
 laidMet_of_run' 8 (by kernel_rfl) (by kernel_rfl)
theorem tabs {W:World} (h:laidMet Tryz.prog Rows.guardValuesRow.laid W):Lm.Tabs W :=
 utf8Tabs_of_reads (ρ:=Tryz.lays197_ren) { Tryz.lays197 with } ⟨by kernel_rfl,by kernel_rfl,by kernel_rfl,by kernel_rfl,by kernel_rfl,by kernel_rfl,by kernel_rfl⟩
  (Lib.laidMet.reads h (show ("unicode/utf8.first", Lib.firstData) ∈ Rows.guardValuesRow.laid from by
   rw [show Lib.firstData=Rows.laid_unicode_utf8_first from by kernel_rfl]
   exact .tail _ (.head _)))
  (Lib.laidMet.reads h (show ("unicode/utf8.acceptRanges", Lib.acceptData) ∈ Rows.guardValuesRow.laid from by
   rw [show Lib.acceptData=Rows.laid_unicode_utf8_acceptRanges from by kernel_rfl]
   exact .head _))
theorem reads (os:Os) {H:Type} (enc:TypeId × Value→H):∃ places,DataW.whole enc Tryz.prog ((laidWorld os).forCall (fun _ _=>0) ⟨#[],#[.string ⟨#[]⟩,.slice none 0 0,.slice none 0 0],[]⟩).memory Tryz.f3.params.toList Rows.guardValuesSpec.vars false (#[.string ⟨#[]⟩,.slice none 0 0,.slice none 0 0]:Array Value).toList 8=some ([.lit (.string []),.nil,.nil],[],places) :=
 ⟨[],by kernel_rfl⟩
set_option linter.unusedVariables false in
set_option maxRecDepth 100000 in
theorem lifted (os:Os) (started:os.Started) (H:Type) (enc:TypeId × Value→H) (F:Stop.Interp) :
  ReturnsInHanded {} Tryz.checked os 3 .any ((OpenSpec.ofChange Rows.guardValuesSpec).preRow enc Tryz.prog Tryz.f3 Rows.guardValuesRow.domain false Rows.guardValuesRow.laid) (((OpenSpec.ofChange Rows.guardValuesSpec).at F).post enc Tryz.prog Tryz.f3 false true false false):=by
 obtain ⟨places,hx⟩:=reads os enc
 refine returnsInHanded_of_row (C:=Tryz.checked) (s:=(OpenSpec.ofChange Rows.guardValuesSpec)) own started (by kernel_rfl) Tryz.func3
  (witness_row_at (enc:=enc) (C:=Tryz.checked) false (laidWorld os) #[.string ⟨#[]⟩,.slice none 0 0,.slice none 0 0] rfl (by kernel_rfl) (by kernel_rfl) (by kernel_rfl)
   (OpenSpec.preRow_of_cond 8 hx (by kernel_rfl) (fun k hk=>by cases hk) (by kernel_rfl) (laid_met os))) ?_
 intro W base args ds gs before hval0 hW hcnd0 hcond hsz0 hL hj2 hj3
 have hTabs:Lm.Tabs W:=tabs hL
 have hval:∀ (j:Nat) t v,Tryz.f3.params[j]? = some t→args[j]? = some v→Value.okWide Tryz.prog W .any base t v:=hval0
 have hW' := hW
 obtain ⟨p,q,hA0,hV,rfl,hfz,hnd⟩:=hW
 have hA:DataW.TrodAll enc Tryz.prog W 0 (fun _=>true) true Tryz.f3.params.toList args.toList ds p:=hA0
 have hsz:(DataW.weightsEach Tryz.prog (Tryz.f3.params.toList ++ Rows.guardValuesSpec.plain.varTypes Tryz.prog) (ds ++ gs)).all (·≤reachBytes)=true:=hsz0
 rw [Tryz.params3] at hA hval hsz
 obtain ⟨v0,vs0,d0,ds0,p0,q0,hargs,rfl,rfl,h0,r0⟩:=trodAll_cons hA
 obtain ⟨v1,vs1,d1,ds1,p1,q1,rfl,rfl,rfl,h1,r1⟩:=trodAll_cons r0
 obtain ⟨v2,vs2,d2,ds2,p2,q2,rfl,rfl,rfl,h2,r2⟩:=trodAll_cons r1
 obtain ⟨rfl,rfl,rfl⟩:=trodAll_nil r2
 obtain rfl:args = #[v0,v1,v2]:=by cases args;simp_all
 obtain ⟨rfl,rfl⟩:=trodVars_none hV
 obtain ⟨a0,rfl,rfl,rfl,w0⟩:=open_string Tryz.underlying9 (hval 0 9 v0 rfl rfl) h0
 obtain ⟨a1,len1,cap1,rfl⟩:=okWide_slice Tryz.underlying22 (hval 1 22 v1 rfl rfl)
 have k1:=h1
 have lt1:∀ x ∈ p1,x.block<W.heap.size:=by obtain ⟨m,hm⟩:=k1;exact DataW.trod_lt m _ _ _ hm
 obtain ⟨z1,w1⟩:∃ ss,Lm.Strs W (.slice a1 len1 cap1) ss:=by
  obtain ⟨fuel,hf⟩:=h1
  have hf' : DataW.trod enc Tryz.prog W 0 (fun _=>true) true fuel 22 [.slice a1 len1 cap1]=some (d1,p1):=by simpa [Value.cells] using hf
  rcases open_strings Tryz.underlying22 Tryz.underlying9 (by kernel_rfl) hf' with ⟨hcs,_⟩ | ⟨x,l,c,ss,hcs,_,hl,hm,hz,_,hcell,_⟩
  ·obtain ⟨rfl,rfl,rfl⟩:a1=none∧len1=0∧cap1=0:=by simpa using hcs
   exact ⟨[],⟨none,0,rfl,Nat.le_refl _,by omega,rfl,.inl rfl⟩⟩
  ·obtain ⟨rfl,rfl,rfl⟩:a1=some x∧len1=l∧cap1=c:=by simpa using hcs
   have hz' : ss.length=cap1:=by simpa using hz
   exact ⟨ss.take len1,Lm.aq2 hl hm hz' hcell⟩
 obtain ⟨a2,len2,cap2,rfl⟩:=okWide_slice Tryz.underlying23 (hval 2 23 v2 rfl rfl)
 have k2:=h2
 have lt2:∀ x ∈ p2,x.block<W.heap.size:=by obtain ⟨m,hm⟩:=k2;exact DataW.trod_lt m _ _ _ hm
 obtain ⟨z2,w2,b2⟩:∃ es,Lm.Rw W (.slice a2 len2 cap2) es∧∀ e ∈ es,e.m≤35184372088832:=by
  obtain ⟨fuel,hf⟩:=h2
  refine Lm.amq (x:=(d2,p2)) (by simpa [Value.cells] using hf) (fun k hk=>?_)
  have:=List.all_eq_true.1 hsz k (DataW.weights_mem_each (j:=2) (t:=23) (d:=d2) rfl rfl k hk)
  simpa using this
 clear hA0 hval0
 refine (Lm.avi W hTabs a0 (.slice a1 len1 cap1) z1 a2 len2 cap2 z2 w1 w2 b2).mono fun e W' ⟨he,bel⟩=>?_
 subst he
 exact ⟨_,rfl,_,_,_,[],_,[],hW',trodAll_mk1 (shut_bool Tryz.underlying4 _),(trodAll_cons_mk (shut_string Tryz.underlying9 w0) (trodAll_cons_mk (Below.trod laidOut (by kernel_rfl) (of_decide_eq_true (by kernel_rfl)) k1 bel lt1) (trodAll_cons_mk (Below.trod laidOut (by kernel_rfl) (of_decide_eq_true (by kernel_rfl)) k2 bel lt2) trodAll_mk0))),rfl,bel.frame _,fun h=>by cases h⟩
theorem said:Rows.GuardValuesSaid :=
 OpenClaim.holds_of_cond 3 Tryz.f3 rfl rfl rfl rfl rfl rfl rfl ⟨rfl,rfl,rfl,rfl,rfl⟩ rfl rfl rfl rfl rfl (by kernel_rfl) Tryz.func3 (by kernel_rfl)
  (of_decide_eq_true (by kernel_rfl)) (by unfold Func.isWrapper;first | (rw [if_pos (by decide +kernel)];kernel_rfl) | (rw [if_neg (by decide +kernel)];exact ⟨rfl,rfl⟩))
  (fun os started H enc _ F=>by rw [OpenClaim.pre_eq_preRow];exact lifted os started H enc F)
theorem plain (f : FuncId) (fn : Func) (hf : Tryz.pinned.checked.prog.funcNamed "rafter/rafterlaw09.GuardValues" = some f) (hfn : Tryz.pinned.checked.prog.funcs[f]? = some fn) :
  true=Tryz.pinned.checked.prog.looks []∧∀ (j:Nat) t,fn.params[j]? = some t→Tryz.pinned.checked.prog.wantsStandIn t=false:=by
 obtain rfl : f = 3 := Option.some.inj ((show Tryz.prog.funcNamed "rafter/rafterlaw09.GuardValues" = some 3 by kernel_rfl).symm.trans hf) |>.symm
 obtain rfl:fn=Tryz.f3:=(Option.some.inj (Tryz.func3.symm.trans hfn)).symm
 refine ⟨by kernel_rfl,fun j t ht=>?_⟩
 rw [Tryz.params3] at ht
 have hm:=Array.mem_of_getElem? ht
 simp at hm
 rcases hm with rfl | rfl | rfl
 ·exact (show Tryz.prog.wantsStandIn 9=false by kernel_rfl)
 ·exact (show Tryz.prog.wantsStandIn 22=false by kernel_rfl)
 ·exact (show Tryz.prog.wantsStandIn 23=false by kernel_rfl)
theorem card:Rows.GuardValuesCardSaid :=
 Claim7.holds_tied_plain_at .later [] _ _ _ _ said (fun _ h=>by cases h) (by kernel_rfl) (fun _ h=>by cases h) guardValues_row_tie rfl ⟨rfl,rfl⟩ (by kernel_rfl) rfl plain (by kernel_rfl)
end guardValuesLaw
theorem guardValues_card:Rows.GuardValuesCardSaid:=guardValuesLaw.card
#print axioms guardValues_card
end Go.Proofs.YtgclhjjmleiggaaGreatDoor
