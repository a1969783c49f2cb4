/-
  The given statement on RatioBack, for every input: the call answers true, and each argument reads behind it as it read before; and its card. Its condition: the two tables of unicode/utf8 are laid as the row lists them; the card ties that to the program's text. Beside it: Single operations on texts, in regions over frames that are not written out. A minus ahead of a text, by its bytes and by its first rune. No program is named here. What the library's utf8.DecodeRuneInString does, at this program. A minus ahead of a text: whole.splitMinus. The number that a text says: whole.Parse; the document's Number and Parse. Texts of whole numbers: whole.Text, the document's Text. A whole number's text, read again. No walk is here. A text cut at its first slash: what the library's Cut answers, and by counting. No program is named here. What the library's strings.Cut does, at this program. WholeBack answers true, whatever number and int it is handed. Texts of fractions: ratio.Parse, ratio.Text. Texts of fractions: ratio.Text; the document's Parse and Text. The document's Parse of a fraction; a fraction copied. A fraction's text, read again. No walk is here. Guards that ask for false, and what is picked behind them. RatioBack answers true, whatever fraction it is handed.
-/
import Derived.Shelf.Unicode.DecodeSlow
import Derived.Shelf.Unicode.DecodeAny
import Derived.Shelf.Lay
import Derived.Lib.LaidU8
import Derived.Test.YtdiiankcjgoecaaDoorProg
import Derived.Shelf.Strings.Shaped
import Derived.Shelf.LaysM
import Derived.Deep.LoopGhost
import Derived.Test.YtdiiankcjgoecaaDoorRows
import Derived.Test.YtdiiankcjgoecaaDoorCards
import Derived.Test.YtdiiankcjgoecaaDoorTie
import Derived.ProofKit
import Derived.OpenShut
import Derived.ShutString
import Derived.ChangeOld
import Derived.SizedLaws
import Derived.Lib.SmallJoins
import Derived.Lib.LaidIn
import Derived.Deep.DeepHandedRow
import Derived.Test.YtdiiankcjgoecaaDoorRBkLawZ2
namespace Go.Proofs.YtdiiankcjgoecaaDoor
namespace Lm
open Go Go.RowKit
def IfS (P : Prop) (p : Says) : Says := fun v w => P → p v w
theorem IfS.mono4 {P : Prop} {p : Says} (h : Mono4 p) : Mono4 (IfS P p) := fun v w w' hr h' hP => h v w w' hr (h' hP)
section
variable {dst : Option Tmp} {ty : TypeId} {pos : String} {after : Array Edge} {guard : Option (Nat × Bool)} {a : Act} {w : World} {ats : Array TypeId} {i j : Nat}
theorem op_eql32k {u v : Int} (h1 : a.eval (.tmp i) = .int .i32 u) :
    Does Tryd.prog { dst, op := .binOp .eql 21 (.tmp i) (.const (.int .i32 v)) 21, type := ty, pos, after, guard } a.eval w fun v' w' => Below w.heap.size w w' ∧ Eqs (.bool (decide (u = v))) v' w' := by
  refine does_bin (v := .bool (decide (u = v))) ?_ ?_ ⟨Below.refl _ _, rfl⟩
  · rw [h1]; simp [go_sem, Act.eval]
  · rw [h1]; simp [go_sem, Act.eval]; rfl
theorem op_eql32t {u v : Int} (h1 : a.eval (.tmp i) = .int .i32 u) (h : u = v) :
    Does Tryd.prog { dst, op := .binOp .eql 21 (.tmp i) (.const (.int .i32 v)) 21, type := ty, pos, after, guard } a.eval w fun v' w' => Below w.heap.size w w' ∧ Eqs (.bool true) v' w' :=
  (op_eql32k h1).mono fun _ _ ⟨hb, e⟩ => ⟨hb, by rw [Eqs, show _ = _ from e, decide_eq_true h]⟩
theorem op_eql32f {u v : Int} (h1 : a.eval (.tmp i) = .int .i32 u) (h : u ≠ v) :
    Does Tryd.prog { dst, op := .binOp .eql 21 (.tmp i) (.const (.int .i32 v)) 21, type := ty, pos, after, guard } a.eval w fun v' w' => Below w.heap.size w w' ∧ Eqs (.bool false) v' w' :=
  (op_eql32k h1).mono fun _ _ ⟨hb, e⟩ => ⟨hb, by rw [Eqs, show _ = _ from e, decide_eq_false h]⟩
theorem op_eql8k {u v : Int} (h1 : a.eval (.tmp i) = .int .u8 u) :
    Does Tryd.prog { dst, op := .binOp .eql 5 (.tmp i) (.const (.int .u8 v)) 5, type := ty, pos, after, guard } a.eval w fun v' w' => Below w.heap.size w w' ∧ Eqs (.bool (decide (u = v))) v' w' := by
  refine does_bin (v := .bool (decide (u = v))) ?_ ?_ ⟨Below.refl _ _, rfl⟩
  · rw [h1]; simp [go_sem, Act.eval]
  · rw [h1]; simp [go_sem, Act.eval]; rfl
theorem op_lens {s : ByteArray} (h : a.eval (.tmp i) = .string s) : Does Tryd.prog { dst, op := .call { callee := .builtin .len, args := #[.tmp i], argTypes := #[9] }, type := ty, pos, after, guard } a.eval w fun v' w' => Below w.heap.size w w' ∧ Eqs (.int .i64 (s.size : Int)) v' w' := by
  have e : (execOp a.eval { dst, op := .call { callee := .builtin .len, args := #[.tmp i], argTypes := #[9] }, type := ty, pos, after, guard }).run Tryd.prog w = .ok (.value (.int .i64 (s.size : Int))) w := by
    have h' : a.tmps[i]?.getD undef = .string s := by simpa [Act.eval] using h
    simp [go_sem, h']
  refine ⟨?_⟩
  unfold Turns
  rw [e]
  exact ⟨Below.refl _ _, rfl⟩
theorem op_slst {s : ByteArray} {x : Operand} {k : Nat} (h : a.eval (.tmp i) = .string s) (hx : a.eval x = .int .i64 (k : Int)) (hk : k ≤ s.size) : Does Tryd.prog { dst, op := .slice 9 (.tmp i) (some x) none none, type := ty, pos, after, guard } a.eval w fun v' w' => Below w.heap.size w w' ∧ Eqs (.string (s.extract k s.size)) v' w' := by
  have e : (execOp a.eval { dst, op := .slice 9 (.tmp i) (some x) none none, type := ty, pos, after, guard }).run Tryd.prog w = .ok (.value (.string (s.extract k s.size))) w := by
    simp only [execOp, Option.map, h, hx]
    go_simp
  refine ⟨?_⟩
  unfold Turns
  rw [e]
  exact ⟨Below.refl _ _, rfl⟩
end
end Lm
end Go.Proofs.YtdiiankcjgoecaaDoor

namespace Go.Proofs.YtdiiankcjgoecaaDoor
namespace Lm
open Go Go.RowKit
def msplit (s : ByteArray) : Bool × ByteArray :=
  if 3 ≤ s.size ∧ (s.get! 0).toNat = 226 ∧ (s.get! 1).toNat = 136 ∧ (s.get! 2).toNat = 146 then (true, s.extract 3 s.size)
  else if 0 < s.size ∧ (s.get! 0).toNat = 45 then (true, s.extract 1 s.size)
  else (false, s)
theorem decN (s : ByteArray) (h : 0 < s.size) : Lib.decodeGo s = Lib.decodeN s.size (s.get! 0).toNat (s.get! 1).toNat (s.get! 2).toNat (s.get! 3).toNat := by
  rw [Lib.decodeGo, if_neg (by omega), Lib.decode_at]
  rfl
theorem decN_45 (n b0 b1 b2 b3 : Nat) : (Lib.decodeN n b0 b1 b2 b3).1 = 45 ↔ b0 = 45 := by
  unfold Lib.decodeN
  repeat' split
  all_goals first | (simp only; done) | (simp only; omega)
theorem decN_45w (n b1 b2 b3 : Nat) : Lib.decodeN n 45 b1 b2 b3 = (45, 1) := by simp [Lib.decodeN]
theorem decN_8722 (n b0 b1 b2 b3 : Nat) : (Lib.decodeN n b0 b1 b2 b3).1 = 8722 ↔ 3 ≤ n ∧ b0 = 226 ∧ b1 = 136 ∧ b2 = 146 := by
  unfold Lib.decodeN
  repeat' split
  all_goals (simp only; omega)
theorem decN_8722w {n b3 : Nat} (h : 3 ≤ n) : Lib.decodeN n 226 136 146 b3 = (8722, 3) := by
  unfold Lib.decodeN
  rw [if_neg (by omega), if_neg (by omega), if_pos (by omega), if_pos (by omega)]
theorem dec_45 (s : ByteArray) : (Lib.decodeGo s).1 = 45 ↔ 0 < s.size ∧ (s.get! 0).toNat = 45 := by
  by_cases h : 0 < s.size
  · rw [decN s h, decN_45]; simp [h]
  · rw [Lib.decodeGo, if_pos (by omega)]; simp [h]
theorem dec_8722 (s : ByteArray) : (Lib.decodeGo s).1 = 8722 ↔ 3 ≤ s.size ∧ (s.get! 0).toNat = 226 ∧ (s.get! 1).toNat = 136 ∧ (s.get! 2).toNat = 146 := by
  by_cases h : 0 < s.size
  · rw [decN s h, decN_8722]
  · rw [Lib.decodeGo, if_pos (by omega)]
    constructor
    · intro h; simp at h
    · intro h; omega
theorem msplit_ways (s : ByteArray) : ((Lib.decodeGo s = (8722, 3) ∧ 3 ≤ s.size ∧ (s.get! 0).toNat = 226 ∧ (s.get! 1).toNat = 136 ∧ (s.get! 2).toNat = 146) ∧ msplit s = (true, s.extract 3 s.size)) ∨
    ((Lib.decodeGo s = (45, 1) ∧ 0 < s.size ∧ (s.get! 0).toNat = 45) ∧ msplit s = (true, s.extract 1 s.size)) ∨
    (((Lib.decodeGo s).1 ≠ 45 ∧ (Lib.decodeGo s).1 ≠ 8722 ∧ ¬ (3 ≤ s.size ∧ (s.get! 0).toNat = 226 ∧ (s.get! 1).toNat = 136 ∧ (s.get! 2).toNat = 146) ∧ ¬ (0 < s.size ∧ (s.get! 0).toNat = 45)) ∧ msplit s = (false, s)) := by
  by_cases h1 : 3 ≤ s.size ∧ (s.get! 0).toNat = 226 ∧ (s.get! 1).toNat = 136 ∧ (s.get! 2).toNat = 146
  · refine .inl ⟨⟨?_, h1⟩, by rw [msplit, if_pos h1]⟩
    rw [decN s (by omega), h1.2.1, h1.2.2.1, h1.2.2.2]
    exact decN_8722w h1.1
  · by_cases h2 : 0 < s.size ∧ (s.get! 0).toNat = 45
    · refine .inr (.inl ⟨⟨?_, h2⟩, by rw [msplit, if_neg h1, if_pos h2]⟩)
      rw [decN s h2.1, h2.2]
      exact decN_45w _ _ _ _
    · exact .inr (.inr ⟨⟨fun e => h2 ((dec_45 s).1 e), fun e => h1 ((dec_8722 s).1 e), h1, h2⟩, by rw [msplit, if_neg h1, if_neg h2]⟩)
end Lm
end Go.Proofs.YtdiiankcjgoecaaDoor

namespace Go.Proofs
open Go.Shelf
shelf_lay Lays.n197 Nm 197 at Tryd as Tryd.lays197
namespace YtdiiankcjgoecaaDoor
namespace Lm
open Go Go.RowKit
def Tabs (w : World) : Prop := Lib.Utf8Tabs (Tryd.lays197_ren.g 3) (Tryd.lays197_ren.g 4) w
theorem Tabs.below {w w' : World} (h : Tabs w) (hb : Below w.heap.size w w') : Tabs w' := Utf8Tabs_below h hb
theorem decode_any (w : World) (s : ByteArray) (hT : Tabs w) :
    Calls Tryd.prog 83 #[.string s] w fun e w' => e = .returned (.tuple #[.int .i32 (Lib.decodeGo s).1, .int .i64 (Lib.decodeGo s).2]) ∧ Below w.heap.size w w' := Any.utf8_DecodeRuneInString Tryd.lays197 s w hT
end Lm
end YtdiiankcjgoecaaDoor
end Go.Proofs

namespace Go.Proofs.YtdiiankcjgoecaaDoor
namespace Lm
open Go Go.RowKit
section
variable {dst : Option Tmp} {ty : TypeId} {pos : String} {after : Array Edge} {guard : Option (Nat × Bool)} {a : Act} {w : World} {ats : Array TypeId} {i j : Nat}
theorem has_decode : Has Tryd.prog 83 := by unfold Has; kernel_rfl
theorem op_decode {s : ByteArray} {R : Int} {K : Nat} (h : a.eval (.tmp i) = .string s) (hT : Tabs w) (hd : (((Lib.decodeGo s).1 : Nat) : Int) = R ∧ (Lib.decodeGo s).2 = K) :
    Does Tryd.prog { dst, op := .call { callee := .value (.func 83), args := #[.tmp i], argTypes := ats }, type := ty, pos, after, guard } a.eval w fun v w' => Below w.heap.size w w' ∧ Tup2 (Eqs (.int .i32 R)) (Eqs (.int .i64 (K : Int))) v w' := by
  refine does_call has_decode _ (by simp only [List.map_toArray, List.map_cons, List.map_nil, h]) ((decode_any w s hT).mono ?_)
  rintro e w' ⟨rfl, hb⟩
  obtain ⟨rfl, rfl⟩ := hd
  exact ⟨_, rfl, hb, _, _, rfl, rfl, rfl⟩
end
set_option maxRecDepth 20000 in
set_option maxHeartbeats 1000000 in
theorem split_z (w : World) (s : ByteArray) (hT : Tabs w) :
    Calls Tryd.prog 42 #[.string s] w fun e w' => e = .returned (.tuple #[.bool (msplit s).1, .string (msplit s).2]) ∧ Below w.heap.size w w' := by
  rcases msplit_ways s with ⟨⟨hd0, h3⟩, hm⟩ | ⟨⟨hd0, h3⟩, hm⟩ | ⟨⟨hn1', hn2', _, _⟩, hm⟩
  · skip
    go_enter Tryd.func42, Tryd.ntmps42
    generalize hA : (Act.mk _ _) = aa
    have hn : aa.tmps.size = 19 := by rw [← hA]; rfl
    have hd : aa.defers = [] := by rw [← hA]
    have f0 : aa.eval (.tmp 0) = .string s := by rw [← hA]; rfl
    clear hA
    have HB : Below w.heap.size w w := Below.refl _ _
    refine wp_seq ?_
    refine region4 [some 2, some 3] [Eqs ((.bool false)), Eqs ((.string ⟨#[]⟩))] [] [] (by kernel_rfl) hn rfl (by kernel_rfl) (by kernel_rfl) (by kernel_rfl) (by kernel_rfl) (by kernel_rfl) (by kernel_rfl) ⟨Eqs.mono4 _, Eqs.mono4 _, trivial⟩ ok_nil (IsOld.all (bx := []) trivial) (DisOld.all (bx := []) trivial) ?_ ?_
    · exact ⟨.norm 2 rfl rfl rfl (fun a_ w_ hn_ hBt hr hR hD hO hS => op_assign rfl),
        .norm 3 rfl rfl rfl (fun a_ w_ hn_ hBt hr hR hD hO hS => op_assign rfl),
        trivial⟩
    intro a1 w1 gs1 hn1 hd1 hBt hr hR hP hX hU
    replace hn := hn1; replace hd := hd1.trans hd
    replace f0 := (hR 0 rfl).trans f0
    have e2 : a1.eval (.tmp 2) = (.bool false) := hP 0 (by decide)
    have f2 := e2
    have e3 : a1.eval (.tmp 3) = (.string ⟨#[]⟩) := hP 1 (by decide)
    have f3 := e3
    replace HB := HB.trans (hBt.below HB.size (UpOld.all (bx := []) trivial))
    clear hBt hr hR hP hX hU
    refine wp_seq ?_
    refine region4 [some 7, some 8, some 6, some 9, some 10, some 4, some 5] [Eqs (.string s), Tup2 (Eqs (.int .i32 8722)) (Eqs (.int .i64 (3 : Int))), Tup2 (Eqs (.int .i32 8722)) (Eqs (.int .i64 (3 : Int))), Eqs (.int .i32 8722), Eqs (.int .i64 (3 : Int)), Eqs (.int .i32 8722), Eqs (.int .i64 (3 : Int))] [] [] (by kernel_rfl) hn rfl (by kernel_rfl) (by kernel_rfl) (by kernel_rfl) (by kernel_rfl) (by kernel_rfl) (by kernel_rfl) ⟨Eqs.mono4 _, Tup2.mono4 (Eqs.mono4 _) (Eqs.mono4 _), Tup2.mono4 (Eqs.mono4 _) (Eqs.mono4 _), Eqs.mono4 _, Eqs.mono4 _, Eqs.mono4 _, Eqs.mono4 _, trivial⟩ ok_nil (IsOld.all (bx := []) trivial) (DisOld.all (bx := []) trivial) ?_ ?_
    · exact ⟨.norm 7 rfl rfl rfl (fun a_ w_ hn_ hBt hr hR hD hO hS => op_mv ((hR 0 rfl).trans f0)),
        .norm 8 rfl rfl rfl (fun a_ w_ hn_ hBt hr hR hD hO hS => op_decode (show a_.eval (.tmp 7) = .string s from hD 0 rfl) (hT.below (HB.trans (hBt.below HB.size (UpOld.all (bx := []) trivial)))) ⟨by rw [hd0]; rfl, by rw [hd0]⟩),
        .norm 6 rfl rfl rfl (fun a_ w_ hn_ hBt hr hR hD hO hS => op_mvp (p := Tup2 (Eqs (.int .i32 8722)) (Eqs (.int .i64 (3 : Int)))) (show Tup2 (Eqs (.int .i32 8722)) (Eqs (.int .i64 (3 : Int))) (a_.eval (.tmp 8)) w_ from hD 1 rfl)),
        .norm 9 rfl rfl rfl (fun a_ w_ hn_ hBt hr hR hD hO hS => op_ex20 (show Tup2 (Eqs (.int .i32 8722)) (Eqs (.int .i64 (3 : Int))) (a_.eval (.tmp 6)) w_ from hD 2 rfl)),
        .norm 10 rfl rfl rfl (fun a_ w_ hn_ hBt hr hR hD hO hS => op_ex21 (show Tup2 (Eqs (.int .i32 8722)) (Eqs (.int .i64 (3 : Int))) (a_.eval (.tmp 6)) w_ from hD 2 rfl)),
        .norm 4 rfl rfl rfl (fun a_ w_ hn_ hBt hr hR hD hO hS => op_assign (show a_.eval (.tmp 9) = .int .i32 8722 from hD 3 rfl)),
        .norm 5 rfl rfl rfl (fun a_ w_ hn_ hBt hr hR hD hO hS => op_assign (show a_.eval (.tmp 10) = .int .i64 (3 : Int) from hD 4 rfl)),
        trivial⟩
    intro a2 w2 gs2 hn2 hd2 hBt hr hR hP hX hU
    replace hn := hn2; replace hd := hd2.trans hd
    replace f0 := (hR 0 rfl).trans f0
    replace f2 := (hR 2 rfl).trans f2
    replace f3 := (hR 3 rfl).trans f3
    have e4 : a2.eval (.tmp 4) = .int .i32 8722 := hP 5 (by decide)
    have f4 := e4
    have e5 : a2.eval (.tmp 5) = .int .i64 (3 : Int) := hP 6 (by decide)
    have f5 := e5
    replace HB := HB.trans (hBt.below HB.size (UpOld.all (bx := []) trivial))
    clear hBt hr hR hP hX hU
    refine wp_seq ?_
    refine wp_seq ?_
    refine region4 [some 11] [Eqs (.int .i32 8722)] [] [] (by kernel_rfl) hn rfl (by kernel_rfl) (by kernel_rfl) (by kernel_rfl) (by kernel_rfl) (by kernel_rfl) (by kernel_rfl) ⟨Eqs.mono4 _, trivial⟩ ok_nil (IsOld.all (bx := []) trivial) (DisOld.all (bx := []) trivial) ?_ ?_
    · exact ⟨.norm 11 rfl rfl rfl (fun a_ w_ hn_ hBt hr hR hD hO hS => op_mv ((hR 4 rfl).trans f4)),
        trivial⟩
    intro a3 w3 gs3 hn3 hd3 hBt hr hR hP hX hU
    replace hn := hn3; replace hd := hd3.trans hd
    replace f0 := (hR 0 rfl).trans f0
    replace f2 := (hR 2 rfl).trans f2
    replace f3 := (hR 3 rfl).trans f3
    replace f5 := (hR 5 rfl).trans f5
    have e11 : a3.eval (.tmp 11) = .int .i32 8722 := hP 0 (by decide)
    have f11 := e11
    replace HB := HB.trans (hBt.below HB.size (UpOld.all (bx := []) trivial))
    clear hBt hr hR hP hX hU
    refine wp_block ?_
    refine wp_seq ?_
    refine wp_seq ?_
    refine region4 [some 13, some 12] [Eqs (.bool false), Eqs (.bool false)] [] [] (by kernel_rfl) hn rfl (by kernel_rfl) (by kernel_rfl) (by kernel_rfl) (by kernel_rfl) (by kernel_rfl) (by kernel_rfl) ⟨Eqs.mono4 _, Eqs.mono4 _, trivial⟩ ok_nil (IsOld.all (bx := []) trivial) (DisOld.all (bx := []) trivial) ?_ ?_
    · exact ⟨.norm 13 rfl rfl rfl (fun a_ w_ hn_ hBt hr hR hD hO hS => op_eql32f ((hR 11 rfl).trans f11) (by decide)),
        .norm 12 rfl rfl rfl (fun a_ w_ hn_ hBt hr hR hD hO hS => op_assign (show a_.eval (.tmp 13) = .bool false from hD 0 rfl)),
        trivial⟩
    intro a4 w4 gs4 hn4 hd4 hBt hr hR hP hX hU
    replace hn := hn4; replace hd := hd4.trans hd
    replace f0 := (hR 0 rfl).trans f0
    replace f2 := (hR 2 rfl).trans f2
    replace f3 := (hR 3 rfl).trans f3
    replace f5 := (hR 5 rfl).trans f5
    replace f11 := (hR 11 rfl).trans f11
    have e12 : a4.eval (.tmp 12) = .bool false := hP 1 (by decide)
    have f12 := e12
    replace HB := HB.trans (hBt.below HB.size (UpOld.all (bx := []) trivial))
    clear hBt hr hR hP hX hU
    refine wp_cond_false f12 ?_
    refine region4 [some 14, some 12] [Eqs (.bool true), Eqs (.bool true)] [] [] (by kernel_rfl) hn rfl (by kernel_rfl) (by kernel_rfl) (by kernel_rfl) (by kernel_rfl) (by kernel_rfl) (by kernel_rfl) ⟨Eqs.mono4 _, Eqs.mono4 _, trivial⟩ ok_nil (IsOld.all (bx := []) trivial) (DisOld.all (bx := []) trivial) ?_ ?_
    · exact ⟨.norm 14 rfl rfl rfl (fun a_ w_ hn_ hBt hr hR hD hO hS => op_eql32t ((hR 11 rfl).trans f11) rfl),
        .norm 12 rfl rfl rfl (fun a_ w_ hn_ hBt hr hR hD hO hS => op_assign (show a_.eval (.tmp 14) = .bool true from hD 0 rfl)),
        trivial⟩
    intro a5 w5 gs5 hn5 hd5 hBt hr hR hP hX hU
    replace hn := hn5; replace hd := hd5.trans hd
    replace f0 := (hR 0 rfl).trans f0
    replace f2 := (hR 2 rfl).trans f2
    replace f3 := (hR 3 rfl).trans f3
    replace f5 := (hR 5 rfl).trans f5
    have e12 : a5.eval (.tmp 12) = .bool true := hP 1 (by decide)
    have f12 := e12
    replace HB := HB.trans (hBt.below HB.size (UpOld.all (bx := []) trivial))
    clear hBt hr hR hP hX hU
    refine wp_cond_true f12 ?_
    refine wp_seq ?_
    refine region4 [some 15, some 16, some 17, some 2, some 3] [Eqs (.string s), Eqs (.int .i64 (3 : Int)), Eqs (.string ((s).extract 3 (s).size)), Eqs ((.bool true)), Eqs (.string ((s).extract 3 (s).size))] [] [] (by kernel_rfl) hn rfl (by kernel_rfl) (by kernel_rfl) (by kernel_rfl) (by kernel_rfl) (by kernel_rfl) (by kernel_rfl) ⟨Eqs.mono4 _, Eqs.mono4 _, Eqs.mono4 _, Eqs.mono4 _, Eqs.mono4 _, trivial⟩ ok_nil (IsOld.all (bx := []) trivial) (DisOld.all (bx := []) trivial) ?_ ?_
    · exact ⟨.norm 15 rfl rfl rfl (fun a_ w_ hn_ hBt hr hR hD hO hS => op_mv ((hR 0 rfl).trans f0)),
        .norm 16 rfl rfl rfl (fun a_ w_ hn_ hBt hr hR hD hO hS => op_mv ((hR 5 rfl).trans f5)),
        .norm 17 rfl rfl rfl (fun a_ w_ hn_ hBt hr hR hD hO hS => op_slst (k := 3) (show a_.eval (.tmp 15) = .string s from hD 0 rfl) (show a_.eval (.tmp 16) = .int .i64 (3 : Int) from hD 1 rfl) (by omega)),
        .norm 2 rfl rfl rfl (fun a_ w_ hn_ hBt hr hR hD hO hS => op_assign rfl),
        .norm 3 rfl rfl rfl (fun a_ w_ hn_ hBt hr hR hD hO hS => op_assign (show a_.eval (.tmp 17) = .string ((s).extract 3 (s).size) from hD 2 rfl)),
        trivial⟩
    intro a6 w6 gs6 hn6 hd6 hBt hr hR hP hX hU
    replace hn := hn6; replace hd := hd6.trans hd
    replace f0 := (hR 0 rfl).trans f0
    have e2 : a6.eval (.tmp 2) = (.bool true) := hP 3 (by decide)
    have f2 := e2
    have e3 : a6.eval (.tmp 3) = .string ((s).extract 3 (s).size) := hP 4 (by decide)
    have f3 := e3
    replace HB := HB.trans (hBt.below HB.size (UpOld.all (bx := []) trivial))
    clear hBt hr hR hP hX hU
    refine wp_ret ?_
    repeat (first | refine then_ret ?_ | refine scope_ret ?_ | refine block_ret ?_)
    exact bodyPost_ret (v := .tuple #[.bool true, .string ((s).extract 3 (s).size)]) (res_tt2 rfl f2 f3) hd ⟨by rw [hm], HB⟩
  · skip
    go_enter Tryd.func42, Tryd.ntmps42
    generalize hA : (Act.mk _ _) = aa
    have hn : aa.tmps.size = 19 := by rw [← hA]; rfl
    have hd : aa.defers = [] := by rw [← hA]
    have f0 : aa.eval (.tmp 0) = .string s := by rw [← hA]; rfl
    clear hA
    have HB : Below w.heap.size w w := Below.refl _ _
    refine wp_seq ?_
    refine region4 [some 2, some 3] [Eqs ((.bool false)), Eqs ((.string ⟨#[]⟩))] [] [] (by kernel_rfl) hn rfl (by kernel_rfl) (by kernel_rfl) (by kernel_rfl) (by kernel_rfl) (by kernel_rfl) (by kernel_rfl) ⟨Eqs.mono4 _, Eqs.mono4 _, trivial⟩ ok_nil (IsOld.all (bx := []) trivial) (DisOld.all (bx := []) trivial) ?_ ?_
    · exact ⟨.norm 2 rfl rfl rfl (fun a_ w_ hn_ hBt hr hR hD hO hS => op_assign rfl),
        .norm 3 rfl rfl rfl (fun a_ w_ hn_ hBt hr hR hD hO hS => op_assign rfl),
        trivial⟩
    intro a1 w1 gs1 hn1 hd1 hBt hr hR hP hX hU
    replace hn := hn1; replace hd := hd1.trans hd
    replace f0 := (hR 0 rfl).trans f0
    have e2 : a1.eval (.tmp 2) = (.bool false) := hP 0 (by decide)
    have f2 := e2
    have e3 : a1.eval (.tmp 3) = (.string ⟨#[]⟩) := hP 1 (by decide)
    have f3 := e3
    replace HB := HB.trans (hBt.below HB.size (UpOld.all (bx := []) trivial))
    clear hBt hr hR hP hX hU
    refine wp_seq ?_
    refine region4 [some 7, some 8, some 6, some 9, some 10, some 4, some 5] [Eqs (.string s), Tup2 (Eqs (.int .i32 45)) (Eqs (.int .i64 (1 : Int))), Tup2 (Eqs (.int .i32 45)) (Eqs (.int .i64 (1 : Int))), Eqs (.int .i32 45), Eqs (.int .i64 (1 : Int)), Eqs (.int .i32 45), Eqs (.int .i64 (1 : Int))] [] [] (by kernel_rfl) hn rfl (by kernel_rfl) (by kernel_rfl) (by kernel_rfl) (by kernel_rfl) (by kernel_rfl) (by kernel_rfl) ⟨Eqs.mono4 _, Tup2.mono4 (Eqs.mono4 _) (Eqs.mono4 _), Tup2.mono4 (Eqs.mono4 _) (Eqs.mono4 _), Eqs.mono4 _, Eqs.mono4 _, Eqs.mono4 _, Eqs.mono4 _, trivial⟩ ok_nil (IsOld.all (bx := []) trivial) (DisOld.all (bx := []) trivial) ?_ ?_
    · exact ⟨.norm 7 rfl rfl rfl (fun a_ w_ hn_ hBt hr hR hD hO hS => op_mv ((hR 0 rfl).trans f0)),
        .norm 8 rfl rfl rfl (fun a_ w_ hn_ hBt hr hR hD hO hS => op_decode (show a_.eval (.tmp 7) = .string s from hD 0 rfl) (hT.below (HB.trans (hBt.below HB.size (UpOld.all (bx := []) trivial)))) ⟨by rw [hd0]; rfl, by rw [hd0]⟩),
        .norm 6 rfl rfl rfl (fun a_ w_ hn_ hBt hr hR hD hO hS => op_mvp (p := Tup2 (Eqs (.int .i32 45)) (Eqs (.int .i64 (1 : Int)))) (show Tup2 (Eqs (.int .i32 45)) (Eqs (.int .i64 (1 : Int))) (a_.eval (.tmp 8)) w_ from hD 1 rfl)),
        .norm 9 rfl rfl rfl (fun a_ w_ hn_ hBt hr hR hD hO hS => op_ex20 (show Tup2 (Eqs (.int .i32 45)) (Eqs (.int .i64 (1 : Int))) (a_.eval (.tmp 6)) w_ from hD 2 rfl)),
        .norm 10 rfl rfl rfl (fun a_ w_ hn_ hBt hr hR hD hO hS => op_ex21 (show Tup2 (Eqs (.int .i32 45)) (Eqs (.int .i64 (1 : Int))) (a_.eval (.tmp 6)) w_ from hD 2 rfl)),
        .norm 4 rfl rfl rfl (fun a_ w_ hn_ hBt hr hR hD hO hS => op_assign (show a_.eval (.tmp 9) = .int .i32 45 from hD 3 rfl)),
        .norm 5 rfl rfl rfl (fun a_ w_ hn_ hBt hr hR hD hO hS => op_assign (show a_.eval (.tmp 10) = .int .i64 (1 : Int) from hD 4 rfl)),
        trivial⟩
    intro a2 w2 gs2 hn2 hd2 hBt hr hR hP hX hU
    replace hn := hn2; replace hd := hd2.trans hd
    replace f0 := (hR 0 rfl).trans f0
    replace f2 := (hR 2 rfl).trans f2
    replace f3 := (hR 3 rfl).trans f3
    have e4 : a2.eval (.tmp 4) = .int .i32 45 := hP 5 (by decide)
    have f4 := e4
    have e5 : a2.eval (.tmp 5) = .int .i64 (1 : Int) := hP 6 (by decide)
    have f5 := e5
    replace HB := HB.trans (hBt.below HB.size (UpOld.all (bx := []) trivial))
    clear hBt hr hR hP hX hU
    refine wp_seq ?_
    refine wp_seq ?_
    refine region4 [some 11] [Eqs (.int .i32 45)] [] [] (by kernel_rfl) hn rfl (by kernel_rfl) (by kernel_rfl) (by kernel_rfl) (by kernel_rfl) (by kernel_rfl) (by kernel_rfl) ⟨Eqs.mono4 _, trivial⟩ ok_nil (IsOld.all (bx := []) trivial) (DisOld.all (bx := []) trivial) ?_ ?_
    · exact ⟨.norm 11 rfl rfl rfl (fun a_ w_ hn_ hBt hr hR hD hO hS => op_mv ((hR 4 rfl).trans f4)),
        trivial⟩
    intro a3 w3 gs3 hn3 hd3 hBt hr hR hP hX hU
    replace hn := hn3; replace hd := hd3.trans hd
    replace f0 := (hR 0 rfl).trans f0
    replace f2 := (hR 2 rfl).trans f2
    replace f3 := (hR 3 rfl).trans f3
    replace f5 := (hR 5 rfl).trans f5
    have e11 : a3.eval (.tmp 11) = .int .i32 45 := hP 0 (by decide)
    have f11 := e11
    replace HB := HB.trans (hBt.below HB.size (UpOld.all (bx := []) trivial))
    clear hBt hr hR hP hX hU
    refine wp_block ?_
    refine wp_seq ?_
    refine wp_seq ?_
    refine region4 [some 13, some 12] [Eqs (.bool true), Eqs (.bool true)] [] [] (by kernel_rfl) hn rfl (by kernel_rfl) (by kernel_rfl) (by kernel_rfl) (by kernel_rfl) (by kernel_rfl) (by kernel_rfl) ⟨Eqs.mono4 _, Eqs.mono4 _, trivial⟩ ok_nil (IsOld.all (bx := []) trivial) (DisOld.all (bx := []) trivial) ?_ ?_
    · exact ⟨.norm 13 rfl rfl rfl (fun a_ w_ hn_ hBt hr hR hD hO hS => op_eql32t ((hR 11 rfl).trans f11) rfl),
        .norm 12 rfl rfl rfl (fun a_ w_ hn_ hBt hr hR hD hO hS => op_assign (show a_.eval (.tmp 13) = .bool true from hD 0 rfl)),
        trivial⟩
    intro a4 w4 gs4 hn4 hd4 hBt hr hR hP hX hU
    replace hn := hn4; replace hd := hd4.trans hd
    replace f0 := (hR 0 rfl).trans f0
    replace f2 := (hR 2 rfl).trans f2
    replace f3 := (hR 3 rfl).trans f3
    replace f5 := (hR 5 rfl).trans f5
    replace f11 := (hR 11 rfl).trans f11
    have e12 : a4.eval (.tmp 12) = .bool true := hP 1 (by decide)
    have f12 := e12
    replace HB := HB.trans (hBt.below HB.size (UpOld.all (bx := []) trivial))
    clear hBt hr hR hP hX hU
    refine wp_cond_true f12 ?_
    refine wp_skip ?_
    refine wp_cond_true f12 ?_
    refine wp_seq ?_
    refine region4 [some 15, some 16, some 17, some 2, some 3] [Eqs (.string s), Eqs (.int .i64 (1 : Int)), Eqs (.string ((s).extract 1 (s).size)), Eqs ((.bool true)), Eqs (.string ((s).extract 1 (s).size))] [] [] (by kernel_rfl) hn rfl (by kernel_rfl) (by kernel_rfl) (by kernel_rfl) (by kernel_rfl) (by kernel_rfl) (by kernel_rfl) ⟨Eqs.mono4 _, Eqs.mono4 _, Eqs.mono4 _, Eqs.mono4 _, Eqs.mono4 _, trivial⟩ ok_nil (IsOld.all (bx := []) trivial) (DisOld.all (bx := []) trivial) ?_ ?_
    · exact ⟨.norm 15 rfl rfl rfl (fun a_ w_ hn_ hBt hr hR hD hO hS => op_mv ((hR 0 rfl).trans f0)),
        .norm 16 rfl rfl rfl (fun a_ w_ hn_ hBt hr hR hD hO hS => op_mv ((hR 5 rfl).trans f5)),
        .norm 17 rfl rfl rfl (fun a_ w_ hn_ hBt hr hR hD hO hS => op_slst (k := 1) (show a_.eval (.tmp 15) = .string s from hD 0 rfl) (show a_.eval (.tmp 16) = .int .i64 (1 : Int) from hD 1 rfl) (by omega)),
        .norm 2 rfl rfl rfl (fun a_ w_ hn_ hBt hr hR hD hO hS => op_assign rfl),
        .norm 3 rfl rfl rfl (fun a_ w_ hn_ hBt hr hR hD hO hS => op_assign (show a_.eval (.tmp 17) = .string ((s).extract 1 (s).size) from hD 2 rfl)),
        trivial⟩
    intro a5 w5 gs5 hn5 hd5 hBt hr hR hP hX hU
    replace hn := hn5; replace hd := hd5.trans hd
    replace f0 := (hR 0 rfl).trans f0
    have e2 : a5.eval (.tmp 2) = (.bool true) := hP 3 (by decide)
    have f2 := e2
    have e3 : a5.eval (.tmp 3) = .string ((s).extract 1 (s).size) := hP 4 (by decide)
    have f3 := e3
    replace HB := HB.trans (hBt.below HB.size (UpOld.all (bx := []) trivial))
    clear hBt hr hR hP hX hU
    refine wp_ret ?_
    repeat (first | refine then_ret ?_ | refine scope_ret ?_ | refine block_ret ?_)
    exact bodyPost_ret (v := .tuple #[.bool true, .string ((s).extract 1 (s).size)]) (res_tt2 rfl f2 f3) hd ⟨by rw [hm], HB⟩
  · have hne1 : (((Lib.decodeGo s).1 : Nat) : Int) ≠ 45 := by omega
    have hne2 : (((Lib.decodeGo s).1 : Nat) : Int) ≠ 8722 := by omega
    go_enter Tryd.func42, Tryd.ntmps42
    generalize hA : (Act.mk _ _) = aa
    have hn : aa.tmps.size = 19 := by rw [← hA]; rfl
    have hd : aa.defers = [] := by rw [← hA]
    have f0 : aa.eval (.tmp 0) = .string s := by rw [← hA]; rfl
    clear hA
    have HB : Below w.heap.size w w := Below.refl _ _
    refine wp_seq ?_
    refine region4 [some 2, some 3] [Eqs ((.bool false)), Eqs ((.string ⟨#[]⟩))] [] [] (by kernel_rfl) hn rfl (by kernel_rfl) (by kernel_rfl) (by kernel_rfl) (by kernel_rfl) (by kernel_rfl) (by kernel_rfl) ⟨Eqs.mono4 _, Eqs.mono4 _, trivial⟩ ok_nil (IsOld.all (bx := []) trivial) (DisOld.all (bx := []) trivial) ?_ ?_
    · exact ⟨.norm 2 rfl rfl rfl (fun a_ w_ hn_ hBt hr hR hD hO hS => op_assign rfl),
        .norm 3 rfl rfl rfl (fun a_ w_ hn_ hBt hr hR hD hO hS => op_assign rfl),
        trivial⟩
    intro a1 w1 gs1 hn1 hd1 hBt hr hR hP hX hU
    replace hn := hn1; replace hd := hd1.trans hd
    replace f0 := (hR 0 rfl).trans f0
    have e2 : a1.eval (.tmp 2) = (.bool false) := hP 0 (by decide)
    have f2 := e2
    have e3 : a1.eval (.tmp 3) = (.string ⟨#[]⟩) := hP 1 (by decide)
    have f3 := e3
    replace HB := HB.trans (hBt.below HB.size (UpOld.all (bx := []) trivial))
    clear hBt hr hR hP hX hU
    refine wp_seq ?_
    refine region4 [some 7, some 8, some 6, some 9, some 10, some 4, some 5] [Eqs (.string s), Tup2 (Eqs (.int .i32 (((Lib.decodeGo s).1 : Nat) : Int))) (Eqs (.int .i64 ((Lib.decodeGo s).2 : Int))), Tup2 (Eqs (.int .i32 (((Lib.decodeGo s).1 : Nat) : Int))) (Eqs (.int .i64 ((Lib.decodeGo s).2 : Int))), Eqs (.int .i32 (((Lib.decodeGo s).1 : Nat) : Int)), Eqs (.int .i64 ((Lib.decodeGo s).2 : Int)), Eqs (.int .i32 (((Lib.decodeGo s).1 : Nat) : Int)), Eqs (.int .i64 ((Lib.decodeGo s).2 : Int))] [] [] (by kernel_rfl) hn rfl (by kernel_rfl) (by kernel_rfl) (by kernel_rfl) (by kernel_rfl) (by kernel_rfl) (by kernel_rfl) ⟨Eqs.mono4 _, Tup2.mono4 (Eqs.mono4 _) (Eqs.mono4 _), Tup2.mono4 (Eqs.mono4 _) (Eqs.mono4 _), Eqs.mono4 _, Eqs.mono4 _, Eqs.mono4 _, Eqs.mono4 _, trivial⟩ ok_nil (IsOld.all (bx := []) trivial) (DisOld.all (bx := []) trivial) ?_ ?_
    · exact ⟨.norm 7 rfl rfl rfl (fun a_ w_ hn_ hBt hr hR hD hO hS => op_mv ((hR 0 rfl).trans f0)),
        .norm 8 rfl rfl rfl (fun a_ w_ hn_ hBt hr hR hD hO hS => op_decode (show a_.eval (.tmp 7) = .string s from hD 0 rfl) (hT.below (HB.trans (hBt.below HB.size (UpOld.all (bx := []) trivial)))) ⟨rfl, rfl⟩),
        .norm 6 rfl rfl rfl (fun a_ w_ hn_ hBt hr hR hD hO hS => op_mvp (p := Tup2 (Eqs (.int .i32 (((Lib.decodeGo s).1 : Nat) : Int))) (Eqs (.int .i64 ((Lib.decodeGo s).2 : Int)))) (show Tup2 (Eqs (.int .i32 (((Lib.decodeGo s).1 : Nat) : Int))) (Eqs (.int .i64 ((Lib.decodeGo s).2 : Int))) (a_.eval (.tmp 8)) w_ from hD 1 rfl)),
        .norm 9 rfl rfl rfl (fun a_ w_ hn_ hBt hr hR hD hO hS => op_ex20 (show Tup2 (Eqs (.int .i32 (((Lib.decodeGo s).1 : Nat) : Int))) (Eqs (.int .i64 ((Lib.decodeGo s).2 : Int))) (a_.eval (.tmp 6)) w_ from hD 2 rfl)),
        .norm 10 rfl rfl rfl (fun a_ w_ hn_ hBt hr hR hD hO hS => op_ex21 (show Tup2 (Eqs (.int .i32 (((Lib.decodeGo s).1 : Nat) : Int))) (Eqs (.int .i64 ((Lib.decodeGo s).2 : Int))) (a_.eval (.tmp 6)) w_ from hD 2 rfl)),
        .norm 4 rfl rfl rfl (fun a_ w_ hn_ hBt hr hR hD hO hS => op_assign (show a_.eval (.tmp 9) = .int .i32 (((Lib.decodeGo s).1 : Nat) : Int) from hD 3 rfl)),
        .norm 5 rfl rfl rfl (fun a_ w_ hn_ hBt hr hR hD hO hS => op_assign (show a_.eval (.tmp 10) = .int .i64 ((Lib.decodeGo s).2 : Int) from hD 4 rfl)),
        trivial⟩
    intro a2 w2 gs2 hn2 hd2 hBt hr hR hP hX hU
    replace hn := hn2; replace hd := hd2.trans hd
    replace f0 := (hR 0 rfl).trans f0
    replace f2 := (hR 2 rfl).trans f2
    replace f3 := (hR 3 rfl).trans f3
    have e4 : a2.eval (.tmp 4) = .int .i32 (((Lib.decodeGo s).1 : Nat) : Int) := hP 5 (by decide)
    have f4 := e4
    have e5 : a2.eval (.tmp 5) = .int .i64 ((Lib.decodeGo s).2 : Int) := hP 6 (by decide)
    have f5 := e5
    replace HB := HB.trans (hBt.below HB.size (UpOld.all (bx := []) trivial))
    clear hBt hr hR hP hX hU
    refine wp_seq ?_
    refine wp_seq ?_
    refine region4 [some 11] [Eqs (.int .i32 (((Lib.decodeGo s).1 : Nat) : Int))] [] [] (by kernel_rfl) hn rfl (by kernel_rfl) (by kernel_rfl) (by kernel_rfl) (by kernel_rfl) (by kernel_rfl) (by kernel_rfl) ⟨Eqs.mono4 _, trivial⟩ ok_nil (IsOld.all (bx := []) trivial) (DisOld.all (bx := []) trivial) ?_ ?_
    · exact ⟨.norm 11 rfl rfl rfl (fun a_ w_ hn_ hBt hr hR hD hO hS => op_mv ((hR 4 rfl).trans f4)),
        trivial⟩
    intro a3 w3 gs3 hn3 hd3 hBt hr hR hP hX hU
    replace hn := hn3; replace hd := hd3.trans hd
    replace f0 := (hR 0 rfl).trans f0
    replace f2 := (hR 2 rfl).trans f2
    replace f3 := (hR 3 rfl).trans f3
    replace f5 := (hR 5 rfl).trans f5
    have e11 : a3.eval (.tmp 11) = .int .i32 (((Lib.decodeGo s).1 : Nat) : Int) := hP 0 (by decide)
    have f11 := e11
    replace HB := HB.trans (hBt.below HB.size (UpOld.all (bx := []) trivial))
    clear hBt hr hR hP hX hU
    refine wp_block ?_
    refine wp_seq ?_
    refine wp_seq ?_
    refine region4 [some 13, some 12] [Eqs (.bool false), Eqs (.bool false)] [] [] (by kernel_rfl) hn rfl (by kernel_rfl) (by kernel_rfl) (by kernel_rfl) (by kernel_rfl) (by kernel_rfl) (by kernel_rfl) ⟨Eqs.mono4 _, Eqs.mono4 _, trivial⟩ ok_nil (IsOld.all (bx := []) trivial) (DisOld.all (bx := []) trivial) ?_ ?_
    · exact ⟨.norm 13 rfl rfl rfl (fun a_ w_ hn_ hBt hr hR hD hO hS => op_eql32f ((hR 11 rfl).trans f11) hne1),
        .norm 12 rfl rfl rfl (fun a_ w_ hn_ hBt hr hR hD hO hS => op_assign (show a_.eval (.tmp 13) = .bool false from hD 0 rfl)),
        trivial⟩
    intro a4 w4 gs4 hn4 hd4 hBt hr hR hP hX hU
    replace hn := hn4; replace hd := hd4.trans hd
    replace f0 := (hR 0 rfl).trans f0
    replace f2 := (hR 2 rfl).trans f2
    replace f3 := (hR 3 rfl).trans f3
    replace f5 := (hR 5 rfl).trans f5
    replace f11 := (hR 11 rfl).trans f11
    have e12 : a4.eval (.tmp 12) = .bool false := hP 1 (by decide)
    have f12 := e12
    replace HB := HB.trans (hBt.below HB.size (UpOld.all (bx := []) trivial))
    clear hBt hr hR hP hX hU
    refine wp_cond_false f12 ?_
    refine region4 [some 14, some 12] [Eqs (.bool false), Eqs (.bool false)] [] [] (by kernel_rfl) hn rfl (by kernel_rfl) (by kernel_rfl) (by kernel_rfl) (by kernel_rfl) (by kernel_rfl) (by kernel_rfl) ⟨Eqs.mono4 _, Eqs.mono4 _, trivial⟩ ok_nil (IsOld.all (bx := []) trivial) (DisOld.all (bx := []) trivial) ?_ ?_
    · exact ⟨.norm 14 rfl rfl rfl (fun a_ w_ hn_ hBt hr hR hD hO hS => op_eql32f ((hR 11 rfl).trans f11) hne2),
        .norm 12 rfl rfl rfl (fun a_ w_ hn_ hBt hr hR hD hO hS => op_assign (show a_.eval (.tmp 14) = .bool false from hD 0 rfl)),
        trivial⟩
    intro a5 w5 gs5 hn5 hd5 hBt hr hR hP hX hU
    replace hn := hn5; replace hd := hd5.trans hd
    replace f0 := (hR 0 rfl).trans f0
    replace f2 := (hR 2 rfl).trans f2
    replace f3 := (hR 3 rfl).trans f3
    replace f5 := (hR 5 rfl).trans f5
    have e12 : a5.eval (.tmp 12) = .bool false := hP 1 (by decide)
    have f12 := e12
    replace HB := HB.trans (hBt.below HB.size (UpOld.all (bx := []) trivial))
    clear hBt hr hR hP hX hU
    refine wp_cond_false f12 ?_
    refine wp_skip ?_
    refine block_normal ?_
    refine wp_seq ?_
    refine region4 [some 18, some 2, some 3] [Eqs (.string s), Eqs ((.bool false)), Eqs (.string s)] [] [] (by kernel_rfl) hn rfl (by kernel_rfl) (by kernel_rfl) (by kernel_rfl) (by kernel_rfl) (by kernel_rfl) (by kernel_rfl) ⟨Eqs.mono4 _, Eqs.mono4 _, Eqs.mono4 _, trivial⟩ ok_nil (IsOld.all (bx := []) trivial) (DisOld.all (bx := []) trivial) ?_ ?_
    · exact ⟨.norm 18 rfl rfl rfl (fun a_ w_ hn_ hBt hr hR hD hO hS => op_mv ((hR 0 rfl).trans f0)),
        .norm 2 rfl rfl rfl (fun a_ w_ hn_ hBt hr hR hD hO hS => op_assign rfl),
        .norm 3 rfl rfl rfl (fun a_ w_ hn_ hBt hr hR hD hO hS => op_assign (show a_.eval (.tmp 18) = .string s from hD 0 rfl)),
        trivial⟩
    intro a6 w6 gs6 hn6 hd6 hBt hr hR hP hX hU
    replace hn := hn6; replace hd := hd6.trans hd
    have e2 : a6.eval (.tmp 2) = (.bool false) := hP 1 (by decide)
    have f2 := e2
    have e3 : a6.eval (.tmp 3) = .string s := hP 2 (by decide)
    have f3 := e3
    replace HB := HB.trans (hBt.below HB.size (UpOld.all (bx := []) trivial))
    clear hBt hr hR hP hX hU
    refine wp_ret ?_
    repeat (first | refine then_ret ?_ | refine scope_ret ?_ | refine block_ret ?_)
    exact bodyPost_ret (v := .tuple #[.bool false, .string s]) (res_tt2 rfl f2 f3) hd ⟨by rw [hm], HB⟩
end Lm
end Go.Proofs.YtdiiankcjgoecaaDoor

namespace Go.Proofs.YtdiiankcjgoecaaDoor
namespace Lm
open Go Go.RowKit
open Dm (Err Fine)
open Classical in
noncomputable def kOf (r : ByteArray) : Int := if 5120 < r.size then 2 else if 1 ≤ r.size ∧ Dig (bytesOf r) then 0 else 10
open Classical in
noncomputable def xOf (r : ByteArray) : Int := if Fine r then dval (bytesOf r) else 0
theorem of_err {r : ByteArray} {k : Int} (h : Err r k) : k = kOf r ∧ xOf r = 0 ∧ kOf r ≠ 0 := by
  have hf : ¬ Fine r := fun hf => Dm.err_fine h hf
  have h1 : k = kOf r := by
    rcases h with ⟨rfl, h2⟩ | ⟨rfl, h2, h3⟩
    · rw [kOf, if_pos h2]
    · rw [kOf, if_neg (by omega), if_neg h3]
  refine ⟨h1, by rw [xOf, if_neg hf], ?_⟩
  rw [← h1]
  rcases h with ⟨h1, _⟩ | ⟨h1, _⟩ <;> omega
theorem of_fine {r : ByteArray} (h : Fine r) : kOf r = 0 ∧ xOf r = dval (bytesOf r) := by
  refine ⟨?_, by rw [xOf, if_pos h]⟩
  rw [kOf, if_neg (by have := h.2.1; omega), if_pos ⟨h.1, h.2.2⟩]
theorem p10_le_pw (n : Nat) : p10 n ≤ pw n := by
  induction n with
  | zero => simp [p10, pw]
  | succ n ih =>
    simp only [p10, pw]
    have := pw_pos n
    omega
noncomputable def zOf (s : ByteArray) : Int := sg (msplit s).1 (xOf (msplit s).2)
noncomputable def eOf (s : ByteArray) : Int := kOf (msplit s).2
section
variable {dst : Option Tmp} {ty : TypeId} {pos : String} {after : Array Edge} {guard : Option (Nat × Bool)} {a : Act} {w : World} {ats : Array TypeId} {i j : Nat}
theorem has_split : Has Tryd.prog 42 := by unfold Has; kernel_rfl
theorem op_split {s : ByteArray} (h : a.eval (.tmp i) = .string s) (hT : Tabs w) :
    Does Tryd.prog { dst, op := .call { callee := .value (.func 42), args := #[.tmp i], argTypes := ats }, type := ty, pos, after, guard } a.eval w fun v w' => Below w.heap.size w w' ∧ Tup2 (Eqs (.bool (msplit s).1)) (Eqs (.string (msplit s).2)) v w' := by
  refine does_call has_split _ (by simp only [List.map_toArray, List.map_cons, List.map_nil, h]) ((split_z w s hT).mono ?_)
  rintro e w' ⟨rfl, hb⟩
  exact ⟨_, rfl, hb, _, _, rfl, rfl, rfl⟩
theorem has_lparse : Has Tryd.prog 43 := by unfold Has; kernel_rfl
theorem op_lparse {s : ByteArray} (h : a.eval (.tmp i) = .string s) :
    Does Tryd.prog { dst, op := .call { callee := .value (.func 43), args := #[.tmp i], argTypes := ats }, type := ty, pos, after, guard } a.eval w fun v w' => Below w.heap.size w w' ∧ Tup2 (OutL (xOf s) 6000) (Eqs (.int .i64 (kOf s))) v w' := by
  refine does_call has_lparse _ (by simp only [List.map_toArray, List.map_cons, List.map_nil, h]) ((parse_e w s).mono ?_)
  rintro e w' ⟨⟨k, hk, rfl⟩ | ⟨hf, v, rfl, rs, ho, hc, hv⟩, hb⟩
  · obtain ⟨h1, h2, _⟩ := of_err hk
    refine ⟨_, rfl, hb, _, _, rfl, ?_, by rw [h1]; rfl⟩
    rw [h2]
    exact ⟨none, 0, [], rfl, ⟨sl_nil w', canon_nil, rfl⟩, by simp⟩
  · obtain ⟨h1, h2⟩ := of_fine hf
    refine ⟨_, rfl, hb, _, _, rfl, ?_, by rw [h1]; rfl⟩
    rw [h2]
    obtain ⟨ao, cap, rfl, _⟩ := id ho
    refine ⟨ao, cap, rs, rfl, ⟨ho.sl, hc, hv⟩, ?_⟩
    have h3 := (dval_bounds hf.2.2).2
    rw [bytesOf_length] at h3
    have h4 := canon_len hc (m := s.size) (by rw [hv]; have := p10_le_pw s.size; omega)
    have := hf.2.1
    omega
theorem has_signed : Has Tryd.prog 44 := by unfold Has; kernel_rfl
theorem op_signed0 {b : Bool} {x : Int} {L : Nat} (h1 : a.eval (.tmp i) = .bool b) (h2 : OutL x L (a.eval (.tmp j)) w) (hL : L ≤ 1000000) :
    Does Tryd.prog { dst, op := .call { callee := .value (.func 44), args := #[.tmp i, .tmp j], argTypes := ats }, type := ty, pos, after, guard } a.eval w fun v w' => Below w.heap.size w w' ∧ OutW (sg b x) L v w' := by
  obtain ⟨ao, cap, rs, e, G, l⟩ := h2
  refine does_call has_signed _ (by simp only [List.map_toArray, List.map_cons, List.map_nil, h1, e]) ((signed_g w b ao cap rs x G (by omega)).mono ?_)
  rintro e w' ⟨ng, rfl, hW, hb⟩
  exact ⟨_, rfl, hb, ng, ao, cap, rs, rfl, hW, l⟩
theorem op_neqkE {u v : Int} (h1 : a.eval (.tmp i) = .int .i64 u) :
    Does Tryd.prog { dst, op := .binOp .neq 27 (.tmp i) (.const (.int .i64 v)) 27, type := ty, pos, after, guard } a.eval w fun v' w' => Below w.heap.size w w' ∧ Eqs (.bool (!decide (u = v))) v' w' := by
  refine does_bin (v := .bool (!decide (u = v))) ?_ ?_ ⟨Below.refl _ _, rfl⟩
  · rw [h1]; simp [go_sem, Act.eval]
  · rw [h1]; simp [go_sem, Act.eval]; rfl
end
theorem xOf_zero {r : ByteArray} {b : Bool} (h : kOf r ≠ 0) : sg b (xOf r) = 0 := by
  have hf : ¬ Fine r := fun hf => h (of_fine hf).1
  rw [xOf, if_neg hf]
  cases b <;> rfl
theorem outw_zero (w : World) {L : Nat} : OutW 0 L (.agg #[.bool false, .slice none 0 0]) w := ⟨false, none, 0, [], rfl, ⟨⟨sl_nil w, canon_nil, rfl⟩, rfl⟩, by simp⟩
set_option maxRecDepth 20000 in
set_option maxHeartbeats 1000000 in
theorem wparse_z (w : World) (s : ByteArray) (hT : Tabs w) :
    Calls Tryd.prog 11 #[.string s] w fun e w' => ∃ v, e = .returned v ∧ Tup2 (OutW (zOf s) 6000) (Eqs (.int .i64 (eOf s))) v w' ∧ Below w.heap.size w w' := by
  go_enter Tryd.func11, Tryd.ntmps11
  generalize hA : (Act.mk _ _) = aa
  have hn : aa.tmps.size = 25 := by rw [← hA]; rfl
  have hd : aa.defers = [] := by rw [← hA]
  have f0 : aa.eval (.tmp 0) = .string s := by rw [← hA]; rfl
  clear hA
  have HB : Below w.heap.size w w := Below.refl _ _
  refine wp_seq ?_
  refine region4 [some 2, some 3] [(fun _ _ => True), Eqs ((.int .i64 0))] [⟨W2, some 0, 0, 2, .agg #[.bool false, .slice none 0 0], none, []⟩] [] (by kernel_rfl) hn rfl (by kernel_rfl) (by kernel_rfl) (by kernel_rfl) (by kernel_rfl) (by kernel_rfl) (by kernel_rfl) ⟨True.mono4, Eqs.mono4 _, trivial⟩ (ok_cons W2ok ok_nil) (IsOld.all (bx := [⟨W2, some 0, 0, 2, .agg #[.bool false, .slice none 0 0], none, []⟩]) ⟨someNe, trivial⟩) (DisOld.all (bx := [⟨W2, some 0, 0, 2, .agg #[.bool false, .slice none 0 0], none, []⟩]) ⟨someNe, trivial⟩) ?_ ?_
  · exact ⟨.alloc 0 _ rfl rfl (.inl ⟨rfl, rfl⟩) rfl rfl rfl rfl rfl,
      .norm 3 rfl rfl rfl (fun a_ w_ hn_ hBt hr hR hD hO hS => op_assign rfl),
      trivial⟩
  intro a1 w1 gs1 hn1 hd1 hBt hr hR hP hX hU
  replace hn := hn1; replace hd := hd1.trans hd
  have b2 : BoxV W2 w1 (gs1 0) (.agg #[.bool false, .slice none 0 0]) := (hX 0 _ rfl).2.2.2
  have f2 := (hX 0 _ rfl).1
  have u2 : w.heap.size ≤ gs1 0 := Nat.le_trans HB.size ((hX 0 _ rfl).2.2.1 (by simp))
  replace f0 := (hR 0 rfl).trans f0
  have e3 : a1.eval (.tmp 3) = (.int .i64 0) := hP 1 (by decide)
  have f3 := e3
  replace HB := HB.trans (hBt.below HB.size (UpOld.all (bx := [⟨W2, some 0, 0, 2, .agg #[.bool false, .slice none 0 0], none, []⟩]) ⟨someNe, trivial⟩))
  clear hBt hr hR hP hX hU
  refine wp_seq ?_
  refine region4 [some 9, some 10, some 8, some 11, some 12, some 4, some 5] [Eqs (.string s), Tup2 (Eqs (.bool (msplit s).1)) (Eqs (.string (msplit s).2)), Tup2 (Eqs (.bool (msplit s).1)) (Eqs (.string (msplit s).2)), Eqs (.bool (msplit s).1), Eqs (.string (msplit s).2), Eqs (.bool (msplit s).1), Eqs (.string (msplit s).2)] [] [] (by kernel_rfl) hn rfl (by kernel_rfl) (by kernel_rfl) (by kernel_rfl) (by kernel_rfl) (by kernel_rfl) (by kernel_rfl) ⟨Eqs.mono4 _, Tup2.mono4 (Eqs.mono4 _) (Eqs.mono4 _), Tup2.mono4 (Eqs.mono4 _) (Eqs.mono4 _), Eqs.mono4 _, Eqs.mono4 _, Eqs.mono4 _, Eqs.mono4 _, trivial⟩ ok_nil (IsOld.all (bx := []) trivial) (DisOld.all (bx := []) trivial) ?_ ?_
  · exact ⟨.norm 9 rfl rfl rfl (fun a_ w_ hn_ hBt hr hR hD hO hS => op_mv ((hR 0 rfl).trans f0)),
      .norm 10 rfl rfl rfl (fun a_ w_ hn_ hBt hr hR hD hO hS => op_split (show a_.eval (.tmp 9) = .string s from hD 0 rfl) (hT.below (HB.trans (hBt.below HB.size (UpOld.all (bx := []) trivial))))),
      .norm 8 rfl rfl rfl (fun a_ w_ hn_ hBt hr hR hD hO hS => op_mvp (p := Tup2 (Eqs (.bool (msplit s).1)) (Eqs (.string (msplit s).2))) (show Tup2 (Eqs (.bool (msplit s).1)) (Eqs (.string (msplit s).2)) (a_.eval (.tmp 10)) w_ from hD 1 rfl)),
      .norm 11 rfl rfl rfl (fun a_ w_ hn_ hBt hr hR hD hO hS => op_ex20 (show Tup2 (Eqs (.bool (msplit s).1)) (Eqs (.string (msplit s).2)) (a_.eval (.tmp 8)) w_ from hD 2 rfl)),
      .norm 12 rfl rfl rfl (fun a_ w_ hn_ hBt hr hR hD hO hS => op_ex21 (show Tup2 (Eqs (.bool (msplit s).1)) (Eqs (.string (msplit s).2)) (a_.eval (.tmp 8)) w_ from hD 2 rfl)),
      .norm 4 rfl rfl rfl (fun a_ w_ hn_ hBt hr hR hD hO hS => op_assign (show a_.eval (.tmp 11) = .bool (msplit s).1 from hD 3 rfl)),
      .norm 5 rfl rfl rfl (fun a_ w_ hn_ hBt hr hR hD hO hS => op_assign (show a_.eval (.tmp 12) = .string (msplit s).2 from hD 4 rfl)),
      trivial⟩
  intro a2 w2 gs2 hn2 hd2 hBt hr hR hP hX hU
  replace hn := hn2; replace hd := hd2.trans hd
  replace b2 := b2.keep hBt trivial
  replace f2 := (hR 2 rfl).trans f2
  replace f3 := (hR 3 rfl).trans f3
  have e4 : a2.eval (.tmp 4) = .bool (msplit s).1 := hP 5 (by decide)
  have f4 := e4
  have e5 : a2.eval (.tmp 5) = .string (msplit s).2 := hP 6 (by decide)
  have f5 := e5
  replace HB := HB.trans (hBt.below HB.size (UpOld.all (bx := []) trivial))
  clear hBt hr hR hP hX hU
  refine wp_seq ?_
  refine region4 [some 14, some 15, some 13, some 16, some 17, some 6, some 7] [Eqs (.string (msplit s).2), Tup2 (OutL (xOf (msplit s).2) (6000)) (Eqs (.int .i64 (kOf (msplit s).2))), Tup2 (OutL (xOf (msplit s).2) (6000)) (Eqs (.int .i64 (kOf (msplit s).2))), OutL (xOf (msplit s).2) (6000), Eqs (.int .i64 (kOf (msplit s).2)), OutL (xOf (msplit s).2) (6000), Eqs (.int .i64 (kOf (msplit s).2))] [] [] (by kernel_rfl) hn rfl (by kernel_rfl) (by kernel_rfl) (by kernel_rfl) (by kernel_rfl) (by kernel_rfl) (by kernel_rfl) ⟨Eqs.mono4 _, Tup2.mono4 (OutL.mono4 _ _) (Eqs.mono4 _), Tup2.mono4 (OutL.mono4 _ _) (Eqs.mono4 _), OutL.mono4 _ _, Eqs.mono4 _, OutL.mono4 _ _, Eqs.mono4 _, trivial⟩ ok_nil (IsOld.all (bx := []) trivial) (DisOld.all (bx := []) trivial) ?_ ?_
  · exact ⟨.norm 14 rfl rfl rfl (fun a_ w_ hn_ hBt hr hR hD hO hS => op_mv ((hR 5 rfl).trans f5)),
      .norm 15 rfl rfl rfl (fun a_ w_ hn_ hBt hr hR hD hO hS => op_lparse (show a_.eval (.tmp 14) = .string (msplit s).2 from hD 0 rfl)),
      .norm 13 rfl rfl rfl (fun a_ w_ hn_ hBt hr hR hD hO hS => op_mvp (p := Tup2 (OutL (xOf (msplit s).2) (6000)) (Eqs (.int .i64 (kOf (msplit s).2)))) (show Tup2 (OutL (xOf (msplit s).2) (6000)) (Eqs (.int .i64 (kOf (msplit s).2))) (a_.eval (.tmp 15)) w_ from hD 1 rfl)),
      .norm 16 rfl rfl rfl (fun a_ w_ hn_ hBt hr hR hD hO hS => op_ex20 (show Tup2 (OutL (xOf (msplit s).2) (6000)) (Eqs (.int .i64 (kOf (msplit s).2))) (a_.eval (.tmp 13)) w_ from hD 2 rfl)),
      .norm 17 rfl rfl rfl (fun a_ w_ hn_ hBt hr hR hD hO hS => op_ex21 (show Tup2 (OutL (xOf (msplit s).2) (6000)) (Eqs (.int .i64 (kOf (msplit s).2))) (a_.eval (.tmp 13)) w_ from hD 2 rfl)),
      .norm 6 rfl rfl rfl (fun a_ w_ hn_ hBt hr hR hD hO hS => op_asp (p := OutL (xOf (msplit s).2) (6000)) (show OutL (xOf (msplit s).2) (6000) (a_.eval (.tmp 16)) w_ from hD 3 rfl)),
      .norm 7 rfl rfl rfl (fun a_ w_ hn_ hBt hr hR hD hO hS => op_assign (show a_.eval (.tmp 17) = .int .i64 (kOf (msplit s).2) from hD 4 rfl)),
      trivial⟩
  intro a3 w3 gs3 hn3 hd3 hBt hr hR hP hX hU
  replace hn := hn3; replace hd := hd3.trans hd
  replace b2 := b2.keep hBt trivial
  replace f2 := (hR 2 rfl).trans f2
  replace f3 := (hR 3 rfl).trans f3
  replace f4 := (hR 4 rfl).trans f4
  obtain ⟨a_4, c_4, r_4, e6, K4, l4⟩ : OutL (xOf (msplit s).2) (6000) (a3.eval (.tmp 6)) w3 := hP 5 (by decide)
  have S4 := K4.sl; have V4 := K4.val
  have f6 := e6
  have e7 : a3.eval (.tmp 7) = .int .i64 (kOf (msplit s).2) := hP 6 (by decide)
  have f7 := e7
  replace HB := HB.trans (hBt.below HB.size (UpOld.all (bx := []) trivial))
  clear hBt hr hR hP hX hU
  refine wp_seq ?_
  refine wp_seq ?_
  refine region4 [some 18, some 19] [Eqs (.int .i64 (kOf (msplit s).2)), Eqs (.bool (!decide ((kOf (msplit s).2) = 0)))] [] [] (by kernel_rfl) hn rfl (by kernel_rfl) (by kernel_rfl) (by kernel_rfl) (by kernel_rfl) (by kernel_rfl) (by kernel_rfl) ⟨Eqs.mono4 _, Eqs.mono4 _, trivial⟩ ok_nil (IsOld.all (bx := []) trivial) (DisOld.all (bx := []) trivial) ?_ ?_
  · exact ⟨.norm 18 rfl rfl rfl (fun a_ w_ hn_ hBt hr hR hD hO hS => op_mv ((hR 7 rfl).trans f7)),
      .norm 19 rfl rfl rfl (fun a_ w_ hn_ hBt hr hR hD hO hS => op_neqkE (show a_.eval (.tmp 18) = .int .i64 (kOf (msplit s).2) from hD 0 rfl)),
      trivial⟩
  intro a5 w5 gs5 hn5 hd5 hBt hr hR hP hX hU
  replace hn := hn5; replace hd := hd5.trans hd
  replace b2 := b2.keep hBt trivial
  replace f2 := (hR 2 rfl).trans f2
  replace f3 := (hR 3 rfl).trans f3
  replace f4 := (hR 4 rfl).trans f4
  replace f6 := (hR 6 rfl).trans f6
  replace f7 := (hR 7 rfl).trans f7
  have e19 : a5.eval (.tmp 19) = .bool (!decide ((kOf (msplit s).2) = 0)) := hP 1 (by decide)
  have f19 := e19
  replace K4 := K4.rl hr
  replace S4 := S4.rl hr
  replace HB := HB.trans (hBt.below HB.size (UpOld.all (bx := []) trivial))
  clear hBt hr hR hP hX hU
  refine wp_cond_split f19 (fun hc19 => ?_) (fun hc19 => ?_)
  · skip
    have hk0 : kOf (msplit s).2 ≠ 0 := by simpa using hc19
    refine wp_seq ?_
    refine region4 [some 20, some 21, none, some 3] [Eqs (.agg #[.bool false, .slice none 0 0]), Eqs (.int .i64 (kOf (msplit s).2)), (fun _ _ => True), Eqs (.int .i64 (kOf (msplit s).2))] [⟨W2, none, (gs1 0), 2, .agg #[.bool false, .slice none 0 0], some (2, 20, 0), []⟩] [] (by kernel_rfl) hn rfl (by kernel_rfl) (by kernel_rfl) (by kernel_rfl) (by kernel_rfl) (by kernel_rfl) (by kernel_rfl) ⟨Eqs.mono4 _, Eqs.mono4 _, True.mono4, Eqs.mono4 _, trivial⟩ (ok_cons W2ok ok_nil) (IsOld.all (bx := [⟨W2, none, (gs1 0), 2, .agg #[.bool false, .slice none 0 0], some (2, 20, 0), []⟩]) ⟨fun _ => ⟨f2, b2⟩, trivial⟩) (DisOld.all (bx := [⟨W2, none, (gs1 0), 2, .agg #[.bool false, .slice none 0 0], some (2, 20, 0), []⟩]) ⟨fun _ => trivial, trivial⟩) ?_ ?_
    · exact ⟨.norm 20 rfl rfl rfl (fun a_ w_ hn_ hBt hr hR hD hO hS => op_bW0),
        .norm 21 rfl rfl rfl (fun a_ w_ hn_ hBt hr hR hD hO hS => op_mv ((hR 7 rfl).trans f7)),
        .store 0 _ _ _ rfl rfl rfl rfl rfl rfl rfl (fun ia h => by cases h) rfl rfl rfl (eqs_cs w2_cs),
        .norm 3 rfl rfl rfl (fun a_ w_ hn_ hBt hr hR hD hO hS => op_assign (show a_.eval (.tmp 21) = .int .i64 (kOf (msplit s).2) from hD 1 rfl)),
        trivial⟩
    intro a6 w6 gs6 hn6 hd6 hBt hr hR hP hX hU
    replace hn := hn6; replace hd := hd6.trans hd
    have e20 : a6.eval (.tmp 20) = .agg #[.bool false, .slice none 0 0] := hP 0 (by decide)
    have b2 : BoxV W2 w6 ((gs1 0)) (.agg #[.bool false, .slice none 0 0]) := boxv_old ((hX 0 _ rfl).2.1 rfl) (hX 0 _ rfl).2.2.2 e20
    replace f2 : a6.eval (.tmp 2) = _ := (hR 2 rfl).trans f2
    replace f4 := (hR 4 rfl).trans f4
    replace f6 := (hR 6 rfl).trans f6
    have e3 : a6.eval (.tmp 3) = .int .i64 (kOf (msplit s).2) := hP 3 (by decide)
    have f3 := e3
    replace K4 := K4.rl hr
    replace S4 := S4.rl hr
    replace HB := HB.trans (hBt.below HB.size (UpOld.all (bx := [⟨W2, none, (gs1 0), 2, .agg #[.bool false, .slice none 0 0], some (2, 20, 0), []⟩]) ⟨fun _ => u2, trivial⟩))
    clear hBt hr hR hP hX hU
    refine wp_ret ?_
    repeat (first | refine then_ret ?_ | refine scope_ret ?_ | refine block_ret ?_)
    exact bodyPost_ret (v := .tuple #[.agg #[.bool false, .slice none 0 0], .int .i64 (kOf (msplit s).2)]) (res_ct rfl f2 (lv_W2 b2) f3) hd ⟨_, rfl, ⟨_, _, rfl, by rw [zOf, xOf_zero hk0]; exact outw_zero _, rfl⟩, HB⟩
  · skip
    have hk0 : kOf (msplit s).2 = 0 := by simpa using hc19
    refine wp_skip ?_
    refine wp_seq ?_
    refine region4 [some 22, some 23, some 24, none, some 3] [Eqs (.bool (msplit s).1), Eqs (.slice a_4 r_4.length c_4), OutW (sg ((msplit s).1) (xOf (msplit s).2)) (6000), (fun _ _ => True), Eqs ((.int .i64 0))] [⟨W2, none, (gs1 0), 2, .agg #[.bool false, .slice none 0 0], some (3, 24, 2), []⟩] [] (by kernel_rfl) hn rfl (by kernel_rfl) (by kernel_rfl) (by kernel_rfl) (by kernel_rfl) (by kernel_rfl) (by kernel_rfl) ⟨Eqs.mono4 _, Eqs.mono4 _, OutW.mono4 _ _, True.mono4, Eqs.mono4 _, trivial⟩ (ok_cons W2ok ok_nil) (IsOld.all (bx := [⟨W2, none, (gs1 0), 2, .agg #[.bool false, .slice none 0 0], some (3, 24, 2), []⟩]) ⟨fun _ => ⟨f2, b2⟩, trivial⟩) (DisOld.all (bx := [⟨W2, none, (gs1 0), 2, .agg #[.bool false, .slice none 0 0], some (3, 24, 2), []⟩]) ⟨fun _ => trivial, trivial⟩) ?_ ?_
    · exact ⟨.norm 22 rfl rfl rfl (fun a_ w_ hn_ hBt hr hR hD hO hS => op_mv ((hR 4 rfl).trans f4)),
        .norm 23 rfl rfl rfl (fun a_ w_ hn_ hBt hr hR hD hO hS => op_mv ((hR 6 rfl).trans f6)),
        .norm 24 rfl rfl rfl (fun a_ w_ hn_ hBt hr hR hD hO hS => op_signed0 (show a_.eval (.tmp 22) = .bool (msplit s).1 from hD 0 rfl) (outl_eq (show a_.eval (.tmp 23) = .slice a_4 r_4.length c_4 from hD 1 rfl) (K4.rl hr) l4) (by omega)),
        .store 0 _ _ _ rfl rfl rfl rfl rfl rfl rfl (fun ia h => by cases h) rfl rfl rfl OutW.cs,
        .norm 3 rfl rfl rfl (fun a_ w_ hn_ hBt hr hR hD hO hS => op_assign rfl),
        trivial⟩
    intro a7 w7 gs7 hn7 hd7 hBt hr hR hP hX hU
    replace hn := hn7; replace hd := hd7.trans hd
    obtain ⟨n_8, a_8, c_8, r_8, e24, G8, l8⟩ : OutW (sg ((msplit s).1) (xOf (msplit s).2)) (6000) (a7.eval (.tmp 24)) w7 := hP 2 (by decide)
    have A8 := G8.ag
    have b2 : BoxV W2 w7 ((gs1 0)) (.agg #[.bool n_8, .slice a_8 r_8.length c_8]) := boxv_old ((hX 0 _ rfl).2.1 rfl) (hX 0 _ rfl).2.2.2 e24
    replace f2 : a7.eval (.tmp 2) = _ := (hR 2 rfl).trans f2
    have e3 : a7.eval (.tmp 3) = (.int .i64 0) := hP 4 (by decide)
    have f3 := e3
    replace K4 := K4.rl hr
    replace S4 := S4.rl hr
    replace HB := HB.trans (hBt.below HB.size (UpOld.all (bx := [⟨W2, none, (gs1 0), 2, .agg #[.bool false, .slice none 0 0], some (3, 24, 2), []⟩]) ⟨fun _ => u2, trivial⟩))
    clear hBt hr hR hP hX hU
    refine wp_ret ?_
    repeat (first | refine then_ret ?_ | refine scope_ret ?_ | refine block_ret ?_)
    exact bodyPost_ret (v := .tuple #[.agg #[.bool n_8, .slice a_8 r_8.length c_8], (.int .i64 0)]) (res_ct rfl f2 (lv_W2 b2) f3) hd ⟨_, rfl, ⟨_, _, rfl, outw_eq rfl G8 l8, by rw [eOf, hk0]; rfl⟩, HB⟩
end Lm
end Go.Proofs.YtdiiankcjgoecaaDoor

namespace Go.Proofs.YtdiiankcjgoecaaDoor
namespace Lm
open Go Go.RowKit
noncomputable def dig (x : Int) : List Int := @Classical.epsilon (List Int) ⟨[]⟩ fun ds => IsDec ds x
theorem dig_eq {ds : List Int} {x : Int} (h : IsDec ds x) : ds = dig x := isDec_one h (@Classical.epsilon_spec (List Int) (fun ds => IsDec ds x) ⟨ds, h⟩)
noncomputable def txt (z : Int) : ByteArray := if z < 0 then strOfNums (45 :: dig (z.natAbs : Int)) else strOfNums (dig (z.natAbs : Int))
theorem sg_abs {b : Bool} {x z : Int} (hx : 0 ≤ x) (h : sg b x = z) : x = (z.natAbs : Int) := by
  subst h
  cases b <;> simp [sg] <;> omega
section
variable {dst : Option Tmp} {ty : TypeId} {pos : String} {after : Array Edge} {guard : Option (Nat × Bool)} {a : Act} {w : World} {ats : Array TypeId} {i j : Nat} {z : Int} {L : Nat}
theorem has_wtext0 : Has Tryd.prog 13 := by unfold Has; kernel_rfl
theorem op_wtext (h : IsW z L (a.eval (.tmp i)) w) (hL : L ≤ 1000000) :
    Does Tryd.prog { dst, op := .call { callee := .value (.func 13), args := #[.tmp i], argTypes := ats }, type := ty, pos, after, guard } a.eval w fun v w' => Below w.heap.size w w' ∧ Eqs (.string (txt z)) v w' := by
  obtain ⟨ng, ao, n, cap, zs, e, A, l⟩ := h
  have hx := sg_abs (val_bounds A.sl.parts.2.2.2).1 A.worth
  by_cases hz : z < 0
  · refine does_call has_wtext0 _ (by simp only [List.map_toArray, List.map_cons, List.map_nil, e]) ((wtext_neg w ng ao n cap zs A.sl (by omega) (by rw [A.worth]; exact hz)).mono ?_)
    rintro e w' ⟨ds, rfl, hd, hb⟩
    refine ⟨_, rfl, hb, ?_⟩
    rw [hx] at hd
    rw [txt, if_pos hz, ← dig_eq hd]
    rfl
  · refine does_call has_wtext0 _ (by simp only [List.map_toArray, List.map_cons, List.map_nil, e]) ((wtext_pos w ng ao n cap zs A.sl (by omega) (by rw [A.worth]; exact hz)).mono ?_)
    rintro e w' ⟨ds, rfl, hd, hb⟩
    refine ⟨_, rfl, hb, ?_⟩
    rw [hx] at hd
    rw [txt, if_neg hz, ← dig_eq hd]
    rfl
end
section
variable {dst : Option Tmp} {ty : TypeId} {pos : String} {after : Array Edge} {guard : Option (Nat × Bool)} {a : Act} {w : World} {ats : Array TypeId} {i j : Nat} {z : Int} {L : Nat}
theorem has_wparse : Has Tryd.prog 11 := by unfold Has; kernel_rfl
theorem op_wparse {s : ByteArray} (h : a.eval (.tmp i) = .string s) (hT : Tabs w) :
    Does Tryd.prog { dst, op := .call { callee := .value (.func 11), args := #[.tmp i], argTypes := ats }, type := ty, pos, after, guard } a.eval w fun v w' => Below w.heap.size w w' ∧ Tup2 (OutW (zOf s) 6000) (Eqs (.int .i64 (eOf s))) v w' := by
  refine does_call has_wparse _ (by simp only [List.map_toArray, List.map_cons, List.map_nil, h]) ((wparse_z w s hT).mono ?_)
  rintro e w' ⟨v, rfl, ht, hb⟩
  exact ⟨_, rfl, hb, ht⟩
end
end Lm
end Go.Proofs.YtdiiankcjgoecaaDoor

namespace Go.Proofs.YtdiiankcjgoecaaDoor
namespace Lm
open Go Go.RowKit
open Dm (Err Fine)
theorem bytes_strOf8 {ds : List Int} (h : ∀ c ∈ ds, 0 ≤ c ∧ c < 256) : bytesOf (strOfNums ds) = ds := by
  rw [bytesOf, strOfNums_data, List.map_map]
  conv => rhs; rw [← List.map_id ds]
  apply List.map_congr_left
  intro c hc
  have := h c hc
  simp only [Function.comp_apply, id]
  have e : (UInt8.ofNat c.toNat).toNat = c.toNat := by
    simp
    omega
  rw [e]
  omega
theorem bytes_from (t : ByteArray) (k : Nat) : bytesOf (t.extract k t.size) = (bytesOf t).drop k := by
  have : (t.extract k t.size).data.toList = t.data.toList.drop k := by
    rw [Lib.extract_data]
    rw [List.take_of_length_le (by simp)]
  rw [bytesOf, this, bytesOf, List.map_drop]
theorem get_bytes {s : ByteArray} {k : Nat} (hk : k < s.size) : ((s.get! k).toNat : Int) = (bytesOf s).getD k 0 := by
  rw [bytesOf_getD s k hk, Utf8W.get!_of_lt s k hk]
theorem dec_ex (n : Nat) : ∃ ds, IsDec ds (n : Int) := by
  induction n using Nat.strongRecOn with
  | _ n ih =>
    by_cases h : n < 10
    · refine ⟨[48 + (n : Int)], dig_cons.2 ⟨by omega, dig_nil⟩, by simp [dval, p10]; omega, ?_⟩
      by_cases h0 : n = 0
      · subst h0; exact .inl ⟨rfl, rfl⟩
      · exact .inr ⟨_, _, rfl, by omega⟩
    · obtain ⟨ds, h1, h2, h3⟩ := ih (n / 10) (by omega)
      refine ⟨ds ++ [48 + ((n % 10 : Nat) : Int)], dig_snoc h1 (by omega) (by omega), by rw [dval_snoc, h2]; omega, .inr ?_⟩
      rcases h3 with ⟨h3, _⟩ | ⟨c, cs, rfl, hc⟩
      · omega
      · exact ⟨c, cs ++ [48 + ((n % 10 : Nat) : Int)], rfl, hc⟩
theorem dig_dec (n : Nat) : IsDec (dig (n : Int)) (n : Int) := by
  obtain ⟨ds, h⟩ := dec_ex n
  rw [← dig_eq h]
  exact h
theorem isDec_ne {ds : List Int} {x : Int} (h : IsDec ds x) : 1 ≤ ds.length := by
  rcases h.2.2 with ⟨_, rfl⟩ | ⟨c, cs, rfl, _⟩ <;> simp
theorem isDec_len {ds : List Int} {x : Int} {n : Nat} (h : IsDec ds x) (hx : x < p10 n) (hn : 1 ≤ n) : ds.length ≤ n := by
  rcases h.2.2 with ⟨_, rfl⟩ | ⟨c, cs, rfl, hc⟩
  · simpa using hn
  · have h1 := h.1 c (by simp)
    have h2 := h.2.1
    simp only [dval] at h2
    have h3 := (dval_bounds (show Dig cs from fun y hy => h.1 y (by simp [hy]))).1
    apply Classical.byContradiction
    intro hl
    have h4 := p10_mono (m := n) (n := cs.length) (by simp at hl; omega)
    have h5 : 1 * p10 cs.length ≤ (c - 48) * p10 cs.length := Int.mul_le_mul_of_nonneg_right (by omega) (by have := p10_pos cs.length; omega)
    omega
theorem of_digits {r : ByteArray} {x : Int} (h : IsDec (bytesOf r) x) (hl : r.size ≤ 5120) : kOf r = 0 ∧ xOf r = x := by
  have h1 := isDec_ne h
  rw [bytesOf_length] at h1
  obtain ⟨g1, g2⟩ := of_fine (r := r) ⟨h1, hl, h.1⟩
  exact ⟨g1, by rw [g2, h.2.1]⟩
def Brief (z : Int) : Prop := (dig (z.natAbs : Int)).length ≤ 5000
theorem dig8 {x : Int} {ds : List Int} (h : IsDec ds x) : ∀ c ∈ ds, 0 ≤ c ∧ c < 256 := fun c hc => by have := h.1 c hc; omega
theorem txt_pos {z : Int} (h : ¬ z < 0) : bytesOf (txt z) = dig (z.natAbs : Int) := by
  rw [txt, if_neg h, bytes_strOf8 (dig8 (dig_dec _))]
theorem txt_neg {z : Int} (h : z < 0) : bytesOf (txt z) = 45 :: dig (z.natAbs : Int) := by
  rw [txt, if_pos h, bytes_strOf8]
  intro c hc
  rcases List.mem_cons.1 hc with rfl | hc
  · omega
  · exact dig8 (dig_dec _) c hc
theorem ms_pos {z : Int} (h : ¬ z < 0) : msplit (txt z) = (false, txt z) := by
  have hb := txt_pos h
  have hd := dig_dec z.natAbs
  have hn := isDec_ne hd
  have hs : (txt z).size = (dig (z.natAbs : Int)).length := by rw [← bytesOf_length, hb]
  have h0 := get_bytes (s := txt z) (k := 0) (by omega)
  have h1 : 48 ≤ (bytesOf (txt z)).getD 0 0 ∧ (bytesOf (txt z)).getD 0 0 ≤ 57 := by
    rw [hb]
    exact dig_getD hd.1 (by omega)
  rw [msplit, if_neg (by omega), if_neg (by omega)]
theorem ms_neg {z : Int} (h : z < 0) : msplit (txt z) = (true, (txt z).extract 1 (txt z).size) ∧ ((txt z).get! 0).toNat = 45 ∧ 1 ≤ (txt z).size := by
  have hb := txt_neg h
  have hs : (txt z).size = (dig (z.natAbs : Int)).length + 1 := by rw [← bytesOf_length, hb]; rfl
  have h0 := get_bytes (s := txt z) (k := 0) (by omega)
  have h1 : (bytesOf (txt z)).getD 0 0 = 45 := by rw [hb]; rfl
  refine ⟨?_, by omega, by omega⟩
  rw [msplit, if_neg (by omega), if_pos (by omega)]
theorem back_txt {z : Int} (h : Brief z) : zOf (txt z) = z ∧ eOf (txt z) = 0 := by
  unfold Brief at h
  by_cases hz : z < 0
  · have hm := (ms_neg hz).1
    have hb : bytesOf ((txt z).extract 1 (txt z).size) = dig (z.natAbs : Int) := by rw [bytes_from, txt_neg hz]; rfl
    have := of_digits (r := (txt z).extract 1 (txt z).size) (x := (z.natAbs : Int)) (by rw [hb]; exact dig_dec _) (by rw [← bytesOf_length, hb]; omega)
    rw [zOf, eOf, hm]
    refine ⟨?_, this.1⟩
    simp only [this.2, sg]
    simp
    omega
  · have hb := txt_pos hz
    have := of_digits (r := txt z) (x := (z.natAbs : Int)) (by rw [hb]; exact dig_dec _) (by rw [← bytesOf_length, hb]; omega)
    rw [zOf, eOf, ms_pos hz]
    refine ⟨?_, this.1⟩
    simp only [this.2, sg]
    simp
    omega
end Lm
end Go.Proofs.YtdiiankcjgoecaaDoor

namespace Go.Proofs.YtdiiankcjgoecaaDoor
namespace Lm
open Go Go.RowKit
def over (s : ByteArray) : ByteArray := ⟨(Lib.cut s.data.toList [47]).1.toArray⟩
def und (s : ByteArray) : ByteArray := ⟨(Lib.cut s.data.toList [47]).2.1.toArray⟩
def fnd (s : ByteArray) : Bool := (Lib.cut s.data.toList [47]).2.2
theorem index_slash : ∀ (l : List UInt8) (k : Nat), (∀ i, i < k → l[i]? ≠ some 47) → k ≤ l.length → (k = l.length ∨ l[k]? = some 47) → Lib.index l [47] = if k < l.length then (k : Int) else -1
  | [], k, _, hk, _ => by
    have : k = 0 := by simpa using hk
    subst this
    simp [Lib.index]
  | b :: l, k, h, hk, h2 => by
    by_cases hb : b = 47
    · have hk0 : k = 0 := by
        apply Classical.byContradiction
        intro hn
        exact h 0 (by omega) (by simp [hb])
      subst hk0 hb
      simp [Lib.index, List.isPrefixOf]
    · have hk1 : 0 < k := by
        apply Nat.pos_of_ne_zero
        intro hn
        subst hn
        rcases h2 with h2 | h2
        · simp at h2
        · simp at h2; exact hb h2
      obtain ⟨j, rfl⟩ : ∃ j, k = j + 1 := ⟨k - 1, by omega⟩
      have ih := index_slash l j (fun i hi => by have := h (i + 1) (by omega); simpa using this) (by simp at hk; omega) (by simpa using h2)
      have hp : [47].isPrefixOf (b :: l) = false := by
        simp only [List.isPrefixOf, Bool.and_true]
        exact beq_eq_false_iff_ne.2 (fun e => hb e.symm)
      by_cases hj : j < l.length
      · rw [if_pos hj] at ih
        have h3 : ((j : Int) == -1) = false := beq_eq_false_iff_ne.2 (by omega)
        simp only [Lib.index, hp, ih, h3, List.length_cons, Bool.false_eq_true, if_false]
        rw [if_pos (by omega)]
        omega
      · rw [if_neg hj] at ih
        simp only [Lib.index, hp, ih, List.length_cons, Bool.false_eq_true, if_false, beq_self_eq_true, if_true]
        rw [if_neg (by omega)]
theorem byte_at {s : ByteArray} {k : Nat} (hk : k < s.size) : s.data.toList[k]? = some (s.get! k) := by
  rw [Array.getElem?_toList, Array.getElem?_eq_getElem (by simpa using hk), Utf8W.get!_of_lt s k hk]
  rfl
theorem ext_list {s t : ByteArray} (h : s.data.toList = t.data.toList) : s = t := by
  apply ByteArray.ext
  exact Array.toList_inj.1 h
theorem cut_at {s : ByteArray} {k : Nat} (h : ∀ i, i < k → ((s.get! i).toNat : Int) ≠ 47) (hk : k ≤ s.size) (h2 : k = s.size ∨ ((s.get! k).toNat : Int) = 47) : over s = s.extract 0 k ∧ fnd s = decide (k < s.size) ∧ (k < s.size → und s = s.extract (k + 1) s.size) := by
  have hl : s.data.toList.length = s.size := by simp
  have hi := index_slash s.data.toList k (fun i hi e => by
    rw [byte_at (by omega)] at e
    have := Option.some.inj e
    exact h i hi (by rw [this]; rfl)) (by omega) (by
      by_cases hks : k = s.size
      · exact .inl (by omega)
      · refine .inr ?_
        rw [byte_at (by omega)]
        rcases h2 with h2 | h2
        · exact absurd h2 hks
        · congr 1
          apply UInt8.toNat_inj.1
          show _ = 47
          omega)
  rw [hl] at hi
  unfold over und fnd Lib.cut
  rw [hi]
  by_cases hks : k < s.size
  · rw [if_pos hks, if_pos (by omega)]
    refine ⟨ext_list ?_, by simp [hks], fun _ => ext_list ?_⟩
    · rw [Lib.extract_data]
      simp
    · rw [Lib.extract_data]
      simp
      rw [List.take_of_length_le (by rw [List.length_drop, hl]; omega)]
  · rw [if_neg hks, if_neg (by omega)]
    refine ⟨ext_list ?_, by simp [hks], fun h => absurd h hks⟩
    rw [Lib.extract_data]
    have hke : k = s.size := by omega
    rw [List.drop_zero, List.take_of_length_le (by omega)]
end Lm
end Go.Proofs.YtdiiankcjgoecaaDoor

namespace Go.Proofs
open Go.Shelf
shelf_lay LaysM.n145 Nm 145 at Tryd as Tryd.laysM145
namespace YtdiiankcjgoecaaDoor
namespace Lm
open Go Go.RowKit
def TabsR (w : World) : Prop := Tabs w ∧ ∃ m, w.cell? ⟨Tryd.laysM145_ren.g 1, 0, none⟩ = some (.int .i64 m)
theorem TabsR.below {w w' : World} (h : TabsR w) (hb : Below w.heap.size w w') : TabsR w' :=
  ⟨h.1.below hb, let ⟨m, hm⟩ := h.2; ⟨m, (hb.cell (p := ⟨Tryd.laysM145_ren.g 1, 0, none⟩) (lt_of_cell hm)).trans hm⟩⟩
theorem tabsR_of {w : World} (h : Tabs w) (hs : w.ShapedOpen Tryd.prog) : TabsR w := ⟨h, Tryd.laysM145.s1_3 w hs⟩
theorem scut_any (w : World) (s : ByteArray) (hT : TabsR w) (hs : s.size < 4294967281) :
    Calls Tryd.prog 57 #[.string s, .string ⟨#[47]⟩] w fun e w' => e = .returned (.tuple #[.string (over s), .string (und s), .bool (fnd s)]) ∧ Below w.heap.size w w' := by
  obtain ⟨m, hm⟩ := hT.2
  refine (Any.strings_Cut { Tryd.laysM145 with } s ⟨#[47]⟩ m w hs hm).mono ?_
  rintro e w' ⟨rfl, n, rfl⟩
  exact ⟨rfl, ⟨rfl, rfl, rfl, Nat.le_refl _, fun _ _ => rfl⟩⟩
end Lm
end YtdiiankcjgoecaaDoor
end Go.Proofs

namespace Go.Proofs.YtdiiankcjgoecaaDoor
namespace Lm
open Go Go.RowKit
theorem txt_size {z : Int} (h : Brief z) : 1 ≤ (txt z).size ∧ (txt z).size ≤ 5001 := by
  unfold Brief at h
  have hn := isDec_ne (dig_dec z.natAbs)
  by_cases hz : z < 0
  · rw [← bytesOf_length, txt_neg hz, List.length_cons]; omega
  · rw [← bytesOf_length, txt_pos hz]; omega
section
variable {dst : Option Tmp} {ty : TypeId} {pos : String} {after : Array Edge} {guard : Option (Nat × Bool)} {a : Act} {w : World} {ats : Array TypeId} {i j : Nat} {z : Int} {L : Nat}
end
end Lm
end Go.Proofs.YtdiiankcjgoecaaDoor

namespace Go.Proofs.YtdiiankcjgoecaaDoor
namespace Lm
open Go Go.RowKit
section
variable {dst : Option Tmp} {ty : TypeId} {pos : String} {after : Array Edge} {guard : Option (Nat × Bool)} {a : Act} {w : World} {ats : Array TypeId} {i j : Nat} {z : Int} {L : Nat}
theorem has_cut : Has Tryd.prog 57 := by unfold Has; kernel_rfl
theorem op_cut {s : ByteArray} (h : a.eval (.tmp i) = .string s) (hT : TabsR w) (hs : s.size < 4294967281) :
    Does Tryd.prog { dst, op := .call { callee := .value (.func 57), args := #[.tmp i, .const (.string ⟨#[47]⟩)], argTypes := ats }, type := ty, pos, after, guard } a.eval w fun v w' => Below w.heap.size w w' ∧ Tup3 (Eqs (.string (over s))) (Eqs (.string (und s))) (Eqs (.bool (fnd s))) v w' := by
  refine does_call has_cut _ (by simp only [List.map_toArray, List.map_cons, List.map_nil, h]; rfl) ((scut_any w s hT hs).mono ?_)
  rintro e w' ⟨rfl, hb⟩
  exact ⟨_, rfl, hb, _, _, _, rfl, rfl, rfl, rfl⟩
theorem op_inck0 {k : Nat} (h1 : a.eval (.tmp i) = .int .i64 (k : Int)) (h : k < 9223372036854775807) :
    Does Tryd.prog { dst, op := .binOp .add 3 (.tmp i) (.const (.int .i64 1)) 3, type := ty, pos, after, guard } a.eval w fun v' w' => Below w.heap.size w w' ∧ Eqs (.int .i64 ((k + 1 : Nat) : Int)) v' w' := by
  refine does_bin (v := .int .i64 ((k + 1 : Nat) : Int)) ?_ ?_ ⟨Below.refl _ _, rfl⟩
  · rw [h1]; simp [go_sem, Act.eval]
  · rw [h1]; simp [go_sem, Act.eval]; exact wrap64 (by omega) (by omega)
theorem op_idxt {s : ByteArray} {k : Nat} (h : a.eval (.tmp i) = .string s) (hc : a.eval (.tmp j) = .int .i64 (k : Int)) (hk : k < s.size) : Does Tryd.prog { dst, op := .index 9 (.tmp i) (.tmp j), type := ty, pos, after, guard } a.eval w fun v' w' => Below w.heap.size w w' ∧ Eqs (.int .u8 ((s.get! k).toNat : Int)) v' w' := by
  have e : (execOp a.eval { dst, op := .index 9 (.tmp i) (.tmp j), type := ty, pos, after, guard }).run Tryd.prog w = .ok (.value (.int .u8 ((s.get! k).toNat : Int))) w := by
    simp only [execOp, h, hc]
    go_simp
    rw [Utf8W.get!_of_lt s k hk]
  refine ⟨?_⟩
  unfold Turns
  rw [e]
  exact ⟨Below.refl _ _, rfl⟩
theorem op_addsk {c s : ByteArray} (h1 : a.eval (.tmp i) = .string s) (hs : (s ++ c).size ≤ 1000000) :
    Does Tryd.prog { dst, op := .binOp .add 9 (.tmp i) (.const (.string c)) 9, type := ty, pos, after, guard } a.eval w fun v' w' => Below w.heap.size w w' ∧ Eqs (.string (s ++ c)) v' w' := by
  have hs' : s.size + c.size ≤ 1000000 := by rw [← ByteArray.size_append]; exact hs
  refine does_bin (v := .string (s ++ c)) ?_ ?_ ⟨Below.refl _ _, rfl⟩
  · rw [h1]; simp [go_sem, Act.eval]
  · rw [h1]; simp [Act.eval]; go_simp; omega
theorem op_addst {c s : ByteArray} (h1 : a.eval (.tmp i) = .string s) (h2 : a.eval (.tmp j) = .string c) (hs : (s ++ c).size ≤ 1000000) :
    Does Tryd.prog { dst, op := .binOp .add 9 (.tmp i) (.tmp j) 9, type := ty, pos, after, guard } a.eval w fun v' w' => Below w.heap.size w w' ∧ Eqs (.string (s ++ c)) v' w' := by
  have hs' : s.size + c.size ≤ 1000000 := by rw [← ByteArray.size_append]; exact hs
  refine does_bin (v := .string (s ++ c)) ?_ ?_ ⟨Below.refl _ _, rfl⟩
  · rw [h1, h2]; simp [go_sem]
  · rw [h1, h2]; go_simp; omega
theorem has_ltext0 : Has Tryd.prog 47 := by unfold Has; kernel_rfl
theorem op_ltxt (h : IsL z L (a.eval (.tmp i)) w) (hL : L ≤ 1000000) :
    Does Tryd.prog { dst, op := .call { callee := .value (.func 47), args := #[.tmp i], argTypes := ats }, type := ty, pos, after, guard } a.eval w fun v w' => Below w.heap.size w w' ∧ Eqs (.string (txt z)) v w' := by
  obtain ⟨ao, n, cap, zs, e, S, V, l⟩ := h
  refine does_call has_ltext0 _ (by simp only [List.map_toArray, List.map_cons, List.map_nil, e]) ((text_any w ao n cap zs S (by omega)).mono ?_)
  rintro e w' ⟨ds, rfl, hd, hb⟩
  refine ⟨_, rfl, hb, ?_⟩
  have h0 : 0 ≤ z := by rw [← V]; exact (val_bounds S.parts.2.2.2).1
  rw [V, show z = (z.natAbs : Int) by omega] at hd
  rw [txt, if_neg (by omega), ← dig_eq hd]
  rfl
end
theorem txt_le {z : Int} {n : Nat} (h : (z.natAbs : Int) < p10 n) (hn : 1 ≤ n) : (txt z).size ≤ n + 1 := by
  have h1 := isDec_len (dig_dec z.natAbs) h hn
  by_cases hz : z < 0
  · rw [← bytesOf_length, txt_neg hz, List.length_cons]; omega
  · rw [← bytesOf_length, txt_pos hz]; omega
theorem wh_txt {w : World} {ng : Bool} {ao : Option Addr} {cap : Nat} {rs : List Int} {z : Int} (G : Wh w ng ao cap rs z) : (txt z).size ≤ 10 * rs.length + 2 := by
  have h1 := G.1.val
  have h2 := (val_bounds G.1.canon.1).2
  have h3 := pw_le_p10 rs.length
  have h4 := p10_mono (m := 10 * rs.length) (n := 10 * rs.length + 1) (by omega)
  have := txt_le (z := z) (n := 10 * rs.length + 1) (by omega) (by omega)
  omega
theorem got_txt {w : World} {ao : Option Addr} {cap : Nat} {rs : List Int} {z : Int} (G : Got w ao cap rs z) : (txt z).size ≤ 10 * rs.length + 2 := by
  have h1 := G.val
  have h2 := val_bounds G.canon.1
  have h3 := pw_le_p10 rs.length
  have h4 := p10_mono (m := 10 * rs.length) (n := 10 * rs.length + 1) (by omega)
  have := txt_le (z := z) (n := 10 * rs.length + 1) (by omega) (by omega)
  omega
noncomputable def rtxt (p q : Int) : ByteArray := if q = 1 then txt p else (txt p ++ ⟨#[47]⟩) ++ txt q
theorem rtxt1 {p q : Int} (h : q = 1) : rtxt p q = txt p := by rw [rtxt, if_pos h]
theorem rtxt2 {p q : Int} (h : q ≠ 1) : rtxt p q = (txt p ++ ⟨#[47]⟩) ++ txt q := by rw [rtxt, if_neg h]
theorem outr_zero0 (w : World) {L : Nat} : OutR 0 0 L (.agg #[.bool false, .slice none 0 0, .slice none 0 0]) w := ⟨false, none, 0, [], none, 0, [], rfl, ⟨⟨sl_nil w, canon_nil, rfl⟩, rfl⟩, ⟨sl_nil w, canon_nil, rfl⟩, by simp, by simp⟩
open Classical in
noncomputable def rAns (s : ByteArray) : Int × Int × Int :=
  if (10240 : Int) < (s.size : Int) then (0, 0, 2) else if eOf (over s) ≠ 0 then (0, 0, eOf (over s)) else if fnd s = false then (zOf (over s), 1, 0) else if kOf (und s) ≠ 0 then (0, 0, kOf (und s)) else if xOf (und s) = 0 then (0, 0, 20) else (nm (zOf (over s)) (xOf (und s)), dn (zOf (over s)) (xOf (und s)), 0)
variable {s : ByteArray}
theorem ra1 (h : (10240 : Int) < (s.size : Int)) : rAns s = (0, 0, 2) := by rw [rAns, if_pos h]
theorem ra2 (h : ¬ (10240 : Int) < (s.size : Int)) (h2 : eOf (over s) ≠ 0) : rAns s = (0, 0, eOf (over s)) := by rw [rAns, if_neg h, if_pos h2]
theorem ra3 (h : ¬ (10240 : Int) < (s.size : Int)) (h2 : eOf (over s) = 0) (h3 : fnd s = false) : rAns s = (zOf (over s), 1, 0) := by rw [rAns, if_neg h, if_neg (fun h => h h2), if_pos h3]
theorem ra4 (h : ¬ (10240 : Int) < (s.size : Int)) (h2 : eOf (over s) = 0) (h3 : fnd s = true) (h4 : kOf (und s) ≠ 0) : rAns s = (0, 0, kOf (und s)) := by rw [rAns, if_neg h, if_neg (fun h => h h2), if_neg (by rw [h3]; simp), if_pos h4]
theorem ra5 (h : ¬ (10240 : Int) < (s.size : Int)) (h2 : eOf (over s) = 0) (h3 : fnd s = true) (h4 : kOf (und s) = 0) (h5 : xOf (und s) = 0) : rAns s = (0, 0, 20) := by rw [rAns, if_neg h, if_neg (fun h => h h2), if_neg (by rw [h3]; simp), if_neg (fun h => h h4), if_pos h5]
theorem ra6 (h : ¬ (10240 : Int) < (s.size : Int)) (h2 : eOf (over s) = 0) (h3 : fnd s = true) (h4 : kOf (und s) = 0) (h5 : xOf (und s) ≠ 0) : rAns s = (nm (zOf (over s)) (xOf (und s)), dn (zOf (over s)) (xOf (und s)), 0) := by rw [rAns, if_neg h, if_neg (fun h => h h2), if_neg (by rw [h3]; simp), if_neg (fun h => h h4), if_neg h5]
set_option maxRecDepth 20000 in
set_option maxHeartbeats 2000000 in
theorem rparse_z (w : World) (s : ByteArray) (hT : TabsR w) :
    Calls Tryd.prog 24 #[.string s] w fun e w' => ∃ v, e = .returned v ∧ Tup2 (OutR (rAns s).1 (rAns s).2.1 24000) (Eqs (.int .i64 (rAns s).2.2)) v w' ∧ Below w.heap.size w w' := by
  go_enter Tryd.func24, Tryd.ntmps24
  generalize hA : (Act.mk _ _) = aa
  have hn : aa.tmps.size = 48 := by rw [← hA]; rfl
  have hd : aa.defers = [] := by rw [← hA]
  have f0 : aa.eval (.tmp 0) = .string s := by rw [← hA]; rfl
  clear hA
  have HB : Below w.heap.size w w := Below.refl _ _
  refine wp_seq ?_
  refine region4 [some 2, some 3] [(fun _ _ => True), Eqs ((.int .i64 0))] [⟨R3, some 0, 0, 2, .agg #[.bool false, .slice none 0 0, .slice none 0 0], none, []⟩] [] (by kernel_rfl) hn rfl (by kernel_rfl) (by kernel_rfl) (by kernel_rfl) (by kernel_rfl) (by kernel_rfl) (by kernel_rfl) ⟨True.mono4, Eqs.mono4 _, trivial⟩ (ok_cons R3ok ok_nil) (IsOld.all (bx := [⟨R3, some 0, 0, 2, .agg #[.bool false, .slice none 0 0, .slice none 0 0], none, []⟩]) ⟨someNe, trivial⟩) (DisOld.all (bx := [⟨R3, some 0, 0, 2, .agg #[.bool false, .slice none 0 0, .slice none 0 0], none, []⟩]) ⟨someNe, trivial⟩) ?_ ?_
  · exact ⟨.alloc 0 _ rfl rfl (.inl ⟨rfl, rfl⟩) rfl rfl rfl rfl rfl,
      .norm 3 rfl rfl rfl (fun a_ w_ hn_ hBt hr hR hD hO hS => op_assign rfl),
      trivial⟩
  intro a1 w1 gs1 hn1 hd1 hBt hr hR hP hX hU
  replace hn := hn1; replace hd := hd1.trans hd
  have b2 : BoxV R3 w1 (gs1 0) (.agg #[.bool false, .slice none 0 0, .slice none 0 0]) := (hX 0 _ rfl).2.2.2
  have f2 := (hX 0 _ rfl).1
  have u2 : w.heap.size ≤ gs1 0 := Nat.le_trans HB.size ((hX 0 _ rfl).2.2.1 (by simp))
  replace f0 := (hR 0 rfl).trans f0
  have e3 : a1.eval (.tmp 3) = (.int .i64 0) := hP 1 (by decide)
  have f3 := e3
  replace HB := HB.trans (hBt.below HB.size (UpOld.all (bx := [⟨R3, some 0, 0, 2, .agg #[.bool false, .slice none 0 0, .slice none 0 0], none, []⟩]) ⟨someNe, trivial⟩))
  clear hBt hr hR hP hX hU
  refine wp_seq ?_
  refine wp_seq ?_
  refine region4 [some 10, some 11, some 12] [Eqs (.string s), Eqs (.int .i64 ((s).size : Int)), Eqs (.bool (decide (10240 < ((s).size : Int))))] [] [] (by kernel_rfl) hn rfl (by kernel_rfl) (by kernel_rfl) (by kernel_rfl) (by kernel_rfl) (by kernel_rfl) (by kernel_rfl) ⟨Eqs.mono4 _, Eqs.mono4 _, Eqs.mono4 _, trivial⟩ ok_nil (IsOld.all (bx := []) trivial) (DisOld.all (bx := []) trivial) ?_ ?_
  · exact ⟨.norm 10 rfl rfl rfl (fun a_ w_ hn_ hBt hr hR hD hO hS => op_mv ((hR 0 rfl).trans f0)),
      .norm 11 rfl rfl rfl (fun a_ w_ hn_ hBt hr hR hD hO hS => op_lens (show a_.eval (.tmp 10) = .string s from hD 0 rfl)),
      .norm 12 rfl rfl rfl (fun a_ w_ hn_ hBt hr hR hD hO hS => op_gtrk (show a_.eval (.tmp 11) = .int .i64 ((s).size : Int) from hD 1 rfl)),
      trivial⟩
  intro a2 w2 gs2 hn2 hd2 hBt hr hR hP hX hU
  replace hn := hn2; replace hd := hd2.trans hd
  replace b2 := b2.keep hBt trivial
  replace f0 := (hR 0 rfl).trans f0
  replace f2 := (hR 2 rfl).trans f2
  replace f3 := (hR 3 rfl).trans f3
  have e12 : a2.eval (.tmp 12) = .bool (decide (10240 < ((s).size : Int))) := hP 2 (by decide)
  have f12 := e12
  replace HB := HB.trans (hBt.below HB.size (UpOld.all (bx := []) trivial))
  clear hBt hr hR hP hX hU
  refine wp_cond_split f12 (fun hc12 => ?_) (fun hc12 => ?_)
  · skip
    have hsz := of_decide_eq_true hc12
    refine wp_seq ?_
    refine region4 [some 13, none, some 3] [Eqs (.agg #[.bool false, .slice none 0 0, .slice none 0 0]), (fun _ _ => True), Eqs ((.int .i64 2))] [⟨R3, none, (gs1 0), 2, .agg #[.bool false, .slice none 0 0, .slice none 0 0], some (1, 13, 0), []⟩] [] (by kernel_rfl) hn rfl (by kernel_rfl) (by kernel_rfl) (by kernel_rfl) (by kernel_rfl) (by kernel_rfl) (by kernel_rfl) ⟨Eqs.mono4 _, True.mono4, Eqs.mono4 _, trivial⟩ (ok_cons R3ok ok_nil) (IsOld.all (bx := [⟨R3, none, (gs1 0), 2, .agg #[.bool false, .slice none 0 0, .slice none 0 0], some (1, 13, 0), []⟩]) ⟨fun _ => ⟨f2, b2⟩, trivial⟩) (DisOld.all (bx := [⟨R3, none, (gs1 0), 2, .agg #[.bool false, .slice none 0 0, .slice none 0 0], some (1, 13, 0), []⟩]) ⟨fun _ => trivial, trivial⟩) ?_ ?_
    · exact ⟨.norm 13 rfl rfl rfl (fun a_ w_ hn_ hBt hr hR hD hO hS => op_bR0),
        .store 0 _ _ _ rfl rfl rfl rfl rfl rfl rfl (fun ia h => by cases h) rfl rfl rfl (eqs_cs r3_cs),
        .norm 3 rfl rfl rfl (fun a_ w_ hn_ hBt hr hR hD hO hS => op_assign rfl),
        trivial⟩
    intro a3 w3 gs3 hn3 hd3 hBt hr hR hP hX hU
    replace hn := hn3; replace hd := hd3.trans hd
    have e13 : a3.eval (.tmp 13) = .agg #[.bool false, .slice none 0 0, .slice none 0 0] := hP 0 (by decide)
    have b2 : BoxV R3 w3 ((gs1 0)) (.agg #[.bool false, .slice none 0 0, .slice none 0 0]) := boxv_old ((hX 0 _ rfl).2.1 rfl) (hX 0 _ rfl).2.2.2 e13
    replace f2 : a3.eval (.tmp 2) = _ := (hR 2 rfl).trans f2
    replace f0 := (hR 0 rfl).trans f0
    have e3 : a3.eval (.tmp 3) = (.int .i64 2) := hP 2 (by decide)
    have f3 := e3
    replace HB := HB.trans (hBt.below HB.size (UpOld.all (bx := [⟨R3, none, (gs1 0), 2, .agg #[.bool false, .slice none 0 0, .slice none 0 0], some (1, 13, 0), []⟩]) ⟨fun _ => u2, trivial⟩))
    clear hBt hr hR hP hX hU
    refine wp_ret ?_
    repeat (first | refine then_ret ?_ | refine scope_ret ?_ | refine block_ret ?_)
    exact bodyPost_ret (v := .tuple #[.agg #[.bool false, .slice none 0 0, .slice none 0 0], (.int .i64 2)]) (res_ct rfl f2 (lv_R3 b2) f3) hd ⟨_, rfl, ⟨_, _, rfl, by rw [ra1 hsz]; exact outr_zero0 _, by rw [ra1 hsz]; rfl⟩, HB⟩
  · skip
    have hsz := of_decide_eq_false hc12
    refine wp_skip ?_
    refine wp_seq ?_
    refine region4 [some 15, some 16, some 14, some 17, some 18, some 19, some 4, some 5, some 6] [Eqs (.string s), Tup3 (Eqs (.string (over s))) (Eqs (.string (und s))) (Eqs (.bool (fnd s))), Tup3 (Eqs (.string (over s))) (Eqs (.string (und s))) (Eqs (.bool (fnd s))), Eqs (.string (over s)), Eqs (.string (und s)), Eqs (.bool (fnd s)), Eqs (.string (over s)), Eqs (.string (und s)), Eqs (.bool (fnd s))] [] [] (by kernel_rfl) hn rfl (by kernel_rfl) (by kernel_rfl) (by kernel_rfl) (by kernel_rfl) (by kernel_rfl) (by kernel_rfl) ⟨Eqs.mono4 _, Tup3.mono4 (Eqs.mono4 _) (Eqs.mono4 _) (Eqs.mono4 _), Tup3.mono4 (Eqs.mono4 _) (Eqs.mono4 _) (Eqs.mono4 _), Eqs.mono4 _, Eqs.mono4 _, Eqs.mono4 _, Eqs.mono4 _, Eqs.mono4 _, Eqs.mono4 _, trivial⟩ ok_nil (IsOld.all (bx := []) trivial) (DisOld.all (bx := []) trivial) ?_ ?_
    · exact ⟨.norm 15 rfl rfl rfl (fun a_ w_ hn_ hBt hr hR hD hO hS => op_mv ((hR 0 rfl).trans f0)),
        .norm 16 rfl rfl rfl (fun a_ w_ hn_ hBt hr hR hD hO hS => op_cut (show a_.eval (.tmp 15) = .string s from hD 0 rfl) (hT.below (HB.trans (hBt.below HB.size (UpOld.all (bx := []) trivial)))) (by omega)),
        .norm 14 rfl rfl rfl (fun a_ w_ hn_ hBt hr hR hD hO hS => op_mvp (p := Tup3 (Eqs (.string (over s))) (Eqs (.string (und s))) (Eqs (.bool (fnd s)))) (show Tup3 (Eqs (.string (over s))) (Eqs (.string (und s))) (Eqs (.bool (fnd s))) (a_.eval (.tmp 16)) w_ from hD 1 rfl)),
        .norm 17 rfl rfl rfl (fun a_ w_ hn_ hBt hr hR hD hO hS => op_ex30 (show Tup3 (Eqs (.string (over s))) (Eqs (.string (und s))) (Eqs (.bool (fnd s))) (a_.eval (.tmp 14)) w_ from hD 2 rfl)),
        .norm 18 rfl rfl rfl (fun a_ w_ hn_ hBt hr hR hD hO hS => op_ex31 (show Tup3 (Eqs (.string (over s))) (Eqs (.string (und s))) (Eqs (.bool (fnd s))) (a_.eval (.tmp 14)) w_ from hD 2 rfl)),
        .norm 19 rfl rfl rfl (fun a_ w_ hn_ hBt hr hR hD hO hS => op_ex32 (show Tup3 (Eqs (.string (over s))) (Eqs (.string (und s))) (Eqs (.bool (fnd s))) (a_.eval (.tmp 14)) w_ from hD 2 rfl)),
        .norm 4 rfl rfl rfl (fun a_ w_ hn_ hBt hr hR hD hO hS => op_assign (show a_.eval (.tmp 17) = .string (over s) from hD 3 rfl)),
        .norm 5 rfl rfl rfl (fun a_ w_ hn_ hBt hr hR hD hO hS => op_assign (show a_.eval (.tmp 18) = .string (und s) from hD 4 rfl)),
        .norm 6 rfl rfl rfl (fun a_ w_ hn_ hBt hr hR hD hO hS => op_assign (show a_.eval (.tmp 19) = .bool (fnd s) from hD 5 rfl)),
        trivial⟩
    intro a4 w4 gs4 hn4 hd4 hBt hr hR hP hX hU
    replace hn := hn4; replace hd := hd4.trans hd
    replace b2 := b2.keep hBt trivial
    replace f2 := (hR 2 rfl).trans f2
    replace f3 := (hR 3 rfl).trans f3
    have e4 : a4.eval (.tmp 4) = .string (over s) := hP 6 (by decide)
    have f4 := e4
    have e5 : a4.eval (.tmp 5) = .string (und s) := hP 7 (by decide)
    have f5 := e5
    have e6 : a4.eval (.tmp 6) = .bool (fnd s) := hP 8 (by decide)
    have f6 := e6
    replace HB := HB.trans (hBt.below HB.size (UpOld.all (bx := []) trivial))
    clear hBt hr hR hP hX hU
    refine wp_seq ?_
    refine region4 [some 21, some 22, some 20, some 23, some 24, some 7, none, some 8] [Eqs (.string (over s)), Tup2 (OutW (zOf (over s)) (6000)) (Eqs (.int .i64 (eOf (over s)))), Tup2 (OutW (zOf (over s)) (6000)) (Eqs (.int .i64 (eOf (over s)))), OutW (zOf (over s)) (6000), Eqs (.int .i64 (eOf (over s))), (fun _ _ => True), (fun _ _ => True), Eqs (.int .i64 (eOf (over s)))] [⟨W2, some 5, 0, 7, .agg #[.bool false, .slice none 0 0], some (6, 23, 3), []⟩] [] (by kernel_rfl) hn rfl (by kernel_rfl) (by kernel_rfl) (by kernel_rfl) (by kernel_rfl) (by kernel_rfl) (by kernel_rfl) ⟨Eqs.mono4 _, Tup2.mono4 (OutW.mono4 _ _) (Eqs.mono4 _), Tup2.mono4 (OutW.mono4 _ _) (Eqs.mono4 _), OutW.mono4 _ _, Eqs.mono4 _, True.mono4, True.mono4, Eqs.mono4 _, trivial⟩ (ok_cons W2ok ok_nil) (IsOld.all (bx := [⟨W2, some 5, 0, 7, .agg #[.bool false, .slice none 0 0], some (6, 23, 3), []⟩]) ⟨someNe, trivial⟩) (DisOld.all (bx := [⟨W2, some 5, 0, 7, .agg #[.bool false, .slice none 0 0], some (6, 23, 3), []⟩]) ⟨someNe, trivial⟩) ?_ ?_
    · exact ⟨.norm 21 rfl rfl rfl (fun a_ w_ hn_ hBt hr hR hD hO hS => op_mv ((hR 4 rfl).trans f4)),
        .norm 22 rfl rfl rfl (fun a_ w_ hn_ hBt hr hR hD hO hS => op_wparse (show a_.eval (.tmp 21) = .string (over s) from hD 0 rfl) (hT.below (HB.trans (hBt.below HB.size (UpOld.all (bx := [⟨W2, some 5, 0, 7, .agg #[.bool false, .slice none 0 0], some (6, 23, 3), []⟩]) ⟨someNe, trivial⟩)))).1),
        .norm 20 rfl rfl rfl (fun a_ w_ hn_ hBt hr hR hD hO hS => op_mvp (p := Tup2 (OutW (zOf (over s)) (6000)) (Eqs (.int .i64 (eOf (over s))))) (show Tup2 (OutW (zOf (over s)) (6000)) (Eqs (.int .i64 (eOf (over s)))) (a_.eval (.tmp 22)) w_ from hD 1 rfl)),
        .norm 23 rfl rfl rfl (fun a_ w_ hn_ hBt hr hR hD hO hS => op_ex20 (show Tup2 (OutW (zOf (over s)) (6000)) (Eqs (.int .i64 (eOf (over s)))) (a_.eval (.tmp 20)) w_ from hD 2 rfl)),
        .norm 24 rfl rfl rfl (fun a_ w_ hn_ hBt hr hR hD hO hS => op_ex21 (show Tup2 (OutW (zOf (over s)) (6000)) (Eqs (.int .i64 (eOf (over s)))) (a_.eval (.tmp 20)) w_ from hD 2 rfl)),
        .alloc 0 _ rfl rfl (.inl ⟨rfl, rfl⟩) rfl rfl rfl rfl rfl,
        .store 0 _ _ _ rfl rfl rfl rfl rfl rfl rfl (fun ia h => by cases h; rfl) rfl rfl rfl OutW.cs,
        .norm 8 rfl rfl rfl (fun a_ w_ hn_ hBt hr hR hD hO hS => op_assign (show a_.eval (.tmp 24) = .int .i64 (eOf (over s)) from hD 4 rfl)),
        trivial⟩
    intro a5 w5 gs5 hn5 hd5 hBt hr hR hP hX hU
    replace hn := hn5; replace hd := hd5.trans hd
    have ne2_7 : (gs1 0) ≠ gs5 0 := by have h1 := b2.lt; have h2 := (hX 0 _ rfl).2.2.1 (by simp); omega
    replace b2 := b2.keep hBt ⟨someNe, trivial⟩
    obtain ⟨n_6, a_6, c_6, r_6, e23, G6, l6⟩ : OutW (zOf (over s)) (6000) (a5.eval (.tmp 23)) w5 := hP 3 (by decide)
    have A6 := G6.ag
    have b7 : BoxV W2 w5 (gs5 0) (.agg #[.bool n_6, .slice a_6 r_6.length c_6]) := boxv_of (hX 0 _ rfl).2.2.2 e23
    have f7 := (hX 0 _ rfl).1
    have u7 : w.heap.size ≤ gs5 0 := Nat.le_trans HB.size ((hX 0 _ rfl).2.2.1 (by simp))
    replace f2 := (hR 2 rfl).trans f2
    replace f3 := (hR 3 rfl).trans f3
    replace f5 := (hR 5 rfl).trans f5
    replace f6 := (hR 6 rfl).trans f6
    have e8 : a5.eval (.tmp 8) = .int .i64 (eOf (over s)) := hP 7 (by decide)
    have f8 := e8
    replace HB := HB.trans (hBt.below HB.size (UpOld.all (bx := [⟨W2, some 5, 0, 7, .agg #[.bool false, .slice none 0 0], some (6, 23, 3), []⟩]) ⟨someNe, trivial⟩))
    clear hBt hr hR hP hX hU
    refine wp_seq ?_
    refine wp_seq ?_
    refine region4 [some 25, some 26] [Eqs (.int .i64 (eOf (over s))), Eqs (.bool (!decide ((eOf (over s)) = 0)))] [] [] (by kernel_rfl) hn rfl (by kernel_rfl) (by kernel_rfl) (by kernel_rfl) (by kernel_rfl) (by kernel_rfl) (by kernel_rfl) ⟨Eqs.mono4 _, Eqs.mono4 _, trivial⟩ ok_nil (IsOld.all (bx := []) trivial) (DisOld.all (bx := []) trivial) ?_ ?_
    · exact ⟨.norm 25 rfl rfl rfl (fun a_ w_ hn_ hBt hr hR hD hO hS => op_mv ((hR 8 rfl).trans f8)),
        .norm 26 rfl rfl rfl (fun a_ w_ hn_ hBt hr hR hD hO hS => op_neqkE (show a_.eval (.tmp 25) = .int .i64 (eOf (over s)) from hD 0 rfl)),
        trivial⟩
    intro a7 w7 gs7 hn7 hd7 hBt hr hR hP hX hU
    replace hn := hn7; replace hd := hd7.trans hd
    replace b2 := b2.keep hBt trivial
    replace b7 := b7.keep hBt trivial
    replace f2 := (hR 2 rfl).trans f2
    replace f3 := (hR 3 rfl).trans f3
    replace f5 := (hR 5 rfl).trans f5
    replace f6 := (hR 6 rfl).trans f6
    replace f7 := (hR 7 rfl).trans f7
    replace f8 := (hR 8 rfl).trans f8
    have e26 : a7.eval (.tmp 26) = .bool (!decide ((eOf (over s)) = 0)) := hP 1 (by decide)
    have f26 := e26
    replace G6 := G6.rl hr
    replace A6 := A6.rl hr
    replace HB := HB.trans (hBt.below HB.size (UpOld.all (bx := []) trivial))
    clear hBt hr hR hP hX hU
    refine wp_cond_split f26 (fun hc26 => ?_) (fun hc26 => ?_)
    · skip
      have he0 : eOf (over s) ≠ 0 := by simpa using hc26
      refine wp_seq ?_
      refine region4 [some 27, some 28, none, some 3] [Eqs (.agg #[.bool false, .slice none 0 0, .slice none 0 0]), Eqs (.int .i64 (eOf (over s))), (fun _ _ => True), Eqs (.int .i64 (eOf (over s)))] [⟨R3, none, (gs1 0), 2, .agg #[.bool false, .slice none 0 0, .slice none 0 0], some (2, 27, 0), []⟩] [] (by kernel_rfl) hn rfl (by kernel_rfl) (by kernel_rfl) (by kernel_rfl) (by kernel_rfl) (by kernel_rfl) (by kernel_rfl) ⟨Eqs.mono4 _, Eqs.mono4 _, True.mono4, Eqs.mono4 _, trivial⟩ (ok_cons R3ok ok_nil) (IsOld.all (bx := [⟨R3, none, (gs1 0), 2, .agg #[.bool false, .slice none 0 0, .slice none 0 0], some (2, 27, 0), []⟩]) ⟨fun _ => ⟨f2, b2⟩, trivial⟩) (DisOld.all (bx := [⟨R3, none, (gs1 0), 2, .agg #[.bool false, .slice none 0 0, .slice none 0 0], some (2, 27, 0), []⟩]) ⟨fun _ => trivial, trivial⟩) ?_ ?_
      · exact ⟨.norm 27 rfl rfl rfl (fun a_ w_ hn_ hBt hr hR hD hO hS => op_bR0),
          .norm 28 rfl rfl rfl (fun a_ w_ hn_ hBt hr hR hD hO hS => op_mv ((hR 8 rfl).trans f8)),
          .store 0 _ _ _ rfl rfl rfl rfl rfl rfl rfl (fun ia h => by cases h) rfl rfl rfl (eqs_cs r3_cs),
          .norm 3 rfl rfl rfl (fun a_ w_ hn_ hBt hr hR hD hO hS => op_assign (show a_.eval (.tmp 28) = .int .i64 (eOf (over s)) from hD 1 rfl)),
          trivial⟩
      intro a8 w8 gs8 hn8 hd8 hBt hr hR hP hX hU
      replace hn := hn8; replace hd := hd8.trans hd
      replace b7 := b7.keep hBt ⟨fun _ => ne2_7, trivial⟩
      have e27 : a8.eval (.tmp 27) = .agg #[.bool false, .slice none 0 0, .slice none 0 0] := hP 0 (by decide)
      have b2 : BoxV R3 w8 ((gs1 0)) (.agg #[.bool false, .slice none 0 0, .slice none 0 0]) := boxv_old ((hX 0 _ rfl).2.1 rfl) (hX 0 _ rfl).2.2.2 e27
      replace f2 : a8.eval (.tmp 2) = _ := (hR 2 rfl).trans f2
      replace f5 := (hR 5 rfl).trans f5
      replace f6 := (hR 6 rfl).trans f6
      replace f7 := (hR 7 rfl).trans f7
      replace f8 := (hR 8 rfl).trans f8
      have e3 : a8.eval (.tmp 3) = .int .i64 (eOf (over s)) := hP 3 (by decide)
      have f3 := e3
      replace G6 := G6.rl hr
      replace A6 := A6.rl hr
      replace HB := HB.trans (hBt.below HB.size (UpOld.all (bx := [⟨R3, none, (gs1 0), 2, .agg #[.bool false, .slice none 0 0, .slice none 0 0], some (2, 27, 0), []⟩]) ⟨fun _ => u2, trivial⟩))
      clear hBt hr hR hP hX hU
      refine wp_ret ?_
      repeat (first | refine then_ret ?_ | refine scope_ret ?_ | refine block_ret ?_)
      exact bodyPost_ret (v := .tuple #[.agg #[.bool false, .slice none 0 0, .slice none 0 0], .int .i64 (eOf (over s))]) (res_ct rfl f2 (lv_R3 b2) f3) hd ⟨_, rfl, ⟨_, _, rfl, by rw [ra2 hsz he0]; exact outr_zero0 _, by rw [ra2 hsz he0]; rfl⟩, HB⟩
    · skip
      have he0 : eOf (over s) = 0 := by simpa using hc26
      refine wp_skip ?_
      refine wp_seq ?_
      refine wp_seq ?_
      refine region4 [some 29, some 30] [Eqs (.bool (fnd s)), Eqs (.bool (!(fnd s)))] [] [] (by kernel_rfl) hn rfl (by kernel_rfl) (by kernel_rfl) (by kernel_rfl) (by kernel_rfl) (by kernel_rfl) (by kernel_rfl) ⟨Eqs.mono4 _, Eqs.mono4 _, trivial⟩ ok_nil (IsOld.all (bx := []) trivial) (DisOld.all (bx := []) trivial) ?_ ?_
      · exact ⟨.norm 29 rfl rfl rfl (fun a_ w_ hn_ hBt hr hR hD hO hS => op_mv ((hR 6 rfl).trans f6)),
          .norm 30 rfl rfl rfl (fun a_ w_ hn_ hBt hr hR hD hO hS => op_not (show a_.eval (.tmp 29) = .bool (fnd s) from hD 0 rfl)),
          trivial⟩
      intro a9 w9 gs9 hn9 hd9 hBt hr hR hP hX hU
      replace hn := hn9; replace hd := hd9.trans hd
      replace b2 := b2.keep hBt trivial
      replace b7 := b7.keep hBt trivial
      replace f2 := (hR 2 rfl).trans f2
      replace f3 := (hR 3 rfl).trans f3
      replace f5 := (hR 5 rfl).trans f5
      replace f7 := (hR 7 rfl).trans f7
      replace f8 := (hR 8 rfl).trans f8
      have e30 : a9.eval (.tmp 30) = .bool (!(fnd s)) := hP 1 (by decide)
      have f30 := e30
      replace G6 := G6.rl hr
      replace A6 := A6.rl hr
      replace HB := HB.trans (hBt.below HB.size (UpOld.all (bx := []) trivial))
      clear hBt hr hR hP hX hU
      refine wp_cond_split f30 (fun hc30 => ?_) (fun hc30 => ?_)
      · skip
        have hf0 : fnd s = false := by simpa using hc30
        refine wp_seq ?_
        refine region4 [some 31, some 32, none, some 3] [Eqs (.agg #[.bool n_6, .slice a_6 r_6.length c_6]), OutR (zOf (over s)) (1) ((6000) + 2), (fun _ _ => True), Eqs ((.int .i64 0))] [⟨R3, none, (gs1 0), 2, .agg #[.bool false, .slice none 0 0, .slice none 0 0], some (2, 32, 1), []⟩] [] (by kernel_rfl) hn rfl (by kernel_rfl) (by kernel_rfl) (by kernel_rfl) (by kernel_rfl) (by kernel_rfl) (by kernel_rfl) ⟨Eqs.mono4 _, OutR.mono4 _ _ _, True.mono4, Eqs.mono4 _, trivial⟩ (ok_cons R3ok ok_nil) (IsOld.all (bx := [⟨R3, none, (gs1 0), 2, .agg #[.bool false, .slice none 0 0, .slice none 0 0], some (2, 32, 1), []⟩]) ⟨fun _ => ⟨f2, b2⟩, trivial⟩) (DisOld.all (bx := [⟨R3, none, (gs1 0), 2, .agg #[.bool false, .slice none 0 0, .slice none 0 0], some (2, 32, 1), []⟩]) ⟨fun _ => trivial, trivial⟩) ?_ ?_
        · exact ⟨.norm 31 rfl rfl rfl (fun a_ w_ hn_ hBt hr hR hD hO hS => op_loadv W2ok ((hR 7 rfl).trans f7) (b7.keep hBt ⟨fun _ => ne2_7, trivial⟩)),
            .norm 32 rfl rfl rfl (fun a_ w_ hn_ hBt hr hR hD hO hS => op_from (isw_eq (show a_.eval (.tmp 31) = .agg #[.bool n_6, .slice a_6 r_6.length c_6] from hD 0 rfl) (A6.rl hr) l6) (by omega)),
            .store 0 _ _ _ rfl rfl rfl rfl rfl rfl rfl (fun ia h => by cases h) rfl rfl rfl OutR.cs,
            .norm 3 rfl rfl rfl (fun a_ w_ hn_ hBt hr hR hD hO hS => op_assign rfl),
            trivial⟩
        intro a10 w10 gs10 hn10 hd10 hBt hr hR hP hX hU
        replace hn := hn10; replace hd := hd10.trans hd
        replace b7 := b7.keep hBt ⟨fun _ => ne2_7, trivial⟩
        obtain ⟨n_11, a_11, c_11, r_11, b_11, d_11, s_11, e32, G11, K11, l11, k11⟩ : OutR (zOf (over s)) (1) ((6000) + 2) (a10.eval (.tmp 32)) w10 := hP 1 (by decide)
        have A11 := G11.ag; have S11 := K11.sl; have V11 := K11.val
        have b2 : BoxV R3 w10 ((gs1 0)) (.agg #[.bool n_11, .slice a_11 r_11.length c_11, .slice b_11 s_11.length d_11]) := boxv_old ((hX 0 _ rfl).2.1 rfl) (hX 0 _ rfl).2.2.2 e32
        replace f2 : a10.eval (.tmp 2) = _ := (hR 2 rfl).trans f2
        replace f5 := (hR 5 rfl).trans f5
        replace f7 := (hR 7 rfl).trans f7
        replace f8 := (hR 8 rfl).trans f8
        have e3 : a10.eval (.tmp 3) = (.int .i64 0) := hP 3 (by decide)
        have f3 := e3
        replace G6 := G6.rl hr
        replace A6 := A6.rl hr
        replace HB := HB.trans (hBt.below HB.size (UpOld.all (bx := [⟨R3, none, (gs1 0), 2, .agg #[.bool false, .slice none 0 0, .slice none 0 0], some (2, 32, 1), []⟩]) ⟨fun _ => u2, trivial⟩))
        clear hBt hr hR hP hX hU
        refine wp_ret ?_
        repeat (first | refine then_ret ?_ | refine scope_ret ?_ | refine block_ret ?_)
        exact bodyPost_ret (v := .tuple #[.agg #[.bool n_11, .slice a_11 r_11.length c_11, .slice b_11 s_11.length d_11], (.int .i64 0)]) (res_ct rfl f2 (lv_R3 b2) f3) hd ⟨_, rfl, ⟨_, _, rfl, by rw [ra3 hsz he0 hf0]; exact (outr_eq rfl G11 K11 l11 k11).to rfl rfl (by omega), by rw [ra3 hsz he0 hf0]; rfl⟩, HB⟩
      · skip
        have hf0 : fnd s = true := by simpa using hc30
        refine wp_skip ?_
        refine wp_seq ?_
        refine region4 [some 34, some 35, some 33, some 36, some 37, some 9, some 8] [Eqs (.string (und s)), Tup2 (OutL (xOf (und s)) (6000)) (Eqs (.int .i64 (kOf (und s)))), Tup2 (OutL (xOf (und s)) (6000)) (Eqs (.int .i64 (kOf (und s)))), OutL (xOf (und s)) (6000), Eqs (.int .i64 (kOf (und s))), OutL (xOf (und s)) (6000), Eqs (.int .i64 (kOf (und s)))] [] [] (by kernel_rfl) hn rfl (by kernel_rfl) (by kernel_rfl) (by kernel_rfl) (by kernel_rfl) (by kernel_rfl) (by kernel_rfl) ⟨Eqs.mono4 _, Tup2.mono4 (OutL.mono4 _ _) (Eqs.mono4 _), Tup2.mono4 (OutL.mono4 _ _) (Eqs.mono4 _), OutL.mono4 _ _, Eqs.mono4 _, OutL.mono4 _ _, Eqs.mono4 _, trivial⟩ ok_nil (IsOld.all (bx := []) trivial) (DisOld.all (bx := []) trivial) ?_ ?_
        · exact ⟨.norm 34 rfl rfl rfl (fun a_ w_ hn_ hBt hr hR hD hO hS => op_mv ((hR 5 rfl).trans f5)),
            .norm 35 rfl rfl rfl (fun a_ w_ hn_ hBt hr hR hD hO hS => op_lparse (show a_.eval (.tmp 34) = .string (und s) from hD 0 rfl)),
            .norm 33 rfl rfl rfl (fun a_ w_ hn_ hBt hr hR hD hO hS => op_mvp (p := Tup2 (OutL (xOf (und s)) (6000)) (Eqs (.int .i64 (kOf (und s))))) (show Tup2 (OutL (xOf (und s)) (6000)) (Eqs (.int .i64 (kOf (und s)))) (a_.eval (.tmp 35)) w_ from hD 1 rfl)),
            .norm 36 rfl rfl rfl (fun a_ w_ hn_ hBt hr hR hD hO hS => op_ex20 (show Tup2 (OutL (xOf (und s)) (6000)) (Eqs (.int .i64 (kOf (und s)))) (a_.eval (.tmp 33)) w_ from hD 2 rfl)),
            .norm 37 rfl rfl rfl (fun a_ w_ hn_ hBt hr hR hD hO hS => op_ex21 (show Tup2 (OutL (xOf (und s)) (6000)) (Eqs (.int .i64 (kOf (und s)))) (a_.eval (.tmp 33)) w_ from hD 2 rfl)),
            .norm 9 rfl rfl rfl (fun a_ w_ hn_ hBt hr hR hD hO hS => op_asp (p := OutL (xOf (und s)) (6000)) (show OutL (xOf (und s)) (6000) (a_.eval (.tmp 36)) w_ from hD 3 rfl)),
            .norm 8 rfl rfl rfl (fun a_ w_ hn_ hBt hr hR hD hO hS => op_assign (show a_.eval (.tmp 37) = .int .i64 (kOf (und s)) from hD 4 rfl)),
            trivial⟩
        intro a12 w12 gs12 hn12 hd12 hBt hr hR hP hX hU
        replace hn := hn12; replace hd := hd12.trans hd
        replace b2 := b2.keep hBt trivial
        replace b7 := b7.keep hBt trivial
        replace f2 := (hR 2 rfl).trans f2
        replace f3 := (hR 3 rfl).trans f3
        replace f7 := (hR 7 rfl).trans f7
        obtain ⟨a_13, c_13, r_13, e9, K13, l13⟩ : OutL (xOf (und s)) (6000) (a12.eval (.tmp 9)) w12 := hP 5 (by decide)
        have S13 := K13.sl; have V13 := K13.val
        have f9 := e9
        have e8 : a12.eval (.tmp 8) = .int .i64 (kOf (und s)) := hP 6 (by decide)
        have f8 := e8
        replace G6 := G6.rl hr
        replace A6 := A6.rl hr
        replace HB := HB.trans (hBt.below HB.size (UpOld.all (bx := []) trivial))
        clear hBt hr hR hP hX hU
        refine wp_seq ?_
        refine wp_seq ?_
        refine region4 [some 38, some 39] [Eqs (.int .i64 (kOf (und s))), Eqs (.bool (!decide ((kOf (und s)) = 0)))] [] [] (by kernel_rfl) hn rfl (by kernel_rfl) (by kernel_rfl) (by kernel_rfl) (by kernel_rfl) (by kernel_rfl) (by kernel_rfl) ⟨Eqs.mono4 _, Eqs.mono4 _, trivial⟩ ok_nil (IsOld.all (bx := []) trivial) (DisOld.all (bx := []) trivial) ?_ ?_
        · exact ⟨.norm 38 rfl rfl rfl (fun a_ w_ hn_ hBt hr hR hD hO hS => op_mv ((hR 8 rfl).trans f8)),
            .norm 39 rfl rfl rfl (fun a_ w_ hn_ hBt hr hR hD hO hS => op_neqkE (show a_.eval (.tmp 38) = .int .i64 (kOf (und s)) from hD 0 rfl)),
            trivial⟩
        intro a14 w14 gs14 hn14 hd14 hBt hr hR hP hX hU
        replace hn := hn14; replace hd := hd14.trans hd
        replace b2 := b2.keep hBt trivial
        replace b7 := b7.keep hBt trivial
        replace f2 := (hR 2 rfl).trans f2
        replace f3 := (hR 3 rfl).trans f3
        replace f7 := (hR 7 rfl).trans f7
        replace f8 := (hR 8 rfl).trans f8
        replace f9 := (hR 9 rfl).trans f9
        have e39 : a14.eval (.tmp 39) = .bool (!decide ((kOf (und s)) = 0)) := hP 1 (by decide)
        have f39 := e39
        replace G6 := G6.rl hr
        replace A6 := A6.rl hr
        replace K13 := K13.rl hr
        replace S13 := S13.rl hr
        replace HB := HB.trans (hBt.below HB.size (UpOld.all (bx := []) trivial))
        clear hBt hr hR hP hX hU
        refine wp_cond_split f39 (fun hc39 => ?_) (fun hc39 => ?_)
        · skip
          have hk0 : kOf (und s) ≠ 0 := by simpa using hc39
          refine wp_seq ?_
          refine region4 [some 40, some 41, none, some 3] [Eqs (.agg #[.bool false, .slice none 0 0, .slice none 0 0]), Eqs (.int .i64 (kOf (und s))), (fun _ _ => True), Eqs (.int .i64 (kOf (und s)))] [⟨R3, none, (gs1 0), 2, .agg #[.bool false, .slice none 0 0, .slice none 0 0], some (2, 40, 0), []⟩] [] (by kernel_rfl) hn rfl (by kernel_rfl) (by kernel_rfl) (by kernel_rfl) (by kernel_rfl) (by kernel_rfl) (by kernel_rfl) ⟨Eqs.mono4 _, Eqs.mono4 _, True.mono4, Eqs.mono4 _, trivial⟩ (ok_cons R3ok ok_nil) (IsOld.all (bx := [⟨R3, none, (gs1 0), 2, .agg #[.bool false, .slice none 0 0, .slice none 0 0], some (2, 40, 0), []⟩]) ⟨fun _ => ⟨f2, b2⟩, trivial⟩) (DisOld.all (bx := [⟨R3, none, (gs1 0), 2, .agg #[.bool false, .slice none 0 0, .slice none 0 0], some (2, 40, 0), []⟩]) ⟨fun _ => trivial, trivial⟩) ?_ ?_
          · exact ⟨.norm 40 rfl rfl rfl (fun a_ w_ hn_ hBt hr hR hD hO hS => op_bR0),
              .norm 41 rfl rfl rfl (fun a_ w_ hn_ hBt hr hR hD hO hS => op_mv ((hR 8 rfl).trans f8)),
              .store 0 _ _ _ rfl rfl rfl rfl rfl rfl rfl (fun ia h => by cases h) rfl rfl rfl (eqs_cs r3_cs),
              .norm 3 rfl rfl rfl (fun a_ w_ hn_ hBt hr hR hD hO hS => op_assign (show a_.eval (.tmp 41) = .int .i64 (kOf (und s)) from hD 1 rfl)),
              trivial⟩
          intro a15 w15 gs15 hn15 hd15 hBt hr hR hP hX hU
          replace hn := hn15; replace hd := hd15.trans hd
          replace b7 := b7.keep hBt ⟨fun _ => ne2_7, trivial⟩
          have e40 : a15.eval (.tmp 40) = .agg #[.bool false, .slice none 0 0, .slice none 0 0] := hP 0 (by decide)
          have b2 : BoxV R3 w15 ((gs1 0)) (.agg #[.bool false, .slice none 0 0, .slice none 0 0]) := boxv_old ((hX 0 _ rfl).2.1 rfl) (hX 0 _ rfl).2.2.2 e40
          replace f2 : a15.eval (.tmp 2) = _ := (hR 2 rfl).trans f2
          replace f7 := (hR 7 rfl).trans f7
          replace f9 := (hR 9 rfl).trans f9
          have e3 : a15.eval (.tmp 3) = .int .i64 (kOf (und s)) := hP 3 (by decide)
          have f3 := e3
          replace G6 := G6.rl hr
          replace A6 := A6.rl hr
          replace K13 := K13.rl hr
          replace S13 := S13.rl hr
          replace HB := HB.trans (hBt.below HB.size (UpOld.all (bx := [⟨R3, none, (gs1 0), 2, .agg #[.bool false, .slice none 0 0, .slice none 0 0], some (2, 40, 0), []⟩]) ⟨fun _ => u2, trivial⟩))
          clear hBt hr hR hP hX hU
          refine wp_ret ?_
          repeat (first | refine then_ret ?_ | refine scope_ret ?_ | refine block_ret ?_)
          exact bodyPost_ret (v := .tuple #[.agg #[.bool false, .slice none 0 0, .slice none 0 0], .int .i64 (kOf (und s))]) (res_ct rfl f2 (lv_R3 b2) f3) hd ⟨_, rfl, ⟨_, _, rfl, by rw [ra4 hsz he0 hf0 hk0]; exact outr_zero0 _, by rw [ra4 hsz he0 hf0 hk0]; rfl⟩, HB⟩
        · skip
          have hk0 : kOf (und s) = 0 := by simpa using hc39
          refine wp_skip ?_
          refine wp_seq ?_
          have E_ : Ag w14 false a_13 r_13.length c_13 r_13 (xOf (und s)) := ⟨S13, V13⟩
          by_cases hx0 : xOf (und s) = 0
          · skip
            refine region4 [some 42, some 43, some 44, some 45, some 46, some 47, none, some 3] [Eqs (.agg #[.bool n_6, .slice a_6 r_6.length c_6]), Eqs (.slice a_13 r_13.length c_13), Eqs (.agg #[.bool false, .slice a_13 r_13.length c_13]), Tup2 (Eqs (.agg #[.bool false, .slice none 0 0, .slice none 0 0])) (Eqs (.int .i64 20)), Eqs (.agg #[.bool false, .slice none 0 0, .slice none 0 0]), Eqs (.int .i64 20), (fun _ _ => True), Eqs (.int .i64 20)] [⟨R3, none, (gs1 0), 2, .agg #[.bool false, .slice none 0 0, .slice none 0 0], some (6, 46, 4), []⟩] [] (by kernel_rfl) hn rfl (by kernel_rfl) (by kernel_rfl) (by kernel_rfl) (by kernel_rfl) (by kernel_rfl) (by kernel_rfl) ⟨Eqs.mono4 _, Eqs.mono4 _, Eqs.mono4 _, Tup2.mono4 (Eqs.mono4 _) (Eqs.mono4 _), Eqs.mono4 _, Eqs.mono4 _, True.mono4, Eqs.mono4 _, trivial⟩ (ok_cons R3ok ok_nil) (IsOld.all (bx := [⟨R3, none, (gs1 0), 2, .agg #[.bool false, .slice none 0 0, .slice none 0 0], some (6, 46, 4), []⟩]) ⟨fun _ => ⟨f2, b2⟩, trivial⟩) (DisOld.all (bx := [⟨R3, none, (gs1 0), 2, .agg #[.bool false, .slice none 0 0, .slice none 0 0], some (6, 46, 4), []⟩]) ⟨fun _ => trivial, trivial⟩) ?_ ?_
            · exact ⟨.norm 42 rfl rfl rfl (fun a_ w_ hn_ hBt hr hR hD hO hS => op_loadv W2ok ((hR 7 rfl).trans f7) (b7.keep hBt ⟨fun _ => ne2_7, trivial⟩)),
                .norm 43 rfl rfl rfl (fun a_ w_ hn_ hBt hr hR hD hO hS => op_mv ((hR 9 rfl).trans f9)),
                .norm 44 rfl rfl rfl (fun a_ w_ hn_ hBt hr hR hD hO hS => op_bW1 (show a_.eval (.tmp 43) = .slice a_13 r_13.length c_13 from hD 1 rfl)),
                .norm 45 rfl rfl rfl (fun a_ w_ hn_ hBt hr hR hD hO hS => op_rof0 (isw_eq (show a_.eval (.tmp 42) = .agg #[.bool n_6, .slice a_6 r_6.length c_6] from hD 0 rfl) (A6.rl hr) l6) (isw_eq (show a_.eval (.tmp 44) = .agg #[.bool false, .slice a_13 r_13.length c_13] from hD 2 rfl) (E_.rl hr) l13) (by omega) hx0),
                .norm 46 rfl rfl rfl (fun a_ w_ hn_ hBt hr hR hD hO hS => op_ex20 (show Tup2 (Eqs (.agg #[.bool false, .slice none 0 0, .slice none 0 0])) (Eqs (.int .i64 20)) (a_.eval (.tmp 45)) w_ from hD 3 rfl)),
                .norm 47 rfl rfl rfl (fun a_ w_ hn_ hBt hr hR hD hO hS => op_ex21 (show Tup2 (Eqs (.agg #[.bool false, .slice none 0 0, .slice none 0 0])) (Eqs (.int .i64 20)) (a_.eval (.tmp 45)) w_ from hD 3 rfl)),
                .store 0 _ _ _ rfl rfl rfl rfl rfl rfl rfl (fun ia h => by cases h) rfl rfl rfl (eqs_cs r3_cs),
                .norm 3 rfl rfl rfl (fun a_ w_ hn_ hBt hr hR hD hO hS => op_assign (show a_.eval (.tmp 47) = .int .i64 20 from hD 5 rfl)),
                trivial⟩
            intro a16 w16 gs16 hn16 hd16 hBt hr hR hP hX hU
            replace hn := hn16; replace hd := hd16.trans hd
            have e46 : a16.eval (.tmp 46) = .agg #[.bool false, .slice none 0 0, .slice none 0 0] := hP 4 (by decide)
            have b2 : BoxV R3 w16 ((gs1 0)) (.agg #[.bool false, .slice none 0 0, .slice none 0 0]) := boxv_old ((hX 0 _ rfl).2.1 rfl) (hX 0 _ rfl).2.2.2 e46
            replace f2 : a16.eval (.tmp 2) = _ := (hR 2 rfl).trans f2
            have e3 : a16.eval (.tmp 3) = .int .i64 20 := hP 7 (by decide)
            have f3 := e3
            replace G6 := G6.rl hr
            replace A6 := A6.rl hr
            replace K13 := K13.rl hr
            replace S13 := S13.rl hr
            replace E_ := E_.rl hr
            replace HB := HB.trans (hBt.below HB.size (UpOld.all (bx := [⟨R3, none, (gs1 0), 2, .agg #[.bool false, .slice none 0 0, .slice none 0 0], some (6, 46, 4), []⟩]) ⟨fun _ => u2, trivial⟩))
            clear hBt hr hR hP hX hU
            refine wp_ret ?_
            repeat (first | refine then_ret ?_ | refine scope_ret ?_ | refine block_ret ?_)
            exact bodyPost_ret (v := .tuple #[.agg #[.bool false, .slice none 0 0, .slice none 0 0], .int .i64 20]) (res_ct rfl f2 (lv_R3 b2) f3) hd ⟨_, rfl, ⟨_, _, rfl, by rw [ra5 hsz he0 hf0 hk0 hx0]; exact outr_zero0 _, by rw [ra5 hsz he0 hf0 hk0 hx0]; rfl⟩, HB⟩
          · skip
            refine region4 [some 42, some 43, some 44, some 45, some 46, some 47, none, some 3] [Eqs (.agg #[.bool n_6, .slice a_6 r_6.length c_6]), Eqs (.slice a_13 r_13.length c_13), Eqs (.agg #[.bool false, .slice a_13 r_13.length c_13]), Tup2 (OutR (nm (zOf (over s)) (xOf (und s))) (dn (zOf (over s)) (xOf (und s))) ((6000) + (6000))) (Eqs (.int .i64 0)), OutR (nm (zOf (over s)) (xOf (und s))) (dn (zOf (over s)) (xOf (und s))) ((6000) + (6000)), Eqs (.int .i64 0), (fun _ _ => True), Eqs (.int .i64 0)] [⟨R3, none, (gs1 0), 2, .agg #[.bool false, .slice none 0 0, .slice none 0 0], some (6, 46, 4), []⟩] [] (by kernel_rfl) hn rfl (by kernel_rfl) (by kernel_rfl) (by kernel_rfl) (by kernel_rfl) (by kernel_rfl) (by kernel_rfl) ⟨Eqs.mono4 _, Eqs.mono4 _, Eqs.mono4 _, Tup2.mono4 (OutR.mono4 _ _ _) (Eqs.mono4 _), OutR.mono4 _ _ _, Eqs.mono4 _, True.mono4, Eqs.mono4 _, trivial⟩ (ok_cons R3ok ok_nil) (IsOld.all (bx := [⟨R3, none, (gs1 0), 2, .agg #[.bool false, .slice none 0 0, .slice none 0 0], some (6, 46, 4), []⟩]) ⟨fun _ => ⟨f2, b2⟩, trivial⟩) (DisOld.all (bx := [⟨R3, none, (gs1 0), 2, .agg #[.bool false, .slice none 0 0, .slice none 0 0], some (6, 46, 4), []⟩]) ⟨fun _ => trivial, trivial⟩) ?_ ?_
            · exact ⟨.norm 42 rfl rfl rfl (fun a_ w_ hn_ hBt hr hR hD hO hS => op_loadv W2ok ((hR 7 rfl).trans f7) (b7.keep hBt ⟨fun _ => ne2_7, trivial⟩)),
                .norm 43 rfl rfl rfl (fun a_ w_ hn_ hBt hr hR hD hO hS => op_mv ((hR 9 rfl).trans f9)),
                .norm 44 rfl rfl rfl (fun a_ w_ hn_ hBt hr hR hD hO hS => op_bW1 (show a_.eval (.tmp 43) = .slice a_13 r_13.length c_13 from hD 1 rfl)),
                .norm 45 rfl rfl rfl (fun a_ w_ hn_ hBt hr hR hD hO hS => op_rof (isw_eq (show a_.eval (.tmp 42) = .agg #[.bool n_6, .slice a_6 r_6.length c_6] from hD 0 rfl) (A6.rl hr) l6) (isw_eq (show a_.eval (.tmp 44) = .agg #[.bool false, .slice a_13 r_13.length c_13] from hD 2 rfl) (E_.rl hr) l13) (by omega) hx0),
                .norm 46 rfl rfl rfl (fun a_ w_ hn_ hBt hr hR hD hO hS => op_ex20 (show Tup2 (OutR (nm (zOf (over s)) (xOf (und s))) (dn (zOf (over s)) (xOf (und s))) ((6000) + (6000))) (Eqs (.int .i64 0)) (a_.eval (.tmp 45)) w_ from hD 3 rfl)),
                .norm 47 rfl rfl rfl (fun a_ w_ hn_ hBt hr hR hD hO hS => op_ex21 (show Tup2 (OutR (nm (zOf (over s)) (xOf (und s))) (dn (zOf (over s)) (xOf (und s))) ((6000) + (6000))) (Eqs (.int .i64 0)) (a_.eval (.tmp 45)) w_ from hD 3 rfl)),
                .store 0 _ _ _ rfl rfl rfl rfl rfl rfl rfl (fun ia h => by cases h) rfl rfl rfl OutR.cs,
                .norm 3 rfl rfl rfl (fun a_ w_ hn_ hBt hr hR hD hO hS => op_assign (show a_.eval (.tmp 47) = .int .i64 0 from hD 5 rfl)),
                trivial⟩
            intro a17 w17 gs17 hn17 hd17 hBt hr hR hP hX hU
            replace hn := hn17; replace hd := hd17.trans hd
            obtain ⟨n_18, a_18, c_18, r_18, b_18, d_18, s_18, e46, G18, K18, l18, k18⟩ : OutR (nm (zOf (over s)) (xOf (und s))) (dn (zOf (over s)) (xOf (und s))) ((6000) + (6000)) (a17.eval (.tmp 46)) w17 := hP 4 (by decide)
            have A18 := G18.ag; have S18 := K18.sl; have V18 := K18.val
            have b2 : BoxV R3 w17 ((gs1 0)) (.agg #[.bool n_18, .slice a_18 r_18.length c_18, .slice b_18 s_18.length d_18]) := boxv_old ((hX 0 _ rfl).2.1 rfl) (hX 0 _ rfl).2.2.2 e46
            replace f2 : a17.eval (.tmp 2) = _ := (hR 2 rfl).trans f2
            have e3 : a17.eval (.tmp 3) = .int .i64 0 := hP 7 (by decide)
            have f3 := e3
            replace G6 := G6.rl hr
            replace A6 := A6.rl hr
            replace K13 := K13.rl hr
            replace S13 := S13.rl hr
            replace E_ := E_.rl hr
            replace HB := HB.trans (hBt.below HB.size (UpOld.all (bx := [⟨R3, none, (gs1 0), 2, .agg #[.bool false, .slice none 0 0, .slice none 0 0], some (6, 46, 4), []⟩]) ⟨fun _ => u2, trivial⟩))
            clear hBt hr hR hP hX hU
            refine wp_ret ?_
            repeat (first | refine then_ret ?_ | refine scope_ret ?_ | refine block_ret ?_)
            exact bodyPost_ret (v := .tuple #[.agg #[.bool n_18, .slice a_18 r_18.length c_18, .slice b_18 s_18.length d_18], .int .i64 0]) (res_ct rfl f2 (lv_R3 b2) f3) hd ⟨_, rfl, ⟨_, _, rfl, by rw [ra6 hsz he0 hf0 hk0 hx0]; exact (outr_eq rfl G18 K18 l18 k18).to rfl rfl (by omega), by rw [ra6 hsz he0 hf0 hk0 hx0]; rfl⟩, HB⟩
end Lm
end Go.Proofs.YtdiiankcjgoecaaDoor

namespace Go.Proofs.YtdiiankcjgoecaaDoor
namespace Lm
open Go Go.RowKit
theorem op_bits1x {dst : Option Tmp} {ty : TypeId} {pos : String} {after : Array Edge} {guard : Option (Nat × Bool)} {a : Act} {w : World} {i : Nat} {x : Int} (h : BitsOf x (a.eval (.tmp i)) w) (hx : 0 < x) :
    Does Tryd.prog { dst, op := .binOp .eql 3 (.tmp i) (.const (.int .i64 1)) 3, type := ty, pos, after, guard } a.eval w fun v' w' => Below w.heap.size w w' ∧ Eqs (.bool (decide (x = 1))) v' w' := by
  obtain ⟨k, e, B⟩ := h
  refine (op_eqlk e).mono ?_
  rintro v w' ⟨hb, e'⟩
  refine ⟨hb, ?_⟩
  rw [Eqs, show v = _ from e']
  congr 1
  exact decide_eq_decide.2 (bits_is_one B hx)
set_option maxRecDepth 20000 in
set_option maxHeartbeats 2000000 in
theorem rtext_z (w : World) (L : Nat) (hL : L ≤ 10000) (nr : Bool) (ar : Option Addr) (mr cr : Nat) (rs : List Int) (pr : Int) (Ar : Ag w nr ar mr cr rs pr) (Lr : rs.length ≤ L) (br : Option Addr) (kr dr : Nat) (rt : List Int) (qr : Int) (Sr : Sl w (.slice br kr dr) rt) (Vr : val rt = qr) (Mr : rt.length ≤ L) :
    Calls Tryd.prog 26 #[.agg #[.bool nr, .slice ar mr cr, .slice br kr dr]] w fun e w' => e = .returned (.string (rtxt (nm (tp pr qr) (tq qr)) (dn (tp pr qr) (tq qr)))) ∧ Below w.heap.size w w' := by
  go_enter Tryd.func26, Tryd.ntmps26
  generalize hA : (Act.mk _ _) = aa
  have hn : aa.tmps.size = 21 := by rw [← hA]; rfl
  have hd : aa.defers = [] := by rw [← hA]
  have f0 : aa.eval (.tmp 0) = .agg #[.bool nr, .slice ar mr cr, .slice br kr dr] := by rw [← hA]; rfl
  clear hA
  have HB : Below w.heap.size w w := Below.refl _ _
  have Dr : Ag w false br kr dr rt qr := ⟨Sr, Vr⟩
  have hq0 : 0 < dn (tp pr qr) (tq qr) := dn_pos _ (tq_ne qr)
  refine wp_seq ?_
  refine region4 [some 1, some 2] [(fun _ _ => True), Eqs ((.string ⟨#[]⟩))] [⟨R3, some 0, 0, 1, .agg #[.bool nr, .slice ar mr cr, .slice br kr dr], none, []⟩] [] (by kernel_rfl) hn rfl (by kernel_rfl) (by kernel_rfl) (by kernel_rfl) (by kernel_rfl) (by kernel_rfl) (by kernel_rfl) ⟨True.mono4, Eqs.mono4 _, trivial⟩ (ok_cons R3ok ok_nil) (IsOld.all (bx := [⟨R3, some 0, 0, 1, .agg #[.bool nr, .slice ar mr cr, .slice br kr dr], none, []⟩]) ⟨someNe, trivial⟩) (DisOld.all (bx := [⟨R3, some 0, 0, 1, .agg #[.bool nr, .slice ar mr cr, .slice br kr dr], none, []⟩]) ⟨someNe, trivial⟩) ?_ ?_
  · exact ⟨.alloc 0 _ rfl rfl (.inr ⟨_, rfl, r3_cs, fun a_ hR => (hR 0 rfl).trans f0⟩) rfl rfl rfl rfl rfl,
      .norm 2 rfl rfl rfl (fun a_ w_ hn_ hBt hr hR hD hO hS => op_assign rfl),
      trivial⟩
  intro a1 w1 gs1 hn1 hd1 hBt hr hR hP hX hU
  replace hn := hn1; replace hd := hd1.trans hd
  have b1 : BoxV R3 w1 (gs1 0) (.agg #[.bool nr, .slice ar mr cr, .slice br kr dr]) := (hX 0 _ rfl).2.2.2
  have f1 := (hX 0 _ rfl).1
  have u1 : w.heap.size ≤ gs1 0 := Nat.le_trans HB.size ((hX 0 _ rfl).2.2.1 (by simp))
  have e2 : a1.eval (.tmp 2) = (.string ⟨#[]⟩) := hP 1 (by decide)
  have f2 := e2
  replace Ar := Ar.rl hr
  replace Sr := Sr.rl hr
  replace Dr := Dr.rl hr
  replace HB := HB.trans (hBt.below HB.size (UpOld.all (bx := [⟨R3, some 0, 0, 1, .agg #[.bool nr, .slice ar mr cr, .slice br kr dr], none, []⟩]) ⟨someNe, trivial⟩))
  clear hBt hr hR hP hX hU
  refine wp_seq ?_
  refine region4 [some 5, some 6, some 3, none] [Eqs (.agg #[.bool nr, .slice ar mr cr, .slice br kr dr]), OutR ((nm (tp pr qr) (tq qr))) ((dn (tp pr qr) (tq qr))) (2 * ((L) + 2)), (fun _ _ => True), (fun _ _ => True)] [⟨R3, some 2, 0, 3, .agg #[.bool false, .slice none 0 0, .slice none 0 0], some (3, 6, 1), []⟩] [] (by kernel_rfl) hn rfl (by kernel_rfl) (by kernel_rfl) (by kernel_rfl) (by kernel_rfl) (by kernel_rfl) (by kernel_rfl) ⟨Eqs.mono4 _, OutR.mono4 _ _ _, True.mono4, True.mono4, trivial⟩ (ok_cons R3ok ok_nil) (IsOld.all (bx := [⟨R3, some 2, 0, 3, .agg #[.bool false, .slice none 0 0, .slice none 0 0], some (3, 6, 1), []⟩]) ⟨someNe, trivial⟩) (DisOld.all (bx := [⟨R3, some 2, 0, 3, .agg #[.bool false, .slice none 0 0, .slice none 0 0], some (3, 6, 1), []⟩]) ⟨someNe, trivial⟩) ?_ ?_
  · exact ⟨.norm 5 rfl rfl rfl (fun a_ w_ hn_ hBt hr hR hD hO hS => op_loadv R3ok ((hR 1 rfl).trans f1) (b1.keep hBt ⟨someNe, trivial⟩)),
      .norm 6 rfl rfl rfl (fun a_ w_ hn_ hBt hr hR hD hO hS => op_rtrim (isr_eq (show a_.eval (.tmp 5) = .agg #[.bool nr, .slice ar mr cr, .slice br kr dr] from hD 0 rfl) (Ar.rl hr) (Sr.rl hr) Vr Lr Mr) (by omega)),
      .alloc 0 _ rfl rfl (.inl ⟨rfl, rfl⟩) rfl rfl rfl rfl rfl,
      .store 0 _ _ _ rfl rfl rfl rfl rfl rfl rfl (fun ia h => by cases h; rfl) rfl rfl rfl OutR.cs,
      trivial⟩
  intro a2 w2 gs2 hn2 hd2 hBt hr hR hP hX hU
  replace hn := hn2; replace hd := hd2.trans hd
  obtain ⟨n_3, a_3, c_3, r_3, b_3, d_3, s_3, e6, G3, K3, l3, k3⟩ : OutR ((nm (tp pr qr) (tq qr))) ((dn (tp pr qr) (tq qr))) (2 * ((L) + 2)) (a2.eval (.tmp 6)) w2 := hP 1 (by decide)
  have A3 := G3.ag; have S3 := K3.sl; have V3 := K3.val
  have b3 : BoxV R3 w2 (gs2 0) (.agg #[.bool n_3, .slice a_3 r_3.length c_3, .slice b_3 s_3.length d_3]) := boxv_of (hX 0 _ rfl).2.2.2 e6
  have f3 := (hX 0 _ rfl).1
  have u3 : w.heap.size ≤ gs2 0 := Nat.le_trans HB.size ((hX 0 _ rfl).2.2.1 (by simp))
  replace f2 := (hR 2 rfl).trans f2
  replace Ar := Ar.rl hr
  replace Sr := Sr.rl hr
  replace Dr := Dr.rl hr
  replace HB := HB.trans (hBt.below HB.size (UpOld.all (bx := [⟨R3, some 2, 0, 3, .agg #[.bool false, .slice none 0 0, .slice none 0 0], some (3, 6, 1), []⟩]) ⟨someNe, trivial⟩))
  clear hBt hr hR hP hX hU
  refine wp_seq ?_
  have hsp := wh_txt G3; have hsq := got_txt K3
  have hlp := l3; have hlq := k3
  refine region4 [some 7, some 8, some 9, some 4] [Eqs (.pointer (some ⟨gs2 0, 0, none⟩)), Eqs (.agg #[.bool n_3, .slice a_3 r_3.length c_3]), Eqs (.string (txt (nm (tp pr qr) (tq qr)))), Eqs (.string (txt (nm (tp pr qr) (tq qr))))] [] [] (by kernel_rfl) hn rfl (by kernel_rfl) (by kernel_rfl) (by kernel_rfl) (by kernel_rfl) (by kernel_rfl) (by kernel_rfl) ⟨Eqs.mono4 _, Eqs.mono4 _, Eqs.mono4 _, Eqs.mono4 _, trivial⟩ ok_nil (IsOld.all (bx := []) trivial) (DisOld.all (bx := []) trivial) ?_ ?_
  · exact ⟨.norm 7 rfl rfl rfl (fun a_ w_ hn_ hBt hr hR hD hO hS => op_faR fa_num ((hR 3 rfl).trans f3)),
      .norm 8 rfl rfl rfl (fun a_ w_ hn_ hBt hr hR hD hO hS => op_ldnum (show a_.eval (.tmp 7) = .pointer (some ⟨gs2 0, 0, none⟩) from hD 0 rfl) (b3.keep hBt trivial)),
      .norm 9 rfl rfl rfl (fun a_ w_ hn_ hBt hr hR hD hO hS => op_wtext (isw_eq (show a_.eval (.tmp 8) = .agg #[.bool n_3, .slice a_3 r_3.length c_3] from hD 1 rfl) (A3.rl hr) l3) (by omega)),
      .norm 4 rfl rfl rfl (fun a_ w_ hn_ hBt hr hR hD hO hS => op_assign (show a_.eval (.tmp 9) = .string (txt (nm (tp pr qr) (tq qr))) from hD 2 rfl)),
      trivial⟩
  intro a4 w4 gs4 hn4 hd4 hBt hr hR hP hX hU
  replace hn := hn4; replace hd := hd4.trans hd
  replace b3 := b3.keep hBt trivial
  replace f2 := (hR 2 rfl).trans f2
  replace f3 := (hR 3 rfl).trans f3
  have e4 : a4.eval (.tmp 4) = .string (txt (nm (tp pr qr) (tq qr))) := hP 3 (by decide)
  have f4 := e4
  replace Ar := Ar.rl hr
  replace Sr := Sr.rl hr
  replace Dr := Dr.rl hr
  replace G3 := G3.rl hr
  replace A3 := A3.rl hr
  replace K3 := K3.rl hr
  replace S3 := S3.rl hr
  replace HB := HB.trans (hBt.below HB.size (UpOld.all (bx := []) trivial))
  clear hBt hr hR hP hX hU
  refine wp_seq ?_
  refine wp_seq ?_
  refine region4 [some 10, some 11, some 12, some 13] [Eqs (.pointer (some ⟨gs2 0, 2, none⟩)), Eqs (.slice b_3 s_3.length d_3), BitsOf ((dn (tp pr qr) (tq qr))), Eqs (.bool (decide ((dn (tp pr qr) (tq qr)) = 1)))] [] [] (by kernel_rfl) hn rfl (by kernel_rfl) (by kernel_rfl) (by kernel_rfl) (by kernel_rfl) (by kernel_rfl) (by kernel_rfl) ⟨Eqs.mono4 _, Eqs.mono4 _, BitsOf.mono4 _, Eqs.mono4 _, trivial⟩ ok_nil (IsOld.all (bx := []) trivial) (DisOld.all (bx := []) trivial) ?_ ?_
  · exact ⟨.norm 10 rfl rfl rfl (fun a_ w_ hn_ hBt hr hR hD hO hS => op_faR fa_den ((hR 3 rfl).trans f3)),
      .norm 11 rfl rfl rfl (fun a_ w_ hn_ hBt hr hR hD hO hS => op_ldden (show a_.eval (.tmp 10) = .pointer (some ⟨gs2 0, 2, none⟩) from hD 0 rfl) (b3.keep hBt trivial)),
      .norm 12 rfl rfl rfl (fun a_ w_ hn_ hBt hr hR hD hO hS => op_lbits (isl_eq (show a_.eval (.tmp 11) = .slice b_3 s_3.length d_3 from hD 1 rfl) (S3.rl hr) V3 k3) (by omega)),
      .norm 13 rfl rfl rfl (fun a_ w_ hn_ hBt hr hR hD hO hS => op_bits1x (show BitsOf ((dn (tp pr qr) (tq qr))) (a_.eval (.tmp 12)) w_ from hD 2 rfl) hq0),
      trivial⟩
  intro a5 w5 gs5 hn5 hd5 hBt hr hR hP hX hU
  replace hn := hn5; replace hd := hd5.trans hd
  replace b3 := b3.keep hBt trivial
  replace f2 := (hR 2 rfl).trans f2
  replace f3 := (hR 3 rfl).trans f3
  replace f4 := (hR 4 rfl).trans f4
  have e13 : a5.eval (.tmp 13) = .bool (decide ((dn (tp pr qr) (tq qr)) = 1)) := hP 3 (by decide)
  have f13 := e13
  replace Ar := Ar.rl hr
  replace Sr := Sr.rl hr
  replace Dr := Dr.rl hr
  replace G3 := G3.rl hr
  replace A3 := A3.rl hr
  replace K3 := K3.rl hr
  replace S3 := S3.rl hr
  replace HB := HB.trans (hBt.below HB.size (UpOld.all (bx := []) trivial))
  clear hBt hr hR hP hX hU
  refine wp_cond_split f13 (fun hc13 => ?_) (fun hc13 => ?_)
  · skip
    have hq1 := of_decide_eq_true hc13
    refine wp_seq ?_
    refine region4 [some 14, some 2] [Eqs (.string (txt (nm (tp pr qr) (tq qr)))), Eqs (.string (txt (nm (tp pr qr) (tq qr))))] [] [] (by kernel_rfl) hn rfl (by kernel_rfl) (by kernel_rfl) (by kernel_rfl) (by kernel_rfl) (by kernel_rfl) (by kernel_rfl) ⟨Eqs.mono4 _, Eqs.mono4 _, trivial⟩ ok_nil (IsOld.all (bx := []) trivial) (DisOld.all (bx := []) trivial) ?_ ?_
    · exact ⟨.norm 14 rfl rfl rfl (fun a_ w_ hn_ hBt hr hR hD hO hS => op_mv ((hR 4 rfl).trans f4)),
        .norm 2 rfl rfl rfl (fun a_ w_ hn_ hBt hr hR hD hO hS => op_assign (show a_.eval (.tmp 14) = .string (txt (nm (tp pr qr) (tq qr))) from hD 0 rfl)),
        trivial⟩
    intro a6 w6 gs6 hn6 hd6 hBt hr hR hP hX hU
    replace hn := hn6; replace hd := hd6.trans hd
    replace b3 := b3.keep hBt trivial
    replace f3 := (hR 3 rfl).trans f3
    replace f4 := (hR 4 rfl).trans f4
    have e2 : a6.eval (.tmp 2) = .string (txt (nm (tp pr qr) (tq qr))) := hP 1 (by decide)
    have f2 := e2
    replace Ar := Ar.rl hr
    replace Sr := Sr.rl hr
    replace Dr := Dr.rl hr
    replace G3 := G3.rl hr
    replace A3 := A3.rl hr
    replace K3 := K3.rl hr
    replace S3 := S3.rl hr
    replace HB := HB.trans (hBt.below HB.size (UpOld.all (bx := []) trivial))
    clear hBt hr hR hP hX hU
    refine wp_ret ?_
    repeat (first | refine then_ret ?_ | refine scope_ret ?_ | refine block_ret ?_)
    exact bodyPost_ret (v := .string (txt (nm (tp pr qr) (tq qr)))) (res_t rfl f2) hd ⟨by rw [rtxt1 hq1], HB⟩
  · skip
    have hq1 := of_decide_eq_false hc13
    refine wp_skip ?_
    refine wp_seq ?_
    refine region4 [some 15, some 16, some 17, some 18, some 19, some 20, some 2] [Eqs (.string (txt (nm (tp pr qr) (tq qr)))), Eqs (.string ((txt (nm (tp pr qr) (tq qr))) ++ ⟨#[47]⟩)), Eqs (.pointer (some ⟨gs2 0, 2, none⟩)), Eqs (.slice b_3 s_3.length d_3), Eqs (.string (txt (dn (tp pr qr) (tq qr)))), Eqs (.string (((txt (nm (tp pr qr) (tq qr))) ++ ⟨#[47]⟩) ++ (txt (dn (tp pr qr) (tq qr))))), Eqs (.string (((txt (nm (tp pr qr) (tq qr))) ++ ⟨#[47]⟩) ++ (txt (dn (tp pr qr) (tq qr)))))] [] [] (by kernel_rfl) hn rfl (by kernel_rfl) (by kernel_rfl) (by kernel_rfl) (by kernel_rfl) (by kernel_rfl) (by kernel_rfl) ⟨Eqs.mono4 _, Eqs.mono4 _, Eqs.mono4 _, Eqs.mono4 _, Eqs.mono4 _, Eqs.mono4 _, Eqs.mono4 _, trivial⟩ ok_nil (IsOld.all (bx := []) trivial) (DisOld.all (bx := []) trivial) ?_ ?_
    · exact ⟨.norm 15 rfl rfl rfl (fun a_ w_ hn_ hBt hr hR hD hO hS => op_mv ((hR 4 rfl).trans f4)),
        .norm 16 rfl rfl rfl (fun a_ w_ hn_ hBt hr hR hD hO hS => op_addsk (show a_.eval (.tmp 15) = .string (txt (nm (tp pr qr) (tq qr))) from hD 0 rfl) (by rw [ByteArray.size_append]; have h3_ : (⟨#[47]⟩ : ByteArray).size = 1 := rfl; omega)),
        .norm 17 rfl rfl rfl (fun a_ w_ hn_ hBt hr hR hD hO hS => op_faR fa_den ((hR 3 rfl).trans f3)),
        .norm 18 rfl rfl rfl (fun a_ w_ hn_ hBt hr hR hD hO hS => op_ldden (show a_.eval (.tmp 17) = .pointer (some ⟨gs2 0, 2, none⟩) from hD 2 rfl) (b3.keep hBt trivial)),
        .norm 19 rfl rfl rfl (fun a_ w_ hn_ hBt hr hR hD hO hS => op_ltxt (isl_eq (show a_.eval (.tmp 18) = .slice b_3 s_3.length d_3 from hD 3 rfl) (S3.rl hr) V3 k3) (by omega)),
        .norm 20 rfl rfl rfl (fun a_ w_ hn_ hBt hr hR hD hO hS => op_addst (show a_.eval (.tmp 16) = .string ((txt (nm (tp pr qr) (tq qr))) ++ ⟨#[47]⟩) from hD 1 rfl) (show a_.eval (.tmp 19) = .string (txt (dn (tp pr qr) (tq qr))) from hD 4 rfl) (by rw [ByteArray.size_append, ByteArray.size_append]; have h3_ : (⟨#[47]⟩ : ByteArray).size = 1 := rfl; omega)),
        .norm 2 rfl rfl rfl (fun a_ w_ hn_ hBt hr hR hD hO hS => op_assign (show a_.eval (.tmp 20) = .string (((txt (nm (tp pr qr) (tq qr))) ++ ⟨#[47]⟩) ++ (txt (dn (tp pr qr) (tq qr)))) from hD 5 rfl)),
        trivial⟩
    intro a7 w7 gs7 hn7 hd7 hBt hr hR hP hX hU
    replace hn := hn7; replace hd := hd7.trans hd
    have e2 : a7.eval (.tmp 2) = .string (((txt (nm (tp pr qr) (tq qr))) ++ ⟨#[47]⟩) ++ (txt (dn (tp pr qr) (tq qr)))) := hP 6 (by decide)
    have f2 := e2
    replace Ar := Ar.rl hr
    replace Sr := Sr.rl hr
    replace Dr := Dr.rl hr
    replace G3 := G3.rl hr
    replace A3 := A3.rl hr
    replace K3 := K3.rl hr
    replace S3 := S3.rl hr
    replace HB := HB.trans (hBt.below HB.size (UpOld.all (bx := []) trivial))
    clear hBt hr hR hP hX hU
    refine wp_ret ?_
    repeat (first | refine then_ret ?_ | refine scope_ret ?_ | refine block_ret ?_)
    exact bodyPost_ret (v := .string (((txt (nm (tp pr qr) (tq qr))) ++ ⟨#[47]⟩) ++ (txt (dn (tp pr qr) (tq qr))))) (res_t rfl f2) hd ⟨by rw [rtxt2 hq1], HB⟩
end Lm
end Go.Proofs.YtdiiankcjgoecaaDoor

namespace Go.Proofs.YtdiiankcjgoecaaDoor
namespace Lm
open Go Go.RowKit
section
variable {dst : Option Tmp} {ty : TypeId} {pos : String} {after : Array Edge} {guard : Option (Nat × Bool)} {a : Act} {w : World} {ats : Array TypeId} {i j : Nat} {x p q : Int} {L : Nat}
end
section
variable {dst : Option Tmp} {ty : TypeId} {pos : String} {after : Array Edge} {guard : Option (Nat × Bool)} {a : Act} {w : World} {ats : Array TypeId} {i j : Nat} {p q : Int} {L : Nat} {s : ByteArray}
theorem has_rtextx : Has Tryd.prog 26 := by unfold Has; kernel_rfl
theorem op_rtext (h : IsR p q L (a.eval (.tmp i)) w) (hL : L ≤ 10000) :
    Does Tryd.prog { dst, op := .call { callee := .value (.func 26), args := #[.tmp i], argTypes := ats }, type := ty, pos, after, guard } a.eval w fun v w' => Below w.heap.size w w' ∧ Eqs (.string (rtxt (nm (tp p q) (tq q)) (dn (tp p q) (tq q)))) v w' := by
  obtain ⟨ng, ao, n, cap, xs, bo, m, dap, ys, e, A, S, V, l1, l2⟩ := h
  refine does_call has_rtextx _ (by simp only [List.map_toArray, List.map_cons, List.map_nil, e]) ((rtext_z w L hL _ _ _ _ _ _ A l1 _ _ _ _ _ S V l2).mono ?_)
  rintro e w' ⟨rfl, hb⟩
  exact ⟨_, rfl, hb, rfl⟩
theorem has_rparse : Has Tryd.prog 24 := by unfold Has; kernel_rfl
theorem op_rparse (h : a.eval (.tmp i) = .string s) (hT : TabsR w) :
    Does Tryd.prog { dst, op := .call { callee := .value (.func 24), args := #[.tmp i], argTypes := ats }, type := ty, pos, after, guard } a.eval w fun v w' => Below w.heap.size w w' ∧ Tup2 (OutR (rAns s).1 (rAns s).2.1 24000) (Eqs (.int .i64 (rAns s).2.2)) v w' := by
  refine does_call has_rparse _ (by simp only [List.map_toArray, List.map_cons, List.map_nil, h]) ((rparse_z w s hT).mono ?_)
  rintro e w' ⟨v, rfl, ht, hb⟩
  exact ⟨_, rfl, hb, ht⟩
end
end Lm
end Go.Proofs.YtdiiankcjgoecaaDoor

namespace Go.Proofs.YtdiiankcjgoecaaDoor
namespace Lm
open Go Go.RowKit
open Dm (Err Fine)
theorem bytes_inj {s t : ByteArray} (h : bytesOf s = bytesOf t) : s = t := by rw [← strOf_bytes s, ← strOf_bytes t, h]
theorem bytes_app (s t : ByteArray) : bytesOf (s ++ t) = bytesOf s ++ bytesOf t := by
  rw [bytesOf, bytesOf, bytesOf]
  simp
theorem bytes_to (s : ByteArray) (k : Nat) : bytesOf (s.extract 0 k) = (bytesOf s).take k := by
  rw [bytesOf, Lib.extract_data, bytesOf, List.map_take]
  simp
theorem no_slash (z : Int) : ∀ c ∈ bytesOf (txt z), c ≠ 47 := by
  intro c hc
  by_cases hz : z < 0
  · rw [txt_neg hz] at hc
    rcases List.mem_cons.1 hc with rfl | hc
    · omega
    · have := (dig_dec z.natAbs).1 c hc; omega
  · rw [txt_pos hz] at hc
    have := (dig_dec z.natAbs).1 c hc; omega
theorem getD_mem {l : List Int} {i : Nat} (h : i < l.length) : l.getD i 0 ∈ l := by
  rw [List.getD_eq_getElem?_getD, List.getElem?_eq_getElem h]
  simp
theorem cut_none {s : ByteArray} (h : ∀ c ∈ bytesOf s, c ≠ 47) : over s = s ∧ fnd s = false ∧ ∀ i, i < s.size → ((s.get! i).toNat : Int) ≠ 47 := by
  have hb : ∀ i, i < s.size → ((s.get! i).toNat : Int) ≠ 47 := fun i hi => by
    rw [get_bytes hi]
    exact h _ (getD_mem (by rw [bytesOf_length]; exact hi))
  obtain ⟨h1, h2, _⟩ := cut_at hb (Nat.le_refl _) (.inl rfl)
  refine ⟨?_, by rw [h2]; simp, hb⟩
  rw [h1]
  apply bytes_inj
  rw [bytes_to, List.take_of_length_le (by rw [bytesOf_length]; exact Nat.le_refl _)]
theorem cut_some {s a b : ByteArray} (hs : bytesOf s = bytesOf a ++ 47 :: bytesOf b) (h : ∀ c ∈ bytesOf a, c ≠ 47) : over s = a ∧ fnd s = true ∧ und s = b ∧ a.size < s.size ∧ ((s.get! a.size).toNat : Int) = 47 := by
  have hl : s.size = a.size + 1 + b.size := by
    rw [← bytesOf_length, hs, List.length_append, List.length_cons, bytesOf_length, bytesOf_length]
    omega
  have h47 : ((s.get! a.size).toNat : Int) = 47 := by
    rw [get_bytes (by omega), hs, List.getD_eq_getElem?_getD, List.getElem?_append_right (by rw [bytesOf_length]; exact Nat.le_refl _), bytesOf_length]
    simp
  obtain ⟨h1, h2, h3⟩ := cut_at (s := s) (k := a.size) (fun i hi => by
    rw [get_bytes (by omega), hs, List.getD_eq_getElem?_getD, List.getElem?_append_left (by rw [bytesOf_length]; exact hi), ← List.getD_eq_getElem?_getD]
    exact h _ (getD_mem (by rw [bytesOf_length]; exact hi))) (by omega) (.inr h47)
  refine ⟨?_, by rw [h2]; simp; omega, ?_, by omega, h47⟩
  · rw [h1]
    apply bytes_inj
    rw [bytes_to, hs, List.take_left' (bytesOf_length a)]
  · rw [h3 (by omega)]
    apply bytes_inj
    rw [bytes_from, hs]
    rw [show bytesOf a ++ 47 :: bytesOf b = (bytesOf a ++ [47]) ++ bytesOf b by simp]
    exact List.drop_left' (by rw [List.length_append, bytesOf_length]; rfl)
theorem kOf_ne {r : ByteArray} (h : ¬ Dig (bytesOf r)) : kOf r ≠ 0 := by
  rw [kOf]
  split
  · omega
  · rw [if_neg (fun h' => h h'.2)]; omega
theorem b47 : bytesOf ⟨#[47]⟩ = [47] := rfl
theorem b4749 : bytesOf ⟨#[47, 49]⟩ = [47, 49] := rfl
theorem b49 : bytesOf ⟨#[49]⟩ = [49] := rfl
theorem ans1 {p : Int} (h : Brief p) : rAns (txt p) = (p, 1, 0) := by
  obtain ⟨h1, h2, _⟩ := cut_none (no_slash p)
  have h3 := (txt_size h).2
  obtain ⟨h4, h5⟩ := back_txt h
  rw [ra3 (by omega) (by rw [h1]; exact h5) h2, h1, h4]
theorem ans1s {p : Int} (h : Brief p) : rAns (txt p ++ ⟨#[47, 49]⟩) = (p, 1, 0) := by
  have hb : bytesOf (txt p ++ ⟨#[47, 49]⟩) = bytesOf (txt p) ++ 47 :: bytesOf ⟨#[49]⟩ := by rw [bytes_app]; rfl
  obtain ⟨h1, h2, h3, _⟩ := cut_some hb (no_slash p)
  have hs : (txt p ++ ⟨#[47, 49]⟩ : ByteArray).size = (txt p).size + 2 := by rw [ByteArray.size_append]; rfl
  have h6 := (txt_size h).2
  obtain ⟨h4, h5⟩ := back_txt h
  obtain ⟨k1, k2⟩ := of_digits (r := ⟨#[49]⟩) (x := 1) (by rw [b49]; exact ⟨dig_cons.2 ⟨by omega, dig_nil⟩, by decide, .inr ⟨49, [], rfl, by omega⟩⟩) (by decide)
  rw [ra6 (by omega) (by rw [h1]; exact h5) h2 (by rw [h3]; exact k1) (by rw [h3, k2]; omega), h1, h3, h4, k2]
  have e1 : nm p 1 = p := by unfold nm; simp
  have e2 : dn p 1 = 1 := by unfold dn; simp
  rw [e1, e2]
theorem txt_xOf {q : Int} (h : Brief q) (hq : 0 < q) : kOf (txt q) = 0 ∧ xOf (txt q) = q := by
  have hb := txt_pos (z := q) (by omega)
  have h1 := (txt_size h).2
  have := of_digits (r := txt q) (x := (q.natAbs : Int)) (by rw [hb]; exact dig_dec _) (by omega)
  exact ⟨this.1, by rw [this.2]; omega⟩
theorem bslash (p q : Int) : bytesOf ((txt p ++ ⟨#[47]⟩) ++ txt q) = bytesOf (txt p) ++ 47 :: bytesOf (txt q) := by
  rw [bytes_app, bytes_app, b47]
  simp
theorem size_slash (p q : Int) : ((txt p ++ ⟨#[47]⟩) ++ txt q : ByteArray).size = (txt p).size + 1 + (txt q).size := by
  rw [ByteArray.size_append, ByteArray.size_append]
  rfl
theorem ans2 {p q : Int} (hp : Brief p) (hq : Brief q) (hq0 : 0 < q) (hn : nm p q = p) (hd : dn p q = q) : rAns ((txt p ++ ⟨#[47]⟩) ++ txt q) = (p, q, 0) := by
  obtain ⟨h1, h2, h3, _⟩ := cut_some (bslash p q) (no_slash p)
  have hs := size_slash p q
  have h6 := (txt_size hp).2
  have h7 := (txt_size hq).2
  obtain ⟨h4, h5⟩ := back_txt hp
  obtain ⟨k1, k2⟩ := txt_xOf hq hq0
  rw [ra6 (by omega) (by rw [h1]; exact h5) h2 (by rw [h3]; exact k1) (by rw [h3, k2]; omega), h1, h3, h4, k2, hn, hd]
theorem ans2s {p q : Int} (hp : Brief p) (hq : Brief q) (_hq0 : 0 < q) : (rAns (((txt p ++ ⟨#[47]⟩) ++ txt q) ++ ⟨#[47, 49]⟩)).2.2 ≠ 0 := by
  have hb : bytesOf (((txt p ++ ⟨#[47]⟩) ++ txt q) ++ ⟨#[47, 49]⟩) = bytesOf (txt p) ++ 47 :: bytesOf (txt q ++ ⟨#[47, 49]⟩) := by
    rw [bytes_app, bslash, bytes_app]
    simp
  obtain ⟨h1, h2, h3, _⟩ := cut_some hb (no_slash p)
  have hs : (((txt p ++ ⟨#[47]⟩) ++ txt q) ++ ⟨#[47, 49]⟩ : ByteArray).size = (txt p).size + 1 + (txt q).size + 2 := by rw [ByteArray.size_append, size_slash]; rfl
  have h6 := (txt_size hp).2
  have h7 := (txt_size hq).2
  obtain ⟨h4, h5⟩ := back_txt hp
  have hk : kOf (und (((txt p ++ ⟨#[47]⟩) ++ txt q) ++ ⟨#[47, 49]⟩)) ≠ 0 := by
    rw [h3]
    apply kOf_ne
    intro hd
    have := hd 47 (by rw [bytes_app, b4749]; simp)
    omega
  rw [ra4 (by omega) (by rw [h1]; exact h5) h2 hk]
  exact hk
theorem brief_le {z : Int} (h : (z.natAbs : Int) < pw 400) : Brief z := by
  have h3 := pw_le_p10 400
  have h4 := p10_mono (m := 10 * 400) (n := 10 * 400 + 1) (by omega)
  have := isDec_len (dig_dec z.natAbs) (n := 10 * 400 + 1) (by omega) (by omega)
  unfold Brief
  omega
theorem low_pos' {x y : Int} (hy : 0 < y) : ∃ g : Int, 0 < g ∧ x = g * nm x y ∧ y = g * dn x y := by
  have hg : (0 : Int) < ((Int.gcd x y : Nat) : Int) := gcd_pos' hy
  obtain ⟨a, ha⟩ := Int.gcd_dvd_left x y
  obtain ⟨b, hb⟩ := Int.gcd_dvd_right x y
  refine ⟨_, hg, ?_, ?_⟩
  · rw [nm, Int.sign_eq_one_of_pos hy, Int.one_mul]
    exact (Int.mul_ediv_cancel' (Int.gcd_dvd_left x y)).symm
  · rw [dn, Int.sign_eq_one_of_pos hy, Int.one_mul]
    exact (Int.mul_ediv_cancel' (Int.gcd_dvd_right x y)).symm
theorem nm_abs {x y : Int} (hy : 0 < y) : (nm x y).natAbs ≤ x.natAbs := by
  obtain ⟨g, hg, hx, _⟩ := low_pos' (x := x) hy
  have : x.natAbs = g.natAbs * (nm x y).natAbs := by rw [← Int.natAbs_mul, ← hx]
  rw [this]
  exact Nat.le_mul_of_pos_left _ (by omega)
theorem dn_abs {x y : Int} (hy : 0 < y) : dn x y ≤ y ∧ 0 < dn x y := by
  obtain ⟨g, hg, _, hx⟩ := low_pos' (x := x) hy
  have hd := dn_pos x (show y ≠ 0 by omega)
  refine ⟨?_, hd⟩
  have h1 : 1 * dn x y ≤ g * dn x y := Int.mul_le_mul_of_nonneg_right (by omega) (by omega)
  omega
theorem low_again {x y : Int} (hy : 0 < y) : nm (nm x y) (dn x y) = nm x y ∧ dn (nm x y) (dn x y) = dn x y := by
  have hp : 0 < Int.gcd x y := Int.gcd_pos_of_ne_zero_right x (show y ≠ 0 by omega)
  have hd := (dn_abs (x := x) hy).2
  have hg : Int.gcd (nm x y) (dn x y) = 1 := by
    rw [nm, dn, Int.sign_eq_one_of_pos hy, Int.one_mul, Int.one_mul]
    exact Int.gcd_ediv_gcd_ediv_gcd hp
  constructor
  · conv => lhs; unfold nm
    rw [show Int.gcd (Int.sign y * (x / ((Int.gcd x y : Nat) : Int))) (dn x y) = 1 from hg, Int.sign_eq_one_of_pos hd]
    simp [nm]
  · conv => lhs; unfold dn
    rw [show Int.gcd (nm x y) (Int.sign y * (y / ((Int.gcd x y : Nat) : Int))) = 1 from hg, show Int.sign (Int.sign y * (y / ((Int.gcd x y : Nat) : Int))) = 1 from Int.sign_eq_one_of_pos hd]
    simp [dn]
theorem whole_one {x y : Int} (hy : 0 < y) : x % y = 0 ↔ dn x y = 1 := by
  obtain ⟨g, hg, hx, hyd⟩ := low_pos' (x := x) hy
  constructor
  · intro h
    have hdv : y ∣ x := Int.dvd_of_emod_eq_zero h
    have h1 : ((Int.gcd x y : Nat) : Int) = y := by
      have := Int.gcd_eq_right (show (0 : Int) ≤ y by omega) hdv
      omega
    rw [dn, Int.sign_eq_one_of_pos hy, Int.one_mul, h1, Int.ediv_self (by omega)]
  · intro h
    rw [h, Int.mul_one] at hyd
    rw [hx, hyd]
    exact Int.mul_emod_right g _
end Lm
end Go.Proofs.YtdiiankcjgoecaaDoor

namespace Go.Proofs.YtdiiankcjgoecaaDoor
namespace Lm
open Go Go.RowKit
theorem gfalse {P : Prop} [Decidable P] {v : Value} {w : World} (h : Eqs (.bool (decide P)) v w) (hg : v = .bool false) : ¬ P := by
  have e : v = .bool (decide P) := h
  rw [hg] at e
  exact of_decide_eq_false (Value.bool.inj e).symm
theorem gofF {P : Prop} [Decidable P] {v : Value} {w : World} (h : Eqs (.bool (decide P)) v w) (hP : ¬ P) : v = .bool false := by
  have e : v = .bool (decide P) := h
  rw [e, decide_eq_false hP]
theorem op_pickor {dst : Option Tmp} {ty : TypeId} {pos : String} {after : Array Edge} {guard : Option (Nat × Bool)} {a : Act} {w : World} {P Q : Prop} [Decidable P] [Decidable Q] {c x : Operand} (hc : a.eval c = .bool (decide P)) (hx : ¬ P → a.eval x = .bool (decide Q)) :
    Does Tryd.prog { dst, op := .pick c (.const (.bool true)) x, type := ty, pos, after, guard } a.eval w fun v' w' => Below w.heap.size w w' ∧ Eqs (.bool (decide (P ∨ Q))) v' w' := by
  refine does_pick (b := decide P) hc ⟨Below.refl _ _, ?_⟩
  show _ = _
  by_cases hP : P
  · simp [hP, Act.eval]
  · simp [hP, hx hP]
end Lm
end Go.Proofs.YtdiiankcjgoecaaDoor

namespace Go.Proofs.YtdiiankcjgoecaaDoor
namespace Lm
open Go Go.RowKit
def StrK (s : ByteArray) (k : Nat) : Prop := ∃ i, i < k ∧ ((s.get! i).toNat : Int) = 47
open Classical in
noncomputable instance (s : ByteArray) (k : Nat) : Decidable (StrK s k) := inferInstance
theorem StrK.zero (s : ByteArray) : ¬ StrK s 0 := fun ⟨i, h, _⟩ => by omega
theorem StrK.step {s : ByteArray} {k : Nat} : decide (StrK s k ∨ ((s.get! k).toNat : Int) = 47) = decide (StrK s (k + 1)) := by
  apply decide_eq_decide.2
  constructor
  · rintro (⟨i, h, e⟩ | e)
    · exact ⟨i, by omega, e⟩
    · exact ⟨k, by omega, e⟩
  · rintro ⟨i, h, e⟩
    by_cases hi : i = k
    · subst hi; exact .inr e
    · exact .inl ⟨i, by omega, e⟩
theorem str_no {p : Int} {k : Nat} (hk : k ≤ (txt p).size) : ¬ StrK (txt p) k := fun ⟨i, h, e⟩ => (cut_none (no_slash p)).2.2 i (by omega) e
theorem str_yes {p q : Int} {k : Nat} (hk : ((txt p ++ ⟨#[47]⟩) ++ txt q : ByteArray).size ≤ k) : StrK ((txt p ++ ⟨#[47]⟩) ++ txt q) k := by
  obtain ⟨_, _, _, h1, h2⟩ := cut_some (bslash p q) (no_slash p)
  exact ⟨_, by omega, h2⟩
theorem tq_pos' {w : World} {v : Value} {rt : List Int} {qr : Int} (S : Sl w v rt) (V : val rt = qr) : 0 < tq qr := by
  obtain ⟨ao, cap, rfl, _, _, hl, _⟩ := S
  have := (val_bounds hl).1
  unfold tq
  split <;> omega
theorem brief_P {w : World} {nr : Bool} {ar : Option Addr} {mr cr : Nat} {rs : List Int} {pr qr : Int} {v : Value} {rt : List Int} (A : Ag w nr ar mr cr rs pr) (h : rs.length ≤ 400) (S : Sl w v rt) (V : val rt = qr) : Brief (nm (tp pr qr) (tq qr)) := by
  apply brief_le
  have h1 := nm_abs (x := tp pr qr) (tq_pos' S V)
  have h2 := sg_abs (val_bounds A.sl.parts.2.2.2).1 A.worth
  have h3 := (val_bounds A.sl.parts.2.2.2).2
  have h4 := pw_mono (m := rs.length) (n := 400) h
  have h5 : (tp pr qr).natAbs ≤ pr.natAbs := by unfold tp; split <;> simp
  omega
theorem brief_Q {w : World} {x qr : Int} {ao : Option Addr} {n cap : Nat} {rt : List Int} (S : Sl w (.slice ao n cap) rt) (V : val rt = qr) (h : rt.length ≤ 400) : Brief (dn x (tq qr)) := by
  apply brief_le
  have h1 := dn_abs (x := x) (tq_pos' S V)
  have h3 := (val_bounds S.parts.2.2.2).2
  have h4 := pw_mono (m := rt.length) (n := 400) h
  have h6 := pw_mono (m := 1) (n := 400) (by omega)
  have h7 : pw 1 = 4294967296 := by decide
  have h5 : tq qr < pw 400 := by unfold tq; split <;> omega
  omega
abbrev sl1 : ByteArray := ⟨#[47, 49]⟩
section
variable {dst : Option Tmp} {ty : TypeId} {pos : String} {after : Array Edge} {guard : Option (Nat × Bool)} {a : Act} {w : World} {ats : Array TypeId} {i : Nat} {u : Int}
theorem op_rtextE {p q : Int} {L : Nat} {t : ByteArray} (h : IsR p q L (a.eval (.tmp i)) w) (hL : L ≤ 10000) (ht : t = rtxt (nm (tp p q) (tq q)) (dn (tp p q) (tq q))) :
    Does Tryd.prog { dst, op := .call { callee := .value (.func 26), args := #[.tmp i], argTypes := ats }, type := ty, pos, after, guard } a.eval w fun v w' => Below w.heap.size w w' ∧ Eqs (.string t) v w' := by
  subst ht
  exact op_rtext h hL
theorem op_rparseE {s : ByteArray} {p q e : Int} (h : a.eval (.tmp i) = .string s) (hT : TabsR w) (hA : rAns s = (p, q, e)) :
    Does Tryd.prog { dst, op := .call { callee := .value (.func 24), args := #[.tmp i], argTypes := ats }, type := ty, pos, after, guard } a.eval w fun v w' => Below w.heap.size w w' ∧ Tup2 (OutR p q 24000) (Eqs (.int .i64 e)) v w' := by
  have h1 := op_rparse (dst := dst) (ty := ty) (pos := pos) (after := after) (guard := guard) (ats := ats) h hT
  rw [hA] at h1
  exact h1
theorem op_ldrmag {g n c m e : Nat} {ng : Bool} {ao bo : Option Addr} (hp : a.eval (.tmp i) = .pointer (some ⟨g, 1, none⟩)) (hb : BoxV R3 w g (.agg #[.bool ng, .slice ao n c, .slice bo m e])) :
    Does Tryd.prog { dst, op := .load 22 (.tmp i), type := ty, pos, after, guard } a.eval w fun v' w' => Below w.heap.size w w' ∧ Eqs (.slice ao n c) v' w' := by
  obtain ⟨b1, b2, b3, b4, b5, b6⟩ := r3_facts (r3_row hb)
  refine does_load (v := .slice ao n c) ?_ ⟨Below.refl _ _, rfl⟩
  rw [hp]
  go_simp
theorem op_eqlEk (h1 : a.eval (.tmp i) = .int .i64 u) :
    Does Tryd.prog { dst, op := .binOp .eql 27 (.tmp i) (.const (.int .i64 0)) 27, type := ty, pos, after, guard } a.eval w fun v' w' => Below w.heap.size w w' ∧ Eqs (.bool (decide (u = 0))) v' w' := by
  refine does_bin (v := .bool (decide (u = 0))) ?_ ?_ ⟨Below.refl _ _, rfl⟩
  · rw [h1]; simp [go_sem, Act.eval]
  · rw [h1]; simp [go_sem, Act.eval]; rfl
theorem op_eqlEt (h1 : a.eval (.tmp i) = .int .i64 u) (h : u = 0) :
    Does Tryd.prog { dst, op := .binOp .eql 27 (.tmp i) (.const (.int .i64 0)) 27, type := ty, pos, after, guard } a.eval w fun v' w' => Below w.heap.size w w' ∧ Eqs (.bool true) v' w' :=
  (op_eqlEk h1).mono fun _ _ ⟨hb, e⟩ => ⟨hb, by rw [Eqs, show _ = _ from e, decide_eq_true h]⟩
theorem op_eqlEf (h1 : a.eval (.tmp i) = .int .i64 u) (h : u ≠ 0) :
    Does Tryd.prog { dst, op := .binOp .eql 27 (.tmp i) (.const (.int .i64 0)) 27, type := ty, pos, after, guard } a.eval w fun v' w' => Below w.heap.size w w' ∧ Eqs (.bool false) v' w' :=
  (op_eqlEk h1).mono fun _ _ ⟨hb, e⟩ => ⟨hb, by rw [Eqs, show _ = _ from e, decide_eq_false h]⟩
end
theorem Rl.rl {w w' w'' : World} (h : Rl w w') (h' : Rl w' w'') : Rl w w'' := h.trans h'
set_option maxRecDepth 20000 in
set_option maxHeartbeats 4000000 in
theorem rback_law (w : World) (nr : Bool) (ar : Option Addr) (mr cr : Nat) (rs : List Int) (pr : Int) (br : Option Addr) (kr dr : Nat) (rt : List Int) (qr : Int) (hT : TabsR w) (Ar : Ag w nr ar mr cr rs pr) (Sr : Sl w (.slice br kr dr) rt) (Vr : val rt = qr) (gr35 : mr ≤ 35184372088832) (jr35 : kr ≤ 35184372088832) :
    Calls Tryd.prog 6 #[.agg #[.bool nr, .slice ar mr cr, .slice br kr dr]] w fun e w' => e = .returned (.bool true) ∧ Below w.heap.size w w' := by
  go_enter Tryd.func6, Tryd.ntmps6
  generalize hA : (Act.mk _ _) = aa
  have hn : aa.tmps.size = 88 := by rw [← hA]; rfl
  have hd : aa.defers = [] := by rw [← hA]
  have f0 : aa.eval (.tmp 0) = .agg #[.bool nr, .slice ar mr cr, .slice br kr dr] := by rw [← hA]; rfl
  clear hA
  have HB : Below w.heap.size w w := Below.refl _ _
  have Dr : Ag w false br kr dr rt qr := ⟨Sr, Vr⟩
  refine wp_seq ?_
  refine region4 [some 1, some 2] [(fun _ _ => True), Eqs ((.bool false))] [⟨R3, some 0, 0, 1, .agg #[.bool nr, .slice ar mr cr, .slice br kr dr], none, []⟩] [] (by kernel_rfl) hn rfl (by kernel_rfl) (by kernel_rfl) (by kernel_rfl) (by kernel_rfl) (by kernel_rfl) (by kernel_rfl) ⟨True.mono4, Eqs.mono4 _, trivial⟩ (ok_cons R3ok ok_nil) (IsOld.all (bx := [⟨R3, some 0, 0, 1, .agg #[.bool nr, .slice ar mr cr, .slice br kr dr], none, []⟩]) ⟨someNe, trivial⟩) (DisOld.all (bx := [⟨R3, some 0, 0, 1, .agg #[.bool nr, .slice ar mr cr, .slice br kr dr], none, []⟩]) ⟨someNe, trivial⟩) ?_ ?_
  · exact ⟨.alloc 0 _ rfl rfl (.inr ⟨_, rfl, r3_cs, fun a_ hR => (hR 0 rfl).trans f0⟩) rfl rfl rfl rfl rfl,
      .norm 2 rfl rfl rfl (fun a_ w_ hn_ hBt hr hR hD hO hS => op_assign rfl),
      trivial⟩
  intro a1 w1 gs1 hn1 hd1 hBt hr hR hP hX hU
  replace hn := hn1; replace hd := hd1.trans hd
  have b1 : BoxV R3 w1 (gs1 0) (.agg #[.bool nr, .slice ar mr cr, .slice br kr dr]) := (hX 0 _ rfl).2.2.2
  have f1 := (hX 0 _ rfl).1
  have u1 : w.heap.size ≤ gs1 0 := Nat.le_trans HB.size ((hX 0 _ rfl).2.2.1 (by simp))
  have e2 : a1.eval (.tmp 2) = (.bool false) := hP 1 (by decide)
  have f2 := e2
  replace Ar := Ar.rl hr
  replace Sr := Sr.rl hr
  replace Dr := Dr.rl hr
  replace HB := HB.trans (hBt.below HB.size (UpOld.all (bx := [⟨R3, some 0, 0, 1, .agg #[.bool nr, .slice ar mr cr, .slice br kr dr], none, []⟩]) ⟨someNe, trivial⟩))
  clear hBt hr hR hP hX hU
  refine wp_seq ?_
  refine wp_seq ?_
  refine region4 [some 12, some 13] [Eqs (.bool true), Eqs (.bool false)] [] [] (by kernel_rfl) hn rfl (by kernel_rfl) (by kernel_rfl) (by kernel_rfl) (by kernel_rfl) (by kernel_rfl) (by kernel_rfl) ⟨Eqs.mono4 _, Eqs.mono4 _, trivial⟩ ok_nil (IsOld.all (bx := []) trivial) (DisOld.all (bx := []) trivial) ?_ ?_
  · exact ⟨.norm 12 rfl rfl rfl (fun a_ w_ hn_ hBt hr hR hD hO hS => op_rawake),
      .norm 13 rfl rfl rfl (fun a_ w_ hn_ hBt hr hR hD hO hS => op_not (show a_.eval (.tmp 12) = .bool true from hD 0 rfl)),
      trivial⟩
  intro a2 w2 gs2 hn2 hd2 hBt hr hR hP hX hU
  replace hn := hn2; replace hd := hd2.trans hd
  replace b1 := b1.keep hBt trivial
  replace f1 := (hR 1 rfl).trans f1
  replace f2 := (hR 2 rfl).trans f2
  have e13 : a2.eval (.tmp 13) = .bool false := hP 1 (by decide)
  have f13 := e13
  replace Ar := Ar.rl hr
  replace Sr := Sr.rl hr
  replace Dr := Dr.rl hr
  replace HB := HB.trans (hBt.below HB.size (UpOld.all (bx := []) trivial))
  clear hBt hr hR hP hX hU
  refine wp_cond_false f13 ?_
  refine wp_skip ?_
  refine wp_seq ?_
  refine wp_seq ?_
  refine region4 [some 14, some 15, some 16] [Eqs (.agg #[.bool nr, .slice ar mr cr, .slice br kr dr]), Eqs (.int .i64 (1 + (mr : Int) + (kr : Int))), Eqs (.bool (decide (1500 < (1 + (mr : Int) + (kr : Int)))))] [] [] (by kernel_rfl) hn rfl (by kernel_rfl) (by kernel_rfl) (by kernel_rfl) (by kernel_rfl) (by kernel_rfl) (by kernel_rfl) ⟨Eqs.mono4 _, Eqs.mono4 _, Eqs.mono4 _, trivial⟩ ok_nil (IsOld.all (bx := []) trivial) (DisOld.all (bx := []) trivial) ?_ ?_
  · exact ⟨.norm 14 rfl rfl rfl (fun a_ w_ hn_ hBt hr hR hD hO hS => op_loadv R3ok ((hR 1 rfl).trans f1) (b1.keep hBt trivial)),
      .norm 15 rfl rfl rfl (fun a_ w_ hn_ hBt hr hR hD hO hS => op_rlen (show a_.eval (.tmp 14) = .agg #[.bool nr, .slice ar mr cr, .slice br kr dr] from hD 0 rfl) (by omega) (by omega)),
      .norm 16 rfl rfl rfl (fun a_ w_ hn_ hBt hr hR hD hO hS => op_gtrk (show a_.eval (.tmp 15) = .int .i64 (1 + (mr : Int) + (kr : Int)) from hD 1 rfl)),
      trivial⟩
  intro a3 w3 gs3 hn3 hd3 hBt hr hR hP hX hU
  replace hn := hn3; replace hd := hd3.trans hd
  replace b1 := b1.keep hBt trivial
  replace f1 := (hR 1 rfl).trans f1
  replace f2 := (hR 2 rfl).trans f2
  have e16 : a3.eval (.tmp 16) = .bool (decide (1500 < (1 + (mr : Int) + (kr : Int)))) := hP 2 (by decide)
  have f16 := e16
  replace Ar := Ar.rl hr
  replace Sr := Sr.rl hr
  replace Dr := Dr.rl hr
  replace HB := HB.trans (hBt.below HB.size (UpOld.all (bx := []) trivial))
  clear hBt hr hR hP hX hU
  refine wp_cond_split f16 (fun hc16 => ?_) (fun hc16 => ?_)
  · skip
    refine wp_seq ?_
    refine region4 [some 2] [Eqs ((.bool true))] [] [] (by kernel_rfl) hn rfl (by kernel_rfl) (by kernel_rfl) (by kernel_rfl) (by kernel_rfl) (by kernel_rfl) (by kernel_rfl) ⟨Eqs.mono4 _, trivial⟩ ok_nil (IsOld.all (bx := []) trivial) (DisOld.all (bx := []) trivial) ?_ ?_
    · exact ⟨.norm 2 rfl rfl rfl (fun a_ w_ hn_ hBt hr hR hD hO hS => op_assign rfl),
        trivial⟩
    intro a4 w4 gs4 hn4 hd4 hBt hr hR hP hX hU
    replace hn := hn4; replace hd := hd4.trans hd
    replace b1 := b1.keep hBt trivial
    replace f1 := (hR 1 rfl).trans f1
    have e2 : a4.eval (.tmp 2) = (.bool true) := hP 0 (by decide)
    have f2 := e2
    replace Ar := Ar.rl hr
    replace Sr := Sr.rl hr
    replace Dr := Dr.rl hr
    replace HB := HB.trans (hBt.below HB.size (UpOld.all (bx := []) trivial))
    clear hBt hr hR hP hX hU
    refine wp_ret ?_
    repeat (first | refine then_ret ?_ | refine scope_ret ?_ | refine block_ret ?_)
    exact bodyPost_ret (v := .bool true) (res_t rfl f2) hd ⟨rfl, HB⟩
  · skip
    have hlen := of_decide_eq_false hc16
    have or_ := Ar.sl.parts.1; have Lr : rs.length ≤ 1500 := by omega
    have yr_ := Sr.parts.1; have Mr : rt.length ≤ 1500 := by omega
    refine wp_skip ?_
    refine wp_seq ?_
    refine wp_seq ?_
    refine region4 [some 17, some 18, some 19, some 20, some 21, some 22, some 23, some 24, some 25, some 26, some 27] [Eqs (.pointer (some ⟨gs1 0, 0, none⟩)), Eqs (.pointer (some ⟨gs1 0, 1, none⟩)), Eqs (.slice ar mr cr), Eqs (.int .i64 (mr : Int)), Eqs (.bool (decide (400 < (mr : Int)))), Eqs (.bool (decide (400 < (mr : Int)))), IfS (¬ (400 < (mr : Int))) (Eqs (.pointer (some ⟨gs1 0, 2, none⟩))), IfS (¬ (400 < (mr : Int))) (Eqs (.slice br kr dr)), IfS (¬ (400 < (mr : Int))) (Eqs (.int .i64 (kr : Int))), IfS (¬ (400 < (mr : Int))) (Eqs (.bool (decide (400 < (kr : Int))))), Eqs (.bool (decide ((400 < (mr : Int)) ∨ (400 < (kr : Int)))))] [] [] (by kernel_rfl) hn rfl (by kernel_rfl) (by kernel_rfl) (by kernel_rfl) (by kernel_rfl) (by kernel_rfl) (by kernel_rfl) ⟨Eqs.mono4 _, Eqs.mono4 _, Eqs.mono4 _, Eqs.mono4 _, Eqs.mono4 _, Eqs.mono4 _, IfS.mono4 (Eqs.mono4 _), IfS.mono4 (Eqs.mono4 _), IfS.mono4 (Eqs.mono4 _), IfS.mono4 (Eqs.mono4 _), Eqs.mono4 _, trivial⟩ ok_nil (IsOld.all (bx := []) trivial) (DisOld.all (bx := []) trivial) ?_ ?_
    · exact ⟨.norm 17 rfl rfl rfl (fun a_ w_ hn_ hBt hr hR hD hO hS => op_faR fa_num ((hR 1 rfl).trans f1)),
        .norm 18 rfl rfl rfl (fun a_ w_ hn_ hBt hr hR hD hO hS => op_fa fa_mag (show a_.eval (.tmp 17) = .pointer (some ⟨gs1 0, 0, none⟩) from hD 0 rfl)),
        .norm 19 rfl rfl rfl (fun a_ w_ hn_ hBt hr hR hD hO hS => op_ldrmag (show a_.eval (.tmp 18) = .pointer (some ⟨gs1 0, 1, none⟩) from hD 1 rfl) (b1.keep hBt trivial)),
        .norm 20 rfl rfl rfl (fun a_ w_ hn_ hBt hr hR hD hO hS => op_len (show a_.eval (.tmp 19) = .slice ar mr cr from hD 2 rfl)),
        .norm 21 rfl rfl rfl (fun a_ w_ hn_ hBt hr hR hD hO hS => op_gtrk (show a_.eval (.tmp 20) = .int .i64 (mr : Int) from hD 3 rfl)),
        .norm 22 rfl rfl rfl (fun a_ w_ hn_ hBt hr hR hD hO hS => op_mv (show a_.eval (.tmp 21) = .bool (decide (400 < (mr : Int))) from hD 4 rfl)),
        .norm 23 rfl rfl rfl (fun a_ w_ hn_ hBt hr hR hD hO hS => ⟨⟨_, rfl⟩, fun hg_ => (have hP_ : ¬ (400 < (mr : Int)) := gfalse (show Eqs (.bool (decide (400 < (mr : Int)))) _ w_ from hD 5 rfl) hg_; (op_faR fa_den ((hR 1 rfl).trans f1)).mono (fun _ _ h_ => ⟨h_.1, fun _ => h_.2⟩)), fun hne_ hP_ => absurd (gofF (show Eqs (.bool (decide (400 < (mr : Int)))) _ w_ from hD 5 rfl) hP_) hne_⟩),
        .norm 24 rfl rfl rfl (fun a_ w_ hn_ hBt hr hR hD hO hS => ⟨⟨_, rfl⟩, fun hg_ => (have hP_ : ¬ (400 < (mr : Int)) := gfalse (show Eqs (.bool (decide (400 < (mr : Int)))) _ w_ from hD 5 rfl) hg_; (op_ldden (show a_.eval (.tmp 23) = .pointer (some ⟨gs1 0, 2, none⟩) from (show IfS (¬ (400 < (mr : Int))) (Eqs (.pointer (some ⟨gs1 0, 2, none⟩))) (a_.eval (.tmp 23)) w_ from hD 6 rfl) hP_) (b1.keep hBt trivial)).mono (fun _ _ h_ => ⟨h_.1, fun _ => h_.2⟩)), fun hne_ hP_ => absurd (gofF (show Eqs (.bool (decide (400 < (mr : Int)))) _ w_ from hD 5 rfl) hP_) hne_⟩),
        .norm 25 rfl rfl rfl (fun a_ w_ hn_ hBt hr hR hD hO hS => ⟨⟨_, rfl⟩, fun hg_ => (have hP_ : ¬ (400 < (mr : Int)) := gfalse (show Eqs (.bool (decide (400 < (mr : Int)))) _ w_ from hD 5 rfl) hg_; (op_len (show a_.eval (.tmp 24) = .slice br kr dr from (show IfS (¬ (400 < (mr : Int))) (Eqs (.slice br kr dr)) (a_.eval (.tmp 24)) w_ from hD 7 rfl) hP_)).mono (fun _ _ h_ => ⟨h_.1, fun _ => h_.2⟩)), fun hne_ hP_ => absurd (gofF (show Eqs (.bool (decide (400 < (mr : Int)))) _ w_ from hD 5 rfl) hP_) hne_⟩),
        .norm 26 rfl rfl rfl (fun a_ w_ hn_ hBt hr hR hD hO hS => ⟨⟨_, rfl⟩, fun hg_ => (have hP_ : ¬ (400 < (mr : Int)) := gfalse (show Eqs (.bool (decide (400 < (mr : Int)))) _ w_ from hD 5 rfl) hg_; (op_gtrk (show a_.eval (.tmp 25) = .int .i64 (kr : Int) from (show IfS (¬ (400 < (mr : Int))) (Eqs (.int .i64 (kr : Int))) (a_.eval (.tmp 25)) w_ from hD 8 rfl) hP_)).mono (fun _ _ h_ => ⟨h_.1, fun _ => h_.2⟩)), fun hne_ hP_ => absurd (gofF (show Eqs (.bool (decide (400 < (mr : Int)))) _ w_ from hD 5 rfl) hP_) hne_⟩),
        .norm 27 rfl rfl rfl (fun a_ w_ hn_ hBt hr hR hD hO hS => op_pickor (show a_.eval (.tmp 22) = .bool (decide (400 < (mr : Int))) from hD 5 rfl) (fun hP_ => (show a_.eval (.tmp 26) = .bool (decide (400 < (kr : Int))) from (show IfS (¬ (400 < (mr : Int))) (Eqs (.bool (decide (400 < (kr : Int))))) (a_.eval (.tmp 26)) w_ from hD 9 rfl) hP_))),
        trivial⟩
    intro a5 w5 gs5 hn5 hd5 hBt hr hR hP hX hU
    replace hn := hn5; replace hd := hd5.trans hd
    replace b1 := b1.keep hBt trivial
    replace f1 := (hR 1 rfl).trans f1
    replace f2 := (hR 2 rfl).trans f2
    have e27 : a5.eval (.tmp 27) = .bool (decide ((400 < (mr : Int)) ∨ (400 < (kr : Int)))) := hP 10 (by decide)
    have f27 := e27
    replace Ar := Ar.rl hr
    replace Sr := Sr.rl hr
    replace Dr := Dr.rl hr
    replace HB := HB.trans (hBt.below HB.size (UpOld.all (bx := []) trivial))
    clear hBt hr hR hP hX hU
    refine wp_cond_split f27 (fun hc27 => ?_) (fun hc27 => ?_)
    · skip
      refine wp_seq ?_
      refine region4 [some 2] [Eqs ((.bool true))] [] [] (by kernel_rfl) hn rfl (by kernel_rfl) (by kernel_rfl) (by kernel_rfl) (by kernel_rfl) (by kernel_rfl) (by kernel_rfl) ⟨Eqs.mono4 _, trivial⟩ ok_nil (IsOld.all (bx := []) trivial) (DisOld.all (bx := []) trivial) ?_ ?_
      · exact ⟨.norm 2 rfl rfl rfl (fun a_ w_ hn_ hBt hr hR hD hO hS => op_assign rfl),
          trivial⟩
      intro a6 w6 gs6 hn6 hd6 hBt hr hR hP hX hU
      replace hn := hn6; replace hd := hd6.trans hd
      replace b1 := b1.keep hBt trivial
      replace f1 := (hR 1 rfl).trans f1
      have e2 : a6.eval (.tmp 2) = (.bool true) := hP 0 (by decide)
      have f2 := e2
      replace Ar := Ar.rl hr
      replace Sr := Sr.rl hr
      replace Dr := Dr.rl hr
      replace HB := HB.trans (hBt.below HB.size (UpOld.all (bx := []) trivial))
      clear hBt hr hR hP hX hU
      refine wp_ret ?_
      repeat (first | refine then_ret ?_ | refine scope_ret ?_ | refine block_ret ?_)
      exact bodyPost_ret (v := .bool true) (res_t rfl f2) hd ⟨rfl, HB⟩
    · skip
      have hno := of_decide_eq_false hc27
      have hr4 : rs.length ≤ 400 := by omega
      have ht4 : rt.length ≤ 400 := by omega
      refine wp_skip ?_
      refine wp_seq ?_
      have hbP : Brief (nm (tp pr qr) (tq qr)) := brief_P Ar hr4 Sr Vr
      have hbQ : Brief (dn (tp pr qr) (tq qr)) := brief_Q (x := tp pr qr) Sr Vr ht4
      have hQ0 : 0 < (dn (tp pr qr) (tq qr)) := (dn_abs (x := tp pr qr) (tq_pos' Sr Vr)).2
      obtain ⟨sT, hsT⟩ : ∃ t, t = rtxt (nm (tp pr qr) (tq qr)) (dn (tp pr qr) (tq qr)) := ⟨_, rfl⟩
      have hzP := (txt_size hbP).2; have hzQ := (txt_size hbQ).2
      by_cases hQ1 : (dn (tp pr qr) (tq qr)) = 1
      · skip
        have hw0 := (whole_one (x := tp pr qr) (tq_pos' Sr Vr)).2 hQ1
        have hTe : sT = txt (nm (tp pr qr) (tq qr)) := by rw [hsT, rtxt1 hQ1]
        have hTs : sT.size ≤ 10010 := by rw [hTe]; omega
        have hA1 : rAns sT = ((nm (tp pr qr) (tq qr)), (dn (tp pr qr) (tq qr)), 0) := by rw [hTe, ans1 hbP, hQ1]
        have hA2 : rAns (sT ++ sl1) = ((nm (tp pr qr) (tq qr)), (dn (tp pr qr) (tq qr)), 0) := by rw [hTe, ans1s hbP, hQ1]
        have hNo : ∀ {k}, k ≤ sT.size → ¬ StrK sT k := fun hk_ => by rw [hTe] at hk_ ⊢; exact str_no hk_
        refine region4 [some 28, some 29, some 3] [Eqs (.agg #[.bool nr, .slice ar mr cr, .slice br kr dr]), Eqs (.string sT), Eqs (.string sT)] [] [] (by kernel_rfl) hn rfl (by kernel_rfl) (by kernel_rfl) (by kernel_rfl) (by kernel_rfl) (by kernel_rfl) (by kernel_rfl) ⟨Eqs.mono4 _, Eqs.mono4 _, Eqs.mono4 _, trivial⟩ ok_nil (IsOld.all (bx := []) trivial) (DisOld.all (bx := []) trivial) ?_ ?_
        · exact ⟨.norm 28 rfl rfl rfl (fun a_ w_ hn_ hBt hr hR hD hO hS => op_loadv R3ok ((hR 1 rfl).trans f1) (b1.keep hBt trivial)),
            .norm 29 rfl rfl rfl (fun a_ w_ hn_ hBt hr hR hD hO hS => op_rtextE (isr_eq (show a_.eval (.tmp 28) = .agg #[.bool nr, .slice ar mr cr, .slice br kr dr] from hD 0 rfl) (Ar.rl hr) (Sr.rl hr) Vr Lr Mr) (by omega) hsT),
            .norm 3 rfl rfl rfl (fun a_ w_ hn_ hBt hr hR hD hO hS => op_assign (show a_.eval (.tmp 29) = .string sT from hD 1 rfl)),
            trivial⟩
        intro a7 w7 gs7 hn7 hd7 hBt hr hR hP hX hU
        replace hn := hn7; replace hd := hd7.trans hd
        replace b1 := b1.keep hBt trivial
        replace f1 := (hR 1 rfl).trans f1
        replace f2 := (hR 2 rfl).trans f2
        have e3 : a7.eval (.tmp 3) = .string sT := hP 2 (by decide)
        have f3 := e3
        replace Ar := Ar.rl hr
        replace Sr := Sr.rl hr
        replace Dr := Dr.rl hr
        replace HB := HB.trans (hBt.below HB.size (UpOld.all (bx := []) trivial))
        clear hBt hr hR hP hX hU
        refine wp_seq ?_
        refine region4 [some 31, some 32, some 30, some 33, some 34, some 4, none, some 5] [Eqs (.string sT), Tup2 (OutR ((nm (tp pr qr) (tq qr))) ((dn (tp pr qr) (tq qr))) (24000)) (Eqs (.int .i64 0)), Tup2 (OutR ((nm (tp pr qr) (tq qr))) ((dn (tp pr qr) (tq qr))) (24000)) (Eqs (.int .i64 0)), OutR ((nm (tp pr qr) (tq qr))) ((dn (tp pr qr) (tq qr))) (24000), Eqs (.int .i64 0), (fun _ _ => True), (fun _ _ => True), Eqs (.int .i64 0)] [⟨R3, some 5, 0, 4, .agg #[.bool false, .slice none 0 0, .slice none 0 0], some (6, 33, 3), []⟩] [] (by kernel_rfl) hn rfl (by kernel_rfl) (by kernel_rfl) (by kernel_rfl) (by kernel_rfl) (by kernel_rfl) (by kernel_rfl) ⟨Eqs.mono4 _, Tup2.mono4 (OutR.mono4 _ _ _) (Eqs.mono4 _), Tup2.mono4 (OutR.mono4 _ _ _) (Eqs.mono4 _), OutR.mono4 _ _ _, Eqs.mono4 _, True.mono4, True.mono4, Eqs.mono4 _, trivial⟩ (ok_cons R3ok ok_nil) (IsOld.all (bx := [⟨R3, some 5, 0, 4, .agg #[.bool false, .slice none 0 0, .slice none 0 0], some (6, 33, 3), []⟩]) ⟨someNe, trivial⟩) (DisOld.all (bx := [⟨R3, some 5, 0, 4, .agg #[.bool false, .slice none 0 0, .slice none 0 0], some (6, 33, 3), []⟩]) ⟨someNe, trivial⟩) ?_ ?_
        · exact ⟨.norm 31 rfl rfl rfl (fun a_ w_ hn_ hBt hr hR hD hO hS => op_mv ((hR 3 rfl).trans f3)),
            .norm 32 rfl rfl rfl (fun a_ w_ hn_ hBt hr hR hD hO hS => op_rparseE (show a_.eval (.tmp 31) = .string sT from hD 0 rfl) (hT.below (HB.trans (hBt.below HB.size (UpOld.all (bx := [⟨R3, some 5, 0, 4, .agg #[.bool false, .slice none 0 0, .slice none 0 0], some (6, 33, 3), []⟩]) ⟨someNe, trivial⟩)))) hA1),
            .norm 30 rfl rfl rfl (fun a_ w_ hn_ hBt hr hR hD hO hS => op_mvp (p := Tup2 (OutR ((nm (tp pr qr) (tq qr))) ((dn (tp pr qr) (tq qr))) (24000)) (Eqs (.int .i64 0))) (show Tup2 (OutR ((nm (tp pr qr) (tq qr))) ((dn (tp pr qr) (tq qr))) (24000)) (Eqs (.int .i64 0)) (a_.eval (.tmp 32)) w_ from hD 1 rfl)),
            .norm 33 rfl rfl rfl (fun a_ w_ hn_ hBt hr hR hD hO hS => op_ex20 (show Tup2 (OutR ((nm (tp pr qr) (tq qr))) ((dn (tp pr qr) (tq qr))) (24000)) (Eqs (.int .i64 0)) (a_.eval (.tmp 30)) w_ from hD 2 rfl)),
            .norm 34 rfl rfl rfl (fun a_ w_ hn_ hBt hr hR hD hO hS => op_ex21 (show Tup2 (OutR ((nm (tp pr qr) (tq qr))) ((dn (tp pr qr) (tq qr))) (24000)) (Eqs (.int .i64 0)) (a_.eval (.tmp 30)) w_ from hD 2 rfl)),
            .alloc 0 _ rfl rfl (.inl ⟨rfl, rfl⟩) rfl rfl rfl rfl rfl,
            .store 0 _ _ _ rfl rfl rfl rfl rfl rfl rfl (fun ia h => by cases h; rfl) rfl rfl rfl OutR.cs,
            .norm 5 rfl rfl rfl (fun a_ w_ hn_ hBt hr hR hD hO hS => op_assign (show a_.eval (.tmp 34) = .int .i64 0 from hD 4 rfl)),
            trivial⟩
        intro a8 w8 gs8 hn8 hd8 hBt hr hR hP hX hU
        replace hn := hn8; replace hd := hd8.trans hd
        replace b1 := b1.keep hBt ⟨someNe, trivial⟩
        obtain ⟨n_9, a_9, c_9, r_9, b_9, d_9, s_9, e33, G9, K9, l9, k9⟩ : OutR ((nm (tp pr qr) (tq qr))) ((dn (tp pr qr) (tq qr))) (24000) (a8.eval (.tmp 33)) w8 := hP 3 (by decide)
        have A9 := G9.ag; have S9 := K9.sl; have V9 := K9.val
        have b4 : BoxV R3 w8 (gs8 0) (.agg #[.bool n_9, .slice a_9 r_9.length c_9, .slice b_9 s_9.length d_9]) := boxv_of (hX 0 _ rfl).2.2.2 e33
        have f4 := (hX 0 _ rfl).1
        have u4 : w.heap.size ≤ gs8 0 := Nat.le_trans HB.size ((hX 0 _ rfl).2.2.1 (by simp))
        replace f1 := (hR 1 rfl).trans f1
        replace f2 := (hR 2 rfl).trans f2
        replace f3 := (hR 3 rfl).trans f3
        have e5 : a8.eval (.tmp 5) = .int .i64 0 := hP 7 (by decide)
        have f5 := e5
        replace Ar := Ar.rl hr
        replace Sr := Sr.rl hr
        replace Dr := Dr.rl hr
        replace HB := HB.trans (hBt.below HB.size (UpOld.all (bx := [⟨R3, some 5, 0, 4, .agg #[.bool false, .slice none 0 0, .slice none 0 0], some (6, 33, 3), []⟩]) ⟨someNe, trivial⟩))
        clear hBt hr hR hP hX hU
        refine wp_seq ?_
        refine region4 [some 36, some 37, some 38, some 35, some 39, some 40, some 6, none, some 7] [Eqs (.string sT), Eqs (.string (sT ++ sl1)), Tup2 (OutR ((nm (tp pr qr) (tq qr))) ((dn (tp pr qr) (tq qr))) (24000)) (Eqs (.int .i64 0)), Tup2 (OutR ((nm (tp pr qr) (tq qr))) ((dn (tp pr qr) (tq qr))) (24000)) (Eqs (.int .i64 0)), OutR ((nm (tp pr qr) (tq qr))) ((dn (tp pr qr) (tq qr))) (24000), Eqs (.int .i64 0), (fun _ _ => True), (fun _ _ => True), Eqs (.int .i64 0)] [⟨R3, some 6, 0, 6, .agg #[.bool false, .slice none 0 0, .slice none 0 0], some (7, 39, 4), []⟩] [] (by kernel_rfl) hn rfl (by kernel_rfl) (by kernel_rfl) (by kernel_rfl) (by kernel_rfl) (by kernel_rfl) (by kernel_rfl) ⟨Eqs.mono4 _, Eqs.mono4 _, Tup2.mono4 (OutR.mono4 _ _ _) (Eqs.mono4 _), Tup2.mono4 (OutR.mono4 _ _ _) (Eqs.mono4 _), OutR.mono4 _ _ _, Eqs.mono4 _, True.mono4, True.mono4, Eqs.mono4 _, trivial⟩ (ok_cons R3ok ok_nil) (IsOld.all (bx := [⟨R3, some 6, 0, 6, .agg #[.bool false, .slice none 0 0, .slice none 0 0], some (7, 39, 4), []⟩]) ⟨someNe, trivial⟩) (DisOld.all (bx := [⟨R3, some 6, 0, 6, .agg #[.bool false, .slice none 0 0, .slice none 0 0], some (7, 39, 4), []⟩]) ⟨someNe, trivial⟩) ?_ ?_
        · exact ⟨.norm 36 rfl rfl rfl (fun a_ w_ hn_ hBt hr hR hD hO hS => op_mv ((hR 3 rfl).trans f3)),
            .norm 37 rfl rfl rfl (fun a_ w_ hn_ hBt hr hR hD hO hS => op_addsk (c := sl1) (show a_.eval (.tmp 36) = .string sT from hD 0 rfl) (by rw [ByteArray.size_append]; have h3_ : sl1.size = 2 := rfl; omega)),
            .norm 38 rfl rfl rfl (fun a_ w_ hn_ hBt hr hR hD hO hS => op_rparseE (show a_.eval (.tmp 37) = .string (sT ++ sl1) from hD 1 rfl) (hT.below (HB.trans (hBt.below HB.size (UpOld.all (bx := [⟨R3, some 6, 0, 6, .agg #[.bool false, .slice none 0 0, .slice none 0 0], some (7, 39, 4), []⟩]) ⟨someNe, trivial⟩)))) hA2),
            .norm 35 rfl rfl rfl (fun a_ w_ hn_ hBt hr hR hD hO hS => op_mvp (p := Tup2 (OutR ((nm (tp pr qr) (tq qr))) ((dn (tp pr qr) (tq qr))) (24000)) (Eqs (.int .i64 0))) (show Tup2 (OutR ((nm (tp pr qr) (tq qr))) ((dn (tp pr qr) (tq qr))) (24000)) (Eqs (.int .i64 0)) (a_.eval (.tmp 38)) w_ from hD 2 rfl)),
            .norm 39 rfl rfl rfl (fun a_ w_ hn_ hBt hr hR hD hO hS => op_ex20 (show Tup2 (OutR ((nm (tp pr qr) (tq qr))) ((dn (tp pr qr) (tq qr))) (24000)) (Eqs (.int .i64 0)) (a_.eval (.tmp 35)) w_ from hD 3 rfl)),
            .norm 40 rfl rfl rfl (fun a_ w_ hn_ hBt hr hR hD hO hS => op_ex21 (show Tup2 (OutR ((nm (tp pr qr) (tq qr))) ((dn (tp pr qr) (tq qr))) (24000)) (Eqs (.int .i64 0)) (a_.eval (.tmp 35)) w_ from hD 3 rfl)),
            .alloc 0 _ rfl rfl (.inl ⟨rfl, rfl⟩) rfl rfl rfl rfl rfl,
            .store 0 _ _ _ rfl rfl rfl rfl rfl rfl rfl (fun ia h => by cases h; rfl) rfl rfl rfl OutR.cs,
            .norm 7 rfl rfl rfl (fun a_ w_ hn_ hBt hr hR hD hO hS => op_assign (show a_.eval (.tmp 40) = .int .i64 0 from hD 5 rfl)),
            trivial⟩
        intro a10 w10 gs10 hn10 hd10 hBt hr hR hP hX hU
        replace hn := hn10; replace hd := hd10.trans hd
        replace b1 := b1.keep hBt ⟨someNe, trivial⟩
        replace b4 := b4.keep hBt ⟨someNe, trivial⟩
        obtain ⟨n_11, a_11, c_11, r_11, b_11, d_11, s_11, e39, G11, K11, l11, k11⟩ : OutR ((nm (tp pr qr) (tq qr))) ((dn (tp pr qr) (tq qr))) (24000) (a10.eval (.tmp 39)) w10 := hP 4 (by decide)
        have A11 := G11.ag; have S11 := K11.sl; have V11 := K11.val
        have b6 : BoxV R3 w10 (gs10 0) (.agg #[.bool n_11, .slice a_11 r_11.length c_11, .slice b_11 s_11.length d_11]) := boxv_of (hX 0 _ rfl).2.2.2 e39
        have f6 := (hX 0 _ rfl).1
        have u6 : w.heap.size ≤ gs10 0 := Nat.le_trans HB.size ((hX 0 _ rfl).2.2.1 (by simp))
        replace f1 := (hR 1 rfl).trans f1
        replace f2 := (hR 2 rfl).trans f2
        replace f3 := (hR 3 rfl).trans f3
        replace f4 := (hR 4 rfl).trans f4
        replace f5 := (hR 5 rfl).trans f5
        have e7 : a10.eval (.tmp 7) = .int .i64 0 := hP 8 (by decide)
        have f7 := e7
        replace Ar := Ar.rl hr
        replace Sr := Sr.rl hr
        replace Dr := Dr.rl hr
        replace G9 := G9.rl hr
        replace A9 := A9.rl hr
        replace K9 := K9.rl hr
        replace S9 := S9.rl hr
        replace HB := HB.trans (hBt.below HB.size (UpOld.all (bx := [⟨R3, some 6, 0, 6, .agg #[.bool false, .slice none 0 0, .slice none 0 0], some (7, 39, 4), []⟩]) ⟨someNe, trivial⟩))
        clear hBt hr hR hP hX hU
        refine wp_seq ?_
        refine region4 [some 42, some 43, some 41, some 44, some 45, some 8, none, some 9] [Eqs (.agg #[.bool nr, .slice ar mr cr, .slice br kr dr]), Tup2 (OutW ((tp pr qr / tq qr)) ((1500) + 6)) (Eqs (.bool true)), Tup2 (OutW ((tp pr qr / tq qr)) ((1500) + 6)) (Eqs (.bool true)), OutW ((tp pr qr / tq qr)) ((1500) + 6), Eqs (.bool true), (fun _ _ => True), (fun _ _ => True), Eqs (.bool true)] [⟨W2, some 5, 0, 8, .agg #[.bool false, .slice none 0 0], some (6, 44, 3), []⟩] [] (by kernel_rfl) hn rfl (by kernel_rfl) (by kernel_rfl) (by kernel_rfl) (by kernel_rfl) (by kernel_rfl) (by kernel_rfl) ⟨Eqs.mono4 _, Tup2.mono4 (OutW.mono4 _ _) (Eqs.mono4 _), Tup2.mono4 (OutW.mono4 _ _) (Eqs.mono4 _), OutW.mono4 _ _, Eqs.mono4 _, True.mono4, True.mono4, Eqs.mono4 _, trivial⟩ (ok_cons W2ok ok_nil) (IsOld.all (bx := [⟨W2, some 5, 0, 8, .agg #[.bool false, .slice none 0 0], some (6, 44, 3), []⟩]) ⟨someNe, trivial⟩) (DisOld.all (bx := [⟨W2, some 5, 0, 8, .agg #[.bool false, .slice none 0 0], some (6, 44, 3), []⟩]) ⟨someNe, trivial⟩) ?_ ?_
        · exact ⟨.norm 42 rfl rfl rfl (fun a_ w_ hn_ hBt hr hR hD hO hS => op_loadv R3ok ((hR 1 rfl).trans f1) (b1.keep hBt ⟨someNe, trivial⟩)),
            .norm 43 rfl rfl rfl (fun a_ w_ hn_ hBt hr hR hD hO hS => op_rwhole (isr_eq (show a_.eval (.tmp 42) = .agg #[.bool nr, .slice ar mr cr, .slice br kr dr] from hD 0 rfl) (Ar.rl hr) (Sr.rl hr) Vr Lr Mr) (by omega) hw0),
            .norm 41 rfl rfl rfl (fun a_ w_ hn_ hBt hr hR hD hO hS => op_mvp (p := Tup2 (OutW ((tp pr qr / tq qr)) ((1500) + 6)) (Eqs (.bool true))) (show Tup2 (OutW ((tp pr qr / tq qr)) ((1500) + 6)) (Eqs (.bool true)) (a_.eval (.tmp 43)) w_ from hD 1 rfl)),
            .norm 44 rfl rfl rfl (fun a_ w_ hn_ hBt hr hR hD hO hS => op_ex20 (show Tup2 (OutW ((tp pr qr / tq qr)) ((1500) + 6)) (Eqs (.bool true)) (a_.eval (.tmp 41)) w_ from hD 2 rfl)),
            .norm 45 rfl rfl rfl (fun a_ w_ hn_ hBt hr hR hD hO hS => op_ex21 (show Tup2 (OutW ((tp pr qr / tq qr)) ((1500) + 6)) (Eqs (.bool true)) (a_.eval (.tmp 41)) w_ from hD 2 rfl)),
            .alloc 0 _ rfl rfl (.inl ⟨rfl, rfl⟩) rfl rfl rfl rfl rfl,
            .store 0 _ _ _ rfl rfl rfl rfl rfl rfl rfl (fun ia h => by cases h; rfl) rfl rfl rfl OutW.cs,
            .norm 9 rfl rfl rfl (fun a_ w_ hn_ hBt hr hR hD hO hS => op_assign (show a_.eval (.tmp 45) = .bool true from hD 4 rfl)),
            trivial⟩
        intro a12 w12 gs12 hn12 hd12 hBt hr hR hP hX hU
        replace hn := hn12; replace hd := hd12.trans hd
        replace b1 := b1.keep hBt ⟨someNe, trivial⟩
        replace b4 := b4.keep hBt ⟨someNe, trivial⟩
        replace b6 := b6.keep hBt ⟨someNe, trivial⟩
        replace f1 := (hR 1 rfl).trans f1
        replace f2 := (hR 2 rfl).trans f2
        replace f3 := (hR 3 rfl).trans f3
        replace f4 := (hR 4 rfl).trans f4
        replace f5 := (hR 5 rfl).trans f5
        replace f6 := (hR 6 rfl).trans f6
        replace f7 := (hR 7 rfl).trans f7
        have e9 : a12.eval (.tmp 9) = .bool true := hP 7 (by decide)
        have f9 := e9
        replace Ar := Ar.rl hr
        replace Sr := Sr.rl hr
        replace Dr := Dr.rl hr
        replace G9 := G9.rl hr
        replace A9 := A9.rl hr
        replace K9 := K9.rl hr
        replace S9 := S9.rl hr
        replace G11 := G11.rl hr
        replace A11 := A11.rl hr
        replace K11 := K11.rl hr
        replace S11 := S11.rl hr
        replace HB := HB.trans (hBt.below HB.size (UpOld.all (bx := [⟨W2, some 5, 0, 8, .agg #[.bool false, .slice none 0 0], some (6, 44, 3), []⟩]) ⟨someNe, trivial⟩))
        clear hBt hr hR hP hX hU
        refine wp_seq ?_
        refine region4 [some 10] [Eqs ((.bool false))] [] [] (by kernel_rfl) hn rfl (by kernel_rfl) (by kernel_rfl) (by kernel_rfl) (by kernel_rfl) (by kernel_rfl) (by kernel_rfl) ⟨Eqs.mono4 _, trivial⟩ ok_nil (IsOld.all (bx := []) trivial) (DisOld.all (bx := []) trivial) ?_ ?_
        · exact ⟨.norm 10 rfl rfl rfl (fun a_ w_ hn_ hBt hr hR hD hO hS => op_assign rfl),
            trivial⟩
        intro a13 w13 gs13 hn13 hd13 hBt hr hR hP hX hU
        replace hn := hn13; replace hd := hd13.trans hd
        replace b1 := b1.keep hBt trivial
        replace b4 := b4.keep hBt trivial
        replace b6 := b6.keep hBt trivial
        replace f1 := (hR 1 rfl).trans f1
        replace f2 := (hR 2 rfl).trans f2
        replace f3 := (hR 3 rfl).trans f3
        replace f4 := (hR 4 rfl).trans f4
        replace f5 := (hR 5 rfl).trans f5
        replace f6 := (hR 6 rfl).trans f6
        replace f7 := (hR 7 rfl).trans f7
        replace f9 := (hR 9 rfl).trans f9
        have e10 : a13.eval (.tmp 10) = (.bool false) := hP 0 (by decide)
        have f10 := e10
        replace Ar := Ar.rl hr
        replace Sr := Sr.rl hr
        replace Dr := Dr.rl hr
        replace G9 := G9.rl hr
        replace A9 := A9.rl hr
        replace K9 := K9.rl hr
        replace S9 := S9.rl hr
        replace G11 := G11.rl hr
        replace A11 := A11.rl hr
        replace K11 := K11.rl hr
        replace S11 := S11.rl hr
        replace HB := HB.trans (hBt.below HB.size (UpOld.all (bx := []) trivial))
        clear hBt hr hR hP hX hU
        refine wp_seq ?_
        refine wp_seq ?_
        refine region4 [some 11] [Eqs ((.int .i64 0))] [] [] (by kernel_rfl) hn rfl (by kernel_rfl) (by kernel_rfl) (by kernel_rfl) (by kernel_rfl) (by kernel_rfl) (by kernel_rfl) ⟨Eqs.mono4 _, trivial⟩ ok_nil (IsOld.all (bx := []) trivial) (DisOld.all (bx := []) trivial) ?_ ?_
        · exact ⟨.norm 11 rfl rfl rfl (fun a_ w_ hn_ hBt hr hR hD hO hS => op_assign rfl),
            trivial⟩
        intro a14 w14 gs14 hn14 hd14 hBt hr hR hP hX hU
        replace hn := hn14; replace hd := hd14.trans hd
        replace b1 := b1.keep hBt trivial
        replace b4 := b4.keep hBt trivial
        replace b6 := b6.keep hBt trivial
        replace f1 := (hR 1 rfl).trans f1
        replace f2 := (hR 2 rfl).trans f2
        replace f3 := (hR 3 rfl).trans f3
        replace f4 := (hR 4 rfl).trans f4
        replace f5 := (hR 5 rfl).trans f5
        replace f6 := (hR 6 rfl).trans f6
        replace f7 := (hR 7 rfl).trans f7
        replace f9 := (hR 9 rfl).trans f9
        replace f10 := (hR 10 rfl).trans f10
        have e11 : a14.eval (.tmp 11) = (.int .i64 0) := hP 0 (by decide)
        have f11 := e11
        replace Ar := Ar.rl hr
        replace Sr := Sr.rl hr
        replace Dr := Dr.rl hr
        replace G9 := G9.rl hr
        replace A9 := A9.rl hr
        replace K9 := K9.rl hr
        replace S9 := S9.rl hr
        replace G11 := G11.rl hr
        replace A11 := A11.rl hr
        replace K11 := K11.rl hr
        replace S11 := S11.rl hr
        replace HB := HB.trans (hBt.below HB.size (UpOld.all (bx := []) trivial))
        clear hBt hr hR hP hX hU
        refine wp_block ?_
        have f10_ : a14.eval (.tmp 10) = .bool (decide (StrK sT 0)) := f10.trans (by rw [decide_eq_false (StrK.zero sT)])
        refine wp_loop_ghost (fun n a w' => a.tmps.size = 88 ∧ a.defers = [] ∧ a.eval (.tmp 1) = .pointer (some ⟨gs1 0, 0, none⟩) ∧ a.eval (.tmp 2) = (.bool false) ∧ a.eval (.tmp 3) = .string sT ∧ a.eval (.tmp 4) = .pointer (some ⟨gs8 0, 0, none⟩) ∧ a.eval (.tmp 5) = .int .i64 0 ∧ a.eval (.tmp 6) = .pointer (some ⟨gs10 0, 0, none⟩) ∧ a.eval (.tmp 7) = .int .i64 0 ∧ a.eval (.tmp 9) = .bool true ∧ BoxV R3 w' (gs1 0) (.agg #[.bool nr, .slice ar mr cr, .slice br kr dr]) ∧ BoxV R3 w' (gs8 0) (.agg #[.bool n_9, .slice a_9 r_9.length c_9, .slice b_9 s_9.length d_9]) ∧ BoxV R3 w' (gs10 0) (.agg #[.bool n_11, .slice a_11 r_11.length c_11, .slice b_11 s_11.length d_11]) ∧ Rl w14 w' ∧ Below w.heap.size w w' ∧ ∃ k : Nat, k + n = sT.size ∧ a.eval (.tmp 11) = .int .i64 (k : Int) ∧ a.eval (.tmp 10) = .bool (decide (StrK sT k))) sT.size ⟨hn, hd, f1, f2, f3, f4, f5, f6, f7, f9, b1, b4, b6, Rl.refl _, HB, 0, by omega, f11, f10_⟩ ?_
        have Ar_K := Ar
        have Sr_K := Sr
        have Dr_K := Dr
        have G9_K := G9
        have A9_K := A9
        have K9_K := K9
        have S9_K := S9
        have G11_K := G11
        have A11_K := A11
        have K11_K := K11
        have S11_K := S11
        clear hn hd HB f10_ f1 f2 f3 f4 f5 f6 f7 f9 f10 f11 b1 b4 b6 Ar Sr Dr G9 A9 K9 S9 G11 A11 K11 S11
        rintro nL aL wL ⟨hn, hd, f1, f2, f3, f4, f5, f6, f7, f9, b1, b4, b6, RK, HB, kL, hk, f11, f10⟩
        have Ar := Ar_K.rl RK
        have Sr := Sr_K.rl RK
        have Dr := Dr_K.rl RK
        have G9 := G9_K.rl RK
        have A9 := A9_K.rl RK
        have K9 := K9_K.rl RK
        have S9 := S9_K.rl RK
        have G11 := G11_K.rl RK
        have A11 := A11_K.rl RK
        have K11 := K11_K.rl RK
        have S11 := S11_K.rl RK
        refine wp_seq ?_
        refine wp_seq ?_
        refine region4 [some 46, some 47, some 48, some 49] [Eqs (.int .i64 (kL : Int)), Eqs (.string sT), Eqs (.int .i64 ((sT).size : Int)), Eqs (.bool (decide ((kL : Int) < ((sT).size : Int))))] [] [] (by kernel_rfl) hn rfl (by kernel_rfl) (by kernel_rfl) (by kernel_rfl) (by kernel_rfl) (by kernel_rfl) (by kernel_rfl) ⟨Eqs.mono4 _, Eqs.mono4 _, Eqs.mono4 _, Eqs.mono4 _, trivial⟩ ok_nil (IsOld.all (bx := []) trivial) (DisOld.all (bx := []) trivial) ?_ ?_
        · exact ⟨.norm 46 rfl rfl rfl (fun a_ w_ hn_ hBt hr hR hD hO hS => op_mv ((hR 11 rfl).trans f11)),
            .norm 47 rfl rfl rfl (fun a_ w_ hn_ hBt hr hR hD hO hS => op_mv ((hR 3 rfl).trans f3)),
            .norm 48 rfl rfl rfl (fun a_ w_ hn_ hBt hr hR hD hO hS => op_lens (show a_.eval (.tmp 47) = .string sT from hD 1 rfl)),
            .norm 49 rfl rfl rfl (fun a_ w_ hn_ hBt hr hR hD hO hS => op_lssi (show a_.eval (.tmp 46) = .int .i64 (kL : Int) from hD 0 rfl) (show a_.eval (.tmp 48) = .int .i64 ((sT).size : Int) from hD 2 rfl)),
            trivial⟩
        intro a15 w15 gs15 hn15 hd15 hBt hr hR hP hX hU
        replace hn := hn15; replace hd := hd15.trans hd
        replace b1 := b1.keep hBt trivial
        replace b4 := b4.keep hBt trivial
        replace b6 := b6.keep hBt trivial
        replace f1 := (hR 1 rfl).trans f1
        replace f2 := (hR 2 rfl).trans f2
        replace f3 := (hR 3 rfl).trans f3
        replace f4 := (hR 4 rfl).trans f4
        replace f5 := (hR 5 rfl).trans f5
        replace f6 := (hR 6 rfl).trans f6
        replace f7 := (hR 7 rfl).trans f7
        replace f9 := (hR 9 rfl).trans f9
        replace f11 := (hR 11 rfl).trans f11
        replace f10 := (hR 10 rfl).trans f10
        have e49 : a15.eval (.tmp 49) = .bool (decide ((kL : Int) < ((sT).size : Int))) := hP 3 (by decide)
        have f49 := e49
        replace Ar := Ar.rl hr
        replace Sr := Sr.rl hr
        replace Dr := Dr.rl hr
        replace G9 := G9.rl hr
        replace A9 := A9.rl hr
        replace K9 := K9.rl hr
        replace S9 := S9.rl hr
        replace G11 := G11.rl hr
        replace A11 := A11.rl hr
        replace K11 := K11.rl hr
        replace S11 := S11.rl hr
        replace RK := RK.rl hr
        replace HB := HB.trans (hBt.below HB.size (UpOld.all (bx := []) trivial))
        clear hBt hr hR hP hX hU
        refine wp_cond_split f49 (fun hc49 => ?_) (fun hc49 => ?_)
        · skip
          have hlt := of_decide_eq_true hc49
          refine wp_skip ?_
          refine wp_seq ?_
          refine wp_block ?_
          refine region4 [some 52, some 53, some 54, some 55, some 56, some 57, some 58, some 10] [Eqs (.bool (decide (StrK sT kL))), Eqs (.bool (decide (StrK sT kL))), IfS (¬ (StrK sT kL)) (Eqs (.string sT)), IfS (¬ (StrK sT kL)) (Eqs (.int .i64 (kL : Int))), IfS (¬ (StrK sT kL)) (Eqs (.int .u8 ((sT.get! kL).toNat : Int))), IfS (¬ (StrK sT kL)) (Eqs (.bool (decide (((sT.get! kL).toNat : Int) = 47)))), Eqs (.bool (decide ((StrK sT kL) ∨ (((sT.get! kL).toNat : Int) = 47)))), Eqs (.bool (decide ((StrK sT kL) ∨ (((sT.get! kL).toNat : Int) = 47))))] [] [(7, 0)] (by kernel_rfl) hn rfl (by kernel_rfl) (by kernel_rfl) (by kernel_rfl) (by kernel_rfl) (by kernel_rfl) (by kernel_rfl) ⟨Eqs.mono4 _, Eqs.mono4 _, IfS.mono4 (Eqs.mono4 _), IfS.mono4 (Eqs.mono4 _), IfS.mono4 (Eqs.mono4 _), IfS.mono4 (Eqs.mono4 _), Eqs.mono4 _, Eqs.mono4 _, trivial⟩ ok_nil (IsOld.all (bx := []) trivial) (DisOld.all (bx := []) trivial) ?_ ?_
          · exact ⟨.norm 52 rfl rfl rfl (fun a_ w_ hn_ hBt hr hR hD hO hS => op_mv ((hS 7 10 rfl rfl).trans f10)),
              .norm 53 rfl rfl rfl (fun a_ w_ hn_ hBt hr hR hD hO hS => op_mv (show a_.eval (.tmp 52) = .bool (decide (StrK sT kL)) from hD 0 rfl)),
              .norm 54 rfl rfl rfl (fun a_ w_ hn_ hBt hr hR hD hO hS => ⟨⟨_, rfl⟩, fun hg_ => (have hP_ : ¬ (StrK sT kL) := gfalse (show Eqs (.bool (decide (StrK sT kL))) _ w_ from hD 1 rfl) hg_; (op_mv ((hR 3 rfl).trans f3)).mono (fun _ _ h_ => ⟨h_.1, fun _ => h_.2⟩)), fun hne_ hP_ => absurd (gofF (show Eqs (.bool (decide (StrK sT kL))) _ w_ from hD 1 rfl) hP_) hne_⟩),
              .norm 55 rfl rfl rfl (fun a_ w_ hn_ hBt hr hR hD hO hS => ⟨⟨_, rfl⟩, fun hg_ => (have hP_ : ¬ (StrK sT kL) := gfalse (show Eqs (.bool (decide (StrK sT kL))) _ w_ from hD 1 rfl) hg_; (op_mv ((hR 11 rfl).trans f11)).mono (fun _ _ h_ => ⟨h_.1, fun _ => h_.2⟩)), fun hne_ hP_ => absurd (gofF (show Eqs (.bool (decide (StrK sT kL))) _ w_ from hD 1 rfl) hP_) hne_⟩),
              .norm 56 rfl rfl rfl (fun a_ w_ hn_ hBt hr hR hD hO hS => ⟨⟨_, rfl⟩, fun hg_ => (have hP_ : ¬ (StrK sT kL) := gfalse (show Eqs (.bool (decide (StrK sT kL))) _ w_ from hD 1 rfl) hg_; (op_idxt (show a_.eval (.tmp 54) = .string sT from (show IfS (¬ (StrK sT kL)) (Eqs (.string sT)) (a_.eval (.tmp 54)) w_ from hD 2 rfl) hP_) (show a_.eval (.tmp 55) = .int .i64 (kL : Int) from (show IfS (¬ (StrK sT kL)) (Eqs (.int .i64 (kL : Int))) (a_.eval (.tmp 55)) w_ from hD 3 rfl) hP_) (by omega)).mono (fun _ _ h_ => ⟨h_.1, fun _ => h_.2⟩)), fun hne_ hP_ => absurd (gofF (show Eqs (.bool (decide (StrK sT kL))) _ w_ from hD 1 rfl) hP_) hne_⟩),
              .norm 57 rfl rfl rfl (fun a_ w_ hn_ hBt hr hR hD hO hS => ⟨⟨_, rfl⟩, fun hg_ => (have hP_ : ¬ (StrK sT kL) := gfalse (show Eqs (.bool (decide (StrK sT kL))) _ w_ from hD 1 rfl) hg_; (op_eql8k (show a_.eval (.tmp 56) = .int .u8 ((sT.get! kL).toNat : Int) from (show IfS (¬ (StrK sT kL)) (Eqs (.int .u8 ((sT.get! kL).toNat : Int))) (a_.eval (.tmp 56)) w_ from hD 4 rfl) hP_)).mono (fun _ _ h_ => ⟨h_.1, fun _ => h_.2⟩)), fun hne_ hP_ => absurd (gofF (show Eqs (.bool (decide (StrK sT kL))) _ w_ from hD 1 rfl) hP_) hne_⟩),
              .norm 58 rfl rfl rfl (fun a_ w_ hn_ hBt hr hR hD hO hS => op_pickor (show a_.eval (.tmp 53) = .bool (decide (StrK sT kL)) from hD 1 rfl) (fun hP_ => (show a_.eval (.tmp 57) = .bool (decide (((sT.get! kL).toNat : Int) = 47)) from (show IfS (¬ (StrK sT kL)) (Eqs (.bool (decide (((sT.get! kL).toNat : Int) = 47)))) (a_.eval (.tmp 57)) w_ from hD 5 rfl) hP_))),
              .norm 10 rfl rfl rfl (fun a_ w_ hn_ hBt hr hR hD hO hS => op_assign (show a_.eval (.tmp 58) = .bool (decide ((StrK sT kL) ∨ (((sT.get! kL).toNat : Int) = 47))) from hD 6 rfl)),
              trivial⟩
          intro a16 w16 gs16 hn16 hd16 hBt hr hR hP hX hU
          replace hn := hn16; replace hd := hd16.trans hd
          replace b1 := b1.keep hBt trivial
          replace b4 := b4.keep hBt trivial
          replace b6 := b6.keep hBt trivial
          replace f1 := (hR 1 rfl).trans f1
          replace f2 := (hR 2 rfl).trans f2
          replace f3 := (hR 3 rfl).trans f3
          replace f4 := (hR 4 rfl).trans f4
          replace f5 := (hR 5 rfl).trans f5
          replace f6 := (hR 6 rfl).trans f6
          replace f7 := (hR 7 rfl).trans f7
          replace f9 := (hR 9 rfl).trans f9
          replace f11 := (hR 11 rfl).trans f11
          have e10 : a16.eval (.tmp 10) = .bool (decide ((StrK sT kL) ∨ (((sT.get! kL).toNat : Int) = 47))) := hP 7 (by decide)
          have f10 := e10
          replace Ar := Ar.rl hr
          replace Sr := Sr.rl hr
          replace Dr := Dr.rl hr
          replace G9 := G9.rl hr
          replace A9 := A9.rl hr
          replace K9 := K9.rl hr
          replace S9 := S9.rl hr
          replace G11 := G11.rl hr
          replace A11 := A11.rl hr
          replace K11 := K11.rl hr
          replace S11 := S11.rl hr
          replace RK := RK.rl hr
          replace HB := HB.trans (hBt.below HB.size (UpOld.all (bx := []) trivial))
          clear hBt hr hR hP hX hU
          refine block_normal ?_
          refine region4 [some 50, some 51, some 11] [Eqs (.int .i64 (kL : Int)), Eqs (.int .i64 ((kL + 1 : Nat) : Int)), Eqs (.int .i64 ((kL + 1 : Nat) : Int))] [] [(2, 0)] (by kernel_rfl) hn rfl (by kernel_rfl) (by kernel_rfl) (by kernel_rfl) (by kernel_rfl) (by kernel_rfl) (by kernel_rfl) ⟨Eqs.mono4 _, Eqs.mono4 _, Eqs.mono4 _, trivial⟩ ok_nil (IsOld.all (bx := []) trivial) (DisOld.all (bx := []) trivial) ?_ ?_
          · exact ⟨.norm 50 rfl rfl rfl (fun a_ w_ hn_ hBt hr hR hD hO hS => op_mv ((hS 2 11 rfl rfl).trans f11)),
              .norm 51 rfl rfl rfl (fun a_ w_ hn_ hBt hr hR hD hO hS => op_inck0 (show a_.eval (.tmp 50) = .int .i64 (kL : Int) from hD 0 rfl) (by omega)),
              .norm 11 rfl rfl rfl (fun a_ w_ hn_ hBt hr hR hD hO hS => op_assign (show a_.eval (.tmp 51) = .int .i64 ((kL + 1 : Nat) : Int) from hD 1 rfl)),
              trivial⟩
          intro a17 w17 gs17 hn17 hd17 hBt hr hR hP hX hU
          replace hn := hn17; replace hd := hd17.trans hd
          replace b1 := b1.keep hBt trivial
          replace b4 := b4.keep hBt trivial
          replace b6 := b6.keep hBt trivial
          replace f1 := (hR 1 rfl).trans f1
          replace f2 := (hR 2 rfl).trans f2
          replace f3 := (hR 3 rfl).trans f3
          replace f4 := (hR 4 rfl).trans f4
          replace f5 := (hR 5 rfl).trans f5
          replace f6 := (hR 6 rfl).trans f6
          replace f7 := (hR 7 rfl).trans f7
          replace f9 := (hR 9 rfl).trans f9
          replace f10 := (hR 10 rfl).trans f10
          have e11 : a17.eval (.tmp 11) = .int .i64 ((kL + 1 : Nat) : Int) := hP 2 (by decide)
          have f11 := e11
          replace Ar := Ar.rl hr
          replace Sr := Sr.rl hr
          replace Dr := Dr.rl hr
          replace G9 := G9.rl hr
          replace A9 := A9.rl hr
          replace K9 := K9.rl hr
          replace S9 := S9.rl hr
          replace G11 := G11.rl hr
          replace A11 := A11.rl hr
          replace K11 := K11.rl hr
          replace S11 := S11.rl hr
          replace RK := RK.rl hr
          replace HB := HB.trans (hBt.below HB.size (UpOld.all (bx := []) trivial))
          clear hBt hr hR hP hX hU
          exact ⟨nL - 1, by omega, hn, hd, f1, f2, f3, f4, f5, f6, f7, f9, b1, b4, b6, RK, HB, kL + 1, by omega, f11, f10.trans (by rw [StrK.step])⟩
        · skip
          have hlt := of_decide_eq_false hc49
          refine wp_exit ?_
          repeat (first | refine then_exit ?_ | refine scope_exit ?_ | refine block_pass (by decide) ?_)
          refine block_exit ?_
          refine wp_seq ?_
          have hst := decide_eq_false (show ¬ StrK sT kL from hNo (by omega))
          rw [hst] at f10
          refine region4 [some 59, some 60, some 61, some 62, some 63, some 64, some 65, some 66, some 67, some 68, some 69, some 70, some 71, some 72, some 73, some 74, some 75, some 76, some 77, some 78, some 79, some 80, some 81, some 82, some 83, some 84, some 85, some 86, some 87, some 2] [Eqs (.int .i64 0), Eqs (.bool true), Eqs (.bool true), Eqs (.agg #[.bool n_9, .slice a_9 r_9.length c_9, .slice b_9 s_9.length d_9]), Eqs (.agg #[.bool nr, .slice ar mr cr, .slice br kr dr]), OutR ((nm (tp pr qr) (tq qr))) ((dn (tp pr qr) (tq qr))) (2 * ((1500) + 2)), Eqs (.bool true), Eqs (.bool true), Eqs (.bool true), Eqs (.bool false), Eqs (.bool true), Eqs (.bool false), Eqs (.bool true), Eqs (.bool true), Eqs (.bool true), Eqs (.int .i64 0), Eqs (.bool true), Eqs (.bool true), Eqs (.bool true), Eqs (.bool true), Eqs (.bool true), Eqs (.bool true), Eqs (.bool false), Eqs (.bool false), Eqs (.agg #[.bool n_9, .slice a_9 r_9.length c_9, .slice b_9 s_9.length d_9]), Eqs (.agg #[.bool n_11, .slice a_11 r_11.length c_11, .slice b_11 s_11.length d_11]), Eqs (.bool true), Eqs (.bool true), Eqs (.bool true), Eqs (.bool true)] [] [] (by kernel_rfl) hn rfl (by kernel_rfl) (by kernel_rfl) (by kernel_rfl) (by kernel_rfl) (by kernel_rfl) (by kernel_rfl) ⟨Eqs.mono4 _, Eqs.mono4 _, Eqs.mono4 _, Eqs.mono4 _, Eqs.mono4 _, OutR.mono4 _ _ _, Eqs.mono4 _, Eqs.mono4 _, Eqs.mono4 _, Eqs.mono4 _, Eqs.mono4 _, Eqs.mono4 _, Eqs.mono4 _, Eqs.mono4 _, Eqs.mono4 _, Eqs.mono4 _, Eqs.mono4 _, Eqs.mono4 _, Eqs.mono4 _, Eqs.mono4 _, Eqs.mono4 _, Eqs.mono4 _, Eqs.mono4 _, Eqs.mono4 _, Eqs.mono4 _, Eqs.mono4 _, Eqs.mono4 _, Eqs.mono4 _, Eqs.mono4 _, Eqs.mono4 _, trivial⟩ ok_nil (IsOld.all (bx := []) trivial) (DisOld.all (bx := []) trivial) ?_ ?_
          · exact ⟨.norm 59 rfl rfl rfl (fun a_ w_ hn_ hBt hr hR hD hO hS => op_mv ((hR 5 rfl).trans f5)),
              .norm 60 rfl rfl rfl (fun a_ w_ hn_ hBt hr hR hD hO hS => op_eqlEt (show a_.eval (.tmp 59) = .int .i64 0 from hD 0 rfl) rfl),
              .norm 61 rfl rfl rfl (fun a_ w_ hn_ hBt hr hR hD hO hS => op_mv (show a_.eval (.tmp 60) = .bool true from hD 1 rfl)),
              .norm 62 rfl rfl rfl (fun a_ w_ hn_ hBt hr hR hD hO hS => ⟨⟨_, rfl⟩, fun _ => op_loadv R3ok ((hR 4 rfl).trans f4) (b4.keep hBt trivial), fun hne => absurd (hD 2 rfl) hne⟩),
              .norm 63 rfl rfl rfl (fun a_ w_ hn_ hBt hr hR hD hO hS => ⟨⟨_, rfl⟩, fun _ => op_loadv R3ok ((hR 1 rfl).trans f1) (b1.keep hBt trivial), fun hne => absurd (hD 2 rfl) hne⟩),
              .norm 64 rfl rfl rfl (fun a_ w_ hn_ hBt hr hR hD hO hS => ⟨⟨_, rfl⟩, fun _ => op_rtrim (isr_eq (show a_.eval (.tmp 63) = .agg #[.bool nr, .slice ar mr cr, .slice br kr dr] from hD 4 rfl) (Ar.rl hr) (Sr.rl hr) Vr Lr Mr) (by omega), fun hne => absurd (hD 2 rfl) hne⟩),
              .norm 65 rfl rfl rfl (fun a_ w_ hn_ hBt hr hR hD hO hS => ⟨⟨_, rfl⟩, fun _ => op_samer (outr_eq (show a_.eval (.tmp 62) = .agg #[.bool n_9, .slice a_9 r_9.length c_9, .slice b_9 s_9.length d_9] from hD 3 rfl) (G9.rl hr) (K9.rl hr) l9 k9) (show OutR ((nm (tp pr qr) (tq qr))) ((dn (tp pr qr) (tq qr))) (2 * ((1500) + 2)) (a_.eval (.tmp 64)) w_ from hD 5 rfl) ⟨rfl, rfl⟩, fun hne => absurd (hD 2 rfl) hne⟩),
              .norm 66 rfl rfl rfl (fun a_ w_ hn_ hBt hr hR hD hO hS => op_pickb (show a_.eval (.tmp 61) = .bool true from hD 2 rfl) (show a_.eval (.tmp 65) = .bool true from hD 6 rfl)),
              .norm 67 rfl rfl rfl (fun a_ w_ hn_ hBt hr hR hD hO hS => op_mv (show a_.eval (.tmp 66) = .bool true from hD 7 rfl)),
              .norm 68 rfl rfl rfl (fun a_ w_ hn_ hBt hr hR hD hO hS => ⟨⟨_, rfl⟩, fun _ => op_mv ((hR 10 rfl).trans f10), fun hne => absurd (hD 8 rfl) hne⟩),
              .norm 69 rfl rfl rfl (fun a_ w_ hn_ hBt hr hR hD hO hS => ⟨⟨_, rfl⟩, fun _ => op_mv ((hR 9 rfl).trans f9), fun hne => absurd (hD 8 rfl) hne⟩),
              .norm 70 rfl rfl rfl (fun a_ w_ hn_ hBt hr hR hD hO hS => ⟨⟨_, rfl⟩, fun _ => op_not (show a_.eval (.tmp 69) = .bool true from hD 10 rfl), fun hne => absurd (hD 8 rfl) hne⟩),
              .norm 71 rfl rfl rfl (fun a_ w_ hn_ hBt hr hR hD hO hS => ⟨⟨_, rfl⟩, fun _ => op_eqlb (show a_.eval (.tmp 68) = .bool false from hD 9 rfl) (show a_.eval (.tmp 70) = .bool false from hD 11 rfl), fun hne => absurd (hD 8 rfl) hne⟩),
              .norm 72 rfl rfl rfl (fun a_ w_ hn_ hBt hr hR hD hO hS => op_pickb (show a_.eval (.tmp 67) = .bool true from hD 8 rfl) (show a_.eval (.tmp 71) = .bool true from hD 12 rfl)),
              .norm 73 rfl rfl rfl (fun a_ w_ hn_ hBt hr hR hD hO hS => op_mv (show a_.eval (.tmp 72) = .bool true from hD 13 rfl)),
              .norm 74 rfl rfl rfl (fun a_ w_ hn_ hBt hr hR hD hO hS => ⟨⟨_, rfl⟩, fun _ => op_mv ((hR 7 rfl).trans f7), fun hne => absurd (hD 14 rfl) hne⟩),
              .norm 75 rfl rfl rfl (fun a_ w_ hn_ hBt hr hR hD hO hS => ⟨⟨_, rfl⟩, fun _ => op_eqlEt (show a_.eval (.tmp 74) = .int .i64 0 from hD 15 rfl) rfl, fun hne => absurd (hD 14 rfl) hne⟩),
              .norm 76 rfl rfl rfl (fun a_ w_ hn_ hBt hr hR hD hO hS => ⟨⟨_, rfl⟩, fun _ => op_mv ((hR 9 rfl).trans f9), fun hne => absurd (hD 14 rfl) hne⟩),
              .norm 77 rfl rfl rfl (fun a_ w_ hn_ hBt hr hR hD hO hS => ⟨⟨_, rfl⟩, fun _ => op_eqlb (show a_.eval (.tmp 75) = .bool true from hD 16 rfl) (show a_.eval (.tmp 76) = .bool true from hD 17 rfl), fun hne => absurd (hD 14 rfl) hne⟩),
              .norm 78 rfl rfl rfl (fun a_ w_ hn_ hBt hr hR hD hO hS => op_pickb (show a_.eval (.tmp 73) = .bool true from hD 14 rfl) (show a_.eval (.tmp 77) = .bool true from hD 18 rfl)),
              .norm 79 rfl rfl rfl (fun a_ w_ hn_ hBt hr hR hD hO hS => op_mv (show a_.eval (.tmp 78) = .bool true from hD 19 rfl)),
              .norm 80 rfl rfl rfl (fun a_ w_ hn_ hBt hr hR hD hO hS => ⟨⟨_, rfl⟩, fun _ => op_mv ((hR 9 rfl).trans f9), fun hne => absurd (hD 20 rfl) hne⟩),
              .norm 81 rfl rfl rfl (fun a_ w_ hn_ hBt hr hR hD hO hS => ⟨⟨_, rfl⟩, fun _ => op_not (show a_.eval (.tmp 80) = .bool true from hD 21 rfl), fun hne => absurd (hD 20 rfl) hne⟩),
              .norm 82 rfl rfl rfl (fun a_ w_ hn_ hBt hr hR hD hO hS => ⟨⟨_, rfl⟩, fun _ => op_mv (show a_.eval (.tmp 81) = .bool false from hD 22 rfl), fun hne => absurd (hD 20 rfl) hne⟩),
              .norm 83 rfl rfl rfl (fun a_ w_ hn_ hBt hr hR hD hO hS => ⟨⟨_, rfl⟩, fun _ => op_loadv R3ok ((hR 4 rfl).trans f4) (b4.keep hBt trivial), fun hne => absurd (hD 23 rfl) hne⟩),
              .norm 84 rfl rfl rfl (fun a_ w_ hn_ hBt hr hR hD hO hS => ⟨⟨_, rfl⟩, fun _ => op_loadv R3ok ((hR 6 rfl).trans f6) (b6.keep hBt trivial), fun hne => absurd (hD 23 rfl) hne⟩),
              .norm 85 rfl rfl rfl (fun a_ w_ hn_ hBt hr hR hD hO hS => ⟨⟨_, rfl⟩, fun _ => op_samer (outr_eq (show a_.eval (.tmp 83) = .agg #[.bool n_9, .slice a_9 r_9.length c_9, .slice b_9 s_9.length d_9] from hD 24 rfl) (G9.rl hr) (K9.rl hr) l9 k9) (outr_eq (show a_.eval (.tmp 84) = .agg #[.bool n_11, .slice a_11 r_11.length c_11, .slice b_11 s_11.length d_11] from hD 25 rfl) (G11.rl hr) (K11.rl hr) l11 k11) ⟨rfl, rfl⟩, fun hne => absurd (hD 23 rfl) hne⟩),
              .norm 86 rfl rfl rfl (fun a_ w_ hn_ hBt hr hR hD hO hS => ⟨⟨_, rfl⟩, fun _ => op_pickb (show a_.eval (.tmp 82) = .bool false from hD 23 rfl) (show a_.eval (.tmp 85) = .bool true from hD 26 rfl), fun hne => absurd (hD 20 rfl) hne⟩),
              .norm 87 rfl rfl rfl (fun a_ w_ hn_ hBt hr hR hD hO hS => op_pickb (show a_.eval (.tmp 79) = .bool true from hD 20 rfl) (show a_.eval (.tmp 86) = .bool true from hD 27 rfl)),
              .norm 2 rfl rfl rfl (fun a_ w_ hn_ hBt hr hR hD hO hS => op_assign (show a_.eval (.tmp 87) = .bool true from hD 28 rfl)),
              trivial⟩
          intro a18 w18 gs18 hn18 hd18 hBt hr hR hP hX hU
          replace hn := hn18; replace hd := hd18.trans hd
          have e2 : a18.eval (.tmp 2) = .bool true := hP 29 (by decide)
          have f2 := e2
          replace Ar := Ar.rl hr
          replace Sr := Sr.rl hr
          replace Dr := Dr.rl hr
          replace G9 := G9.rl hr
          replace A9 := A9.rl hr
          replace K9 := K9.rl hr
          replace S9 := S9.rl hr
          replace G11 := G11.rl hr
          replace A11 := A11.rl hr
          replace K11 := K11.rl hr
          replace S11 := S11.rl hr
          replace RK := RK.rl hr
          replace HB := HB.trans (hBt.below HB.size (UpOld.all (bx := []) trivial))
          clear hBt hr hR hP hX hU
          refine wp_ret ?_
          repeat (first | refine then_ret ?_ | refine scope_ret ?_ | refine block_ret ?_)
          exact bodyPost_ret (v := .bool true) (res_t rfl f2) hd ⟨rfl, HB⟩
      · skip
        have hw0 : tp pr qr % tq qr ≠ 0 := fun e => hQ1 ((whole_one (x := tp pr qr) (tq_pos' Sr Vr)).1 e)
        have hTe : sT = (txt (nm (tp pr qr) (tq qr)) ++ ⟨#[47]⟩) ++ txt (dn (tp pr qr) (tq qr)) := by rw [hsT, rtxt2 hQ1]
        have hTs : sT.size ≤ 10010 := by rw [hTe, size_slash]; omega
        have hlo := low_again (x := tp pr qr) (tq_pos' Sr Vr)
        have hA1 : rAns sT = ((nm (tp pr qr) (tq qr)), (dn (tp pr qr) (tq qr)), 0) := by rw [hTe, ans2 hbP hbQ hQ0 hlo.1 hlo.2]
        have hA2 : (rAns (sT ++ sl1)).2.2 ≠ 0 := by rw [hTe]; exact ans2s hbP hbQ hQ0
        have hYes : ∀ {k}, sT.size ≤ k → StrK sT k := fun hk_ => by rw [hTe] at hk_ ⊢; exact str_yes hk_
        refine region4 [some 28, some 29, some 3] [Eqs (.agg #[.bool nr, .slice ar mr cr, .slice br kr dr]), Eqs (.string sT), Eqs (.string sT)] [] [] (by kernel_rfl) hn rfl (by kernel_rfl) (by kernel_rfl) (by kernel_rfl) (by kernel_rfl) (by kernel_rfl) (by kernel_rfl) ⟨Eqs.mono4 _, Eqs.mono4 _, Eqs.mono4 _, trivial⟩ ok_nil (IsOld.all (bx := []) trivial) (DisOld.all (bx := []) trivial) ?_ ?_
        · exact ⟨.norm 28 rfl rfl rfl (fun a_ w_ hn_ hBt hr hR hD hO hS => op_loadv R3ok ((hR 1 rfl).trans f1) (b1.keep hBt trivial)),
            .norm 29 rfl rfl rfl (fun a_ w_ hn_ hBt hr hR hD hO hS => op_rtextE (isr_eq (show a_.eval (.tmp 28) = .agg #[.bool nr, .slice ar mr cr, .slice br kr dr] from hD 0 rfl) (Ar.rl hr) (Sr.rl hr) Vr Lr Mr) (by omega) hsT),
            .norm 3 rfl rfl rfl (fun a_ w_ hn_ hBt hr hR hD hO hS => op_assign (show a_.eval (.tmp 29) = .string sT from hD 1 rfl)),
            trivial⟩
        intro a19 w19 gs19 hn19 hd19 hBt hr hR hP hX hU
        replace hn := hn19; replace hd := hd19.trans hd
        replace b1 := b1.keep hBt trivial
        replace f1 := (hR 1 rfl).trans f1
        replace f2 := (hR 2 rfl).trans f2
        have e3 : a19.eval (.tmp 3) = .string sT := hP 2 (by decide)
        have f3 := e3
        replace Ar := Ar.rl hr
        replace Sr := Sr.rl hr
        replace Dr := Dr.rl hr
        replace HB := HB.trans (hBt.below HB.size (UpOld.all (bx := []) trivial))
        clear hBt hr hR hP hX hU
        refine wp_seq ?_
        refine region4 [some 31, some 32, some 30, some 33, some 34, some 4, none, some 5] [Eqs (.string sT), Tup2 (OutR ((nm (tp pr qr) (tq qr))) ((dn (tp pr qr) (tq qr))) (24000)) (Eqs (.int .i64 0)), Tup2 (OutR ((nm (tp pr qr) (tq qr))) ((dn (tp pr qr) (tq qr))) (24000)) (Eqs (.int .i64 0)), OutR ((nm (tp pr qr) (tq qr))) ((dn (tp pr qr) (tq qr))) (24000), Eqs (.int .i64 0), (fun _ _ => True), (fun _ _ => True), Eqs (.int .i64 0)] [⟨R3, some 5, 0, 4, .agg #[.bool false, .slice none 0 0, .slice none 0 0], some (6, 33, 3), []⟩] [] (by kernel_rfl) hn rfl (by kernel_rfl) (by kernel_rfl) (by kernel_rfl) (by kernel_rfl) (by kernel_rfl) (by kernel_rfl) ⟨Eqs.mono4 _, Tup2.mono4 (OutR.mono4 _ _ _) (Eqs.mono4 _), Tup2.mono4 (OutR.mono4 _ _ _) (Eqs.mono4 _), OutR.mono4 _ _ _, Eqs.mono4 _, True.mono4, True.mono4, Eqs.mono4 _, trivial⟩ (ok_cons R3ok ok_nil) (IsOld.all (bx := [⟨R3, some 5, 0, 4, .agg #[.bool false, .slice none 0 0, .slice none 0 0], some (6, 33, 3), []⟩]) ⟨someNe, trivial⟩) (DisOld.all (bx := [⟨R3, some 5, 0, 4, .agg #[.bool false, .slice none 0 0, .slice none 0 0], some (6, 33, 3), []⟩]) ⟨someNe, trivial⟩) ?_ ?_
        · exact ⟨.norm 31 rfl rfl rfl (fun a_ w_ hn_ hBt hr hR hD hO hS => op_mv ((hR 3 rfl).trans f3)),
            .norm 32 rfl rfl rfl (fun a_ w_ hn_ hBt hr hR hD hO hS => op_rparseE (show a_.eval (.tmp 31) = .string sT from hD 0 rfl) (hT.below (HB.trans (hBt.below HB.size (UpOld.all (bx := [⟨R3, some 5, 0, 4, .agg #[.bool false, .slice none 0 0, .slice none 0 0], some (6, 33, 3), []⟩]) ⟨someNe, trivial⟩)))) hA1),
            .norm 30 rfl rfl rfl (fun a_ w_ hn_ hBt hr hR hD hO hS => op_mvp (p := Tup2 (OutR ((nm (tp pr qr) (tq qr))) ((dn (tp pr qr) (tq qr))) (24000)) (Eqs (.int .i64 0))) (show Tup2 (OutR ((nm (tp pr qr) (tq qr))) ((dn (tp pr qr) (tq qr))) (24000)) (Eqs (.int .i64 0)) (a_.eval (.tmp 32)) w_ from hD 1 rfl)),
            .norm 33 rfl rfl rfl (fun a_ w_ hn_ hBt hr hR hD hO hS => op_ex20 (show Tup2 (OutR ((nm (tp pr qr) (tq qr))) ((dn (tp pr qr) (tq qr))) (24000)) (Eqs (.int .i64 0)) (a_.eval (.tmp 30)) w_ from hD 2 rfl)),
            .norm 34 rfl rfl rfl (fun a_ w_ hn_ hBt hr hR hD hO hS => op_ex21 (show Tup2 (OutR ((nm (tp pr qr) (tq qr))) ((dn (tp pr qr) (tq qr))) (24000)) (Eqs (.int .i64 0)) (a_.eval (.tmp 30)) w_ from hD 2 rfl)),
            .alloc 0 _ rfl rfl (.inl ⟨rfl, rfl⟩) rfl rfl rfl rfl rfl,
            .store 0 _ _ _ rfl rfl rfl rfl rfl rfl rfl (fun ia h => by cases h; rfl) rfl rfl rfl OutR.cs,
            .norm 5 rfl rfl rfl (fun a_ w_ hn_ hBt hr hR hD hO hS => op_assign (show a_.eval (.tmp 34) = .int .i64 0 from hD 4 rfl)),
            trivial⟩
        intro a20 w20 gs20 hn20 hd20 hBt hr hR hP hX hU
        replace hn := hn20; replace hd := hd20.trans hd
        replace b1 := b1.keep hBt ⟨someNe, trivial⟩
        obtain ⟨n_21, a_21, c_21, r_21, b_21, d_21, s_21, e33, G21, K21, l21, k21⟩ : OutR ((nm (tp pr qr) (tq qr))) ((dn (tp pr qr) (tq qr))) (24000) (a20.eval (.tmp 33)) w20 := hP 3 (by decide)
        have A21 := G21.ag; have S21 := K21.sl; have V21 := K21.val
        have b4 : BoxV R3 w20 (gs20 0) (.agg #[.bool n_21, .slice a_21 r_21.length c_21, .slice b_21 s_21.length d_21]) := boxv_of (hX 0 _ rfl).2.2.2 e33
        have f4 := (hX 0 _ rfl).1
        have u4 : w.heap.size ≤ gs20 0 := Nat.le_trans HB.size ((hX 0 _ rfl).2.2.1 (by simp))
        replace f1 := (hR 1 rfl).trans f1
        replace f2 := (hR 2 rfl).trans f2
        replace f3 := (hR 3 rfl).trans f3
        have e5 : a20.eval (.tmp 5) = .int .i64 0 := hP 7 (by decide)
        have f5 := e5
        replace Ar := Ar.rl hr
        replace Sr := Sr.rl hr
        replace Dr := Dr.rl hr
        replace HB := HB.trans (hBt.below HB.size (UpOld.all (bx := [⟨R3, some 5, 0, 4, .agg #[.bool false, .slice none 0 0, .slice none 0 0], some (6, 33, 3), []⟩]) ⟨someNe, trivial⟩))
        clear hBt hr hR hP hX hU
        refine wp_seq ?_
        refine region4 [some 36, some 37, some 38, some 35, some 39, some 40, some 6, none, some 7] [Eqs (.string sT), Eqs (.string (sT ++ sl1)), Tup2 (OutR ((rAns (sT ++ sl1)).1) ((rAns (sT ++ sl1)).2.1) (24000)) (Eqs (.int .i64 (rAns (sT ++ sl1)).2.2)), Tup2 (OutR ((rAns (sT ++ sl1)).1) ((rAns (sT ++ sl1)).2.1) (24000)) (Eqs (.int .i64 (rAns (sT ++ sl1)).2.2)), OutR ((rAns (sT ++ sl1)).1) ((rAns (sT ++ sl1)).2.1) (24000), Eqs (.int .i64 (rAns (sT ++ sl1)).2.2), (fun _ _ => True), (fun _ _ => True), Eqs (.int .i64 (rAns (sT ++ sl1)).2.2)] [⟨R3, some 6, 0, 6, .agg #[.bool false, .slice none 0 0, .slice none 0 0], some (7, 39, 4), []⟩] [] (by kernel_rfl) hn rfl (by kernel_rfl) (by kernel_rfl) (by kernel_rfl) (by kernel_rfl) (by kernel_rfl) (by kernel_rfl) ⟨Eqs.mono4 _, Eqs.mono4 _, Tup2.mono4 (OutR.mono4 _ _ _) (Eqs.mono4 _), Tup2.mono4 (OutR.mono4 _ _ _) (Eqs.mono4 _), OutR.mono4 _ _ _, Eqs.mono4 _, True.mono4, True.mono4, Eqs.mono4 _, trivial⟩ (ok_cons R3ok ok_nil) (IsOld.all (bx := [⟨R3, some 6, 0, 6, .agg #[.bool false, .slice none 0 0, .slice none 0 0], some (7, 39, 4), []⟩]) ⟨someNe, trivial⟩) (DisOld.all (bx := [⟨R3, some 6, 0, 6, .agg #[.bool false, .slice none 0 0, .slice none 0 0], some (7, 39, 4), []⟩]) ⟨someNe, trivial⟩) ?_ ?_
        · exact ⟨.norm 36 rfl rfl rfl (fun a_ w_ hn_ hBt hr hR hD hO hS => op_mv ((hR 3 rfl).trans f3)),
            .norm 37 rfl rfl rfl (fun a_ w_ hn_ hBt hr hR hD hO hS => op_addsk (c := sl1) (show a_.eval (.tmp 36) = .string sT from hD 0 rfl) (by rw [ByteArray.size_append]; have h3_ : sl1.size = 2 := rfl; omega)),
            .norm 38 rfl rfl rfl (fun a_ w_ hn_ hBt hr hR hD hO hS => op_rparse (show a_.eval (.tmp 37) = .string (sT ++ sl1) from hD 1 rfl) (hT.below (HB.trans (hBt.below HB.size (UpOld.all (bx := [⟨R3, some 6, 0, 6, .agg #[.bool false, .slice none 0 0, .slice none 0 0], some (7, 39, 4), []⟩]) ⟨someNe, trivial⟩))))),
            .norm 35 rfl rfl rfl (fun a_ w_ hn_ hBt hr hR hD hO hS => op_mvp (p := Tup2 (OutR ((rAns (sT ++ sl1)).1) ((rAns (sT ++ sl1)).2.1) (24000)) (Eqs (.int .i64 (rAns (sT ++ sl1)).2.2))) (show Tup2 (OutR ((rAns (sT ++ sl1)).1) ((rAns (sT ++ sl1)).2.1) (24000)) (Eqs (.int .i64 (rAns (sT ++ sl1)).2.2)) (a_.eval (.tmp 38)) w_ from hD 2 rfl)),
            .norm 39 rfl rfl rfl (fun a_ w_ hn_ hBt hr hR hD hO hS => op_ex20 (show Tup2 (OutR ((rAns (sT ++ sl1)).1) ((rAns (sT ++ sl1)).2.1) (24000)) (Eqs (.int .i64 (rAns (sT ++ sl1)).2.2)) (a_.eval (.tmp 35)) w_ from hD 3 rfl)),
            .norm 40 rfl rfl rfl (fun a_ w_ hn_ hBt hr hR hD hO hS => op_ex21 (show Tup2 (OutR ((rAns (sT ++ sl1)).1) ((rAns (sT ++ sl1)).2.1) (24000)) (Eqs (.int .i64 (rAns (sT ++ sl1)).2.2)) (a_.eval (.tmp 35)) w_ from hD 3 rfl)),
            .alloc 0 _ rfl rfl (.inl ⟨rfl, rfl⟩) rfl rfl rfl rfl rfl,
            .store 0 _ _ _ rfl rfl rfl rfl rfl rfl rfl (fun ia h => by cases h; rfl) rfl rfl rfl OutR.cs,
            .norm 7 rfl rfl rfl (fun a_ w_ hn_ hBt hr hR hD hO hS => op_assign (show a_.eval (.tmp 40) = .int .i64 (rAns (sT ++ sl1)).2.2 from hD 5 rfl)),
            trivial⟩
        intro a22 w22 gs22 hn22 hd22 hBt hr hR hP hX hU
        replace hn := hn22; replace hd := hd22.trans hd
        replace b1 := b1.keep hBt ⟨someNe, trivial⟩
        replace b4 := b4.keep hBt ⟨someNe, trivial⟩
        obtain ⟨n_23, a_23, c_23, r_23, b_23, d_23, s_23, e39, G23, K23, l23, k23⟩ : OutR ((rAns (sT ++ sl1)).1) ((rAns (sT ++ sl1)).2.1) (24000) (a22.eval (.tmp 39)) w22 := hP 4 (by decide)
        have A23 := G23.ag; have S23 := K23.sl; have V23 := K23.val
        have b6 : BoxV R3 w22 (gs22 0) (.agg #[.bool n_23, .slice a_23 r_23.length c_23, .slice b_23 s_23.length d_23]) := boxv_of (hX 0 _ rfl).2.2.2 e39
        have f6 := (hX 0 _ rfl).1
        have u6 : w.heap.size ≤ gs22 0 := Nat.le_trans HB.size ((hX 0 _ rfl).2.2.1 (by simp))
        replace f1 := (hR 1 rfl).trans f1
        replace f2 := (hR 2 rfl).trans f2
        replace f3 := (hR 3 rfl).trans f3
        replace f4 := (hR 4 rfl).trans f4
        replace f5 := (hR 5 rfl).trans f5
        have e7 : a22.eval (.tmp 7) = .int .i64 (rAns (sT ++ sl1)).2.2 := hP 8 (by decide)
        have f7 := e7
        replace Ar := Ar.rl hr
        replace Sr := Sr.rl hr
        replace Dr := Dr.rl hr
        replace G21 := G21.rl hr
        replace A21 := A21.rl hr
        replace K21 := K21.rl hr
        replace S21 := S21.rl hr
        replace HB := HB.trans (hBt.below HB.size (UpOld.all (bx := [⟨R3, some 6, 0, 6, .agg #[.bool false, .slice none 0 0, .slice none 0 0], some (7, 39, 4), []⟩]) ⟨someNe, trivial⟩))
        clear hBt hr hR hP hX hU
        refine wp_seq ?_
        refine region4 [some 42, some 43, some 41, some 44, some 45, some 8, none, some 9] [Eqs (.agg #[.bool nr, .slice ar mr cr, .slice br kr dr]), Tup2 (OutW (0) ((1500) + 6)) (Eqs (.bool false)), Tup2 (OutW (0) ((1500) + 6)) (Eqs (.bool false)), OutW (0) ((1500) + 6), Eqs (.bool false), (fun _ _ => True), (fun _ _ => True), Eqs (.bool false)] [⟨W2, some 5, 0, 8, .agg #[.bool false, .slice none 0 0], some (6, 44, 3), []⟩] [] (by kernel_rfl) hn rfl (by kernel_rfl) (by kernel_rfl) (by kernel_rfl) (by kernel_rfl) (by kernel_rfl) (by kernel_rfl) ⟨Eqs.mono4 _, Tup2.mono4 (OutW.mono4 _ _) (Eqs.mono4 _), Tup2.mono4 (OutW.mono4 _ _) (Eqs.mono4 _), OutW.mono4 _ _, Eqs.mono4 _, True.mono4, True.mono4, Eqs.mono4 _, trivial⟩ (ok_cons W2ok ok_nil) (IsOld.all (bx := [⟨W2, some 5, 0, 8, .agg #[.bool false, .slice none 0 0], some (6, 44, 3), []⟩]) ⟨someNe, trivial⟩) (DisOld.all (bx := [⟨W2, some 5, 0, 8, .agg #[.bool false, .slice none 0 0], some (6, 44, 3), []⟩]) ⟨someNe, trivial⟩) ?_ ?_
        · exact ⟨.norm 42 rfl rfl rfl (fun a_ w_ hn_ hBt hr hR hD hO hS => op_loadv R3ok ((hR 1 rfl).trans f1) (b1.keep hBt ⟨someNe, trivial⟩)),
            .norm 43 rfl rfl rfl (fun a_ w_ hn_ hBt hr hR hD hO hS => op_rwhole0 (isr_eq (show a_.eval (.tmp 42) = .agg #[.bool nr, .slice ar mr cr, .slice br kr dr] from hD 0 rfl) (Ar.rl hr) (Sr.rl hr) Vr Lr Mr) (by omega) hw0),
            .norm 41 rfl rfl rfl (fun a_ w_ hn_ hBt hr hR hD hO hS => op_mvp (p := Tup2 (OutW (0) ((1500) + 6)) (Eqs (.bool false))) (show Tup2 (OutW (0) ((1500) + 6)) (Eqs (.bool false)) (a_.eval (.tmp 43)) w_ from hD 1 rfl)),
            .norm 44 rfl rfl rfl (fun a_ w_ hn_ hBt hr hR hD hO hS => op_ex20 (show Tup2 (OutW (0) ((1500) + 6)) (Eqs (.bool false)) (a_.eval (.tmp 41)) w_ from hD 2 rfl)),
            .norm 45 rfl rfl rfl (fun a_ w_ hn_ hBt hr hR hD hO hS => op_ex21 (show Tup2 (OutW (0) ((1500) + 6)) (Eqs (.bool false)) (a_.eval (.tmp 41)) w_ from hD 2 rfl)),
            .alloc 0 _ rfl rfl (.inl ⟨rfl, rfl⟩) rfl rfl rfl rfl rfl,
            .store 0 _ _ _ rfl rfl rfl rfl rfl rfl rfl (fun ia h => by cases h; rfl) rfl rfl rfl OutW.cs,
            .norm 9 rfl rfl rfl (fun a_ w_ hn_ hBt hr hR hD hO hS => op_assign (show a_.eval (.tmp 45) = .bool false from hD 4 rfl)),
            trivial⟩
        intro a24 w24 gs24 hn24 hd24 hBt hr hR hP hX hU
        replace hn := hn24; replace hd := hd24.trans hd
        replace b1 := b1.keep hBt ⟨someNe, trivial⟩
        replace b4 := b4.keep hBt ⟨someNe, trivial⟩
        replace b6 := b6.keep hBt ⟨someNe, trivial⟩
        replace f1 := (hR 1 rfl).trans f1
        replace f2 := (hR 2 rfl).trans f2
        replace f3 := (hR 3 rfl).trans f3
        replace f4 := (hR 4 rfl).trans f4
        replace f5 := (hR 5 rfl).trans f5
        replace f6 := (hR 6 rfl).trans f6
        replace f7 := (hR 7 rfl).trans f7
        have e9 : a24.eval (.tmp 9) = .bool false := hP 7 (by decide)
        have f9 := e9
        replace Ar := Ar.rl hr
        replace Sr := Sr.rl hr
        replace Dr := Dr.rl hr
        replace G21 := G21.rl hr
        replace A21 := A21.rl hr
        replace K21 := K21.rl hr
        replace S21 := S21.rl hr
        replace G23 := G23.rl hr
        replace A23 := A23.rl hr
        replace K23 := K23.rl hr
        replace S23 := S23.rl hr
        replace HB := HB.trans (hBt.below HB.size (UpOld.all (bx := [⟨W2, some 5, 0, 8, .agg #[.bool false, .slice none 0 0], some (6, 44, 3), []⟩]) ⟨someNe, trivial⟩))
        clear hBt hr hR hP hX hU
        refine wp_seq ?_
        refine region4 [some 10] [Eqs ((.bool false))] [] [] (by kernel_rfl) hn rfl (by kernel_rfl) (by kernel_rfl) (by kernel_rfl) (by kernel_rfl) (by kernel_rfl) (by kernel_rfl) ⟨Eqs.mono4 _, trivial⟩ ok_nil (IsOld.all (bx := []) trivial) (DisOld.all (bx := []) trivial) ?_ ?_
        · exact ⟨.norm 10 rfl rfl rfl (fun a_ w_ hn_ hBt hr hR hD hO hS => op_assign rfl),
            trivial⟩
        intro a25 w25 gs25 hn25 hd25 hBt hr hR hP hX hU
        replace hn := hn25; replace hd := hd25.trans hd
        replace b1 := b1.keep hBt trivial
        replace b4 := b4.keep hBt trivial
        replace b6 := b6.keep hBt trivial
        replace f1 := (hR 1 rfl).trans f1
        replace f2 := (hR 2 rfl).trans f2
        replace f3 := (hR 3 rfl).trans f3
        replace f4 := (hR 4 rfl).trans f4
        replace f5 := (hR 5 rfl).trans f5
        replace f6 := (hR 6 rfl).trans f6
        replace f7 := (hR 7 rfl).trans f7
        replace f9 := (hR 9 rfl).trans f9
        have e10 : a25.eval (.tmp 10) = (.bool false) := hP 0 (by decide)
        have f10 := e10
        replace Ar := Ar.rl hr
        replace Sr := Sr.rl hr
        replace Dr := Dr.rl hr
        replace G21 := G21.rl hr
        replace A21 := A21.rl hr
        replace K21 := K21.rl hr
        replace S21 := S21.rl hr
        replace G23 := G23.rl hr
        replace A23 := A23.rl hr
        replace K23 := K23.rl hr
        replace S23 := S23.rl hr
        replace HB := HB.trans (hBt.below HB.size (UpOld.all (bx := []) trivial))
        clear hBt hr hR hP hX hU
        refine wp_seq ?_
        refine wp_seq ?_
        refine region4 [some 11] [Eqs ((.int .i64 0))] [] [] (by kernel_rfl) hn rfl (by kernel_rfl) (by kernel_rfl) (by kernel_rfl) (by kernel_rfl) (by kernel_rfl) (by kernel_rfl) ⟨Eqs.mono4 _, trivial⟩ ok_nil (IsOld.all (bx := []) trivial) (DisOld.all (bx := []) trivial) ?_ ?_
        · exact ⟨.norm 11 rfl rfl rfl (fun a_ w_ hn_ hBt hr hR hD hO hS => op_assign rfl),
            trivial⟩
        intro a26 w26 gs26 hn26 hd26 hBt hr hR hP hX hU
        replace hn := hn26; replace hd := hd26.trans hd
        replace b1 := b1.keep hBt trivial
        replace b4 := b4.keep hBt trivial
        replace b6 := b6.keep hBt trivial
        replace f1 := (hR 1 rfl).trans f1
        replace f2 := (hR 2 rfl).trans f2
        replace f3 := (hR 3 rfl).trans f3
        replace f4 := (hR 4 rfl).trans f4
        replace f5 := (hR 5 rfl).trans f5
        replace f6 := (hR 6 rfl).trans f6
        replace f7 := (hR 7 rfl).trans f7
        replace f9 := (hR 9 rfl).trans f9
        replace f10 := (hR 10 rfl).trans f10
        have e11 : a26.eval (.tmp 11) = (.int .i64 0) := hP 0 (by decide)
        have f11 := e11
        replace Ar := Ar.rl hr
        replace Sr := Sr.rl hr
        replace Dr := Dr.rl hr
        replace G21 := G21.rl hr
        replace A21 := A21.rl hr
        replace K21 := K21.rl hr
        replace S21 := S21.rl hr
        replace G23 := G23.rl hr
        replace A23 := A23.rl hr
        replace K23 := K23.rl hr
        replace S23 := S23.rl hr
        replace HB := HB.trans (hBt.below HB.size (UpOld.all (bx := []) trivial))
        clear hBt hr hR hP hX hU
        refine wp_block ?_
        have f10_ : a26.eval (.tmp 10) = .bool (decide (StrK sT 0)) := f10.trans (by rw [decide_eq_false (StrK.zero sT)])
        refine wp_loop_ghost (fun n a w' => a.tmps.size = 88 ∧ a.defers = [] ∧ a.eval (.tmp 1) = .pointer (some ⟨gs1 0, 0, none⟩) ∧ a.eval (.tmp 2) = (.bool false) ∧ a.eval (.tmp 3) = .string sT ∧ a.eval (.tmp 4) = .pointer (some ⟨gs20 0, 0, none⟩) ∧ a.eval (.tmp 5) = .int .i64 0 ∧ a.eval (.tmp 6) = .pointer (some ⟨gs22 0, 0, none⟩) ∧ a.eval (.tmp 7) = .int .i64 (rAns (sT ++ sl1)).2.2 ∧ a.eval (.tmp 9) = .bool false ∧ BoxV R3 w' (gs1 0) (.agg #[.bool nr, .slice ar mr cr, .slice br kr dr]) ∧ BoxV R3 w' (gs20 0) (.agg #[.bool n_21, .slice a_21 r_21.length c_21, .slice b_21 s_21.length d_21]) ∧ BoxV R3 w' (gs22 0) (.agg #[.bool n_23, .slice a_23 r_23.length c_23, .slice b_23 s_23.length d_23]) ∧ Rl w26 w' ∧ Below w.heap.size w w' ∧ ∃ k : Nat, k + n = sT.size ∧ a.eval (.tmp 11) = .int .i64 (k : Int) ∧ a.eval (.tmp 10) = .bool (decide (StrK sT k))) sT.size ⟨hn, hd, f1, f2, f3, f4, f5, f6, f7, f9, b1, b4, b6, Rl.refl _, HB, 0, by omega, f11, f10_⟩ ?_
        have Ar_K := Ar
        have Sr_K := Sr
        have Dr_K := Dr
        have G21_K := G21
        have A21_K := A21
        have K21_K := K21
        have S21_K := S21
        have G23_K := G23
        have A23_K := A23
        have K23_K := K23
        have S23_K := S23
        clear hn hd HB f10_ f1 f2 f3 f4 f5 f6 f7 f9 f10 f11 b1 b4 b6 Ar Sr Dr G21 A21 K21 S21 G23 A23 K23 S23
        rintro nL aL wL ⟨hn, hd, f1, f2, f3, f4, f5, f6, f7, f9, b1, b4, b6, RK, HB, kL, hk, f11, f10⟩
        have Ar := Ar_K.rl RK
        have Sr := Sr_K.rl RK
        have Dr := Dr_K.rl RK
        have G21 := G21_K.rl RK
        have A21 := A21_K.rl RK
        have K21 := K21_K.rl RK
        have S21 := S21_K.rl RK
        have G23 := G23_K.rl RK
        have A23 := A23_K.rl RK
        have K23 := K23_K.rl RK
        have S23 := S23_K.rl RK
        refine wp_seq ?_
        refine wp_seq ?_
        refine region4 [some 46, some 47, some 48, some 49] [Eqs (.int .i64 (kL : Int)), Eqs (.string sT), Eqs (.int .i64 ((sT).size : Int)), Eqs (.bool (decide ((kL : Int) < ((sT).size : Int))))] [] [] (by kernel_rfl) hn rfl (by kernel_rfl) (by kernel_rfl) (by kernel_rfl) (by kernel_rfl) (by kernel_rfl) (by kernel_rfl) ⟨Eqs.mono4 _, Eqs.mono4 _, Eqs.mono4 _, Eqs.mono4 _, trivial⟩ ok_nil (IsOld.all (bx := []) trivial) (DisOld.all (bx := []) trivial) ?_ ?_
        · exact ⟨.norm 46 rfl rfl rfl (fun a_ w_ hn_ hBt hr hR hD hO hS => op_mv ((hR 11 rfl).trans f11)),
            .norm 47 rfl rfl rfl (fun a_ w_ hn_ hBt hr hR hD hO hS => op_mv ((hR 3 rfl).trans f3)),
            .norm 48 rfl rfl rfl (fun a_ w_ hn_ hBt hr hR hD hO hS => op_lens (show a_.eval (.tmp 47) = .string sT from hD 1 rfl)),
            .norm 49 rfl rfl rfl (fun a_ w_ hn_ hBt hr hR hD hO hS => op_lssi (show a_.eval (.tmp 46) = .int .i64 (kL : Int) from hD 0 rfl) (show a_.eval (.tmp 48) = .int .i64 ((sT).size : Int) from hD 2 rfl)),
            trivial⟩
        intro a27 w27 gs27 hn27 hd27 hBt hr hR hP hX hU
        replace hn := hn27; replace hd := hd27.trans hd
        replace b1 := b1.keep hBt trivial
        replace b4 := b4.keep hBt trivial
        replace b6 := b6.keep hBt trivial
        replace f1 := (hR 1 rfl).trans f1
        replace f2 := (hR 2 rfl).trans f2
        replace f3 := (hR 3 rfl).trans f3
        replace f4 := (hR 4 rfl).trans f4
        replace f5 := (hR 5 rfl).trans f5
        replace f6 := (hR 6 rfl).trans f6
        replace f7 := (hR 7 rfl).trans f7
        replace f9 := (hR 9 rfl).trans f9
        replace f11 := (hR 11 rfl).trans f11
        replace f10 := (hR 10 rfl).trans f10
        have e49 : a27.eval (.tmp 49) = .bool (decide ((kL : Int) < ((sT).size : Int))) := hP 3 (by decide)
        have f49 := e49
        replace Ar := Ar.rl hr
        replace Sr := Sr.rl hr
        replace Dr := Dr.rl hr
        replace G21 := G21.rl hr
        replace A21 := A21.rl hr
        replace K21 := K21.rl hr
        replace S21 := S21.rl hr
        replace G23 := G23.rl hr
        replace A23 := A23.rl hr
        replace K23 := K23.rl hr
        replace S23 := S23.rl hr
        replace RK := RK.rl hr
        replace HB := HB.trans (hBt.below HB.size (UpOld.all (bx := []) trivial))
        clear hBt hr hR hP hX hU
        refine wp_cond_split f49 (fun hc49 => ?_) (fun hc49 => ?_)
        · skip
          have hlt := of_decide_eq_true hc49
          refine wp_skip ?_
          refine wp_seq ?_
          refine wp_block ?_
          refine region4 [some 52, some 53, some 54, some 55, some 56, some 57, some 58, some 10] [Eqs (.bool (decide (StrK sT kL))), Eqs (.bool (decide (StrK sT kL))), IfS (¬ (StrK sT kL)) (Eqs (.string sT)), IfS (¬ (StrK sT kL)) (Eqs (.int .i64 (kL : Int))), IfS (¬ (StrK sT kL)) (Eqs (.int .u8 ((sT.get! kL).toNat : Int))), IfS (¬ (StrK sT kL)) (Eqs (.bool (decide (((sT.get! kL).toNat : Int) = 47)))), Eqs (.bool (decide ((StrK sT kL) ∨ (((sT.get! kL).toNat : Int) = 47)))), Eqs (.bool (decide ((StrK sT kL) ∨ (((sT.get! kL).toNat : Int) = 47))))] [] [(7, 0)] (by kernel_rfl) hn rfl (by kernel_rfl) (by kernel_rfl) (by kernel_rfl) (by kernel_rfl) (by kernel_rfl) (by kernel_rfl) ⟨Eqs.mono4 _, Eqs.mono4 _, IfS.mono4 (Eqs.mono4 _), IfS.mono4 (Eqs.mono4 _), IfS.mono4 (Eqs.mono4 _), IfS.mono4 (Eqs.mono4 _), Eqs.mono4 _, Eqs.mono4 _, trivial⟩ ok_nil (IsOld.all (bx := []) trivial) (DisOld.all (bx := []) trivial) ?_ ?_
          · exact ⟨.norm 52 rfl rfl rfl (fun a_ w_ hn_ hBt hr hR hD hO hS => op_mv ((hS 7 10 rfl rfl).trans f10)),
              .norm 53 rfl rfl rfl (fun a_ w_ hn_ hBt hr hR hD hO hS => op_mv (show a_.eval (.tmp 52) = .bool (decide (StrK sT kL)) from hD 0 rfl)),
              .norm 54 rfl rfl rfl (fun a_ w_ hn_ hBt hr hR hD hO hS => ⟨⟨_, rfl⟩, fun hg_ => (have hP_ : ¬ (StrK sT kL) := gfalse (show Eqs (.bool (decide (StrK sT kL))) _ w_ from hD 1 rfl) hg_; (op_mv ((hR 3 rfl).trans f3)).mono (fun _ _ h_ => ⟨h_.1, fun _ => h_.2⟩)), fun hne_ hP_ => absurd (gofF (show Eqs (.bool (decide (StrK sT kL))) _ w_ from hD 1 rfl) hP_) hne_⟩),
              .norm 55 rfl rfl rfl (fun a_ w_ hn_ hBt hr hR hD hO hS => ⟨⟨_, rfl⟩, fun hg_ => (have hP_ : ¬ (StrK sT kL) := gfalse (show Eqs (.bool (decide (StrK sT kL))) _ w_ from hD 1 rfl) hg_; (op_mv ((hR 11 rfl).trans f11)).mono (fun _ _ h_ => ⟨h_.1, fun _ => h_.2⟩)), fun hne_ hP_ => absurd (gofF (show Eqs (.bool (decide (StrK sT kL))) _ w_ from hD 1 rfl) hP_) hne_⟩),
              .norm 56 rfl rfl rfl (fun a_ w_ hn_ hBt hr hR hD hO hS => ⟨⟨_, rfl⟩, fun hg_ => (have hP_ : ¬ (StrK sT kL) := gfalse (show Eqs (.bool (decide (StrK sT kL))) _ w_ from hD 1 rfl) hg_; (op_idxt (show a_.eval (.tmp 54) = .string sT from (show IfS (¬ (StrK sT kL)) (Eqs (.string sT)) (a_.eval (.tmp 54)) w_ from hD 2 rfl) hP_) (show a_.eval (.tmp 55) = .int .i64 (kL : Int) from (show IfS (¬ (StrK sT kL)) (Eqs (.int .i64 (kL : Int))) (a_.eval (.tmp 55)) w_ from hD 3 rfl) hP_) (by omega)).mono (fun _ _ h_ => ⟨h_.1, fun _ => h_.2⟩)), fun hne_ hP_ => absurd (gofF (show Eqs (.bool (decide (StrK sT kL))) _ w_ from hD 1 rfl) hP_) hne_⟩),
              .norm 57 rfl rfl rfl (fun a_ w_ hn_ hBt hr hR hD hO hS => ⟨⟨_, rfl⟩, fun hg_ => (have hP_ : ¬ (StrK sT kL) := gfalse (show Eqs (.bool (decide (StrK sT kL))) _ w_ from hD 1 rfl) hg_; (op_eql8k (show a_.eval (.tmp 56) = .int .u8 ((sT.get! kL).toNat : Int) from (show IfS (¬ (StrK sT kL)) (Eqs (.int .u8 ((sT.get! kL).toNat : Int))) (a_.eval (.tmp 56)) w_ from hD 4 rfl) hP_)).mono (fun _ _ h_ => ⟨h_.1, fun _ => h_.2⟩)), fun hne_ hP_ => absurd (gofF (show Eqs (.bool (decide (StrK sT kL))) _ w_ from hD 1 rfl) hP_) hne_⟩),
              .norm 58 rfl rfl rfl (fun a_ w_ hn_ hBt hr hR hD hO hS => op_pickor (show a_.eval (.tmp 53) = .bool (decide (StrK sT kL)) from hD 1 rfl) (fun hP_ => (show a_.eval (.tmp 57) = .bool (decide (((sT.get! kL).toNat : Int) = 47)) from (show IfS (¬ (StrK sT kL)) (Eqs (.bool (decide (((sT.get! kL).toNat : Int) = 47)))) (a_.eval (.tmp 57)) w_ from hD 5 rfl) hP_))),
              .norm 10 rfl rfl rfl (fun a_ w_ hn_ hBt hr hR hD hO hS => op_assign (show a_.eval (.tmp 58) = .bool (decide ((StrK sT kL) ∨ (((sT.get! kL).toNat : Int) = 47))) from hD 6 rfl)),
              trivial⟩
          intro a28 w28 gs28 hn28 hd28 hBt hr hR hP hX hU
          replace hn := hn28; replace hd := hd28.trans hd
          replace b1 := b1.keep hBt trivial
          replace b4 := b4.keep hBt trivial
          replace b6 := b6.keep hBt trivial
          replace f1 := (hR 1 rfl).trans f1
          replace f2 := (hR 2 rfl).trans f2
          replace f3 := (hR 3 rfl).trans f3
          replace f4 := (hR 4 rfl).trans f4
          replace f5 := (hR 5 rfl).trans f5
          replace f6 := (hR 6 rfl).trans f6
          replace f7 := (hR 7 rfl).trans f7
          replace f9 := (hR 9 rfl).trans f9
          replace f11 := (hR 11 rfl).trans f11
          have e10 : a28.eval (.tmp 10) = .bool (decide ((StrK sT kL) ∨ (((sT.get! kL).toNat : Int) = 47))) := hP 7 (by decide)
          have f10 := e10
          replace Ar := Ar.rl hr
          replace Sr := Sr.rl hr
          replace Dr := Dr.rl hr
          replace G21 := G21.rl hr
          replace A21 := A21.rl hr
          replace K21 := K21.rl hr
          replace S21 := S21.rl hr
          replace G23 := G23.rl hr
          replace A23 := A23.rl hr
          replace K23 := K23.rl hr
          replace S23 := S23.rl hr
          replace RK := RK.rl hr
          replace HB := HB.trans (hBt.below HB.size (UpOld.all (bx := []) trivial))
          clear hBt hr hR hP hX hU
          refine block_normal ?_
          refine region4 [some 50, some 51, some 11] [Eqs (.int .i64 (kL : Int)), Eqs (.int .i64 ((kL + 1 : Nat) : Int)), Eqs (.int .i64 ((kL + 1 : Nat) : Int))] [] [(2, 0)] (by kernel_rfl) hn rfl (by kernel_rfl) (by kernel_rfl) (by kernel_rfl) (by kernel_rfl) (by kernel_rfl) (by kernel_rfl) ⟨Eqs.mono4 _, Eqs.mono4 _, Eqs.mono4 _, trivial⟩ ok_nil (IsOld.all (bx := []) trivial) (DisOld.all (bx := []) trivial) ?_ ?_
          · exact ⟨.norm 50 rfl rfl rfl (fun a_ w_ hn_ hBt hr hR hD hO hS => op_mv ((hS 2 11 rfl rfl).trans f11)),
              .norm 51 rfl rfl rfl (fun a_ w_ hn_ hBt hr hR hD hO hS => op_inck0 (show a_.eval (.tmp 50) = .int .i64 (kL : Int) from hD 0 rfl) (by omega)),
              .norm 11 rfl rfl rfl (fun a_ w_ hn_ hBt hr hR hD hO hS => op_assign (show a_.eval (.tmp 51) = .int .i64 ((kL + 1 : Nat) : Int) from hD 1 rfl)),
              trivial⟩
          intro a29 w29 gs29 hn29 hd29 hBt hr hR hP hX hU
          replace hn := hn29; replace hd := hd29.trans hd
          replace b1 := b1.keep hBt trivial
          replace b4 := b4.keep hBt trivial
          replace b6 := b6.keep hBt trivial
          replace f1 := (hR 1 rfl).trans f1
          replace f2 := (hR 2 rfl).trans f2
          replace f3 := (hR 3 rfl).trans f3
          replace f4 := (hR 4 rfl).trans f4
          replace f5 := (hR 5 rfl).trans f5
          replace f6 := (hR 6 rfl).trans f6
          replace f7 := (hR 7 rfl).trans f7
          replace f9 := (hR 9 rfl).trans f9
          replace f10 := (hR 10 rfl).trans f10
          have e11 : a29.eval (.tmp 11) = .int .i64 ((kL + 1 : Nat) : Int) := hP 2 (by decide)
          have f11 := e11
          replace Ar := Ar.rl hr
          replace Sr := Sr.rl hr
          replace Dr := Dr.rl hr
          replace G21 := G21.rl hr
          replace A21 := A21.rl hr
          replace K21 := K21.rl hr
          replace S21 := S21.rl hr
          replace G23 := G23.rl hr
          replace A23 := A23.rl hr
          replace K23 := K23.rl hr
          replace S23 := S23.rl hr
          replace RK := RK.rl hr
          replace HB := HB.trans (hBt.below HB.size (UpOld.all (bx := []) trivial))
          clear hBt hr hR hP hX hU
          exact ⟨nL - 1, by omega, hn, hd, f1, f2, f3, f4, f5, f6, f7, f9, b1, b4, b6, RK, HB, kL + 1, by omega, f11, f10.trans (by rw [StrK.step])⟩
        · skip
          have hlt := of_decide_eq_false hc49
          refine wp_exit ?_
          repeat (first | refine then_exit ?_ | refine scope_exit ?_ | refine block_pass (by decide) ?_)
          refine block_exit ?_
          refine wp_seq ?_
          have hst := decide_eq_true (show StrK sT kL from hYes (by omega))
          rw [hst] at f10
          refine region4 [some 59, some 60, some 61, some 62, some 63, some 64, some 65, some 66, some 67, some 68, some 69, some 70, some 71, some 72, some 73, some 74, some 75, some 76, some 77, some 78, some 79, some 80, some 81, some 82, some 83, some 84, some 85, some 86, some 87, some 2] [Eqs (.int .i64 0), Eqs (.bool true), Eqs (.bool true), Eqs (.agg #[.bool n_21, .slice a_21 r_21.length c_21, .slice b_21 s_21.length d_21]), Eqs (.agg #[.bool nr, .slice ar mr cr, .slice br kr dr]), OutR ((nm (tp pr qr) (tq qr))) ((dn (tp pr qr) (tq qr))) (2 * ((1500) + 2)), Eqs (.bool true), Eqs (.bool true), Eqs (.bool true), Eqs (.bool true), Eqs (.bool false), Eqs (.bool true), Eqs (.bool true), Eqs (.bool true), Eqs (.bool true), Eqs (.int .i64 (rAns (sT ++ sl1)).2.2), Eqs (.bool false), Eqs (.bool false), Eqs (.bool true), Eqs (.bool true), Eqs (.bool true), Eqs (.bool false), Eqs (.bool true), Eqs (.bool true), (fun _ _ => True), (fun _ _ => True), (fun _ _ => True), Eqs (.bool true), Eqs (.bool true), Eqs (.bool true)] [] [] (by kernel_rfl) hn rfl (by kernel_rfl) (by kernel_rfl) (by kernel_rfl) (by kernel_rfl) (by kernel_rfl) (by kernel_rfl) ⟨Eqs.mono4 _, Eqs.mono4 _, Eqs.mono4 _, Eqs.mono4 _, Eqs.mono4 _, OutR.mono4 _ _ _, Eqs.mono4 _, Eqs.mono4 _, Eqs.mono4 _, Eqs.mono4 _, Eqs.mono4 _, Eqs.mono4 _, Eqs.mono4 _, Eqs.mono4 _, Eqs.mono4 _, Eqs.mono4 _, Eqs.mono4 _, Eqs.mono4 _, Eqs.mono4 _, Eqs.mono4 _, Eqs.mono4 _, Eqs.mono4 _, Eqs.mono4 _, Eqs.mono4 _, True.mono4, True.mono4, True.mono4, Eqs.mono4 _, Eqs.mono4 _, Eqs.mono4 _, trivial⟩ ok_nil (IsOld.all (bx := []) trivial) (DisOld.all (bx := []) trivial) ?_ ?_
          · exact ⟨.norm 59 rfl rfl rfl (fun a_ w_ hn_ hBt hr hR hD hO hS => op_mv ((hR 5 rfl).trans f5)),
              .norm 60 rfl rfl rfl (fun a_ w_ hn_ hBt hr hR hD hO hS => op_eqlEt (show a_.eval (.tmp 59) = .int .i64 0 from hD 0 rfl) rfl),
              .norm 61 rfl rfl rfl (fun a_ w_ hn_ hBt hr hR hD hO hS => op_mv (show a_.eval (.tmp 60) = .bool true from hD 1 rfl)),
              .norm 62 rfl rfl rfl (fun a_ w_ hn_ hBt hr hR hD hO hS => ⟨⟨_, rfl⟩, fun _ => op_loadv R3ok ((hR 4 rfl).trans f4) (b4.keep hBt trivial), fun hne => absurd (hD 2 rfl) hne⟩),
              .norm 63 rfl rfl rfl (fun a_ w_ hn_ hBt hr hR hD hO hS => ⟨⟨_, rfl⟩, fun _ => op_loadv R3ok ((hR 1 rfl).trans f1) (b1.keep hBt trivial), fun hne => absurd (hD 2 rfl) hne⟩),
              .norm 64 rfl rfl rfl (fun a_ w_ hn_ hBt hr hR hD hO hS => ⟨⟨_, rfl⟩, fun _ => op_rtrim (isr_eq (show a_.eval (.tmp 63) = .agg #[.bool nr, .slice ar mr cr, .slice br kr dr] from hD 4 rfl) (Ar.rl hr) (Sr.rl hr) Vr Lr Mr) (by omega), fun hne => absurd (hD 2 rfl) hne⟩),
              .norm 65 rfl rfl rfl (fun a_ w_ hn_ hBt hr hR hD hO hS => ⟨⟨_, rfl⟩, fun _ => op_samer (outr_eq (show a_.eval (.tmp 62) = .agg #[.bool n_21, .slice a_21 r_21.length c_21, .slice b_21 s_21.length d_21] from hD 3 rfl) (G21.rl hr) (K21.rl hr) l21 k21) (show OutR ((nm (tp pr qr) (tq qr))) ((dn (tp pr qr) (tq qr))) (2 * ((1500) + 2)) (a_.eval (.tmp 64)) w_ from hD 5 rfl) ⟨rfl, rfl⟩, fun hne => absurd (hD 2 rfl) hne⟩),
              .norm 66 rfl rfl rfl (fun a_ w_ hn_ hBt hr hR hD hO hS => op_pickb (show a_.eval (.tmp 61) = .bool true from hD 2 rfl) (show a_.eval (.tmp 65) = .bool true from hD 6 rfl)),
              .norm 67 rfl rfl rfl (fun a_ w_ hn_ hBt hr hR hD hO hS => op_mv (show a_.eval (.tmp 66) = .bool true from hD 7 rfl)),
              .norm 68 rfl rfl rfl (fun a_ w_ hn_ hBt hr hR hD hO hS => ⟨⟨_, rfl⟩, fun _ => op_mv ((hR 10 rfl).trans f10), fun hne => absurd (hD 8 rfl) hne⟩),
              .norm 69 rfl rfl rfl (fun a_ w_ hn_ hBt hr hR hD hO hS => ⟨⟨_, rfl⟩, fun _ => op_mv ((hR 9 rfl).trans f9), fun hne => absurd (hD 8 rfl) hne⟩),
              .norm 70 rfl rfl rfl (fun a_ w_ hn_ hBt hr hR hD hO hS => ⟨⟨_, rfl⟩, fun _ => op_not (show a_.eval (.tmp 69) = .bool false from hD 10 rfl), fun hne => absurd (hD 8 rfl) hne⟩),
              .norm 71 rfl rfl rfl (fun a_ w_ hn_ hBt hr hR hD hO hS => ⟨⟨_, rfl⟩, fun _ => op_eqlb (show a_.eval (.tmp 68) = .bool true from hD 9 rfl) (show a_.eval (.tmp 70) = .bool true from hD 11 rfl), fun hne => absurd (hD 8 rfl) hne⟩),
              .norm 72 rfl rfl rfl (fun a_ w_ hn_ hBt hr hR hD hO hS => op_pickb (show a_.eval (.tmp 67) = .bool true from hD 8 rfl) (show a_.eval (.tmp 71) = .bool true from hD 12 rfl)),
              .norm 73 rfl rfl rfl (fun a_ w_ hn_ hBt hr hR hD hO hS => op_mv (show a_.eval (.tmp 72) = .bool true from hD 13 rfl)),
              .norm 74 rfl rfl rfl (fun a_ w_ hn_ hBt hr hR hD hO hS => ⟨⟨_, rfl⟩, fun _ => op_mv ((hR 7 rfl).trans f7), fun hne => absurd (hD 14 rfl) hne⟩),
              .norm 75 rfl rfl rfl (fun a_ w_ hn_ hBt hr hR hD hO hS => ⟨⟨_, rfl⟩, fun _ => op_eqlEf (show a_.eval (.tmp 74) = .int .i64 (rAns (sT ++ sl1)).2.2 from hD 15 rfl) hA2, fun hne => absurd (hD 14 rfl) hne⟩),
              .norm 76 rfl rfl rfl (fun a_ w_ hn_ hBt hr hR hD hO hS => ⟨⟨_, rfl⟩, fun _ => op_mv ((hR 9 rfl).trans f9), fun hne => absurd (hD 14 rfl) hne⟩),
              .norm 77 rfl rfl rfl (fun a_ w_ hn_ hBt hr hR hD hO hS => ⟨⟨_, rfl⟩, fun _ => op_eqlb (show a_.eval (.tmp 75) = .bool false from hD 16 rfl) (show a_.eval (.tmp 76) = .bool false from hD 17 rfl), fun hne => absurd (hD 14 rfl) hne⟩),
              .norm 78 rfl rfl rfl (fun a_ w_ hn_ hBt hr hR hD hO hS => op_pickb (show a_.eval (.tmp 73) = .bool true from hD 14 rfl) (show a_.eval (.tmp 77) = .bool true from hD 18 rfl)),
              .norm 79 rfl rfl rfl (fun a_ w_ hn_ hBt hr hR hD hO hS => op_mv (show a_.eval (.tmp 78) = .bool true from hD 19 rfl)),
              .norm 80 rfl rfl rfl (fun a_ w_ hn_ hBt hr hR hD hO hS => ⟨⟨_, rfl⟩, fun _ => op_mv ((hR 9 rfl).trans f9), fun hne => absurd (hD 20 rfl) hne⟩),
              .norm 81 rfl rfl rfl (fun a_ w_ hn_ hBt hr hR hD hO hS => ⟨⟨_, rfl⟩, fun _ => op_not (show a_.eval (.tmp 80) = .bool false from hD 21 rfl), fun hne => absurd (hD 20 rfl) hne⟩),
              .norm 82 rfl rfl rfl (fun a_ w_ hn_ hBt hr hR hD hO hS => ⟨⟨_, rfl⟩, fun _ => op_mv (show a_.eval (.tmp 81) = .bool true from hD 22 rfl), fun hne => absurd (hD 20 rfl) hne⟩),
              .norm 83 rfl rfl rfl (fun a_ w_ hn_ hBt hr hR hD hO hS => ⟨⟨_, rfl⟩, fun h => absurd ((show _ = Value.bool true from hD 23 rfl).symm.trans h) (by simp), fun _ => trivial⟩),
              .norm 84 rfl rfl rfl (fun a_ w_ hn_ hBt hr hR hD hO hS => ⟨⟨_, rfl⟩, fun h => absurd ((show _ = Value.bool true from hD 23 rfl).symm.trans h) (by simp), fun _ => trivial⟩),
              .norm 85 rfl rfl rfl (fun a_ w_ hn_ hBt hr hR hD hO hS => ⟨⟨_, rfl⟩, fun h => absurd ((show _ = Value.bool true from hD 23 rfl).symm.trans h) (by simp), fun _ => trivial⟩),
              .norm 86 rfl rfl rfl (fun a_ w_ hn_ hBt hr hR hD hO hS => ⟨⟨_, rfl⟩, fun _ => op_pickb (show a_.eval (.tmp 82) = .bool true from hD 23 rfl) rfl, fun hne => absurd (hD 20 rfl) hne⟩),
              .norm 87 rfl rfl rfl (fun a_ w_ hn_ hBt hr hR hD hO hS => op_pickb (show a_.eval (.tmp 79) = .bool true from hD 20 rfl) (show a_.eval (.tmp 86) = .bool true from hD 27 rfl)),
              .norm 2 rfl rfl rfl (fun a_ w_ hn_ hBt hr hR hD hO hS => op_assign (show a_.eval (.tmp 87) = .bool true from hD 28 rfl)),
              trivial⟩
          intro a30 w30 gs30 hn30 hd30 hBt hr hR hP hX hU
          replace hn := hn30; replace hd := hd30.trans hd
          have e2 : a30.eval (.tmp 2) = .bool true := hP 29 (by decide)
          have f2 := e2
          replace Ar := Ar.rl hr
          replace Sr := Sr.rl hr
          replace Dr := Dr.rl hr
          replace G21 := G21.rl hr
          replace A21 := A21.rl hr
          replace K21 := K21.rl hr
          replace S21 := S21.rl hr
          replace G23 := G23.rl hr
          replace A23 := A23.rl hr
          replace K23 := K23.rl hr
          replace S23 := S23.rl hr
          replace RK := RK.rl hr
          replace HB := HB.trans (hBt.below HB.size (UpOld.all (bx := []) trivial))
          clear hBt hr hR hP hX hU
          refine wp_ret ?_
          repeat (first | refine then_ret ?_ | refine scope_ret ?_ | refine block_ret ?_)
          exact bodyPost_ret (v := .bool true) (res_t rfl f2) hd ⟨rfl, HB⟩
end Lm
end Go.Proofs.YtdiiankcjgoecaaDoor

namespace Go.Proofs.YtdiiankcjgoecaaDoor
namespace ratioBackLaw
open Go.ChangeShapes Go.WideShapes Go.ChangeAt Go.RowKit
open Go.ChangeMaps (open_string shut_string)
theorem own : ownKnob Tryd.prog.godebug = none := by kernel_rfl
theorem laidOut : laidOutB Tryd.prog = true := by kernel_rfl
theorem bytes4 : Tryd.prog.bytesOf 124 = 4 := by kernel_rfl
theorem sl_of {w : World} {x : Addr} {l c : Nat} {zs : List Int} (hl : l ≤ c) (hm : c ≤ maxLen) (hz : zs.length = c) (hcell : ∀ i, i < zs.length → w.cell? (x.add i) = some (.int .u32 (zs.getD i 0))) (hwz : ∀ n ∈ zs, (Lit.int .u32 n).wf = true) : Lm.Sl w (.slice (some x) l c) (zs.take l) := by
  have hll : (zs.take l).length = l := by rw [List.length_take]; omega
  refine ⟨some x, c, by rw [hll], by omega, hm, fun n hn => ?_, ?_⟩
  · have := bounds_u32 (hwz n (List.mem_of_mem_take hn))
    omega
  · by_cases h0 : l = 0
    · exact .inl (List.eq_nil_of_length_eq_zero (by omega))
    · obtain ⟨b, off, spot⟩ := x
      have h1 := hcell 0 (by omega)
      have hspot : spot = none := by simpa [Addr.add] using World.cell?_spot h1
      subst hspot
      refine .inr ⟨b, off, rfl, fun i hi => ?_⟩
      have h2 := hcell i (by omega)
      rw [Lm.getD_take _ _ _ (by omega)]
      have e : (⟨b, off, none⟩ : Addr).add i = ⟨b, off + i, none⟩ := by
        by_cases hi0 : i = 0
        · subst hi0; simp [Addr.add]
        · simp [Addr.add, hi0]
      rwa [e] at h2
noncomputable def laidWorld (os : Os) : World :=
  let w0 := World.holding Tryd.prog os ⟨#[], #[], []⟩
  let put (h : Array Obj) (g : Nat) (cs : Array Value) : Array Obj := h.modify g fun
    | .cells _ t frozen => .cells cs t frozen
    | o => o
  let h1 := put w0.heap (Tryd.lays197_ren.g 3) (Lib.firstTab.map fun z => Value.int .u8 z).toArray
  let h2 := put h1 (Tryd.lays197_ren.g 4) ((List.range 16).flatMap fun i => [Value.int .u8 (Lib.accLo i), Value.int .u8 (Lib.accHi i)]).toArray
  { w0 with heap := h2 }
theorem laid_met (os : Os) : laidMet Tryd.prog Rows.ratioBackRow.laid ((laidWorld os).forCall (fun _ _ => 0) ⟨#[], #[.agg #[.bool false, .slice none 0 0, .slice none 0 0]], []⟩).memory :=
  laidMet_of_run' 8 (by kernel_rfl) (by kernel_rfl)
theorem tabs {W : World} (h : laidMet Tryd.prog Rows.ratioBackRow.laid W) : Lm.Tabs W :=
  utf8Tabs_of_reads (ρ := Tryd.lays197_ren) { Tryd.lays197 with } ⟨by kernel_rfl, by kernel_rfl, by kernel_rfl, by kernel_rfl, by kernel_rfl, by kernel_rfl, by kernel_rfl⟩
    (Lib.laidMet.reads h (show ("unicode/utf8.first", Lib.firstData) ∈ Rows.ratioBackRow.laid from by
      rw [show Lib.firstData = Rows.laid_unicode_utf8_first from by kernel_rfl]
      exact .tail _ (.head _)))
    (Lib.laidMet.reads h (show ("unicode/utf8.acceptRanges", Lib.acceptData) ∈ Rows.ratioBackRow.laid from by
      rw [show Lib.acceptData = Rows.laid_unicode_utf8_acceptRanges from by kernel_rfl]
      exact .head _))
theorem reads (os : Os) {H : Type} (enc : TypeId × Value → H) : ∃ places, DataW.whole enc Tryd.prog ((laidWorld os).forCall (fun _ _ => 0) ⟨#[], #[.agg #[.bool false, .slice none 0 0, .slice none 0 0]], []⟩).memory Tryd.f6.params.toList Rows.ratioBackSpec.vars false (#[.agg #[.bool false, .slice none 0 0, .slice none 0 0]] : Array Value).toList 8 = some ([.agg [.agg [.lit (.bool false), .nil], .nil]], [], places) :=
  ⟨[], by kernel_rfl⟩
set_option linter.unusedVariables false in
set_option maxRecDepth 100000 in
theorem lifted (os : Os) (started : os.Started) (H : Type) (enc : TypeId × Value → H) (F : Stop.Interp) :
    ReturnsInHanded {} Tryd.checked os 6 .any ((OpenSpec.ofChange Rows.ratioBackSpec).preRow enc Tryd.prog Tryd.f6 Rows.ratioBackRow.domain false Rows.ratioBackRow.laid) (((OpenSpec.ofChange Rows.ratioBackSpec).at F).post enc Tryd.prog Tryd.f6 false true false false) := by
  obtain ⟨places, hx⟩ := reads os enc
  refine returnsInHanded_of_row (C := Tryd.checked) (s := (OpenSpec.ofChange Rows.ratioBackSpec)) own started (by kernel_rfl) Tryd.func6
    (witness_row_at (enc := enc) (C := Tryd.checked) false (laidWorld os) #[.agg #[.bool false, .slice none 0 0, .slice none 0 0]] rfl (by kernel_rfl) (by kernel_rfl) (by kernel_rfl)
      (OpenSpec.preRow_of_cond 8 hx (by kernel_rfl) (fun k hk => by cases hk) (by kernel_rfl) (laid_met os))) ?_
  intro W base args ds gs before hval0 hW hcnd0 hcond hsz0 hL hj2 hj3
  have hTabs : Lm.Tabs W := tabs hL
  have hval : ∀ (j : Nat) t v, Tryd.f6.params[j]? = some t → args[j]? = some v → Value.okWide Tryd.prog W .any base t v := hval0
  have hW' := hW
  obtain ⟨p, q, hA0, hV, rfl, hfz, hnd⟩ := hW
  have hA : DataW.TrodAll enc Tryd.prog W 0 (fun _ => true) true Tryd.f6.params.toList args.toList ds p := hA0
  have hsz : (DataW.weightsEach Tryd.prog (Tryd.f6.params.toList ++ Rows.ratioBackSpec.plain.varTypes Tryd.prog) (ds ++ gs)).all (· ≤ reachBytes) = true := hsz0
  rw [Tryd.params6] at hA hval hsz
  obtain ⟨v0, vs0, d0, ds0, p0, q0, hargs, rfl, rfl, h0, r0⟩ := trodAll_cons hA
  obtain ⟨rfl, rfl, rfl⟩ := trodAll_nil r0
  obtain rfl : args = #[v0] := by cases args; simp_all
  obtain ⟨rfl, rfl⟩ := trodVars_none hV
  have k0 := h0
  have lt0 : ∀ x ∈ p0, x.block < W.heap.size := by obtain ⟨m, hm⟩ := k0; exact DataW.trod_lt m _ _ _ hm
  obtain ⟨g0, a0, len0, cap0, z0, e0, l0, c0, y0, hv0, w0, b0, u0, m0⟩ : ∃ ng ao n cap zs bo m dap ys, v0 = .agg #[.bool ng, .slice ao n cap, .slice bo m dap] ∧ Lm.Sl W (.slice ao n cap) zs ∧ n ≤ 35184372088832 ∧ Lm.Sl W (.slice bo m dap) ys ∧ m ≤ 35184372088832 := by
    obtain ⟨cs, hv, hsz2⟩ := okWide_struct Tryd.underlying42 (hval 0 42 v0 rfl rfl)
    obtain ⟨c0, c1, c2, rfl⟩ := Go.Joins.array3 (hsz2.trans (by kernel_rfl : Tryd.prog.cellsOf 42 = 3))
    subst hv
    obtain ⟨fuel, hf⟩ := h0
    obtain ⟨y0, y1, n, hx, _, t0, t1⟩ := trod_struct2 Tryd.underlying42 hf
    obtain ⟨z0, z1, n2, hx2, _, s0, s1⟩ := trod_struct2 Tryd.underlying24 t0
    have kW : Tryd.prog.cellsOf 24 = 2 := by kernel_rfl
    have kS : Tryd.prog.cellsOf 22 = 1 := by kernel_rfl
    have kB : Tryd.prog.cellsOf 4 = 1 := by kernel_rfl
    have s0' : DataW.trod enc Tryd.prog W 0 (fun _ => true) true n2 4 [c0] = some z0 := by simpa [Value.cells, kW, kB] using s0
    have s1' : DataW.trod enc Tryd.prog W 0 (fun _ => true) true n2 22 [c1] = some z1 := by simpa [Value.cells, kW, kS] using s1
    have t1' : DataW.trod enc Tryd.prog W 0 (fun _ => true) true n 22 [c2] = some y1 := by simpa [Value.cells, kS] using t1
    have hd : d0 = .agg [.agg [z0.1, z1.1], y1.1] := by
      have h1 := congrArg Prod.fst hx
      have h2 := congrArg Prod.fst hx2
      simp only at h1 h2
      rw [h1, h2]
    clear s0 s1 t1 t0 hx hx2 hf
    obtain ⟨b, hb0, _⟩ := DataW.trod_bool Tryd.underlying4 s0'
    obtain rfl : c0 = .bool b := by simpa using hb0
    have num : ∃ ao n cap zs, c1 = .slice ao n cap ∧ Lm.Sl W (.slice ao n cap) zs ∧ n ≤ 35184372088832 := by
      rcases open_ints Tryd.underlying22 Tryd.underlying124 (by kernel_rfl) s1' with ⟨hcs, _⟩ | ⟨x, l, c, zs, hcs, _, hl, hm, hz, hx, hcell, hwz⟩
      · obtain rfl : c1 = .slice none 0 0 := by simpa using hcs
        exact ⟨none, 0, 0, [], rfl, ⟨none, 0, rfl, Nat.le_refl _, by simp [maxLen], Lm.limb_nil, .inl rfl⟩, by omega⟩
      · obtain rfl : c1 = .slice (some x) l c := by simpa using hcs
        have hz' : zs.length = c := by simpa using hz
        have hx1 : z1.1 = .slice (lits .u32 (zs.take l)) (lits .u32 (zs.drop l)) := congrArg Prod.fst hx
        refine ⟨some x, l, c, _, rfl, sl_of hl hm hz' hcell hwz, ?_⟩
        have hs := List.all_eq_true.1 hsz _ (DataW.weights_mem_each (j := 0) (t := 42) rfl (congrArg some hd) (((lits .u32 (zs.take l) : List (DataW H)).length + (lits .u32 (zs.drop l) : List (DataW H)).length) * Tryd.prog.bytesOf 124) (by rw [hx1]; simp [DataW.weights, DataW.weightsEach, Tryd.underlying42, Tryd.underlying24, Tryd.underlying22]))
        rw [bytes4] at hs
        simp only [lits, List.length_map, List.length_take, List.length_drop, reachBytes, decide_eq_true_eq] at hs
        omega
    have den : ∃ ao n cap zs, c2 = .slice ao n cap ∧ Lm.Sl W (.slice ao n cap) zs ∧ n ≤ 35184372088832 := by
      rcases open_ints Tryd.underlying22 Tryd.underlying124 (by kernel_rfl) t1' with ⟨hcs, _⟩ | ⟨x, l, c, zs, hcs, _, hl, hm, hz, hx, hcell, hwz⟩
      · obtain rfl : c2 = .slice none 0 0 := by simpa using hcs
        exact ⟨none, 0, 0, [], rfl, ⟨none, 0, rfl, Nat.le_refl _, by simp [maxLen], Lm.limb_nil, .inl rfl⟩, by omega⟩
      · obtain rfl : c2 = .slice (some x) l c := by simpa using hcs
        have hz' : zs.length = c := by simpa using hz
        have hx1 : y1.1 = .slice (lits .u32 (zs.take l)) (lits .u32 (zs.drop l)) := congrArg Prod.fst hx
        refine ⟨some x, l, c, _, rfl, sl_of hl hm hz' hcell hwz, ?_⟩
        have hs := List.all_eq_true.1 hsz _ (DataW.weights_mem_each (j := 0) (t := 42) rfl (congrArg some hd) (((lits .u32 (zs.take l) : List (DataW H)).length + (lits .u32 (zs.drop l) : List (DataW H)).length) * Tryd.prog.bytesOf 124) (by rw [hx1]; simp [DataW.weights, DataW.weightsEach, Tryd.underlying42, Tryd.underlying24, Tryd.underlying22]))
        rw [bytes4] at hs
        simp only [lits, List.length_map, List.length_take, List.length_drop, reachBytes, decide_eq_true_eq] at hs
        omega
    obtain ⟨ao, n1, cap, zs, rfl, hS1, hn1⟩ := num
    obtain ⟨bo, m1, dap, ys, rfl, hS2, hn2⟩ := den
    exact ⟨b, ao, n1, cap, zs, bo, m1, dap, ys, rfl, hS1, hn1, hS2, hn2⟩
  subst hv0
  clear hA0 hval0
  refine (Lm.rback_law W g0 a0 len0 cap0 z0 _ e0 l0 c0 y0 _ (Lm.tabsR_of hTabs hj2) ⟨w0, rfl⟩ u0 rfl b0 m0).mono fun e W' ⟨he, bel⟩ => ?_
  subst he
  exact ⟨_, rfl, _, _, _, [], _, [], hW', trodAll_mk1 (shut_bool Tryd.underlying4 _), (trodAll_cons_mk (Below.trod laidOut (by kernel_rfl) (of_decide_eq_true (by kernel_rfl)) k0 bel lt0) trodAll_mk0), rfl, bel.frame _, fun h => by cases h⟩
theorem said : Rows.RatioBackSaid :=
  OpenClaim.holds_of_cond 6 Tryd.f6 rfl rfl rfl rfl rfl rfl rfl ⟨rfl, rfl, rfl, rfl, rfl⟩ rfl rfl rfl rfl rfl (by kernel_rfl) Tryd.func6 (by kernel_rfl)
    (of_decide_eq_true (by kernel_rfl)) (by unfold Func.isWrapper; first | (rw [if_pos (by decide +kernel)]; kernel_rfl) | (rw [if_neg (by decide +kernel)]; exact ⟨rfl, rfl⟩))
    (fun os started H enc _ F => by rw [OpenClaim.pre_eq_preRow]; exact lifted os started H enc F)
theorem plain (f : FuncId) (fn : Func) (hf : Tryd.pinned.checked.prog.funcNamed "rafter/rafterlaw03.RatioBack" = some f) (hfn : Tryd.pinned.checked.prog.funcs[f]? = some fn) :
    false = Tryd.pinned.checked.prog.looks [] ∧ ∀ (j : Nat) t, fn.params[j]? = some t → Tryd.pinned.checked.prog.wantsStandIn t = false := by
  obtain rfl : f = 6 := Option.some.inj ((show Tryd.prog.funcNamed "rafter/rafterlaw03.RatioBack" = some 6 by kernel_rfl).symm.trans hf) |>.symm
  obtain rfl : fn = Tryd.f6 := (Option.some.inj (Tryd.func6.symm.trans hfn)).symm
  refine ⟨by kernel_rfl, fun j t ht => ?_⟩
  rw [Tryd.params6] at ht
  have hm := Array.mem_of_getElem? ht
  simp at hm
  obtain rfl := hm
  exact (show Tryd.prog.wantsStandIn 42 = false by kernel_rfl)
theorem card : Rows.RatioBackCardSaid :=
  Claim7.holds_tied_plain_at .later [] _ _ _ _ said (fun _ h => by cases h) (by kernel_rfl) (fun _ h => by cases h) ratioBack_row_tie rfl ⟨rfl, rfl⟩ (by kernel_rfl) rfl plain (by kernel_rfl)
end ratioBackLaw
theorem ratioBack_card : Rows.RatioBackCardSaid := ratioBackLaw.card
#print axioms ratioBack_card
end Go.Proofs.YtdiiankcjgoecaaDoor

