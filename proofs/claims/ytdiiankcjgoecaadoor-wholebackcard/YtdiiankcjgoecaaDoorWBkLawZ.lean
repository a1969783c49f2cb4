/-
  The given statement on WholeBack, for every input: the call answers true, and each argument reads behind it as it read before; and its card. Its condition: the two tables of unicode/utf8 are laid as the row lists them; the card ties that to the program's text. Beside it: Single operations on texts, in regions over frames that are not written out. A minus ahead of a text, by its bytes and by its first rune. No program is named here. What the library's utf8.DecodeRuneInString does, at this program. A minus ahead of a text: whole.splitMinus. The number that a text says: whole.Parse; the document's Number and Parse. Texts of whole numbers: whole.Text, the document's Text. A whole number's text, read again. No walk is here. WholeBack answers true, whatever number and int it is handed.
-/
import Derived.Shelf.Unicode.DecodeSlow
import Derived.Shelf.Unicode.DecodeAny
import Derived.Shelf.Lay
import Derived.Lib.LaidU8
import Derived.Test.YtdiiankcjgoecaaDoorProg
import Derived.Test.YtdiiankcjgoecaaDoorRows
import Derived.Test.YtdiiankcjgoecaaDoorCards
import Derived.Test.YtdiiankcjgoecaaDoorTie
import Derived.ProofKit
import Derived.OpenShut
import Derived.ShutString
import Derived.ChangeOld
import Derived.SizedLaws
import Derived.Lib.SmallJoins
import Derived.Lib.LaidIn
import Derived.Deep.DeepHandedRow
import Derived.Test.YtdiiankcjgoecaaDoorWBkLawZ1
namespace Go.Proofs.YtdiiankcjgoecaaDoor
namespace Lm
open Go Go.RowKit
section
variable {dst : Option Tmp} {ty : TypeId} {pos : String} {after : Array Edge} {guard : Option (Nat × Bool)} {a : Act} {w : World} {ats : Array TypeId} {i j : Nat}
theorem op_eql32k {u v : Int} (h1 : a.eval (.tmp i) = .int .i32 u) :
    Does Tryd.prog { dst, op := .binOp .eql 21 (.tmp i) (.const (.int .i32 v)) 21, type := ty, pos, after, guard } a.eval w fun v' w' => Below w.heap.size w w' ∧ Eqs (.bool (decide (u = v))) v' w' := by
  refine does_bin (v := .bool (decide (u = v))) ?_ ?_ ⟨Below.refl _ _, rfl⟩
  · rw [h1]; simp [go_sem, Act.eval]
  · rw [h1]; simp [go_sem, Act.eval]; rfl
theorem op_eql32t {u v : Int} (h1 : a.eval (.tmp i) = .int .i32 u) (h : u = v) :
    Does Tryd.prog { dst, op := .binOp .eql 21 (.tmp i) (.const (.int .i32 v)) 21, type := ty, pos, after, guard } a.eval w fun v' w' => Below w.heap.size w w' ∧ Eqs (.bool true) v' w' :=
  (op_eql32k h1).mono fun _ _ ⟨hb, e⟩ => ⟨hb, by rw [Eqs, show _ = _ from e, decide_eq_true h]⟩
theorem op_eql32f {u v : Int} (h1 : a.eval (.tmp i) = .int .i32 u) (h : u ≠ v) :
    Does Tryd.prog { dst, op := .binOp .eql 21 (.tmp i) (.const (.int .i32 v)) 21, type := ty, pos, after, guard } a.eval w fun v' w' => Below w.heap.size w w' ∧ Eqs (.bool false) v' w' :=
  (op_eql32k h1).mono fun _ _ ⟨hb, e⟩ => ⟨hb, by rw [Eqs, show _ = _ from e, decide_eq_false h]⟩
theorem op_idxs {s : ByteArray} {k : Nat} {c : Int} (h : a.eval (.tmp i) = .string s) (hc : a.eval (.const (.int .i64 c)) = .int .i64 (k : Int)) (hk : k < s.size) : Does Tryd.prog { dst, op := .index 9 (.tmp i) (.const (.int .i64 c)), type := ty, pos, after, guard } a.eval w fun v' w' => Below w.heap.size w w' ∧ Eqs (.int .u8 ((s.get! k).toNat : Int)) v' w' := by
  have e : (execOp a.eval { dst, op := .index 9 (.tmp i) (.const (.int .i64 c)), type := ty, pos, after, guard }).run Tryd.prog w = .ok (.value (.int .u8 ((s.get! k).toNat : Int))) w := by
    simp only [execOp, h, hc]
    go_simp
    rw [Utf8W.get!_of_lt s k hk]
  refine ⟨?_⟩
  unfold Turns
  rw [e]
  exact ⟨Below.refl _ _, rfl⟩
theorem op_slst {s : ByteArray} {x : Operand} {k : Nat} (h : a.eval (.tmp i) = .string s) (hx : a.eval x = .int .i64 (k : Int)) (hk : k ≤ s.size) : Does Tryd.prog { dst, op := .slice 9 (.tmp i) (some x) none none, type := ty, pos, after, guard } a.eval w fun v' w' => Below w.heap.size w w' ∧ Eqs (.string (s.extract k s.size)) v' w' := by
  have e : (execOp a.eval { dst, op := .slice 9 (.tmp i) (some x) none none, type := ty, pos, after, guard }).run Tryd.prog w = .ok (.value (.string (s.extract k s.size))) w := by
    simp only [execOp, Option.map, h, hx]
    go_simp
  refine ⟨?_⟩
  unfold Turns
  rw [e]
  exact ⟨Below.refl _ _, rfl⟩
end
end Lm
end Go.Proofs.YtdiiankcjgoecaaDoor

namespace Go.Proofs.YtdiiankcjgoecaaDoor
namespace Lm
open Go Go.RowKit
def msplit (s : ByteArray) : Bool × ByteArray :=
  if 3 ≤ s.size ∧ (s.get! 0).toNat = 226 ∧ (s.get! 1).toNat = 136 ∧ (s.get! 2).toNat = 146 then (true, s.extract 3 s.size)
  else if 0 < s.size ∧ (s.get! 0).toNat = 45 then (true, s.extract 1 s.size)
  else (false, s)
theorem decN (s : ByteArray) (h : 0 < s.size) : Lib.decodeGo s = Lib.decodeN s.size (s.get! 0).toNat (s.get! 1).toNat (s.get! 2).toNat (s.get! 3).toNat := by
  rw [Lib.decodeGo, if_neg (by omega), Lib.decode_at]
  rfl
theorem decN_45 (n b0 b1 b2 b3 : Nat) : (Lib.decodeN n b0 b1 b2 b3).1 = 45 ↔ b0 = 45 := by
  unfold Lib.decodeN
  repeat' split
  all_goals first | (simp only; done) | (simp only; omega)
theorem decN_45w (n b1 b2 b3 : Nat) : Lib.decodeN n 45 b1 b2 b3 = (45, 1) := by simp [Lib.decodeN]
theorem decN_8722 (n b0 b1 b2 b3 : Nat) : (Lib.decodeN n b0 b1 b2 b3).1 = 8722 ↔ 3 ≤ n ∧ b0 = 226 ∧ b1 = 136 ∧ b2 = 146 := by
  unfold Lib.decodeN
  repeat' split
  all_goals (simp only; omega)
theorem decN_8722w {n b3 : Nat} (h : 3 ≤ n) : Lib.decodeN n 226 136 146 b3 = (8722, 3) := by
  unfold Lib.decodeN
  rw [if_neg (by omega), if_neg (by omega), if_pos (by omega), if_pos (by omega)]
theorem dec_45 (s : ByteArray) : (Lib.decodeGo s).1 = 45 ↔ 0 < s.size ∧ (s.get! 0).toNat = 45 := by
  by_cases h : 0 < s.size
  · rw [decN s h, decN_45]; simp [h]
  · rw [Lib.decodeGo, if_pos (by omega)]; simp [h]
theorem dec_8722 (s : ByteArray) : (Lib.decodeGo s).1 = 8722 ↔ 3 ≤ s.size ∧ (s.get! 0).toNat = 226 ∧ (s.get! 1).toNat = 136 ∧ (s.get! 2).toNat = 146 := by
  by_cases h : 0 < s.size
  · rw [decN s h, decN_8722]
  · rw [Lib.decodeGo, if_pos (by omega)]
    constructor
    · intro h; simp at h
    · intro h; omega
theorem msplit_ways (s : ByteArray) : ((Lib.decodeGo s = (8722, 3) ∧ 3 ≤ s.size ∧ (s.get! 0).toNat = 226 ∧ (s.get! 1).toNat = 136 ∧ (s.get! 2).toNat = 146) ∧ msplit s = (true, s.extract 3 s.size)) ∨
    ((Lib.decodeGo s = (45, 1) ∧ 0 < s.size ∧ (s.get! 0).toNat = 45) ∧ msplit s = (true, s.extract 1 s.size)) ∨
    (((Lib.decodeGo s).1 ≠ 45 ∧ (Lib.decodeGo s).1 ≠ 8722 ∧ ¬ (3 ≤ s.size ∧ (s.get! 0).toNat = 226 ∧ (s.get! 1).toNat = 136 ∧ (s.get! 2).toNat = 146) ∧ ¬ (0 < s.size ∧ (s.get! 0).toNat = 45)) ∧ msplit s = (false, s)) := by
  by_cases h1 : 3 ≤ s.size ∧ (s.get! 0).toNat = 226 ∧ (s.get! 1).toNat = 136 ∧ (s.get! 2).toNat = 146
  · refine .inl ⟨⟨?_, h1⟩, by rw [msplit, if_pos h1]⟩
    rw [decN s (by omega), h1.2.1, h1.2.2.1, h1.2.2.2]
    exact decN_8722w h1.1
  · by_cases h2 : 0 < s.size ∧ (s.get! 0).toNat = 45
    · refine .inr (.inl ⟨⟨?_, h2⟩, by rw [msplit, if_neg h1, if_pos h2]⟩)
      rw [decN s h2.1, h2.2]
      exact decN_45w _ _ _ _
    · exact .inr (.inr ⟨⟨fun e => h2 ((dec_45 s).1 e), fun e => h1 ((dec_8722 s).1 e), h1, h2⟩, by rw [msplit, if_neg h1, if_neg h2]⟩)
end Lm
end Go.Proofs.YtdiiankcjgoecaaDoor

namespace Go.Proofs
open Go.Shelf
shelf_lay Lays.n197 Nm 197 at Tryd as Tryd.lays197
namespace YtdiiankcjgoecaaDoor
namespace Lm
open Go Go.RowKit
def Tabs (w : World) : Prop := Lib.Utf8Tabs (Tryd.lays197_ren.g 3) (Tryd.lays197_ren.g 4) w
theorem Tabs.below {w w' : World} (h : Tabs w) (hb : Below w.heap.size w w') : Tabs w' := Utf8Tabs_below h hb
theorem decode_any (w : World) (s : ByteArray) (hT : Tabs w) :
    Calls Tryd.prog 83 #[.string s] w fun e w' => e = .returned (.tuple #[.int .i32 (Lib.decodeGo s).1, .int .i64 (Lib.decodeGo s).2]) ∧ Below w.heap.size w w' := Any.utf8_DecodeRuneInString Tryd.lays197 s w hT
end Lm
end YtdiiankcjgoecaaDoor
end Go.Proofs

namespace Go.Proofs.YtdiiankcjgoecaaDoor
namespace Lm
open Go Go.RowKit
section
variable {dst : Option Tmp} {ty : TypeId} {pos : String} {after : Array Edge} {guard : Option (Nat × Bool)} {a : Act} {w : World} {ats : Array TypeId} {i j : Nat}
theorem has_decode : Has Tryd.prog 83 := by unfold Has; kernel_rfl
theorem op_decode {s : ByteArray} {R : Int} {K : Nat} (h : a.eval (.tmp i) = .string s) (hT : Tabs w) (hd : (((Lib.decodeGo s).1 : Nat) : Int) = R ∧ (Lib.decodeGo s).2 = K) :
    Does Tryd.prog { dst, op := .call { callee := .value (.func 83), args := #[.tmp i], argTypes := ats }, type := ty, pos, after, guard } a.eval w fun v w' => Below w.heap.size w w' ∧ Tup2 (Eqs (.int .i32 R)) (Eqs (.int .i64 (K : Int))) v w' := by
  refine does_call has_decode _ (by simp only [List.map_toArray, List.map_cons, List.map_nil, h]) ((decode_any w s hT).mono ?_)
  rintro e w' ⟨rfl, hb⟩
  obtain ⟨rfl, rfl⟩ := hd
  exact ⟨_, rfl, hb, _, _, rfl, rfl, rfl⟩
end
set_option maxRecDepth 20000 in
set_option maxHeartbeats 1000000 in
theorem split_z (w : World) (s : ByteArray) (hT : Tabs w) :
    Calls Tryd.prog 42 #[.string s] w fun e w' => e = .returned (.tuple #[.bool (msplit s).1, .string (msplit s).2]) ∧ Below w.heap.size w w' := by
  rcases msplit_ways s with ⟨⟨hd0, h3⟩, hm⟩ | ⟨⟨hd0, h3⟩, hm⟩ | ⟨⟨hn1', hn2', _, _⟩, hm⟩
  · skip
    go_enter Tryd.func42, Tryd.ntmps42
    generalize hA : (Act.mk _ _) = aa
    have hn : aa.tmps.size = 19 := by rw [← hA]; rfl
    have hd : aa.defers = [] := by rw [← hA]
    have f0 : aa.eval (.tmp 0) = .string s := by rw [← hA]; rfl
    clear hA
    have HB : Below w.heap.size w w := Below.refl _ _
    refine wp_seq ?_
    refine region4 [some 2, some 3] [Eqs ((.bool false)), Eqs ((.string ⟨#[]⟩))] [] [] (by kernel_rfl) hn rfl (by kernel_rfl) (by kernel_rfl) (by kernel_rfl) (by kernel_rfl) (by kernel_rfl) (by kernel_rfl) ⟨Eqs.mono4 _, Eqs.mono4 _, trivial⟩ ok_nil (IsOld.all (bx := []) trivial) (DisOld.all (bx := []) trivial) ?_ ?_
    · exact ⟨.norm 2 rfl rfl rfl (fun a_ w_ hn_ hBt hr hR hD hO hS => op_assign rfl),
        .norm 3 rfl rfl rfl (fun a_ w_ hn_ hBt hr hR hD hO hS => op_assign rfl),
        trivial⟩
    intro a1 w1 gs1 hn1 hd1 hBt hr hR hP hX hU
    replace hn := hn1; replace hd := hd1.trans hd
    replace f0 := (hR 0 rfl).trans f0
    have e2 : a1.eval (.tmp 2) = (.bool false) := hP 0 (by decide)
    have f2 := e2
    have e3 : a1.eval (.tmp 3) = (.string ⟨#[]⟩) := hP 1 (by decide)
    have f3 := e3
    replace HB := HB.trans (hBt.below HB.size (UpOld.all (bx := []) trivial))
    clear hBt hr hR hP hX hU
    refine wp_seq ?_
    refine region4 [some 7, some 8, some 6, some 9, some 10, some 4, some 5] [Eqs (.string s), Tup2 (Eqs (.int .i32 8722)) (Eqs (.int .i64 (3 : Int))), Tup2 (Eqs (.int .i32 8722)) (Eqs (.int .i64 (3 : Int))), Eqs (.int .i32 8722), Eqs (.int .i64 (3 : Int)), Eqs (.int .i32 8722), Eqs (.int .i64 (3 : Int))] [] [] (by kernel_rfl) hn rfl (by kernel_rfl) (by kernel_rfl) (by kernel_rfl) (by kernel_rfl) (by kernel_rfl) (by kernel_rfl) ⟨Eqs.mono4 _, Tup2.mono4 (Eqs.mono4 _) (Eqs.mono4 _), Tup2.mono4 (Eqs.mono4 _) (Eqs.mono4 _), Eqs.mono4 _, Eqs.mono4 _, Eqs.mono4 _, Eqs.mono4 _, trivial⟩ ok_nil (IsOld.all (bx := []) trivial) (DisOld.all (bx := []) trivial) ?_ ?_
    · exact ⟨.norm 7 rfl rfl rfl (fun a_ w_ hn_ hBt hr hR hD hO hS => op_mv ((hR 0 rfl).trans f0)),
        .norm 8 rfl rfl rfl (fun a_ w_ hn_ hBt hr hR hD hO hS => op_decode (show a_.eval (.tmp 7) = .string s from hD 0 rfl) (hT.below (HB.trans (hBt.below HB.size (UpOld.all (bx := []) trivial)))) ⟨by rw [hd0]; rfl, by rw [hd0]⟩),
        .norm 6 rfl rfl rfl (fun a_ w_ hn_ hBt hr hR hD hO hS => op_mvp (p := Tup2 (Eqs (.int .i32 8722)) (Eqs (.int .i64 (3 : Int)))) (show Tup2 (Eqs (.int .i32 8722)) (Eqs (.int .i64 (3 : Int))) (a_.eval (.tmp 8)) w_ from hD 1 rfl)),
        .norm 9 rfl rfl rfl (fun a_ w_ hn_ hBt hr hR hD hO hS => op_ex20 (show Tup2 (Eqs (.int .i32 8722)) (Eqs (.int .i64 (3 : Int))) (a_.eval (.tmp 6)) w_ from hD 2 rfl)),
        .norm 10 rfl rfl rfl (fun a_ w_ hn_ hBt hr hR hD hO hS => op_ex21 (show Tup2 (Eqs (.int .i32 8722)) (Eqs (.int .i64 (3 : Int))) (a_.eval (.tmp 6)) w_ from hD 2 rfl)),
        .norm 4 rfl rfl rfl (fun a_ w_ hn_ hBt hr hR hD hO hS => op_assign (show a_.eval (.tmp 9) = .int .i32 8722 from hD 3 rfl)),
        .norm 5 rfl rfl rfl (fun a_ w_ hn_ hBt hr hR hD hO hS => op_assign (show a_.eval (.tmp 10) = .int .i64 (3 : Int) from hD 4 rfl)),
        trivial⟩
    intro a2 w2 gs2 hn2 hd2 hBt hr hR hP hX hU
    replace hn := hn2; replace hd := hd2.trans hd
    replace f0 := (hR 0 rfl).trans f0
    replace f2 := (hR 2 rfl).trans f2
    replace f3 := (hR 3 rfl).trans f3
    have e4 : a2.eval (.tmp 4) = .int .i32 8722 := hP 5 (by decide)
    have f4 := e4
    have e5 : a2.eval (.tmp 5) = .int .i64 (3 : Int) := hP 6 (by decide)
    have f5 := e5
    replace HB := HB.trans (hBt.below HB.size (UpOld.all (bx := []) trivial))
    clear hBt hr hR hP hX hU
    refine wp_seq ?_
    refine wp_seq ?_
    refine region4 [some 11] [Eqs (.int .i32 8722)] [] [] (by kernel_rfl) hn rfl (by kernel_rfl) (by kernel_rfl) (by kernel_rfl) (by kernel_rfl) (by kernel_rfl) (by kernel_rfl) ⟨Eqs.mono4 _, trivial⟩ ok_nil (IsOld.all (bx := []) trivial) (DisOld.all (bx := []) trivial) ?_ ?_
    · exact ⟨.norm 11 rfl rfl rfl (fun a_ w_ hn_ hBt hr hR hD hO hS => op_mv ((hR 4 rfl).trans f4)),
        trivial⟩
    intro a3 w3 gs3 hn3 hd3 hBt hr hR hP hX hU
    replace hn := hn3; replace hd := hd3.trans hd
    replace f0 := (hR 0 rfl).trans f0
    replace f2 := (hR 2 rfl).trans f2
    replace f3 := (hR 3 rfl).trans f3
    replace f5 := (hR 5 rfl).trans f5
    have e11 : a3.eval (.tmp 11) = .int .i32 8722 := hP 0 (by decide)
    have f11 := e11
    replace HB := HB.trans (hBt.below HB.size (UpOld.all (bx := []) trivial))
    clear hBt hr hR hP hX hU
    refine wp_block ?_
    refine wp_seq ?_
    refine wp_seq ?_
    refine region4 [some 13, some 12] [Eqs (.bool false), Eqs (.bool false)] [] [] (by kernel_rfl) hn rfl (by kernel_rfl) (by kernel_rfl) (by kernel_rfl) (by kernel_rfl) (by kernel_rfl) (by kernel_rfl) ⟨Eqs.mono4 _, Eqs.mono4 _, trivial⟩ ok_nil (IsOld.all (bx := []) trivial) (DisOld.all (bx := []) trivial) ?_ ?_
    · exact ⟨.norm 13 rfl rfl rfl (fun a_ w_ hn_ hBt hr hR hD hO hS => op_eql32f ((hR 11 rfl).trans f11) (by decide)),
        .norm 12 rfl rfl rfl (fun a_ w_ hn_ hBt hr hR hD hO hS => op_assign (show a_.eval (.tmp 13) = .bool false from hD 0 rfl)),
        trivial⟩
    intro a4 w4 gs4 hn4 hd4 hBt hr hR hP hX hU
    replace hn := hn4; replace hd := hd4.trans hd
    replace f0 := (hR 0 rfl).trans f0
    replace f2 := (hR 2 rfl).trans f2
    replace f3 := (hR 3 rfl).trans f3
    replace f5 := (hR 5 rfl).trans f5
    replace f11 := (hR 11 rfl).trans f11
    have e12 : a4.eval (.tmp 12) = .bool false := hP 1 (by decide)
    have f12 := e12
    replace HB := HB.trans (hBt.below HB.size (UpOld.all (bx := []) trivial))
    clear hBt hr hR hP hX hU
    refine wp_cond_false f12 ?_
    refine region4 [some 14, some 12] [Eqs (.bool true), Eqs (.bool true)] [] [] (by kernel_rfl) hn rfl (by kernel_rfl) (by kernel_rfl) (by kernel_rfl) (by kernel_rfl) (by kernel_rfl) (by kernel_rfl) ⟨Eqs.mono4 _, Eqs.mono4 _, trivial⟩ ok_nil (IsOld.all (bx := []) trivial) (DisOld.all (bx := []) trivial) ?_ ?_
    · exact ⟨.norm 14 rfl rfl rfl (fun a_ w_ hn_ hBt hr hR hD hO hS => op_eql32t ((hR 11 rfl).trans f11) rfl),
        .norm 12 rfl rfl rfl (fun a_ w_ hn_ hBt hr hR hD hO hS => op_assign (show a_.eval (.tmp 14) = .bool true from hD 0 rfl)),
        trivial⟩
    intro a5 w5 gs5 hn5 hd5 hBt hr hR hP hX hU
    replace hn := hn5; replace hd := hd5.trans hd
    replace f0 := (hR 0 rfl).trans f0
    replace f2 := (hR 2 rfl).trans f2
    replace f3 := (hR 3 rfl).trans f3
    replace f5 := (hR 5 rfl).trans f5
    have e12 : a5.eval (.tmp 12) = .bool true := hP 1 (by decide)
    have f12 := e12
    replace HB := HB.trans (hBt.below HB.size (UpOld.all (bx := []) trivial))
    clear hBt hr hR hP hX hU
    refine wp_cond_true f12 ?_
    refine wp_seq ?_
    refine region4 [some 15, some 16, some 17, some 2, some 3] [Eqs (.string s), Eqs (.int .i64 (3 : Int)), Eqs (.string ((s).extract 3 (s).size)), Eqs ((.bool true)), Eqs (.string ((s).extract 3 (s).size))] [] [] (by kernel_rfl) hn rfl (by kernel_rfl) (by kernel_rfl) (by kernel_rfl) (by kernel_rfl) (by kernel_rfl) (by kernel_rfl) ⟨Eqs.mono4 _, Eqs.mono4 _, Eqs.mono4 _, Eqs.mono4 _, Eqs.mono4 _, trivial⟩ ok_nil (IsOld.all (bx := []) trivial) (DisOld.all (bx := []) trivial) ?_ ?_
    · exact ⟨.norm 15 rfl rfl rfl (fun a_ w_ hn_ hBt hr hR hD hO hS => op_mv ((hR 0 rfl).trans f0)),
        .norm 16 rfl rfl rfl (fun a_ w_ hn_ hBt hr hR hD hO hS => op_mv ((hR 5 rfl).trans f5)),
        .norm 17 rfl rfl rfl (fun a_ w_ hn_ hBt hr hR hD hO hS => op_slst (k := 3) (show a_.eval (.tmp 15) = .string s from hD 0 rfl) (show a_.eval (.tmp 16) = .int .i64 (3 : Int) from hD 1 rfl) (by omega)),
        .norm 2 rfl rfl rfl (fun a_ w_ hn_ hBt hr hR hD hO hS => op_assign rfl),
        .norm 3 rfl rfl rfl (fun a_ w_ hn_ hBt hr hR hD hO hS => op_assign (show a_.eval (.tmp 17) = .string ((s).extract 3 (s).size) from hD 2 rfl)),
        trivial⟩
    intro a6 w6 gs6 hn6 hd6 hBt hr hR hP hX hU
    replace hn := hn6; replace hd := hd6.trans hd
    replace f0 := (hR 0 rfl).trans f0
    have e2 : a6.eval (.tmp 2) = (.bool true) := hP 3 (by decide)
    have f2 := e2
    have e3 : a6.eval (.tmp 3) = .string ((s).extract 3 (s).size) := hP 4 (by decide)
    have f3 := e3
    replace HB := HB.trans (hBt.below HB.size (UpOld.all (bx := []) trivial))
    clear hBt hr hR hP hX hU
    refine wp_ret ?_
    repeat (first | refine then_ret ?_ | refine scope_ret ?_ | refine block_ret ?_)
    exact bodyPost_ret (v := .tuple #[.bool true, .string ((s).extract 3 (s).size)]) (res_tt2 rfl f2 f3) hd ⟨by rw [hm], HB⟩
  · skip
    go_enter Tryd.func42, Tryd.ntmps42
    generalize hA : (Act.mk _ _) = aa
    have hn : aa.tmps.size = 19 := by rw [← hA]; rfl
    have hd : aa.defers = [] := by rw [← hA]
    have f0 : aa.eval (.tmp 0) = .string s := by rw [← hA]; rfl
    clear hA
    have HB : Below w.heap.size w w := Below.refl _ _
    refine wp_seq ?_
    refine region4 [some 2, some 3] [Eqs ((.bool false)), Eqs ((.string ⟨#[]⟩))] [] [] (by kernel_rfl) hn rfl (by kernel_rfl) (by kernel_rfl) (by kernel_rfl) (by kernel_rfl) (by kernel_rfl) (by kernel_rfl) ⟨Eqs.mono4 _, Eqs.mono4 _, trivial⟩ ok_nil (IsOld.all (bx := []) trivial) (DisOld.all (bx := []) trivial) ?_ ?_
    · exact ⟨.norm 2 rfl rfl rfl (fun a_ w_ hn_ hBt hr hR hD hO hS => op_assign rfl),
        .norm 3 rfl rfl rfl (fun a_ w_ hn_ hBt hr hR hD hO hS => op_assign rfl),
        trivial⟩
    intro a1 w1 gs1 hn1 hd1 hBt hr hR hP hX hU
    replace hn := hn1; replace hd := hd1.trans hd
    replace f0 := (hR 0 rfl).trans f0
    have e2 : a1.eval (.tmp 2) = (.bool false) := hP 0 (by decide)
    have f2 := e2
    have e3 : a1.eval (.tmp 3) = (.string ⟨#[]⟩) := hP 1 (by decide)
    have f3 := e3
    replace HB := HB.trans (hBt.below HB.size (UpOld.all (bx := []) trivial))
    clear hBt hr hR hP hX hU
    refine wp_seq ?_
    refine region4 [some 7, some 8, some 6, some 9, some 10, some 4, some 5] [Eqs (.string s), Tup2 (Eqs (.int .i32 45)) (Eqs (.int .i64 (1 : Int))), Tup2 (Eqs (.int .i32 45)) (Eqs (.int .i64 (1 : Int))), Eqs (.int .i32 45), Eqs (.int .i64 (1 : Int)), Eqs (.int .i32 45), Eqs (.int .i64 (1 : Int))] [] [] (by kernel_rfl) hn rfl (by kernel_rfl) (by kernel_rfl) (by kernel_rfl) (by kernel_rfl) (by kernel_rfl) (by kernel_rfl) ⟨Eqs.mono4 _, Tup2.mono4 (Eqs.mono4 _) (Eqs.mono4 _), Tup2.mono4 (Eqs.mono4 _) (Eqs.mono4 _), Eqs.mono4 _, Eqs.mono4 _, Eqs.mono4 _, Eqs.mono4 _, trivial⟩ ok_nil (IsOld.all (bx := []) trivial) (DisOld.all (bx := []) trivial) ?_ ?_
    · exact ⟨.norm 7 rfl rfl rfl (fun a_ w_ hn_ hBt hr hR hD hO hS => op_mv ((hR 0 rfl).trans f0)),
        .norm 8 rfl rfl rfl (fun a_ w_ hn_ hBt hr hR hD hO hS => op_decode (show a_.eval (.tmp 7) = .string s from hD 0 rfl) (hT.below (HB.trans (hBt.below HB.size (UpOld.all (bx := []) trivial)))) ⟨by rw [hd0]; rfl, by rw [hd0]⟩),
        .norm 6 rfl rfl rfl (fun a_ w_ hn_ hBt hr hR hD hO hS => op_mvp (p := Tup2 (Eqs (.int .i32 45)) (Eqs (.int .i64 (1 : Int)))) (show Tup2 (Eqs (.int .i32 45)) (Eqs (.int .i64 (1 : Int))) (a_.eval (.tmp 8)) w_ from hD 1 rfl)),
        .norm 9 rfl rfl rfl (fun a_ w_ hn_ hBt hr hR hD hO hS => op_ex20 (show Tup2 (Eqs (.int .i32 45)) (Eqs (.int .i64 (1 : Int))) (a_.eval (.tmp 6)) w_ from hD 2 rfl)),
        .norm 10 rfl rfl rfl (fun a_ w_ hn_ hBt hr hR hD hO hS => op_ex21 (show Tup2 (Eqs (.int .i32 45)) (Eqs (.int .i64 (1 : Int))) (a_.eval (.tmp 6)) w_ from hD 2 rfl)),
        .norm 4 rfl rfl rfl (fun a_ w_ hn_ hBt hr hR hD hO hS => op_assign (show a_.eval (.tmp 9) = .int .i32 45 from hD 3 rfl)),
        .norm 5 rfl rfl rfl (fun a_ w_ hn_ hBt hr hR hD hO hS => op_assign (show a_.eval (.tmp 10) = .int .i64 (1 : Int) from hD 4 rfl)),
        trivial⟩
    intro a2 w2 gs2 hn2 hd2 hBt hr hR hP hX hU
    replace hn := hn2; replace hd := hd2.trans hd
    replace f0 := (hR 0 rfl).trans f0
    replace f2 := (hR 2 rfl).trans f2
    replace f3 := (hR 3 rfl).trans f3
    have e4 : a2.eval (.tmp 4) = .int .i32 45 := hP 5 (by decide)
    have f4 := e4
    have e5 : a2.eval (.tmp 5) = .int .i64 (1 : Int) := hP 6 (by decide)
    have f5 := e5
    replace HB := HB.trans (hBt.below HB.size (UpOld.all (bx := []) trivial))
    clear hBt hr hR hP hX hU
    refine wp_seq ?_
    refine wp_seq ?_
    refine region4 [some 11] [Eqs (.int .i32 45)] [] [] (by kernel_rfl) hn rfl (by kernel_rfl) (by kernel_rfl) (by kernel_rfl) (by kernel_rfl) (by kernel_rfl) (by kernel_rfl) ⟨Eqs.mono4 _, trivial⟩ ok_nil (IsOld.all (bx := []) trivial) (DisOld.all (bx := []) trivial) ?_ ?_
    · exact ⟨.norm 11 rfl rfl rfl (fun a_ w_ hn_ hBt hr hR hD hO hS => op_mv ((hR 4 rfl).trans f4)),
        trivial⟩
    intro a3 w3 gs3 hn3 hd3 hBt hr hR hP hX hU
    replace hn := hn3; replace hd := hd3.trans hd
    replace f0 := (hR 0 rfl).trans f0
    replace f2 := (hR 2 rfl).trans f2
    replace f3 := (hR 3 rfl).trans f3
    replace f5 := (hR 5 rfl).trans f5
    have e11 : a3.eval (.tmp 11) = .int .i32 45 := hP 0 (by decide)
    have f11 := e11
    replace HB := HB.trans (hBt.below HB.size (UpOld.all (bx := []) trivial))
    clear hBt hr hR hP hX hU
    refine wp_block ?_
    refine wp_seq ?_
    refine wp_seq ?_
    refine region4 [some 13, some 12] [Eqs (.bool true), Eqs (.bool true)] [] [] (by kernel_rfl) hn rfl (by kernel_rfl) (by kernel_rfl) (by kernel_rfl) (by kernel_rfl) (by kernel_rfl) (by kernel_rfl) ⟨Eqs.mono4 _, Eqs.mono4 _, trivial⟩ ok_nil (IsOld.all (bx := []) trivial) (DisOld.all (bx := []) trivial) ?_ ?_
    · exact ⟨.norm 13 rfl rfl rfl (fun a_ w_ hn_ hBt hr hR hD hO hS => op_eql32t ((hR 11 rfl).trans f11) rfl),
        .norm 12 rfl rfl rfl (fun a_ w_ hn_ hBt hr hR hD hO hS => op_assign (show a_.eval (.tmp 13) = .bool true from hD 0 rfl)),
        trivial⟩
    intro a4 w4 gs4 hn4 hd4 hBt hr hR hP hX hU
    replace hn := hn4; replace hd := hd4.trans hd
    replace f0 := (hR 0 rfl).trans f0
    replace f2 := (hR 2 rfl).trans f2
    replace f3 := (hR 3 rfl).trans f3
    replace f5 := (hR 5 rfl).trans f5
    replace f11 := (hR 11 rfl).trans f11
    have e12 : a4.eval (.tmp 12) = .bool true := hP 1 (by decide)
    have f12 := e12
    replace HB := HB.trans (hBt.below HB.size (UpOld.all (bx := []) trivial))
    clear hBt hr hR hP hX hU
    refine wp_cond_true f12 ?_
    refine wp_skip ?_
    refine wp_cond_true f12 ?_
    refine wp_seq ?_
    refine region4 [some 15, some 16, some 17, some 2, some 3] [Eqs (.string s), Eqs (.int .i64 (1 : Int)), Eqs (.string ((s).extract 1 (s).size)), Eqs ((.bool true)), Eqs (.string ((s).extract 1 (s).size))] [] [] (by kernel_rfl) hn rfl (by kernel_rfl) (by kernel_rfl) (by kernel_rfl) (by kernel_rfl) (by kernel_rfl) (by kernel_rfl) ⟨Eqs.mono4 _, Eqs.mono4 _, Eqs.mono4 _, Eqs.mono4 _, Eqs.mono4 _, trivial⟩ ok_nil (IsOld.all (bx := []) trivial) (DisOld.all (bx := []) trivial) ?_ ?_
    · exact ⟨.norm 15 rfl rfl rfl (fun a_ w_ hn_ hBt hr hR hD hO hS => op_mv ((hR 0 rfl).trans f0)),
        .norm 16 rfl rfl rfl (fun a_ w_ hn_ hBt hr hR hD hO hS => op_mv ((hR 5 rfl).trans f5)),
        .norm 17 rfl rfl rfl (fun a_ w_ hn_ hBt hr hR hD hO hS => op_slst (k := 1) (show a_.eval (.tmp 15) = .string s from hD 0 rfl) (show a_.eval (.tmp 16) = .int .i64 (1 : Int) from hD 1 rfl) (by omega)),
        .norm 2 rfl rfl rfl (fun a_ w_ hn_ hBt hr hR hD hO hS => op_assign rfl),
        .norm 3 rfl rfl rfl (fun a_ w_ hn_ hBt hr hR hD hO hS => op_assign (show a_.eval (.tmp 17) = .string ((s).extract 1 (s).size) from hD 2 rfl)),
        trivial⟩
    intro a5 w5 gs5 hn5 hd5 hBt hr hR hP hX hU
    replace hn := hn5; replace hd := hd5.trans hd
    replace f0 := (hR 0 rfl).trans f0
    have e2 : a5.eval (.tmp 2) = (.bool true) := hP 3 (by decide)
    have f2 := e2
    have e3 : a5.eval (.tmp 3) = .string ((s).extract 1 (s).size) := hP 4 (by decide)
    have f3 := e3
    replace HB := HB.trans (hBt.below HB.size (UpOld.all (bx := []) trivial))
    clear hBt hr hR hP hX hU
    refine wp_ret ?_
    repeat (first | refine then_ret ?_ | refine scope_ret ?_ | refine block_ret ?_)
    exact bodyPost_ret (v := .tuple #[.bool true, .string ((s).extract 1 (s).size)]) (res_tt2 rfl f2 f3) hd ⟨by rw [hm], HB⟩
  · have hne1 : (((Lib.decodeGo s).1 : Nat) : Int) ≠ 45 := by omega
    have hne2 : (((Lib.decodeGo s).1 : Nat) : Int) ≠ 8722 := by omega
    go_enter Tryd.func42, Tryd.ntmps42
    generalize hA : (Act.mk _ _) = aa
    have hn : aa.tmps.size = 19 := by rw [← hA]; rfl
    have hd : aa.defers = [] := by rw [← hA]
    have f0 : aa.eval (.tmp 0) = .string s := by rw [← hA]; rfl
    clear hA
    have HB : Below w.heap.size w w := Below.refl _ _
    refine wp_seq ?_
    refine region4 [some 2, some 3] [Eqs ((.bool false)), Eqs ((.string ⟨#[]⟩))] [] [] (by kernel_rfl) hn rfl (by kernel_rfl) (by kernel_rfl) (by kernel_rfl) (by kernel_rfl) (by kernel_rfl) (by kernel_rfl) ⟨Eqs.mono4 _, Eqs.mono4 _, trivial⟩ ok_nil (IsOld.all (bx := []) trivial) (DisOld.all (bx := []) trivial) ?_ ?_
    · exact ⟨.norm 2 rfl rfl rfl (fun a_ w_ hn_ hBt hr hR hD hO hS => op_assign rfl),
        .norm 3 rfl rfl rfl (fun a_ w_ hn_ hBt hr hR hD hO hS => op_assign rfl),
        trivial⟩
    intro a1 w1 gs1 hn1 hd1 hBt hr hR hP hX hU
    replace hn := hn1; replace hd := hd1.trans hd
    replace f0 := (hR 0 rfl).trans f0
    have e2 : a1.eval (.tmp 2) = (.bool false) := hP 0 (by decide)
    have f2 := e2
    have e3 : a1.eval (.tmp 3) = (.string ⟨#[]⟩) := hP 1 (by decide)
    have f3 := e3
    replace HB := HB.trans (hBt.below HB.size (UpOld.all (bx := []) trivial))
    clear hBt hr hR hP hX hU
    refine wp_seq ?_
    refine region4 [some 7, some 8, some 6, some 9, some 10, some 4, some 5] [Eqs (.string s), Tup2 (Eqs (.int .i32 (((Lib.decodeGo s).1 : Nat) : Int))) (Eqs (.int .i64 ((Lib.decodeGo s).2 : Int))), Tup2 (Eqs (.int .i32 (((Lib.decodeGo s).1 : Nat) : Int))) (Eqs (.int .i64 ((Lib.decodeGo s).2 : Int))), Eqs (.int .i32 (((Lib.decodeGo s).1 : Nat) : Int)), Eqs (.int .i64 ((Lib.decodeGo s).2 : Int)), Eqs (.int .i32 (((Lib.decodeGo s).1 : Nat) : Int)), Eqs (.int .i64 ((Lib.decodeGo s).2 : Int))] [] [] (by kernel_rfl) hn rfl (by kernel_rfl) (by kernel_rfl) (by kernel_rfl) (by kernel_rfl) (by kernel_rfl) (by kernel_rfl) ⟨Eqs.mono4 _, Tup2.mono4 (Eqs.mono4 _) (Eqs.mono4 _), Tup2.mono4 (Eqs.mono4 _) (Eqs.mono4 _), Eqs.mono4 _, Eqs.mono4 _, Eqs.mono4 _, Eqs.mono4 _, trivial⟩ ok_nil (IsOld.all (bx := []) trivial) (DisOld.all (bx := []) trivial) ?_ ?_
    · exact ⟨.norm 7 rfl rfl rfl (fun a_ w_ hn_ hBt hr hR hD hO hS => op_mv ((hR 0 rfl).trans f0)),
        .norm 8 rfl rfl rfl (fun a_ w_ hn_ hBt hr hR hD hO hS => op_decode (show a_.eval (.tmp 7) = .string s from hD 0 rfl) (hT.below (HB.trans (hBt.below HB.size (UpOld.all (bx := []) trivial)))) ⟨rfl, rfl⟩),
        .norm 6 rfl rfl rfl (fun a_ w_ hn_ hBt hr hR hD hO hS => op_mvp (p := Tup2 (Eqs (.int .i32 (((Lib.decodeGo s).1 : Nat) : Int))) (Eqs (.int .i64 ((Lib.decodeGo s).2 : Int)))) (show Tup2 (Eqs (.int .i32 (((Lib.decodeGo s).1 : Nat) : Int))) (Eqs (.int .i64 ((Lib.decodeGo s).2 : Int))) (a_.eval (.tmp 8)) w_ from hD 1 rfl)),
        .norm 9 rfl rfl rfl (fun a_ w_ hn_ hBt hr hR hD hO hS => op_ex20 (show Tup2 (Eqs (.int .i32 (((Lib.decodeGo s).1 : Nat) : Int))) (Eqs (.int .i64 ((Lib.decodeGo s).2 : Int))) (a_.eval (.tmp 6)) w_ from hD 2 rfl)),
        .norm 10 rfl rfl rfl (fun a_ w_ hn_ hBt hr hR hD hO hS => op_ex21 (show Tup2 (Eqs (.int .i32 (((Lib.decodeGo s).1 : Nat) : Int))) (Eqs (.int .i64 ((Lib.decodeGo s).2 : Int))) (a_.eval (.tmp 6)) w_ from hD 2 rfl)),
        .norm 4 rfl rfl rfl (fun a_ w_ hn_ hBt hr hR hD hO hS => op_assign (show a_.eval (.tmp 9) = .int .i32 (((Lib.decodeGo s).1 : Nat) : Int) from hD 3 rfl)),
        .norm 5 rfl rfl rfl (fun a_ w_ hn_ hBt hr hR hD hO hS => op_assign (show a_.eval (.tmp 10) = .int .i64 ((Lib.decodeGo s).2 : Int) from hD 4 rfl)),
        trivial⟩
    intro a2 w2 gs2 hn2 hd2 hBt hr hR hP hX hU
    replace hn := hn2; replace hd := hd2.trans hd
    replace f0 := (hR 0 rfl).trans f0
    replace f2 := (hR 2 rfl).trans f2
    replace f3 := (hR 3 rfl).trans f3
    have e4 : a2.eval (.tmp 4) = .int .i32 (((Lib.decodeGo s).1 : Nat) : Int) := hP 5 (by decide)
    have f4 := e4
    have e5 : a2.eval (.tmp 5) = .int .i64 ((Lib.decodeGo s).2 : Int) := hP 6 (by decide)
    have f5 := e5
    replace HB := HB.trans (hBt.below HB.size (UpOld.all (bx := []) trivial))
    clear hBt hr hR hP hX hU
    refine wp_seq ?_
    refine wp_seq ?_
    refine region4 [some 11] [Eqs (.int .i32 (((Lib.decodeGo s).1 : Nat) : Int))] [] [] (by kernel_rfl) hn rfl (by kernel_rfl) (by kernel_rfl) (by kernel_rfl) (by kernel_rfl) (by kernel_rfl) (by kernel_rfl) ⟨Eqs.mono4 _, trivial⟩ ok_nil (IsOld.all (bx := []) trivial) (DisOld.all (bx := []) trivial) ?_ ?_
    · exact ⟨.norm 11 rfl rfl rfl (fun a_ w_ hn_ hBt hr hR hD hO hS => op_mv ((hR 4 rfl).trans f4)),
        trivial⟩
    intro a3 w3 gs3 hn3 hd3 hBt hr hR hP hX hU
    replace hn := hn3; replace hd := hd3.trans hd
    replace f0 := (hR 0 rfl).trans f0
    replace f2 := (hR 2 rfl).trans f2
    replace f3 := (hR 3 rfl).trans f3
    replace f5 := (hR 5 rfl).trans f5
    have e11 : a3.eval (.tmp 11) = .int .i32 (((Lib.decodeGo s).1 : Nat) : Int) := hP 0 (by decide)
    have f11 := e11
    replace HB := HB.trans (hBt.below HB.size (UpOld.all (bx := []) trivial))
    clear hBt hr hR hP hX hU
    refine wp_block ?_
    refine wp_seq ?_
    refine wp_seq ?_
    refine region4 [some 13, some 12] [Eqs (.bool false), Eqs (.bool false)] [] [] (by kernel_rfl) hn rfl (by kernel_rfl) (by kernel_rfl) (by kernel_rfl) (by kernel_rfl) (by kernel_rfl) (by kernel_rfl) ⟨Eqs.mono4 _, Eqs.mono4 _, trivial⟩ ok_nil (IsOld.all (bx := []) trivial) (DisOld.all (bx := []) trivial) ?_ ?_
    · exact ⟨.norm 13 rfl rfl rfl (fun a_ w_ hn_ hBt hr hR hD hO hS => op_eql32f ((hR 11 rfl).trans f11) hne1),
        .norm 12 rfl rfl rfl (fun a_ w_ hn_ hBt hr hR hD hO hS => op_assign (show a_.eval (.tmp 13) = .bool false from hD 0 rfl)),
        trivial⟩
    intro a4 w4 gs4 hn4 hd4 hBt hr hR hP hX hU
    replace hn := hn4; replace hd := hd4.trans hd
    replace f0 := (hR 0 rfl).trans f0
    replace f2 := (hR 2 rfl).trans f2
    replace f3 := (hR 3 rfl).trans f3
    replace f5 := (hR 5 rfl).trans f5
    replace f11 := (hR 11 rfl).trans f11
    have e12 : a4.eval (.tmp 12) = .bool false := hP 1 (by decide)
    have f12 := e12
    replace HB := HB.trans (hBt.below HB.size (UpOld.all (bx := []) trivial))
    clear hBt hr hR hP hX hU
    refine wp_cond_false f12 ?_
    refine region4 [some 14, some 12] [Eqs (.bool false), Eqs (.bool false)] [] [] (by kernel_rfl) hn rfl (by kernel_rfl) (by kernel_rfl) (by kernel_rfl) (by kernel_rfl) (by kernel_rfl) (by kernel_rfl) ⟨Eqs.mono4 _, Eqs.mono4 _, trivial⟩ ok_nil (IsOld.all (bx := []) trivial) (DisOld.all (bx := []) trivial) ?_ ?_
    · exact ⟨.norm 14 rfl rfl rfl (fun a_ w_ hn_ hBt hr hR hD hO hS => op_eql32f ((hR 11 rfl).trans f11) hne2),
        .norm 12 rfl rfl rfl (fun a_ w_ hn_ hBt hr hR hD hO hS => op_assign (show a_.eval (.tmp 14) = .bool false from hD 0 rfl)),
        trivial⟩
    intro a5 w5 gs5 hn5 hd5 hBt hr hR hP hX hU
    replace hn := hn5; replace hd := hd5.trans hd
    replace f0 := (hR 0 rfl).trans f0
    replace f2 := (hR 2 rfl).trans f2
    replace f3 := (hR 3 rfl).trans f3
    replace f5 := (hR 5 rfl).trans f5
    have e12 : a5.eval (.tmp 12) = .bool false := hP 1 (by decide)
    have f12 := e12
    replace HB := HB.trans (hBt.below HB.size (UpOld.all (bx := []) trivial))
    clear hBt hr hR hP hX hU
    refine wp_cond_false f12 ?_
    refine wp_skip ?_
    refine block_normal ?_
    refine wp_seq ?_
    refine region4 [some 18, some 2, some 3] [Eqs (.string s), Eqs ((.bool false)), Eqs (.string s)] [] [] (by kernel_rfl) hn rfl (by kernel_rfl) (by kernel_rfl) (by kernel_rfl) (by kernel_rfl) (by kernel_rfl) (by kernel_rfl) ⟨Eqs.mono4 _, Eqs.mono4 _, Eqs.mono4 _, trivial⟩ ok_nil (IsOld.all (bx := []) trivial) (DisOld.all (bx := []) trivial) ?_ ?_
    · exact ⟨.norm 18 rfl rfl rfl (fun a_ w_ hn_ hBt hr hR hD hO hS => op_mv ((hR 0 rfl).trans f0)),
        .norm 2 rfl rfl rfl (fun a_ w_ hn_ hBt hr hR hD hO hS => op_assign rfl),
        .norm 3 rfl rfl rfl (fun a_ w_ hn_ hBt hr hR hD hO hS => op_assign (show a_.eval (.tmp 18) = .string s from hD 0 rfl)),
        trivial⟩
    intro a6 w6 gs6 hn6 hd6 hBt hr hR hP hX hU
    replace hn := hn6; replace hd := hd6.trans hd
    have e2 : a6.eval (.tmp 2) = (.bool false) := hP 1 (by decide)
    have f2 := e2
    have e3 : a6.eval (.tmp 3) = .string s := hP 2 (by decide)
    have f3 := e3
    replace HB := HB.trans (hBt.below HB.size (UpOld.all (bx := []) trivial))
    clear hBt hr hR hP hX hU
    refine wp_ret ?_
    repeat (first | refine then_ret ?_ | refine scope_ret ?_ | refine block_ret ?_)
    exact bodyPost_ret (v := .tuple #[.bool false, .string s]) (res_tt2 rfl f2 f3) hd ⟨by rw [hm], HB⟩
end Lm
end Go.Proofs.YtdiiankcjgoecaaDoor

namespace Go.Proofs.YtdiiankcjgoecaaDoor
namespace Lm
open Go Go.RowKit
open Dm (Err Fine)
open Classical in
noncomputable def kOf (r : ByteArray) : Int := if 5120 < r.size then 2 else if 1 ≤ r.size ∧ Dig (bytesOf r) then 0 else 10
open Classical in
noncomputable def xOf (r : ByteArray) : Int := if Fine r then dval (bytesOf r) else 0
theorem of_err {r : ByteArray} {k : Int} (h : Err r k) : k = kOf r ∧ xOf r = 0 ∧ kOf r ≠ 0 := by
  have hf : ¬ Fine r := fun hf => Dm.err_fine h hf
  have h1 : k = kOf r := by
    rcases h with ⟨rfl, h2⟩ | ⟨rfl, h2, h3⟩
    · rw [kOf, if_pos h2]
    · rw [kOf, if_neg (by omega), if_neg h3]
  refine ⟨h1, by rw [xOf, if_neg hf], ?_⟩
  rw [← h1]
  rcases h with ⟨h1, _⟩ | ⟨h1, _⟩ <;> omega
theorem of_fine {r : ByteArray} (h : Fine r) : kOf r = 0 ∧ xOf r = dval (bytesOf r) := by
  refine ⟨?_, by rw [xOf, if_pos h]⟩
  rw [kOf, if_neg (by have := h.2.1; omega), if_pos ⟨h.1, h.2.2⟩]
theorem p10_le_pw (n : Nat) : p10 n ≤ pw n := by
  induction n with
  | zero => simp [p10, pw]
  | succ n ih =>
    simp only [p10, pw]
    have := pw_pos n
    omega
noncomputable def zOf (s : ByteArray) : Int := sg (msplit s).1 (xOf (msplit s).2)
noncomputable def eOf (s : ByteArray) : Int := kOf (msplit s).2
section
variable {dst : Option Tmp} {ty : TypeId} {pos : String} {after : Array Edge} {guard : Option (Nat × Bool)} {a : Act} {w : World} {ats : Array TypeId} {i j : Nat}
theorem has_split : Has Tryd.prog 42 := by unfold Has; kernel_rfl
theorem op_split {s : ByteArray} (h : a.eval (.tmp i) = .string s) (hT : Tabs w) :
    Does Tryd.prog { dst, op := .call { callee := .value (.func 42), args := #[.tmp i], argTypes := ats }, type := ty, pos, after, guard } a.eval w fun v w' => Below w.heap.size w w' ∧ Tup2 (Eqs (.bool (msplit s).1)) (Eqs (.string (msplit s).2)) v w' := by
  refine does_call has_split _ (by simp only [List.map_toArray, List.map_cons, List.map_nil, h]) ((split_z w s hT).mono ?_)
  rintro e w' ⟨rfl, hb⟩
  exact ⟨_, rfl, hb, _, _, rfl, rfl, rfl⟩
theorem has_lparse : Has Tryd.prog 43 := by unfold Has; kernel_rfl
theorem op_lparse {s : ByteArray} (h : a.eval (.tmp i) = .string s) :
    Does Tryd.prog { dst, op := .call { callee := .value (.func 43), args := #[.tmp i], argTypes := ats }, type := ty, pos, after, guard } a.eval w fun v w' => Below w.heap.size w w' ∧ Tup2 (OutL (xOf s) 6000) (Eqs (.int .i64 (kOf s))) v w' := by
  refine does_call has_lparse _ (by simp only [List.map_toArray, List.map_cons, List.map_nil, h]) ((parse_e w s).mono ?_)
  rintro e w' ⟨⟨k, hk, rfl⟩ | ⟨hf, v, rfl, rs, ho, hc, hv⟩, hb⟩
  · obtain ⟨h1, h2, _⟩ := of_err hk
    refine ⟨_, rfl, hb, _, _, rfl, ?_, by rw [h1]; rfl⟩
    rw [h2]
    exact ⟨none, 0, [], rfl, ⟨sl_nil w', canon_nil, rfl⟩, by simp⟩
  · obtain ⟨h1, h2⟩ := of_fine hf
    refine ⟨_, rfl, hb, _, _, rfl, ?_, by rw [h1]; rfl⟩
    rw [h2]
    obtain ⟨ao, cap, rfl, _⟩ := id ho
    refine ⟨ao, cap, rs, rfl, ⟨ho.sl, hc, hv⟩, ?_⟩
    have h3 := (dval_bounds hf.2.2).2
    rw [bytesOf_length] at h3
    have h4 := canon_len hc (m := s.size) (by rw [hv]; have := p10_le_pw s.size; omega)
    have := hf.2.1
    omega
theorem has_signed : Has Tryd.prog 44 := by unfold Has; kernel_rfl
theorem op_signed0 {b : Bool} {x : Int} {L : Nat} (h1 : a.eval (.tmp i) = .bool b) (h2 : OutL x L (a.eval (.tmp j)) w) (hL : L ≤ 1000000) :
    Does Tryd.prog { dst, op := .call { callee := .value (.func 44), args := #[.tmp i, .tmp j], argTypes := ats }, type := ty, pos, after, guard } a.eval w fun v w' => Below w.heap.size w w' ∧ OutW (sg b x) L v w' := by
  obtain ⟨ao, cap, rs, e, G, l⟩ := h2
  refine does_call has_signed _ (by simp only [List.map_toArray, List.map_cons, List.map_nil, h1, e]) ((signed_g w b ao cap rs x G (by omega)).mono ?_)
  rintro e w' ⟨ng, rfl, hW, hb⟩
  exact ⟨_, rfl, hb, ng, ao, cap, rs, rfl, hW, l⟩
theorem op_neqkE {u v : Int} (h1 : a.eval (.tmp i) = .int .i64 u) :
    Does Tryd.prog { dst, op := .binOp .neq 27 (.tmp i) (.const (.int .i64 v)) 27, type := ty, pos, after, guard } a.eval w fun v' w' => Below w.heap.size w w' ∧ Eqs (.bool (!decide (u = v))) v' w' := by
  refine does_bin (v := .bool (!decide (u = v))) ?_ ?_ ⟨Below.refl _ _, rfl⟩
  · rw [h1]; simp [go_sem, Act.eval]
  · rw [h1]; simp [go_sem, Act.eval]; rfl
end
theorem xOf_zero {r : ByteArray} {b : Bool} (h : kOf r ≠ 0) : sg b (xOf r) = 0 := by
  have hf : ¬ Fine r := fun hf => h (of_fine hf).1
  rw [xOf, if_neg hf]
  cases b <;> rfl
theorem outw_zero (w : World) {L : Nat} : OutW 0 L (.agg #[.bool false, .slice none 0 0]) w := ⟨false, none, 0, [], rfl, ⟨⟨sl_nil w, canon_nil, rfl⟩, rfl⟩, by simp⟩
set_option maxRecDepth 20000 in
set_option maxHeartbeats 1000000 in
theorem wparse_z (w : World) (s : ByteArray) (hT : Tabs w) :
    Calls Tryd.prog 11 #[.string s] w fun e w' => ∃ v, e = .returned v ∧ Tup2 (OutW (zOf s) 6000) (Eqs (.int .i64 (eOf s))) v w' ∧ Below w.heap.size w w' := by
  go_enter Tryd.func11, Tryd.ntmps11
  generalize hA : (Act.mk _ _) = aa
  have hn : aa.tmps.size = 25 := by rw [← hA]; rfl
  have hd : aa.defers = [] := by rw [← hA]
  have f0 : aa.eval (.tmp 0) = .string s := by rw [← hA]; rfl
  clear hA
  have HB : Below w.heap.size w w := Below.refl _ _
  refine wp_seq ?_
  refine region4 [some 2, some 3] [(fun _ _ => True), Eqs ((.int .i64 0))] [⟨W2, some 0, 0, 2, .agg #[.bool false, .slice none 0 0], none, []⟩] [] (by kernel_rfl) hn rfl (by kernel_rfl) (by kernel_rfl) (by kernel_rfl) (by kernel_rfl) (by kernel_rfl) (by kernel_rfl) ⟨True.mono4, Eqs.mono4 _, trivial⟩ (ok_cons W2ok ok_nil) (IsOld.all (bx := [⟨W2, some 0, 0, 2, .agg #[.bool false, .slice none 0 0], none, []⟩]) ⟨someNe, trivial⟩) (DisOld.all (bx := [⟨W2, some 0, 0, 2, .agg #[.bool false, .slice none 0 0], none, []⟩]) ⟨someNe, trivial⟩) ?_ ?_
  · exact ⟨.alloc 0 _ rfl rfl (.inl ⟨rfl, rfl⟩) rfl rfl rfl rfl rfl,
      .norm 3 rfl rfl rfl (fun a_ w_ hn_ hBt hr hR hD hO hS => op_assign rfl),
      trivial⟩
  intro a1 w1 gs1 hn1 hd1 hBt hr hR hP hX hU
  replace hn := hn1; replace hd := hd1.trans hd
  have b2 : BoxV W2 w1 (gs1 0) (.agg #[.bool false, .slice none 0 0]) := (hX 0 _ rfl).2.2.2
  have f2 := (hX 0 _ rfl).1
  have u2 : w.heap.size ≤ gs1 0 := Nat.le_trans HB.size ((hX 0 _ rfl).2.2.1 (by simp))
  replace f0 := (hR 0 rfl).trans f0
  have e3 : a1.eval (.tmp 3) = (.int .i64 0) := hP 1 (by decide)
  have f3 := e3
  replace HB := HB.trans (hBt.below HB.size (UpOld.all (bx := [⟨W2, some 0, 0, 2, .agg #[.bool false, .slice none 0 0], none, []⟩]) ⟨someNe, trivial⟩))
  clear hBt hr hR hP hX hU
  refine wp_seq ?_
  refine region4 [some 9, some 10, some 8, some 11, some 12, some 4, some 5] [Eqs (.string s), Tup2 (Eqs (.bool (msplit s).1)) (Eqs (.string (msplit s).2)), Tup2 (Eqs (.bool (msplit s).1)) (Eqs (.string (msplit s).2)), Eqs (.bool (msplit s).1), Eqs (.string (msplit s).2), Eqs (.bool (msplit s).1), Eqs (.string (msplit s).2)] [] [] (by kernel_rfl) hn rfl (by kernel_rfl) (by kernel_rfl) (by kernel_rfl) (by kernel_rfl) (by kernel_rfl) (by kernel_rfl) ⟨Eqs.mono4 _, Tup2.mono4 (Eqs.mono4 _) (Eqs.mono4 _), Tup2.mono4 (Eqs.mono4 _) (Eqs.mono4 _), Eqs.mono4 _, Eqs.mono4 _, Eqs.mono4 _, Eqs.mono4 _, trivial⟩ ok_nil (IsOld.all (bx := []) trivial) (DisOld.all (bx := []) trivial) ?_ ?_
  · exact ⟨.norm 9 rfl rfl rfl (fun a_ w_ hn_ hBt hr hR hD hO hS => op_mv ((hR 0 rfl).trans f0)),
      .norm 10 rfl rfl rfl (fun a_ w_ hn_ hBt hr hR hD hO hS => op_split (show a_.eval (.tmp 9) = .string s from hD 0 rfl) (hT.below (HB.trans (hBt.below HB.size (UpOld.all (bx := []) trivial))))),
      .norm 8 rfl rfl rfl (fun a_ w_ hn_ hBt hr hR hD hO hS => op_mvp (p := Tup2 (Eqs (.bool (msplit s).1)) (Eqs (.string (msplit s).2))) (show Tup2 (Eqs (.bool (msplit s).1)) (Eqs (.string (msplit s).2)) (a_.eval (.tmp 10)) w_ from hD 1 rfl)),
      .norm 11 rfl rfl rfl (fun a_ w_ hn_ hBt hr hR hD hO hS => op_ex20 (show Tup2 (Eqs (.bool (msplit s).1)) (Eqs (.string (msplit s).2)) (a_.eval (.tmp 8)) w_ from hD 2 rfl)),
      .norm 12 rfl rfl rfl (fun a_ w_ hn_ hBt hr hR hD hO hS => op_ex21 (show Tup2 (Eqs (.bool (msplit s).1)) (Eqs (.string (msplit s).2)) (a_.eval (.tmp 8)) w_ from hD 2 rfl)),
      .norm 4 rfl rfl rfl (fun a_ w_ hn_ hBt hr hR hD hO hS => op_assign (show a_.eval (.tmp 11) = .bool (msplit s).1 from hD 3 rfl)),
      .norm 5 rfl rfl rfl (fun a_ w_ hn_ hBt hr hR hD hO hS => op_assign (show a_.eval (.tmp 12) = .string (msplit s).2 from hD 4 rfl)),
      trivial⟩
  intro a2 w2 gs2 hn2 hd2 hBt hr hR hP hX hU
  replace hn := hn2; replace hd := hd2.trans hd
  replace b2 := b2.keep hBt trivial
  replace f2 := (hR 2 rfl).trans f2
  replace f3 := (hR 3 rfl).trans f3
  have e4 : a2.eval (.tmp 4) = .bool (msplit s).1 := hP 5 (by decide)
  have f4 := e4
  have e5 : a2.eval (.tmp 5) = .string (msplit s).2 := hP 6 (by decide)
  have f5 := e5
  replace HB := HB.trans (hBt.below HB.size (UpOld.all (bx := []) trivial))
  clear hBt hr hR hP hX hU
  refine wp_seq ?_
  refine region4 [some 14, some 15, some 13, some 16, some 17, some 6, some 7] [Eqs (.string (msplit s).2), Tup2 (OutL (xOf (msplit s).2) (6000)) (Eqs (.int .i64 (kOf (msplit s).2))), Tup2 (OutL (xOf (msplit s).2) (6000)) (Eqs (.int .i64 (kOf (msplit s).2))), OutL (xOf (msplit s).2) (6000), Eqs (.int .i64 (kOf (msplit s).2)), OutL (xOf (msplit s).2) (6000), Eqs (.int .i64 (kOf (msplit s).2))] [] [] (by kernel_rfl) hn rfl (by kernel_rfl) (by kernel_rfl) (by kernel_rfl) (by kernel_rfl) (by kernel_rfl) (by kernel_rfl) ⟨Eqs.mono4 _, Tup2.mono4 (OutL.mono4 _ _) (Eqs.mono4 _), Tup2.mono4 (OutL.mono4 _ _) (Eqs.mono4 _), OutL.mono4 _ _, Eqs.mono4 _, OutL.mono4 _ _, Eqs.mono4 _, trivial⟩ ok_nil (IsOld.all (bx := []) trivial) (DisOld.all (bx := []) trivial) ?_ ?_
  · exact ⟨.norm 14 rfl rfl rfl (fun a_ w_ hn_ hBt hr hR hD hO hS => op_mv ((hR 5 rfl).trans f5)),
      .norm 15 rfl rfl rfl (fun a_ w_ hn_ hBt hr hR hD hO hS => op_lparse (show a_.eval (.tmp 14) = .string (msplit s).2 from hD 0 rfl)),
      .norm 13 rfl rfl rfl (fun a_ w_ hn_ hBt hr hR hD hO hS => op_mvp (p := Tup2 (OutL (xOf (msplit s).2) (6000)) (Eqs (.int .i64 (kOf (msplit s).2)))) (show Tup2 (OutL (xOf (msplit s).2) (6000)) (Eqs (.int .i64 (kOf (msplit s).2))) (a_.eval (.tmp 15)) w_ from hD 1 rfl)),
      .norm 16 rfl rfl rfl (fun a_ w_ hn_ hBt hr hR hD hO hS => op_ex20 (show Tup2 (OutL (xOf (msplit s).2) (6000)) (Eqs (.int .i64 (kOf (msplit s).2))) (a_.eval (.tmp 13)) w_ from hD 2 rfl)),
      .norm 17 rfl rfl rfl (fun a_ w_ hn_ hBt hr hR hD hO hS => op_ex21 (show Tup2 (OutL (xOf (msplit s).2) (6000)) (Eqs (.int .i64 (kOf (msplit s).2))) (a_.eval (.tmp 13)) w_ from hD 2 rfl)),
      .norm 6 rfl rfl rfl (fun a_ w_ hn_ hBt hr hR hD hO hS => op_asp (p := OutL (xOf (msplit s).2) (6000)) (show OutL (xOf (msplit s).2) (6000) (a_.eval (.tmp 16)) w_ from hD 3 rfl)),
      .norm 7 rfl rfl rfl (fun a_ w_ hn_ hBt hr hR hD hO hS => op_assign (show a_.eval (.tmp 17) = .int .i64 (kOf (msplit s).2) from hD 4 rfl)),
      trivial⟩
  intro a3 w3 gs3 hn3 hd3 hBt hr hR hP hX hU
  replace hn := hn3; replace hd := hd3.trans hd
  replace b2 := b2.keep hBt trivial
  replace f2 := (hR 2 rfl).trans f2
  replace f3 := (hR 3 rfl).trans f3
  replace f4 := (hR 4 rfl).trans f4
  obtain ⟨a_4, c_4, r_4, e6, K4, l4⟩ : OutL (xOf (msplit s).2) (6000) (a3.eval (.tmp 6)) w3 := hP 5 (by decide)
  have S4 := K4.sl; have V4 := K4.val
  have f6 := e6
  have e7 : a3.eval (.tmp 7) = .int .i64 (kOf (msplit s).2) := hP 6 (by decide)
  have f7 := e7
  replace HB := HB.trans (hBt.below HB.size (UpOld.all (bx := []) trivial))
  clear hBt hr hR hP hX hU
  refine wp_seq ?_
  refine wp_seq ?_
  refine region4 [some 18, some 19] [Eqs (.int .i64 (kOf (msplit s).2)), Eqs (.bool (!decide ((kOf (msplit s).2) = 0)))] [] [] (by kernel_rfl) hn rfl (by kernel_rfl) (by kernel_rfl) (by kernel_rfl) (by kernel_rfl) (by kernel_rfl) (by kernel_rfl) ⟨Eqs.mono4 _, Eqs.mono4 _, trivial⟩ ok_nil (IsOld.all (bx := []) trivial) (DisOld.all (bx := []) trivial) ?_ ?_
  · exact ⟨.norm 18 rfl rfl rfl (fun a_ w_ hn_ hBt hr hR hD hO hS => op_mv ((hR 7 rfl).trans f7)),
      .norm 19 rfl rfl rfl (fun a_ w_ hn_ hBt hr hR hD hO hS => op_neqkE (show a_.eval (.tmp 18) = .int .i64 (kOf (msplit s).2) from hD 0 rfl)),
      trivial⟩
  intro a5 w5 gs5 hn5 hd5 hBt hr hR hP hX hU
  replace hn := hn5; replace hd := hd5.trans hd
  replace b2 := b2.keep hBt trivial
  replace f2 := (hR 2 rfl).trans f2
  replace f3 := (hR 3 rfl).trans f3
  replace f4 := (hR 4 rfl).trans f4
  replace f6 := (hR 6 rfl).trans f6
  replace f7 := (hR 7 rfl).trans f7
  have e19 : a5.eval (.tmp 19) = .bool (!decide ((kOf (msplit s).2) = 0)) := hP 1 (by decide)
  have f19 := e19
  replace K4 := K4.rl hr
  replace S4 := S4.rl hr
  replace HB := HB.trans (hBt.below HB.size (UpOld.all (bx := []) trivial))
  clear hBt hr hR hP hX hU
  refine wp_cond_split f19 (fun hc19 => ?_) (fun hc19 => ?_)
  · skip
    have hk0 : kOf (msplit s).2 ≠ 0 := by simpa using hc19
    refine wp_seq ?_
    refine region4 [some 20, some 21, none, some 3] [Eqs (.agg #[.bool false, .slice none 0 0]), Eqs (.int .i64 (kOf (msplit s).2)), (fun _ _ => True), Eqs (.int .i64 (kOf (msplit s).2))] [⟨W2, none, (gs1 0), 2, .agg #[.bool false, .slice none 0 0], some (2, 20, 0), []⟩] [] (by kernel_rfl) hn rfl (by kernel_rfl) (by kernel_rfl) (by kernel_rfl) (by kernel_rfl) (by kernel_rfl) (by kernel_rfl) ⟨Eqs.mono4 _, Eqs.mono4 _, True.mono4, Eqs.mono4 _, trivial⟩ (ok_cons W2ok ok_nil) (IsOld.all (bx := [⟨W2, none, (gs1 0), 2, .agg #[.bool false, .slice none 0 0], some (2, 20, 0), []⟩]) ⟨fun _ => ⟨f2, b2⟩, trivial⟩) (DisOld.all (bx := [⟨W2, none, (gs1 0), 2, .agg #[.bool false, .slice none 0 0], some (2, 20, 0), []⟩]) ⟨fun _ => trivial, trivial⟩) ?_ ?_
    · exact ⟨.norm 20 rfl rfl rfl (fun a_ w_ hn_ hBt hr hR hD hO hS => op_bW0),
        .norm 21 rfl rfl rfl (fun a_ w_ hn_ hBt hr hR hD hO hS => op_mv ((hR 7 rfl).trans f7)),
        .store 0 _ _ _ rfl rfl rfl rfl rfl rfl rfl (fun ia h => by cases h) rfl rfl rfl (eqs_cs w2_cs),
        .norm 3 rfl rfl rfl (fun a_ w_ hn_ hBt hr hR hD hO hS => op_assign (show a_.eval (.tmp 21) = .int .i64 (kOf (msplit s).2) from hD 1 rfl)),
        trivial⟩
    intro a6 w6 gs6 hn6 hd6 hBt hr hR hP hX hU
    replace hn := hn6; replace hd := hd6.trans hd
    have e20 : a6.eval (.tmp 20) = .agg #[.bool false, .slice none 0 0] := hP 0 (by decide)
    have b2 : BoxV W2 w6 ((gs1 0)) (.agg #[.bool false, .slice none 0 0]) := boxv_old ((hX 0 _ rfl).2.1 rfl) (hX 0 _ rfl).2.2.2 e20
    replace f2 : a6.eval (.tmp 2) = _ := (hR 2 rfl).trans f2
    replace f4 := (hR 4 rfl).trans f4
    replace f6 := (hR 6 rfl).trans f6
    have e3 : a6.eval (.tmp 3) = .int .i64 (kOf (msplit s).2) := hP 3 (by decide)
    have f3 := e3
    replace K4 := K4.rl hr
    replace S4 := S4.rl hr
    replace HB := HB.trans (hBt.below HB.size (UpOld.all (bx := [⟨W2, none, (gs1 0), 2, .agg #[.bool false, .slice none 0 0], some (2, 20, 0), []⟩]) ⟨fun _ => u2, trivial⟩))
    clear hBt hr hR hP hX hU
    refine wp_ret ?_
    repeat (first | refine then_ret ?_ | refine scope_ret ?_ | refine block_ret ?_)
    exact bodyPost_ret (v := .tuple #[.agg #[.bool false, .slice none 0 0], .int .i64 (kOf (msplit s).2)]) (res_ct rfl f2 (lv_W2 b2) f3) hd ⟨_, rfl, ⟨_, _, rfl, by rw [zOf, xOf_zero hk0]; exact outw_zero _, rfl⟩, HB⟩
  · skip
    have hk0 : kOf (msplit s).2 = 0 := by simpa using hc19
    refine wp_skip ?_
    refine wp_seq ?_
    refine region4 [some 22, some 23, some 24, none, some 3] [Eqs (.bool (msplit s).1), Eqs (.slice a_4 r_4.length c_4), OutW (sg ((msplit s).1) (xOf (msplit s).2)) (6000), (fun _ _ => True), Eqs ((.int .i64 0))] [⟨W2, none, (gs1 0), 2, .agg #[.bool false, .slice none 0 0], some (3, 24, 2), []⟩] [] (by kernel_rfl) hn rfl (by kernel_rfl) (by kernel_rfl) (by kernel_rfl) (by kernel_rfl) (by kernel_rfl) (by kernel_rfl) ⟨Eqs.mono4 _, Eqs.mono4 _, OutW.mono4 _ _, True.mono4, Eqs.mono4 _, trivial⟩ (ok_cons W2ok ok_nil) (IsOld.all (bx := [⟨W2, none, (gs1 0), 2, .agg #[.bool false, .slice none 0 0], some (3, 24, 2), []⟩]) ⟨fun _ => ⟨f2, b2⟩, trivial⟩) (DisOld.all (bx := [⟨W2, none, (gs1 0), 2, .agg #[.bool false, .slice none 0 0], some (3, 24, 2), []⟩]) ⟨fun _ => trivial, trivial⟩) ?_ ?_
    · exact ⟨.norm 22 rfl rfl rfl (fun a_ w_ hn_ hBt hr hR hD hO hS => op_mv ((hR 4 rfl).trans f4)),
        .norm 23 rfl rfl rfl (fun a_ w_ hn_ hBt hr hR hD hO hS => op_mv ((hR 6 rfl).trans f6)),
        .norm 24 rfl rfl rfl (fun a_ w_ hn_ hBt hr hR hD hO hS => op_signed0 (show a_.eval (.tmp 22) = .bool (msplit s).1 from hD 0 rfl) (outl_eq (show a_.eval (.tmp 23) = .slice a_4 r_4.length c_4 from hD 1 rfl) (K4.rl hr) l4) (by omega)),
        .store 0 _ _ _ rfl rfl rfl rfl rfl rfl rfl (fun ia h => by cases h) rfl rfl rfl OutW.cs,
        .norm 3 rfl rfl rfl (fun a_ w_ hn_ hBt hr hR hD hO hS => op_assign rfl),
        trivial⟩
    intro a7 w7 gs7 hn7 hd7 hBt hr hR hP hX hU
    replace hn := hn7; replace hd := hd7.trans hd
    obtain ⟨n_8, a_8, c_8, r_8, e24, G8, l8⟩ : OutW (sg ((msplit s).1) (xOf (msplit s).2)) (6000) (a7.eval (.tmp 24)) w7 := hP 2 (by decide)
    have A8 := G8.ag
    have b2 : BoxV W2 w7 ((gs1 0)) (.agg #[.bool n_8, .slice a_8 r_8.length c_8]) := boxv_old ((hX 0 _ rfl).2.1 rfl) (hX 0 _ rfl).2.2.2 e24
    replace f2 : a7.eval (.tmp 2) = _ := (hR 2 rfl).trans f2
    have e3 : a7.eval (.tmp 3) = (.int .i64 0) := hP 4 (by decide)
    have f3 := e3
    replace K4 := K4.rl hr
    replace S4 := S4.rl hr
    replace HB := HB.trans (hBt.below HB.size (UpOld.all (bx := [⟨W2, none, (gs1 0), 2, .agg #[.bool false, .slice none 0 0], some (3, 24, 2), []⟩]) ⟨fun _ => u2, trivial⟩))
    clear hBt hr hR hP hX hU
    refine wp_ret ?_
    repeat (first | refine then_ret ?_ | refine scope_ret ?_ | refine block_ret ?_)
    exact bodyPost_ret (v := .tuple #[.agg #[.bool n_8, .slice a_8 r_8.length c_8], (.int .i64 0)]) (res_ct rfl f2 (lv_W2 b2) f3) hd ⟨_, rfl, ⟨_, _, rfl, outw_eq rfl G8 l8, by rw [eOf, hk0]; rfl⟩, HB⟩
end Lm
end Go.Proofs.YtdiiankcjgoecaaDoor

namespace Go.Proofs.YtdiiankcjgoecaaDoor
namespace Lm
open Go Go.RowKit
noncomputable def dig (x : Int) : List Int := @Classical.epsilon (List Int) ⟨[]⟩ fun ds => IsDec ds x
theorem dig_eq {ds : List Int} {x : Int} (h : IsDec ds x) : ds = dig x := isDec_one h (@Classical.epsilon_spec (List Int) (fun ds => IsDec ds x) ⟨ds, h⟩)
noncomputable def txt (z : Int) : ByteArray := if z < 0 then strOfNums (45 :: dig (z.natAbs : Int)) else strOfNums (dig (z.natAbs : Int))
theorem sg_abs {b : Bool} {x z : Int} (hx : 0 ≤ x) (h : sg b x = z) : x = (z.natAbs : Int) := by
  subst h
  cases b <;> simp [sg] <;> omega
section
variable {dst : Option Tmp} {ty : TypeId} {pos : String} {after : Array Edge} {guard : Option (Nat × Bool)} {a : Act} {w : World} {ats : Array TypeId} {i j : Nat} {z : Int} {L : Nat}
theorem has_wtext0 : Has Tryd.prog 13 := by unfold Has; kernel_rfl
theorem op_wtext (h : IsW z L (a.eval (.tmp i)) w) (hL : L ≤ 1000000) :
    Does Tryd.prog { dst, op := .call { callee := .value (.func 13), args := #[.tmp i], argTypes := ats }, type := ty, pos, after, guard } a.eval w fun v w' => Below w.heap.size w w' ∧ Eqs (.string (txt z)) v w' := by
  obtain ⟨ng, ao, n, cap, zs, e, A, l⟩ := h
  have hx := sg_abs (val_bounds A.sl.parts.2.2.2).1 A.worth
  by_cases hz : z < 0
  · refine does_call has_wtext0 _ (by simp only [List.map_toArray, List.map_cons, List.map_nil, e]) ((wtext_neg w ng ao n cap zs A.sl (by omega) (by rw [A.worth]; exact hz)).mono ?_)
    rintro e w' ⟨ds, rfl, hd, hb⟩
    refine ⟨_, rfl, hb, ?_⟩
    rw [hx] at hd
    rw [txt, if_pos hz, ← dig_eq hd]
    rfl
  · refine does_call has_wtext0 _ (by simp only [List.map_toArray, List.map_cons, List.map_nil, e]) ((wtext_pos w ng ao n cap zs A.sl (by omega) (by rw [A.worth]; exact hz)).mono ?_)
    rintro e w' ⟨ds, rfl, hd, hb⟩
    refine ⟨_, rfl, hb, ?_⟩
    rw [hx] at hd
    rw [txt, if_neg hz, ← dig_eq hd]
    rfl
end
section
variable {dst : Option Tmp} {ty : TypeId} {pos : String} {after : Array Edge} {guard : Option (Nat × Bool)} {a : Act} {w : World} {ats : Array TypeId} {i j : Nat} {z : Int} {L : Nat}
theorem has_wparse : Has Tryd.prog 11 := by unfold Has; kernel_rfl
theorem op_wparse {s : ByteArray} (h : a.eval (.tmp i) = .string s) (hT : Tabs w) :
    Does Tryd.prog { dst, op := .call { callee := .value (.func 11), args := #[.tmp i], argTypes := ats }, type := ty, pos, after, guard } a.eval w fun v w' => Below w.heap.size w w' ∧ Tup2 (OutW (zOf s) 6000) (Eqs (.int .i64 (eOf s))) v w' := by
  refine does_call has_wparse _ (by simp only [List.map_toArray, List.map_cons, List.map_nil, h]) ((wparse_z w s hT).mono ?_)
  rintro e w' ⟨v, rfl, ht, hb⟩
  exact ⟨_, rfl, hb, ht⟩
theorem has_wawakeD : Has Tryd.prog 9 := by unfold Has; kernel_rfl
theorem op_wawakeD : Does Tryd.prog { dst, op := .call { callee := .value (.func 9), args := #[], argTypes := ats }, type := ty, pos, after, guard } a.eval w fun v w' => Below w.heap.size w w' ∧ Eqs (.bool true) v w' := by
  refine does_call has_wawakeD #[] (by simp) ((wawake_any w).mono ?_)
  rintro e w' ⟨rfl, hb⟩
  exact ⟨_, rfl, hb, rfl⟩
end
end Lm
end Go.Proofs.YtdiiankcjgoecaaDoor

namespace Go.Proofs.YtdiiankcjgoecaaDoor
namespace Lm
open Go Go.RowKit
open Dm (Err Fine)
theorem bytes_strOf8 {ds : List Int} (h : ∀ c ∈ ds, 0 ≤ c ∧ c < 256) : bytesOf (strOfNums ds) = ds := by
  rw [bytesOf, strOfNums_data, List.map_map]
  conv => rhs; rw [← List.map_id ds]
  apply List.map_congr_left
  intro c hc
  have := h c hc
  simp only [Function.comp_apply, id]
  have e : (UInt8.ofNat c.toNat).toNat = c.toNat := by
    simp
    omega
  rw [e]
  omega
theorem bytes_from (t : ByteArray) (k : Nat) : bytesOf (t.extract k t.size) = (bytesOf t).drop k := by
  have : (t.extract k t.size).data.toList = t.data.toList.drop k := by
    rw [Lib.extract_data]
    rw [List.take_of_length_le (by simp)]
  rw [bytesOf, this, bytesOf, List.map_drop]
theorem get_bytes {s : ByteArray} {k : Nat} (hk : k < s.size) : ((s.get! k).toNat : Int) = (bytesOf s).getD k 0 := by
  rw [bytesOf_getD s k hk, Utf8W.get!_of_lt s k hk]
theorem dec_ex (n : Nat) : ∃ ds, IsDec ds (n : Int) := by
  induction n using Nat.strongRecOn with
  | _ n ih =>
    by_cases h : n < 10
    · refine ⟨[48 + (n : Int)], dig_cons.2 ⟨by omega, dig_nil⟩, by simp [dval, p10]; omega, ?_⟩
      by_cases h0 : n = 0
      · subst h0; exact .inl ⟨rfl, rfl⟩
      · exact .inr ⟨_, _, rfl, by omega⟩
    · obtain ⟨ds, h1, h2, h3⟩ := ih (n / 10) (by omega)
      refine ⟨ds ++ [48 + ((n % 10 : Nat) : Int)], dig_snoc h1 (by omega) (by omega), by rw [dval_snoc, h2]; omega, .inr ?_⟩
      rcases h3 with ⟨h3, _⟩ | ⟨c, cs, rfl, hc⟩
      · omega
      · exact ⟨c, cs ++ [48 + ((n % 10 : Nat) : Int)], rfl, hc⟩
theorem dig_dec (n : Nat) : IsDec (dig (n : Int)) (n : Int) := by
  obtain ⟨ds, h⟩ := dec_ex n
  rw [← dig_eq h]
  exact h
theorem isDec_ne {ds : List Int} {x : Int} (h : IsDec ds x) : 1 ≤ ds.length := by
  rcases h.2.2 with ⟨_, rfl⟩ | ⟨c, cs, rfl, _⟩ <;> simp
theorem isDec_len {ds : List Int} {x : Int} {n : Nat} (h : IsDec ds x) (hx : x < p10 n) (hn : 1 ≤ n) : ds.length ≤ n := by
  rcases h.2.2 with ⟨_, rfl⟩ | ⟨c, cs, rfl, hc⟩
  · simpa using hn
  · have h1 := h.1 c (by simp)
    have h2 := h.2.1
    simp only [dval] at h2
    have h3 := (dval_bounds (show Dig cs from fun y hy => h.1 y (by simp [hy]))).1
    apply Classical.byContradiction
    intro hl
    have h4 := p10_mono (m := n) (n := cs.length) (by simp at hl; omega)
    have h5 : 1 * p10 cs.length ≤ (c - 48) * p10 cs.length := Int.mul_le_mul_of_nonneg_right (by omega) (by have := p10_pos cs.length; omega)
    omega
theorem of_digits {r : ByteArray} {x : Int} (h : IsDec (bytesOf r) x) (hl : r.size ≤ 5120) : kOf r = 0 ∧ xOf r = x := by
  have h1 := isDec_ne h
  rw [bytesOf_length] at h1
  obtain ⟨g1, g2⟩ := of_fine (r := r) ⟨h1, hl, h.1⟩
  exact ⟨g1, by rw [g2, h.2.1]⟩
def Brief (z : Int) : Prop := (dig (z.natAbs : Int)).length ≤ 5000
theorem brief_of {z : Int} {xs : List Int} {ng : Bool} (hl : Limb xs) (h : sg ng (val xs) = z) (hn : xs.length ≤ 400) : Brief z := by
  have h1 := sg_abs (val_bounds hl).1 h
  have h2 := (val_bounds hl).2
  have h3 := pw_le_p10 xs.length
  have := isDec_len (dig_dec z.natAbs) (n := 10 * xs.length + 1) (by
    have h4 := p10_mono (m := 10 * xs.length) (n := 10 * xs.length + 1) (by omega)
    omega) (by omega)
  unfold Brief
  omega
theorem dig8 {x : Int} {ds : List Int} (h : IsDec ds x) : ∀ c ∈ ds, 0 ≤ c ∧ c < 256 := fun c hc => by have := h.1 c hc; omega
theorem txt_pos {z : Int} (h : ¬ z < 0) : bytesOf (txt z) = dig (z.natAbs : Int) := by
  rw [txt, if_neg h, bytes_strOf8 (dig8 (dig_dec _))]
theorem txt_neg {z : Int} (h : z < 0) : bytesOf (txt z) = 45 :: dig (z.natAbs : Int) := by
  rw [txt, if_pos h, bytes_strOf8]
  intro c hc
  rcases List.mem_cons.1 hc with rfl | hc
  · omega
  · exact dig8 (dig_dec _) c hc
theorem ms_pos {z : Int} (h : ¬ z < 0) : msplit (txt z) = (false, txt z) := by
  have hb := txt_pos h
  have hd := dig_dec z.natAbs
  have hn := isDec_ne hd
  have hs : (txt z).size = (dig (z.natAbs : Int)).length := by rw [← bytesOf_length, hb]
  have h0 := get_bytes (s := txt z) (k := 0) (by omega)
  have h1 : 48 ≤ (bytesOf (txt z)).getD 0 0 ∧ (bytesOf (txt z)).getD 0 0 ≤ 57 := by
    rw [hb]
    exact dig_getD hd.1 (by omega)
  rw [msplit, if_neg (by omega), if_neg (by omega)]
theorem ms_neg {z : Int} (h : z < 0) : msplit (txt z) = (true, (txt z).extract 1 (txt z).size) ∧ ((txt z).get! 0).toNat = 45 ∧ 1 ≤ (txt z).size := by
  have hb := txt_neg h
  have hs : (txt z).size = (dig (z.natAbs : Int)).length + 1 := by rw [← bytesOf_length, hb]; rfl
  have h0 := get_bytes (s := txt z) (k := 0) (by omega)
  have h1 : (bytesOf (txt z)).getD 0 0 = 45 := by rw [hb]; rfl
  refine ⟨?_, by omega, by omega⟩
  rw [msplit, if_neg (by omega), if_pos (by omega)]
theorem back_txt {z : Int} (h : Brief z) : zOf (txt z) = z ∧ eOf (txt z) = 0 := by
  unfold Brief at h
  by_cases hz : z < 0
  · have hm := (ms_neg hz).1
    have hb : bytesOf ((txt z).extract 1 (txt z).size) = dig (z.natAbs : Int) := by rw [bytes_from, txt_neg hz]; rfl
    have := of_digits (r := (txt z).extract 1 (txt z).size) (x := (z.natAbs : Int)) (by rw [hb]; exact dig_dec _) (by rw [← bytesOf_length, hb]; omega)
    rw [zOf, eOf, hm]
    refine ⟨?_, this.1⟩
    simp only [this.2, sg]
    simp
    omega
  · have hb := txt_pos hz
    have := of_digits (r := txt z) (x := (z.natAbs : Int)) (by rw [hb]; exact dig_dec _) (by rw [← bytesOf_length, hb]; omega)
    rw [zOf, eOf, ms_pos hz]
    refine ⟨?_, this.1⟩
    simp only [this.2, sg]
    simp
    omega
theorem back_other {z : Int} (hz : z < 0) (h : Brief z) : zOf (⟨#[226, 136, 146]⟩ ++ (txt z).extract 1 (txt z).size) = z ∧ eOf (⟨#[226, 136, 146]⟩ ++ (txt z).extract 1 (txt z).size) = 0 := by
  unfold Brief at h
  have hb : bytesOf ((txt z).extract 1 (txt z).size) = dig (z.natAbs : Int) := by rw [bytes_from, txt_neg hz]; rfl
  generalize (txt z).extract 1 (txt z).size = t at hb
  have hs : bytesOf (⟨#[226, 136, 146]⟩ ++ t) = 226 :: 136 :: 146 :: bytesOf t := by
    rw [bytesOf, bytesOf]
    simp
  generalize (⟨#[226, 136, 146]⟩ ++ t : ByteArray) = s at hs
  have hn : s.size = (bytesOf t).length + 3 := by rw [← bytesOf_length, hs]; rfl
  have h0 := get_bytes (s := s) (k := 0) (by omega)
  have h1 := get_bytes (s := s) (k := 1) (by omega)
  have h2 := get_bytes (s := s) (k := 2) (by omega)
  rw [hs] at h0 h1 h2
  simp only [List.getD_cons_zero, List.getD_cons_succ] at h0 h1 h2
  have hm : msplit s = (true, s.extract 3 s.size) := by rw [msplit, if_pos (by omega)]
  have he : bytesOf (s.extract 3 s.size) = dig (z.natAbs : Int) := by rw [bytes_from, hs, ← hb]; rfl
  have := of_digits (r := s.extract 3 s.size) (x := (z.natAbs : Int)) (by rw [he]; exact dig_dec _) (by rw [← bytesOf_length, he]; omega)
  rw [zOf, eOf, hm]
  refine ⟨?_, this.1⟩
  simp only [this.2, sg]
  simp
  omega
end Lm
end Go.Proofs.YtdiiankcjgoecaaDoor

namespace Go.Proofs.YtdiiankcjgoecaaDoor
namespace Lm
open Go Go.RowKit
theorem i64_wfD {v : Int} (h : (Lit.int .i64 v).wf = true) : -9223372036854775808 ≤ v ∧ v ≤ 9223372036854775807 := by
  simp [Lit.wf, IntKind.min, IntKind.max, IntKind.signed, IntKind.bits] at h
  omega
theorem intI_in (z : Int) : -9223372036854775808 ≤ intI z ∧ intI z ≤ 9223372036854775807 := by
  unfold intI
  split <;> omega
theorem intI_of {z : Int} (h : inI z = true) : intI z = z := by
  unfold intI
  rw [if_pos (of_decide_eq_true h)]
theorem txt_size {z : Int} (h : Brief z) : 1 ≤ (txt z).size ∧ (txt z).size ≤ 5001 := by
  unfold Brief at h
  have hn := isDec_ne (dig_dec z.natAbs)
  by_cases hz : z < 0
  · rw [← bytesOf_length, txt_neg hz, List.length_cons]; omega
  · rw [← bytesOf_length, txt_pos hz]; omega
noncomputable def omin (z : Int) : ByteArray := ⟨#[226, 136, 146]⟩ ++ (txt z).extract 1 (txt z).size
theorem omin_size {z : Int} (h : Brief z) : (⟨#[226, 136, 146]⟩ ++ (txt z).extract 1 (txt z).size : ByteArray).size ≤ 1000000 := by
  have h1 := (txt_size h).2
  rw [ByteArray.size_append]
  have h2 : ((txt z).extract 1 (txt z).size).size ≤ (txt z).size := by
    rw [← bytesOf_length, bytes_from, List.length_drop, bytesOf_length]
    omega
  have h3 : (⟨#[226, 136, 146]⟩ : ByteArray).size = 3 := rfl
  omega
theorem omin_back {z : Int} (hz : z < 0) (h : Brief z) : zOf (omin z) = z ∧ eOf (omin z) = 0 := back_other hz h
section
variable {dst : Option Tmp} {ty : TypeId} {pos : String} {after : Array Edge} {guard : Option (Nat × Bool)} {a : Act} {w : World} {ats : Array TypeId} {i j : Nat} {z : Int} {L : Nat}
theorem op_wintv {v : Int} (h : IsW v L (a.eval (.tmp i)) w) (h1 : -9223372036854775808 ≤ v) (h2 : v ≤ 9223372036854775807) :
    Does Tryd.prog { dst, op := .call { callee := .value (.func 20), args := #[.tmp i], argTypes := ats }, type := ty, pos, after, guard } a.eval w fun v' w' => Below w.heap.size w w' ∧ Tup2 (Eqs (.int .i64 v)) (Eqs (.bool true)) v' w' := by
  have h3 := op_wint (dst := dst) (ty := ty) (pos := pos) (after := after) (guard := guard) (ats := ats) h
  rw [show intI v = v by unfold intI; rw [if_pos ⟨h1, h2⟩], show inI v = true from decide_eq_true ⟨h1, h2⟩] at h3
  exact h3
theorem op_neqEf {u : Int} (h1 : a.eval (.tmp i) = .int .i64 u) (h : u = 0) :
    Does Tryd.prog { dst, op := .binOp .neq 27 (.tmp i) (.const (.int .i64 0)) 27, type := ty, pos, after, guard } a.eval w fun v' w' => Below w.heap.size w w' ∧ Eqs (.bool false) v' w' :=
  (op_neqkE h1).mono fun _ _ ⟨hb, e⟩ => ⟨hb, by rw [Eqs, show _ = _ from e, decide_eq_true h]; rfl⟩
theorem op_neq8f {u v : Int} (h1 : a.eval (.tmp i) = .int .u8 u) (h : u = v) :
    Does Tryd.prog { dst, op := .binOp .neq 5 (.tmp i) (.const (.int .u8 v)) 5, type := ty, pos, after, guard } a.eval w fun v' w' => Below w.heap.size w w' ∧ Eqs (.bool false) v' w' := by
  subst h
  refine does_bin (v := .bool false) ?_ ?_ ⟨Below.refl _ _, rfl⟩
  · rw [h1]; simp [go_sem, Act.eval]
  · rw [h1]; simp [go_sem, Act.eval]
theorem op_adds {c s : ByteArray} (h1 : a.eval (.tmp i) = .string s) (hs : (c ++ s).size ≤ 1000000) :
    Does Tryd.prog { dst, op := .binOp .add 9 (.const (.string c)) (.tmp i) 9, type := ty, pos, after, guard } a.eval w fun v' w' => Below w.heap.size w w' ∧ Eqs (.string (c ++ s)) v' w' := by
  have hs' : c.size + s.size ≤ 1000000 := by rw [← ByteArray.size_append]; exact hs
  refine does_bin (v := .string (c ++ s)) ?_ ?_ ⟨Below.refl _ _, rfl⟩
  · rw [h1]; simp [go_sem, Act.eval]
  · rw [h1]; simp [Act.eval]; go_simp; omega
theorem op_slhi {ao : Option Addr} {n c k : Nat} {x : Operand} (h : a.eval (.tmp i) = .slice ao n c) (hx : a.eval x = .int .i64 (k : Int)) (hk : k ≤ c) : Does Tryd.prog { dst, op := .slice 22 (.tmp i) none (some x) none, type := ty, pos, after, guard } a.eval w fun v' w' => Below w.heap.size w w' ∧ Eqs (.slice ao k c) v' w' := by
  have e : (execOp a.eval { dst, op := .slice 22 (.tmp i) none (some x) none, type := ty, pos, after, guard }).run Tryd.prog w = .ok (.value (.slice ao k c)) w := by
    simp only [execOp, Option.map, h, hx]
    go_simp
  refine ⟨?_⟩
  unfold Turns
  rw [e]
  exact ⟨Below.refl _ _, rfl⟩
theorem op_stmag {g : Nat} {b : Bool} {ao bo : Option Addr} {n cc p q : Nat} (hp : a.eval (.tmp i) = .pointer (some ⟨g, 1, none⟩)) (hv : a.eval (.tmp j) = .slice bo p q) (hb : BoxV W2 w g (.agg #[.bool b, .slice ao n cc])) :
    Does Tryd.prog { dst, op := .store 22 (.tmp i) (.tmp j), type := ty, pos, after, guard } a.eval w fun _ w' => BoxV W2 w' g (.agg #[.bool b, .slice bo p q]) ∧ Only w w' g := by
  have hbx := hb.box
  obtain ⟨b1, b2, b3, b4⟩ := hbx.facts
  have e : (execOp a.eval { dst, op := .store 22 (.tmp i) (.tmp j), type := ty, pos, after, guard }).run Tryd.prog w = .ok .skip (w.setCell ⟨g, 1, none⟩ (.slice bo p q)) := by
    simp only [execOp, hp, hv]
    go_simp
  refine ⟨?_⟩
  unfold Turns
  rw [e]
  have h1 := heap_setCell_same w g 1 _ _ (.slice bo p q) hbx
  exact ⟨Box.v h1, rfl, rfl, rfl, by simp [World.setCell], fun k hk => Below.heap_setCell _ _ _ _ (by simpa using hk)⟩
end
set_option maxRecDepth 20000 in
set_option maxHeartbeats 4000000 in
theorem wback_law (w : World) (nx : Bool) (ax : Option Addr) (mx cx : Nat) (xs : List Int) (zx : Int) (v : Int) (hT : Tabs w) (Ax : Ag w nx ax mx cx xs zx) (gx : mx ≤ 35184372088832) (Wv : (Lit.int .i64 v).wf = true) :
    Calls Tryd.prog 4 #[.agg #[.bool nx, .slice ax mx cx], .int .i64 v] w fun e w' => e = .returned (.bool true) ∧ Below w.heap.size w w' := by
  go_enter Tryd.func4, Tryd.ntmps4
  generalize hA : (Act.mk _ _) = aa
  have hn : aa.tmps.size = 93 := by rw [← hA]; rfl
  have hd : aa.defers = [] := by rw [← hA]
  have f0 : aa.eval (.tmp 0) = .agg #[.bool nx, .slice ax mx cx] := by rw [← hA]; rfl
  have f1 : aa.eval (.tmp 1) = .int .i64 v := by rw [← hA]; rfl
  clear hA
  have HB : Below w.heap.size w w := Below.refl _ _
  obtain ⟨hv1, hv2⟩ := i64_wfD Wv
  refine wp_seq ?_
  refine region4 [some 2, some 4] [(fun _ _ => True), Eqs ((.bool false))] [⟨W2, some 0, 0, 2, .agg #[.bool nx, .slice ax mx cx], none, []⟩] [] (by kernel_rfl) hn rfl (by kernel_rfl) (by kernel_rfl) (by kernel_rfl) (by kernel_rfl) (by kernel_rfl) (by kernel_rfl) ⟨True.mono4, Eqs.mono4 _, trivial⟩ (ok_cons W2ok ok_nil) (IsOld.all (bx := [⟨W2, some 0, 0, 2, .agg #[.bool nx, .slice ax mx cx], none, []⟩]) ⟨someNe, trivial⟩) (DisOld.all (bx := [⟨W2, some 0, 0, 2, .agg #[.bool nx, .slice ax mx cx], none, []⟩]) ⟨someNe, trivial⟩) ?_ ?_
  · exact ⟨.alloc 0 _ rfl rfl (.inr ⟨_, rfl, w2_cs, fun a_ hR => (hR 0 rfl).trans f0⟩) rfl rfl rfl rfl rfl,
      .norm 4 rfl rfl rfl (fun a_ w_ hn_ hBt hr hR hD hO hS => op_assign rfl),
      trivial⟩
  intro a1 w1 gs1 hn1 hd1 hBt hr hR hP hX hU
  replace hn := hn1; replace hd := hd1.trans hd
  have b2 : BoxV W2 w1 (gs1 0) (.agg #[.bool nx, .slice ax mx cx]) := (hX 0 _ rfl).2.2.2
  have f2 := (hX 0 _ rfl).1
  have u2 : w.heap.size ≤ gs1 0 := Nat.le_trans HB.size ((hX 0 _ rfl).2.2.1 (by simp))
  replace f1 := (hR 1 rfl).trans f1
  have e4 : a1.eval (.tmp 4) = (.bool false) := hP 1 (by decide)
  have f4 := e4
  replace Ax := Ax.rl hr
  replace HB := HB.trans (hBt.below HB.size (UpOld.all (bx := [⟨W2, some 0, 0, 2, .agg #[.bool nx, .slice ax mx cx], none, []⟩]) ⟨someNe, trivial⟩))
  clear hBt hr hR hP hX hU
  refine wp_seq ?_
  refine wp_seq ?_
  refine region4 [some 12, some 13] [Eqs (.bool true), Eqs (.bool false)] [] [] (by kernel_rfl) hn rfl (by kernel_rfl) (by kernel_rfl) (by kernel_rfl) (by kernel_rfl) (by kernel_rfl) (by kernel_rfl) ⟨Eqs.mono4 _, Eqs.mono4 _, trivial⟩ ok_nil (IsOld.all (bx := []) trivial) (DisOld.all (bx := []) trivial) ?_ ?_
  · exact ⟨.norm 12 rfl rfl rfl (fun a_ w_ hn_ hBt hr hR hD hO hS => op_wawakeD),
      .norm 13 rfl rfl rfl (fun a_ w_ hn_ hBt hr hR hD hO hS => op_not (show a_.eval (.tmp 12) = .bool true from hD 0 rfl)),
      trivial⟩
  intro a2 w2 gs2 hn2 hd2 hBt hr hR hP hX hU
  replace hn := hn2; replace hd := hd2.trans hd
  replace b2 := b2.keep hBt trivial
  replace f1 := (hR 1 rfl).trans f1
  replace f2 := (hR 2 rfl).trans f2
  replace f4 := (hR 4 rfl).trans f4
  have e13 : a2.eval (.tmp 13) = .bool false := hP 1 (by decide)
  have f13 := e13
  replace Ax := Ax.rl hr
  replace HB := HB.trans (hBt.below HB.size (UpOld.all (bx := []) trivial))
  clear hBt hr hR hP hX hU
  refine wp_cond_false f13 ?_
  refine wp_skip ?_
  refine wp_seq ?_
  refine wp_seq ?_
  refine region4 [some 14, some 15, some 16] [Eqs (.agg #[.bool nx, .slice ax mx cx]), Eqs (.int .i64 (1 + (mx : Int))), Eqs (.bool (decide (1500 < (1 + (mx : Int)))))] [] [] (by kernel_rfl) hn rfl (by kernel_rfl) (by kernel_rfl) (by kernel_rfl) (by kernel_rfl) (by kernel_rfl) (by kernel_rfl) ⟨Eqs.mono4 _, Eqs.mono4 _, Eqs.mono4 _, trivial⟩ ok_nil (IsOld.all (bx := []) trivial) (DisOld.all (bx := []) trivial) ?_ ?_
  · exact ⟨.norm 14 rfl rfl rfl (fun a_ w_ hn_ hBt hr hR hD hO hS => op_loadv W2ok ((hR 2 rfl).trans f2) (b2.keep hBt trivial)),
      .norm 15 rfl rfl rfl (fun a_ w_ hn_ hBt hr hR hD hO hS => op_lenw (show a_.eval (.tmp 14) = .agg #[.bool nx, .slice ax mx cx] from hD 0 rfl) (by omega)),
      .norm 16 rfl rfl rfl (fun a_ w_ hn_ hBt hr hR hD hO hS => op_gtrk (show a_.eval (.tmp 15) = .int .i64 (1 + (mx : Int)) from hD 1 rfl)),
      trivial⟩
  intro a3 w3 gs3 hn3 hd3 hBt hr hR hP hX hU
  replace hn := hn3; replace hd := hd3.trans hd
  replace b2 := b2.keep hBt trivial
  replace f1 := (hR 1 rfl).trans f1
  replace f2 := (hR 2 rfl).trans f2
  replace f4 := (hR 4 rfl).trans f4
  have e16 : a3.eval (.tmp 16) = .bool (decide (1500 < (1 + (mx : Int)))) := hP 2 (by decide)
  have f16 := e16
  replace Ax := Ax.rl hr
  replace HB := HB.trans (hBt.below HB.size (UpOld.all (bx := []) trivial))
  clear hBt hr hR hP hX hU
  refine wp_cond_split f16 (fun hc16 => ?_) (fun hc16 => ?_)
  · skip
    refine wp_seq ?_
    refine region4 [some 4] [Eqs ((.bool true))] [] [] (by kernel_rfl) hn rfl (by kernel_rfl) (by kernel_rfl) (by kernel_rfl) (by kernel_rfl) (by kernel_rfl) (by kernel_rfl) ⟨Eqs.mono4 _, trivial⟩ ok_nil (IsOld.all (bx := []) trivial) (DisOld.all (bx := []) trivial) ?_ ?_
    · exact ⟨.norm 4 rfl rfl rfl (fun a_ w_ hn_ hBt hr hR hD hO hS => op_assign rfl),
        trivial⟩
    intro a4 w4 gs4 hn4 hd4 hBt hr hR hP hX hU
    replace hn := hn4; replace hd := hd4.trans hd
    replace b2 := b2.keep hBt trivial
    replace f1 := (hR 1 rfl).trans f1
    replace f2 := (hR 2 rfl).trans f2
    have e4 : a4.eval (.tmp 4) = (.bool true) := hP 0 (by decide)
    have f4 := e4
    replace Ax := Ax.rl hr
    replace HB := HB.trans (hBt.below HB.size (UpOld.all (bx := []) trivial))
    clear hBt hr hR hP hX hU
    refine wp_ret ?_
    repeat (first | refine then_ret ?_ | refine scope_ret ?_ | refine block_ret ?_)
    exact bodyPost_ret (v := .bool true) (res_t rfl f4) hd ⟨rfl, HB⟩
  · skip
    have hlen := of_decide_eq_false hc16
    have ox := Ax.sl.parts.1; have Lx : xs.length ≤ 1500 := by omega
    refine wp_skip ?_
    refine wp_seq ?_
    refine wp_seq ?_
    refine region4 [some 17, some 18, some 19, some 20] [Eqs (.pointer (some ⟨gs1 0, 1, none⟩)), Eqs (.slice ax mx cx), Eqs (.int .i64 (mx : Int)), Eqs (.bool (decide (400 < (mx : Int))))] [] [] (by kernel_rfl) hn rfl (by kernel_rfl) (by kernel_rfl) (by kernel_rfl) (by kernel_rfl) (by kernel_rfl) (by kernel_rfl) ⟨Eqs.mono4 _, Eqs.mono4 _, Eqs.mono4 _, Eqs.mono4 _, trivial⟩ ok_nil (IsOld.all (bx := []) trivial) (DisOld.all (bx := []) trivial) ?_ ?_
    · exact ⟨.norm 17 rfl rfl rfl (fun a_ w_ hn_ hBt hr hR hD hO hS => op_fa fa_mag ((hR 2 rfl).trans f2)),
        .norm 18 rfl rfl rfl (fun a_ w_ hn_ hBt hr hR hD hO hS => op_ldmag (show a_.eval (.tmp 17) = .pointer (some ⟨gs1 0, 1, none⟩) from hD 0 rfl) (b2.keep hBt trivial)),
        .norm 19 rfl rfl rfl (fun a_ w_ hn_ hBt hr hR hD hO hS => op_len (show a_.eval (.tmp 18) = .slice ax mx cx from hD 1 rfl)),
        .norm 20 rfl rfl rfl (fun a_ w_ hn_ hBt hr hR hD hO hS => op_gtrk (show a_.eval (.tmp 19) = .int .i64 (mx : Int) from hD 2 rfl)),
        trivial⟩
    intro a5 w5 gs5 hn5 hd5 hBt hr hR hP hX hU
    replace hn := hn5; replace hd := hd5.trans hd
    replace b2 := b2.keep hBt trivial
    replace f1 := (hR 1 rfl).trans f1
    replace f2 := (hR 2 rfl).trans f2
    replace f4 := (hR 4 rfl).trans f4
    have e20 : a5.eval (.tmp 20) = .bool (decide (400 < (mx : Int))) := hP 3 (by decide)
    have f20 := e20
    replace Ax := Ax.rl hr
    replace HB := HB.trans (hBt.below HB.size (UpOld.all (bx := []) trivial))
    clear hBt hr hR hP hX hU
    refine wp_cond_split f20 (fun hc20 => ?_) (fun hc20 => ?_)
    · skip
      have h4 := of_decide_eq_true hc20
      have hcx := Ax.sl.parts.2.1
      obtain ⟨zt, hzt⟩ : ∃ z, sg nx (val (xs.take 400)) = z := ⟨_, rfl⟩
      have Lt : (xs.take 400).length ≤ 400 := by rw [List.length_take]; omega
      have hBr : Brief zt := brief_of (limb_take Ax.sl.parts.2.2.2 400) hzt Lt
      refine wp_of_good (by kernel_rfl) (by kernel_rfl) (fun w_0 hb_0 => ?_)
      replace b2 := b2.below hb_0
      replace Ax := Ax.below hb_0
      replace HB := HB.trans (hb_0.mono HB.size); clear hb_0
      refine good6 0 4 (some 4) [some 21, some 22, some 23, some 24, none] [Eqs (.pointer (some ⟨gs1 0, 1, none⟩)), Eqs (.slice ax mx cx), Eqs (.slice ax 400 cx), Eqs (.pointer (some ⟨gs1 0, 1, none⟩)), (fun _ _ => True)] [] [] [] [] [] (by kernel_rfl) hn rfl (by kernel_rfl) (by kernel_rfl) (by kernel_rfl) (by kernel_rfl) (by kernel_rfl) (by kernel_rfl) (by kernel_rfl) (by kernel_rfl) (by kernel_rfl) (by decide) ⟨Eqs.mono5 _, Eqs.mono5 _, Eqs.mono5 _, Eqs.mono5 _, True.mono5, trivial⟩ trivial xok_nil ok_nil (IsOld.all (bx := []) trivial) (DisOld.all (bx := []) trivial) trivial ?_ ?_ ?_
      · exact ⟨.inr (.norm 21 rfl rfl (nxt rfl) rfl (fun a_ w_ hn_ hBt hr hR hD hO hS => d6 rfl (op_fa fa_mag ((hR 2 rfl).trans f2)))),
          .inr (.norm 22 rfl rfl (nxt rfl) rfl (fun a_ w_ hn_ hBt hr hR hD hO hS => d6 rfl (op_ldmag (show a_.eval (.tmp 21) = .pointer (some ⟨gs1 0, 1, none⟩) from hD 0 rfl) (b2.keep5 hBt trivial trivial)))),
          .inr (.norm 23 rfl rfl (nxt rfl) rfl (fun a_ w_ hn_ hBt hr hR hD hO hS => d6 rfl (op_slhi (k := 400) (show a_.eval (.tmp 22) = .slice ax mx cx from hD 1 rfl) rfl (by omega)))),
          .inr (.norm 24 rfl rfl (nxt rfl) rfl (fun a_ w_ hn_ hBt hr hR hD hO hS => d6 rfl (op_fa fa_mag ((hR 2 rfl).trans f2)))),
          .inl rfl,
          trivial⟩
      rotate_left
      · exact fun h => by cases h
      intro t_ o_ ht_ ho_ a6 w6 gs6 B6 T6 F_
      obtain rfl := Option.some.inj ht_; obtain rfl := Option.some.inj ho_; clear ht_ ho_
      obtain ⟨hn6, hd6, hBt, hr, hR, hP, hTs, hLi, hX, hU, hRel, hSl⟩ := F_
      replace hn := hn6; replace hd := hd6.trans hd
      replace b2 := b2.keep5 hBt trivial trivial
      replace f1 := (hR 1 rfl).trans f1
      replace f2 := (hR 2 rfl).trans f2
      replace f4 := (hR 4 rfl).trans f4
      have e23 : a6.eval (.tmp 23) = .slice ax 400 cx := hP 2 (by decide)
      have f23 := e23
      have e24 : a6.eval (.tmp 24) = .pointer (some ⟨gs1 0, 1, none⟩) := hP 3 (by decide)
      have f24 := e24
      replace Ax := Ax.ru hr
      replace HB := HB.trans (hBt.below HB.size (UpOld.all (bx := []) trivial) (UpX.all (bx := []) trivial))
      clear hBt hr hR hP hTs hLi hX hU hRel hSl
      refine ⟨trivial, (op_stmag f24 f23 b2).mono ?_⟩
      rintro v_ w7 ⟨b2_, on_⟩
      have rl_ := Rl.of_only W2ok b2 on_
      replace b2 := b2_; clear b2_
      replace Ax := Ax.rl rl_
      have At : Ag w7 nx ax 400 cx (xs.take 400) zt := ⟨Ax.sl.take (by omega), hzt⟩
      replace HB := HB.trans (on_.below u2); clear on_ rl_
      change Good _ _ _ _ _ a6 _
      refine good6 5 5 none [some 21, some 22, some 23, some 24, none] [(fun _ _ => True), (fun _ _ => True), Eqs (.slice ax 400 cx), Eqs (.pointer (some ⟨gs1 0, 1, none⟩)), (fun _ _ => True)] [] [] [] [] [] (by kernel_rfl) hn rfl (by kernel_rfl) (by kernel_rfl) (by kernel_rfl) (by kernel_rfl) (by kernel_rfl) (by kernel_rfl) (by kernel_rfl) (by kernel_rfl) (by kernel_rfl) (by decide) ⟨True.mono5, True.mono5, Eqs.mono5 _, Eqs.mono5 _, True.mono5, trivial⟩ trivial xok_nil ok_nil (IsOld.all (bx := []) trivial) (DisOld.all (bx := []) trivial) ⟨⟨⟨⟨⟨trivial, trivial⟩, trivial⟩, f23⟩, f24⟩, trivial⟩ ?_ ?_ ?_
      · exact ⟨.inl rfl,
          .inl rfl,
          .inl rfl,
          .inl rfl,
          .inl rfl,
          trivial⟩
      · exact fun _ _ h => by cases h
      intro _ a8 w8 gs8 B8 T8 F_
      obtain ⟨hn8, hd8, hBt, hr, hR, hP, hTs, hLi, hX, hU, hRel, hSl⟩ := F_
      replace hn := hn8; replace hd := hd8.trans hd
      replace b2 := b2.keep5 hBt trivial trivial
      replace f1 := (hR 1 rfl).trans f1
      replace f2 := (hR 2 rfl).trans f2
      replace f4 := (hR 4 rfl).trans f4
      replace Ax := Ax.ru hr
      replace At := At.ru hr
      replace HB := HB.trans (hBt.below HB.size (UpOld.all (bx := []) trivial) (UpX.all (bx := []) trivial))
      clear hBt hr hR hP hTs hLi hX hU hRel hSl
      refine wp_seq ?_
      refine region4 [some 25, some 26, some 5] [Eqs (.agg #[.bool nx, .slice ax 400 cx]), Eqs (.string (txt zt)), Eqs (.string (txt zt))] [] [] (by kernel_rfl) hn rfl (by kernel_rfl) (by kernel_rfl) (by kernel_rfl) (by kernel_rfl) (by kernel_rfl) (by kernel_rfl) ⟨Eqs.mono4 _, Eqs.mono4 _, Eqs.mono4 _, trivial⟩ ok_nil (IsOld.all (bx := []) trivial) (DisOld.all (bx := []) trivial) ?_ ?_
      · exact ⟨.norm 25 rfl rfl rfl (fun a_ w_ hn_ hBt hr hR hD hO hS => op_loadv W2ok ((hR 2 rfl).trans f2) (b2.keep hBt trivial)),
          .norm 26 rfl rfl rfl (fun a_ w_ hn_ hBt hr hR hD hO hS => op_wtext (isw_eq (show a_.eval (.tmp 25) = .agg #[.bool nx, .slice ax 400 cx] from hD 0 rfl) (At.rl hr) Lt) (by omega)),
          .norm 5 rfl rfl rfl (fun a_ w_ hn_ hBt hr hR hD hO hS => op_assign (show a_.eval (.tmp 26) = .string (txt zt) from hD 1 rfl)),
          trivial⟩
      intro a9 w9 gs9 hn9 hd9 hBt hr hR hP hX hU
      replace hn := hn9; replace hd := hd9.trans hd
      replace b2 := b2.keep hBt trivial
      replace f1 := (hR 1 rfl).trans f1
      replace f2 := (hR 2 rfl).trans f2
      replace f4 := (hR 4 rfl).trans f4
      have e5 : a9.eval (.tmp 5) = .string (txt zt) := hP 2 (by decide)
      have f5 := e5
      replace Ax := Ax.rl hr
      replace At := At.rl hr
      replace HB := HB.trans (hBt.below HB.size (UpOld.all (bx := []) trivial))
      clear hBt hr hR hP hX hU
      refine wp_seq ?_
      refine region4 [some 28, some 29, some 27, some 30, some 31, some 6, none, some 7] [Eqs (.string (txt zt)), Tup2 (OutW (zOf (txt zt)) (6000)) (Eqs (.int .i64 (eOf (txt zt)))), Tup2 (OutW (zOf (txt zt)) (6000)) (Eqs (.int .i64 (eOf (txt zt)))), OutW (zOf (txt zt)) (6000), Eqs (.int .i64 (eOf (txt zt))), (fun _ _ => True), (fun _ _ => True), Eqs (.int .i64 (eOf (txt zt)))] [⟨W2, some 5, 0, 6, .agg #[.bool false, .slice none 0 0], some (6, 30, 3), []⟩] [] (by kernel_rfl) hn rfl (by kernel_rfl) (by kernel_rfl) (by kernel_rfl) (by kernel_rfl) (by kernel_rfl) (by kernel_rfl) ⟨Eqs.mono4 _, Tup2.mono4 (OutW.mono4 _ _) (Eqs.mono4 _), Tup2.mono4 (OutW.mono4 _ _) (Eqs.mono4 _), OutW.mono4 _ _, Eqs.mono4 _, True.mono4, True.mono4, Eqs.mono4 _, trivial⟩ (ok_cons W2ok ok_nil) (IsOld.all (bx := [⟨W2, some 5, 0, 6, .agg #[.bool false, .slice none 0 0], some (6, 30, 3), []⟩]) ⟨someNe, trivial⟩) (DisOld.all (bx := [⟨W2, some 5, 0, 6, .agg #[.bool false, .slice none 0 0], some (6, 30, 3), []⟩]) ⟨someNe, trivial⟩) ?_ ?_
      · exact ⟨.norm 28 rfl rfl rfl (fun a_ w_ hn_ hBt hr hR hD hO hS => op_mv ((hR 5 rfl).trans f5)),
          .norm 29 rfl rfl rfl (fun a_ w_ hn_ hBt hr hR hD hO hS => op_wparse (show a_.eval (.tmp 28) = .string (txt zt) from hD 0 rfl) (hT.below (HB.trans (hBt.below HB.size (UpOld.all (bx := [⟨W2, some 5, 0, 6, .agg #[.bool false, .slice none 0 0], some (6, 30, 3), []⟩]) ⟨someNe, trivial⟩))))),
          .norm 27 rfl rfl rfl (fun a_ w_ hn_ hBt hr hR hD hO hS => op_mvp (p := Tup2 (OutW (zOf (txt zt)) (6000)) (Eqs (.int .i64 (eOf (txt zt))))) (show Tup2 (OutW (zOf (txt zt)) (6000)) (Eqs (.int .i64 (eOf (txt zt)))) (a_.eval (.tmp 29)) w_ from hD 1 rfl)),
          .norm 30 rfl rfl rfl (fun a_ w_ hn_ hBt hr hR hD hO hS => op_ex20 (show Tup2 (OutW (zOf (txt zt)) (6000)) (Eqs (.int .i64 (eOf (txt zt)))) (a_.eval (.tmp 27)) w_ from hD 2 rfl)),
          .norm 31 rfl rfl rfl (fun a_ w_ hn_ hBt hr hR hD hO hS => op_ex21 (show Tup2 (OutW (zOf (txt zt)) (6000)) (Eqs (.int .i64 (eOf (txt zt)))) (a_.eval (.tmp 27)) w_ from hD 2 rfl)),
          .alloc 0 _ rfl rfl (.inl ⟨rfl, rfl⟩) rfl rfl rfl rfl rfl,
          .store 0 _ _ _ rfl rfl rfl rfl rfl rfl rfl (fun ia h => by cases h; rfl) rfl rfl rfl OutW.cs,
          .norm 7 rfl rfl rfl (fun a_ w_ hn_ hBt hr hR hD hO hS => op_assign (show a_.eval (.tmp 31) = .int .i64 (eOf (txt zt)) from hD 4 rfl)),
          trivial⟩
      intro a10 w10 gs10 hn10 hd10 hBt hr hR hP hX hU
      replace hn := hn10; replace hd := hd10.trans hd
      have ne2_6 : (gs1 0) ≠ gs10 0 := by have h1 := b2.lt; have h2 := (hX 0 _ rfl).2.2.1 (by simp); omega
      replace b2 := b2.keep hBt ⟨someNe, trivial⟩
      obtain ⟨n_11, a_11, c_11, r_11, e30, G11, l11⟩ : OutW (zOf (txt zt)) (6000) (a10.eval (.tmp 30)) w10 := hP 3 (by decide)
      have A11 := G11.ag
      have b6 : BoxV W2 w10 (gs10 0) (.agg #[.bool n_11, .slice a_11 r_11.length c_11]) := boxv_of (hX 0 _ rfl).2.2.2 e30
      have f6 := (hX 0 _ rfl).1
      have u6 : w.heap.size ≤ gs10 0 := Nat.le_trans HB.size ((hX 0 _ rfl).2.2.1 (by simp))
      replace f1 := (hR 1 rfl).trans f1
      replace f2 := (hR 2 rfl).trans f2
      replace f4 := (hR 4 rfl).trans f4
      replace f5 := (hR 5 rfl).trans f5
      have e7 : a10.eval (.tmp 7) = .int .i64 (eOf (txt zt)) := hP 7 (by decide)
      have f7 := e7
      replace Ax := Ax.rl hr
      replace At := At.rl hr
      replace HB := HB.trans (hBt.below HB.size (UpOld.all (bx := [⟨W2, some 5, 0, 6, .agg #[.bool false, .slice none 0 0], some (6, 30, 3), []⟩]) ⟨someNe, trivial⟩))
      clear hBt hr hR hP hX hU
      refine wp_seq ?_
      refine wp_seq ?_
      refine region4 [some 32, some 33, some 34, some 35, some 36, some 37, some 38, some 39, some 40] [Eqs (.int .i64 (eOf (txt zt))), Eqs (.bool false), Eqs (.bool false), Eqs (.agg #[.bool n_11, .slice a_11 r_11.length c_11]), Eqs (.agg #[.bool nx, .slice ax 400 cx]), OutW (zt) (400), Eqs (.bool true), Eqs (.bool false), Eqs (.bool false)] [] [] (by kernel_rfl) hn rfl (by kernel_rfl) (by kernel_rfl) (by kernel_rfl) (by kernel_rfl) (by kernel_rfl) (by kernel_rfl) ⟨Eqs.mono4 _, Eqs.mono4 _, Eqs.mono4 _, Eqs.mono4 _, Eqs.mono4 _, OutW.mono4 _ _, Eqs.mono4 _, Eqs.mono4 _, Eqs.mono4 _, trivial⟩ ok_nil (IsOld.all (bx := []) trivial) (DisOld.all (bx := []) trivial) ?_ ?_
      · exact ⟨.norm 32 rfl rfl rfl (fun a_ w_ hn_ hBt hr hR hD hO hS => op_mv ((hR 7 rfl).trans f7)),
          .norm 33 rfl rfl rfl (fun a_ w_ hn_ hBt hr hR hD hO hS => op_neqEf (show a_.eval (.tmp 32) = .int .i64 (eOf (txt zt)) from hD 0 rfl) (back_txt hBr).2),
          .norm 34 rfl rfl rfl (fun a_ w_ hn_ hBt hr hR hD hO hS => op_mv (show a_.eval (.tmp 33) = .bool false from hD 1 rfl)),
          .norm 35 rfl rfl rfl (fun a_ w_ hn_ hBt hr hR hD hO hS => ⟨⟨_, rfl⟩, fun _ => op_loadv W2ok ((hR 6 rfl).trans f6) (b6.keep hBt trivial), fun hne => absurd (hD 2 rfl) hne⟩),
          .norm 36 rfl rfl rfl (fun a_ w_ hn_ hBt hr hR hD hO hS => ⟨⟨_, rfl⟩, fun _ => op_loadv W2ok ((hR 2 rfl).trans f2) (b2.keep hBt trivial), fun hne => absurd (hD 2 rfl) hne⟩),
          .norm 37 rfl rfl rfl (fun a_ w_ hn_ hBt hr hR hD hO hS => ⟨⟨_, rfl⟩, fun _ => op_wtrim (isw_eq (show a_.eval (.tmp 36) = .agg #[.bool nx, .slice ax 400 cx] from hD 4 rfl) (At.rl hr) Lt) (by omega), fun hne => absurd (hD 2 rfl) hne⟩),
          .norm 38 rfl rfl rfl (fun a_ w_ hn_ hBt hr hR hD hO hS => ⟨⟨_, rfl⟩, fun _ => op_same (outw_eq (show a_.eval (.tmp 35) = .agg #[.bool n_11, .slice a_11 r_11.length c_11] from hD 3 rfl) (G11.rl hr) l11) (show OutW (zt) (400) (a_.eval (.tmp 37)) w_ from hD 5 rfl) (back_txt hBr).1, fun hne => absurd (hD 2 rfl) hne⟩),
          .norm 39 rfl rfl rfl (fun a_ w_ hn_ hBt hr hR hD hO hS => ⟨⟨_, rfl⟩, fun _ => op_not (show a_.eval (.tmp 38) = .bool true from hD 6 rfl), fun hne => absurd (hD 2 rfl) hne⟩),
          .norm 40 rfl rfl rfl (fun a_ w_ hn_ hBt hr hR hD hO hS => op_pickb (show a_.eval (.tmp 34) = .bool false from hD 2 rfl) (show a_.eval (.tmp 39) = .bool false from hD 7 rfl)),
          trivial⟩
      intro a12 w12 gs12 hn12 hd12 hBt hr hR hP hX hU
      replace hn := hn12; replace hd := hd12.trans hd
      replace b2 := b2.keep hBt trivial
      replace b6 := b6.keep hBt trivial
      replace f1 := (hR 1 rfl).trans f1
      replace f2 := (hR 2 rfl).trans f2
      replace f4 := (hR 4 rfl).trans f4
      replace f5 := (hR 5 rfl).trans f5
      replace f6 := (hR 6 rfl).trans f6
      replace f7 := (hR 7 rfl).trans f7
      have e40 : a12.eval (.tmp 40) = .bool false := hP 8 (by decide)
      have f40 := e40
      replace Ax := Ax.rl hr
      replace At := At.rl hr
      replace G11 := G11.rl hr
      replace A11 := A11.rl hr
      replace HB := HB.trans (hBt.below HB.size (UpOld.all (bx := []) trivial))
      clear hBt hr hR hP hX hU
      refine wp_cond_false f40 ?_
      refine wp_skip ?_
      refine wp_seq ?_
      refine wp_seq ?_
      refine region4 [some 41, some 42, some 43] [Eqs (.agg #[.bool nx, .slice ax 400 cx]), Eqs (.int .i64 (Int.sign zt)), Eqs (.bool (decide ((Int.sign zt) < 0)))] [] [] (by kernel_rfl) hn rfl (by kernel_rfl) (by kernel_rfl) (by kernel_rfl) (by kernel_rfl) (by kernel_rfl) (by kernel_rfl) ⟨Eqs.mono4 _, Eqs.mono4 _, Eqs.mono4 _, trivial⟩ ok_nil (IsOld.all (bx := []) trivial) (DisOld.all (bx := []) trivial) ?_ ?_
      · exact ⟨.norm 41 rfl rfl rfl (fun a_ w_ hn_ hBt hr hR hD hO hS => op_loadv W2ok ((hR 2 rfl).trans f2) (b2.keep hBt trivial)),
          .norm 42 rfl rfl rfl (fun a_ w_ hn_ hBt hr hR hD hO hS => op_sign (isw_eq (show a_.eval (.tmp 41) = .agg #[.bool nx, .slice ax 400 cx] from hD 0 rfl) (At.rl hr) Lt) (by omega)),
          .norm 43 rfl rfl rfl (fun a_ w_ hn_ hBt hr hR hD hO hS => op_lssk (show a_.eval (.tmp 42) = .int .i64 (Int.sign zt) from hD 1 rfl)),
          trivial⟩
      intro a13 w13 gs13 hn13 hd13 hBt hr hR hP hX hU
      replace hn := hn13; replace hd := hd13.trans hd
      replace b2 := b2.keep hBt trivial
      replace b6 := b6.keep hBt trivial
      replace f1 := (hR 1 rfl).trans f1
      replace f2 := (hR 2 rfl).trans f2
      replace f4 := (hR 4 rfl).trans f4
      replace f5 := (hR 5 rfl).trans f5
      replace f6 := (hR 6 rfl).trans f6
      replace f7 := (hR 7 rfl).trans f7
      have e43 : a13.eval (.tmp 43) = .bool (decide ((Int.sign zt) < 0)) := hP 2 (by decide)
      have f43 := e43
      replace Ax := Ax.rl hr
      replace At := At.rl hr
      replace G11 := G11.rl hr
      replace A11 := A11.rl hr
      replace HB := HB.trans (hBt.below HB.size (UpOld.all (bx := []) trivial))
      clear hBt hr hR hP hX hU
      refine wp_cond_split f43 (fun hc43 => ?_) (fun hc43 => ?_)
      · skip
        have hzn : zt < 0 := Int.sign_neg_iff.1 (of_decide_eq_true hc43)
        have hsz1 := (ms_neg hzn).2.2
        refine wp_seq ?_
        refine region4 [some 45, some 46, some 47, some 48, some 44, some 49, some 50, none, some 7] [Eqs (.string (txt zt)), Eqs (.string (((txt zt)).extract 1 ((txt zt)).size)), Eqs (.string (omin zt)), Tup2 (OutW (zOf (omin zt)) (6000)) (Eqs (.int .i64 (eOf (omin zt)))), Tup2 (OutW (zOf (omin zt)) (6000)) (Eqs (.int .i64 (eOf (omin zt)))), OutW (zOf (omin zt)) (6000), Eqs (.int .i64 (eOf (omin zt))), (fun _ _ => True), Eqs (.int .i64 (eOf (omin zt)))] [⟨W2, none, (gs10 0), 6, .agg #[.bool n_11, .slice a_11 r_11.length c_11], some (7, 49, 5), []⟩] [] (by kernel_rfl) hn rfl (by kernel_rfl) (by kernel_rfl) (by kernel_rfl) (by kernel_rfl) (by kernel_rfl) (by kernel_rfl) ⟨Eqs.mono4 _, Eqs.mono4 _, Eqs.mono4 _, Tup2.mono4 (OutW.mono4 _ _) (Eqs.mono4 _), Tup2.mono4 (OutW.mono4 _ _) (Eqs.mono4 _), OutW.mono4 _ _, Eqs.mono4 _, True.mono4, Eqs.mono4 _, trivial⟩ (ok_cons W2ok ok_nil) (IsOld.all (bx := [⟨W2, none, (gs10 0), 6, .agg #[.bool n_11, .slice a_11 r_11.length c_11], some (7, 49, 5), []⟩]) ⟨fun _ => ⟨f6, b6⟩, trivial⟩) (DisOld.all (bx := [⟨W2, none, (gs10 0), 6, .agg #[.bool n_11, .slice a_11 r_11.length c_11], some (7, 49, 5), []⟩]) ⟨fun _ => trivial, trivial⟩) ?_ ?_
        · exact ⟨.norm 45 rfl rfl rfl (fun a_ w_ hn_ hBt hr hR hD hO hS => op_mv ((hR 5 rfl).trans f5)),
            .norm 46 rfl rfl rfl (fun a_ w_ hn_ hBt hr hR hD hO hS => op_slst (k := 1) (show a_.eval (.tmp 45) = .string (txt zt) from hD 0 rfl) rfl (by omega)),
            .norm 47 rfl rfl rfl (fun a_ w_ hn_ hBt hr hR hD hO hS => op_adds (c := ⟨#[226, 136, 146]⟩) (show a_.eval (.tmp 46) = .string (((txt zt)).extract 1 ((txt zt)).size) from hD 1 rfl) (omin_size hBr)),
            .norm 48 rfl rfl rfl (fun a_ w_ hn_ hBt hr hR hD hO hS => op_wparse (show a_.eval (.tmp 47) = .string (omin zt) from hD 2 rfl) (hT.below (HB.trans (hBt.below HB.size (UpOld.all (bx := [⟨W2, none, (gs10 0), 6, .agg #[.bool n_11, .slice a_11 r_11.length c_11], some (7, 49, 5), []⟩]) ⟨fun _ => u6, trivial⟩))))),
            .norm 44 rfl rfl rfl (fun a_ w_ hn_ hBt hr hR hD hO hS => op_mvp (p := Tup2 (OutW (zOf (omin zt)) (6000)) (Eqs (.int .i64 (eOf (omin zt))))) (show Tup2 (OutW (zOf (omin zt)) (6000)) (Eqs (.int .i64 (eOf (omin zt)))) (a_.eval (.tmp 48)) w_ from hD 3 rfl)),
            .norm 49 rfl rfl rfl (fun a_ w_ hn_ hBt hr hR hD hO hS => op_ex20 (show Tup2 (OutW (zOf (omin zt)) (6000)) (Eqs (.int .i64 (eOf (omin zt)))) (a_.eval (.tmp 44)) w_ from hD 4 rfl)),
            .norm 50 rfl rfl rfl (fun a_ w_ hn_ hBt hr hR hD hO hS => op_ex21 (show Tup2 (OutW (zOf (omin zt)) (6000)) (Eqs (.int .i64 (eOf (omin zt)))) (a_.eval (.tmp 44)) w_ from hD 4 rfl)),
            .store 0 _ _ _ rfl rfl rfl rfl rfl rfl rfl (fun ia h => by cases h) rfl rfl rfl OutW.cs,
            .norm 7 rfl rfl rfl (fun a_ w_ hn_ hBt hr hR hD hO hS => op_assign (show a_.eval (.tmp 50) = .int .i64 (eOf (omin zt)) from hD 6 rfl)),
            trivial⟩
        intro a14 w14 gs14 hn14 hd14 hBt hr hR hP hX hU
        replace hn := hn14; replace hd := hd14.trans hd
        replace b2 := b2.keep hBt ⟨fun _ => ne2_6.symm, trivial⟩
        obtain ⟨n_15, a_15, c_15, r_15, e49, G15, l15⟩ : OutW (zOf (omin zt)) (6000) (a14.eval (.tmp 49)) w14 := hP 5 (by decide)
        have A15 := G15.ag
        have b6 : BoxV W2 w14 ((gs10 0)) (.agg #[.bool n_15, .slice a_15 r_15.length c_15]) := boxv_old ((hX 0 _ rfl).2.1 rfl) (hX 0 _ rfl).2.2.2 e49
        replace f6 : a14.eval (.tmp 6) = _ := (hR 6 rfl).trans f6
        replace f1 := (hR 1 rfl).trans f1
        replace f2 := (hR 2 rfl).trans f2
        replace f4 := (hR 4 rfl).trans f4
        replace f5 := (hR 5 rfl).trans f5
        have e7 : a14.eval (.tmp 7) = .int .i64 (eOf (omin zt)) := hP 8 (by decide)
        have f7 := e7
        replace Ax := Ax.rl hr
        replace At := At.rl hr
        replace G11 := G11.rl hr
        replace A11 := A11.rl hr
        replace HB := HB.trans (hBt.below HB.size (UpOld.all (bx := [⟨W2, none, (gs10 0), 6, .agg #[.bool n_11, .slice a_11 r_11.length c_11], some (7, 49, 5), []⟩]) ⟨fun _ => u6, trivial⟩))
        clear hBt hr hR hP hX hU
        refine wp_seq ?_
        refine region4 [some 51, some 52, some 53, some 54, some 55, some 56, some 57, some 58, some 59, some 60, some 61, some 62, some 63, some 64] [Eqs (.int .i64 (eOf (omin zt))), Eqs (.bool false), Eqs (.bool false), Eqs (.agg #[.bool n_15, .slice a_15 r_15.length c_15]), Eqs (.agg #[.bool nx, .slice ax 400 cx]), OutW (zt) (400), Eqs (.bool true), Eqs (.bool false), Eqs (.bool false), Eqs (.bool false), Eqs (.string (txt zt)), Eqs (.int .u8 ((((txt zt)).get! 0).toNat : Int)), Eqs (.bool false), Eqs (.bool false)] [] [] (by kernel_rfl) hn rfl (by kernel_rfl) (by kernel_rfl) (by kernel_rfl) (by kernel_rfl) (by kernel_rfl) (by kernel_rfl) ⟨Eqs.mono4 _, Eqs.mono4 _, Eqs.mono4 _, Eqs.mono4 _, Eqs.mono4 _, OutW.mono4 _ _, Eqs.mono4 _, Eqs.mono4 _, Eqs.mono4 _, Eqs.mono4 _, Eqs.mono4 _, Eqs.mono4 _, Eqs.mono4 _, Eqs.mono4 _, trivial⟩ ok_nil (IsOld.all (bx := []) trivial) (DisOld.all (bx := []) trivial) ?_ ?_
        · exact ⟨.norm 51 rfl rfl rfl (fun a_ w_ hn_ hBt hr hR hD hO hS => op_mv ((hR 7 rfl).trans f7)),
            .norm 52 rfl rfl rfl (fun a_ w_ hn_ hBt hr hR hD hO hS => op_neqEf (show a_.eval (.tmp 51) = .int .i64 (eOf (omin zt)) from hD 0 rfl) (omin_back hzn hBr).2),
            .norm 53 rfl rfl rfl (fun a_ w_ hn_ hBt hr hR hD hO hS => op_mv (show a_.eval (.tmp 52) = .bool false from hD 1 rfl)),
            .norm 54 rfl rfl rfl (fun a_ w_ hn_ hBt hr hR hD hO hS => ⟨⟨_, rfl⟩, fun _ => op_loadv W2ok ((hR 6 rfl).trans f6) (b6.keep hBt trivial), fun hne => absurd (hD 2 rfl) hne⟩),
            .norm 55 rfl rfl rfl (fun a_ w_ hn_ hBt hr hR hD hO hS => ⟨⟨_, rfl⟩, fun _ => op_loadv W2ok ((hR 2 rfl).trans f2) (b2.keep hBt trivial), fun hne => absurd (hD 2 rfl) hne⟩),
            .norm 56 rfl rfl rfl (fun a_ w_ hn_ hBt hr hR hD hO hS => ⟨⟨_, rfl⟩, fun _ => op_wtrim (isw_eq (show a_.eval (.tmp 55) = .agg #[.bool nx, .slice ax 400 cx] from hD 4 rfl) (At.rl hr) Lt) (by omega), fun hne => absurd (hD 2 rfl) hne⟩),
            .norm 57 rfl rfl rfl (fun a_ w_ hn_ hBt hr hR hD hO hS => ⟨⟨_, rfl⟩, fun _ => op_same (outw_eq (show a_.eval (.tmp 54) = .agg #[.bool n_15, .slice a_15 r_15.length c_15] from hD 3 rfl) (G15.rl hr) l15) (show OutW (zt) (400) (a_.eval (.tmp 56)) w_ from hD 5 rfl) (omin_back hzn hBr).1, fun hne => absurd (hD 2 rfl) hne⟩),
            .norm 58 rfl rfl rfl (fun a_ w_ hn_ hBt hr hR hD hO hS => ⟨⟨_, rfl⟩, fun _ => op_not (show a_.eval (.tmp 57) = .bool true from hD 6 rfl), fun hne => absurd (hD 2 rfl) hne⟩),
            .norm 59 rfl rfl rfl (fun a_ w_ hn_ hBt hr hR hD hO hS => op_pickb (show a_.eval (.tmp 53) = .bool false from hD 2 rfl) (show a_.eval (.tmp 58) = .bool false from hD 7 rfl)),
            .norm 60 rfl rfl rfl (fun a_ w_ hn_ hBt hr hR hD hO hS => op_mv (show a_.eval (.tmp 59) = .bool false from hD 8 rfl)),
            .norm 61 rfl rfl rfl (fun a_ w_ hn_ hBt hr hR hD hO hS => ⟨⟨_, rfl⟩, fun _ => op_mv ((hR 5 rfl).trans f5), fun hne => absurd (hD 9 rfl) hne⟩),
            .norm 62 rfl rfl rfl (fun a_ w_ hn_ hBt hr hR hD hO hS => ⟨⟨_, rfl⟩, fun _ => op_idxs (k := 0) (show a_.eval (.tmp 61) = .string (txt zt) from hD 10 rfl) rfl (by omega), fun hne => absurd (hD 9 rfl) hne⟩),
            .norm 63 rfl rfl rfl (fun a_ w_ hn_ hBt hr hR hD hO hS => ⟨⟨_, rfl⟩, fun _ => op_neq8f (show a_.eval (.tmp 62) = .int .u8 ((((txt zt)).get! 0).toNat : Int) from hD 11 rfl) (by have := (ms_neg hzn).2.1; omega), fun hne => absurd (hD 9 rfl) hne⟩),
            .norm 64 rfl rfl rfl (fun a_ w_ hn_ hBt hr hR hD hO hS => op_pickb (show a_.eval (.tmp 60) = .bool false from hD 9 rfl) (show a_.eval (.tmp 63) = .bool false from hD 12 rfl)),
            trivial⟩
        intro a16 w16 gs16 hn16 hd16 hBt hr hR hP hX hU
        replace hn := hn16; replace hd := hd16.trans hd
        replace b2 := b2.keep hBt trivial
        replace f1 := (hR 1 rfl).trans f1
        replace f2 := (hR 2 rfl).trans f2
        replace f4 := (hR 4 rfl).trans f4
        have e64 : a16.eval (.tmp 64) = .bool false := hP 13 (by decide)
        have f64 := e64
        replace Ax := Ax.rl hr
        replace At := At.rl hr
        replace G11 := G11.rl hr
        replace A11 := A11.rl hr
        replace G15 := G15.rl hr
        replace A15 := A15.rl hr
        replace HB := HB.trans (hBt.below HB.size (UpOld.all (bx := []) trivial))
        clear hBt hr hR hP hX hU
        refine wp_cond_false f64 ?_
        refine wp_skip ?_
        refine wp_seq ?_
        refine region4 [some 66, some 67, some 68, some 65, some 69, some 70, some 8, some 9] [Eqs (.int .i64 v), OutW (v) (2), Tup2 (Eqs (.int .i64 v)) (Eqs (.bool true)), Tup2 (Eqs (.int .i64 v)) (Eqs (.bool true)), Eqs (.int .i64 v), Eqs (.bool true), Eqs (.int .i64 v), Eqs (.bool true)] [] [] (by kernel_rfl) hn rfl (by kernel_rfl) (by kernel_rfl) (by kernel_rfl) (by kernel_rfl) (by kernel_rfl) (by kernel_rfl) ⟨Eqs.mono4 _, OutW.mono4 _ _, Tup2.mono4 (Eqs.mono4 _) (Eqs.mono4 _), Tup2.mono4 (Eqs.mono4 _) (Eqs.mono4 _), Eqs.mono4 _, Eqs.mono4 _, Eqs.mono4 _, Eqs.mono4 _, trivial⟩ ok_nil (IsOld.all (bx := []) trivial) (DisOld.all (bx := []) trivial) ?_ ?_
        · exact ⟨.norm 66 rfl rfl rfl (fun a_ w_ hn_ hBt hr hR hD hO hS => op_mv ((hR 1 rfl).trans f1)),
            .norm 67 rfl rfl rfl (fun a_ w_ hn_ hBt hr hR hD hO hS => op_oft (show a_.eval (.tmp 66) = .int .i64 v from hD 0 rfl) hv1 hv2),
            .norm 68 rfl rfl rfl (fun a_ w_ hn_ hBt hr hR hD hO hS => op_wintv (show OutW (v) (2) (a_.eval (.tmp 67)) w_ from hD 1 rfl).is hv1 hv2),
            .norm 65 rfl rfl rfl (fun a_ w_ hn_ hBt hr hR hD hO hS => op_mvp (p := Tup2 (Eqs (.int .i64 v)) (Eqs (.bool true))) (show Tup2 (Eqs (.int .i64 v)) (Eqs (.bool true)) (a_.eval (.tmp 68)) w_ from hD 2 rfl)),
            .norm 69 rfl rfl rfl (fun a_ w_ hn_ hBt hr hR hD hO hS => op_ex20 (show Tup2 (Eqs (.int .i64 v)) (Eqs (.bool true)) (a_.eval (.tmp 65)) w_ from hD 3 rfl)),
            .norm 70 rfl rfl rfl (fun a_ w_ hn_ hBt hr hR hD hO hS => op_ex21 (show Tup2 (Eqs (.int .i64 v)) (Eqs (.bool true)) (a_.eval (.tmp 65)) w_ from hD 3 rfl)),
            .norm 8 rfl rfl rfl (fun a_ w_ hn_ hBt hr hR hD hO hS => op_assign (show a_.eval (.tmp 69) = .int .i64 v from hD 4 rfl)),
            .norm 9 rfl rfl rfl (fun a_ w_ hn_ hBt hr hR hD hO hS => op_assign (show a_.eval (.tmp 70) = .bool true from hD 5 rfl)),
            trivial⟩
        intro a17 w17 gs17 hn17 hd17 hBt hr hR hP hX hU
        replace hn := hn17; replace hd := hd17.trans hd
        replace b2 := b2.keep hBt trivial
        replace f1 := (hR 1 rfl).trans f1
        replace f2 := (hR 2 rfl).trans f2
        replace f4 := (hR 4 rfl).trans f4
        have e8 : a17.eval (.tmp 8) = .int .i64 v := hP 6 (by decide)
        have f8 := e8
        have e9 : a17.eval (.tmp 9) = .bool true := hP 7 (by decide)
        have f9 := e9
        replace Ax := Ax.rl hr
        replace At := At.rl hr
        replace G11 := G11.rl hr
        replace A11 := A11.rl hr
        replace G15 := G15.rl hr
        replace A15 := A15.rl hr
        replace HB := HB.trans (hBt.below HB.size (UpOld.all (bx := []) trivial))
        clear hBt hr hR hP hX hU
        refine wp_seq ?_
        refine region4 [some 72, some 73, some 71, some 74, some 75, some 10, some 11] [Eqs (.agg #[.bool nx, .slice ax 400 cx]), Tup2 (Eqs (.int .i64 (intI zt))) (Eqs (.bool (inI zt))), Tup2 (Eqs (.int .i64 (intI zt))) (Eqs (.bool (inI zt))), Eqs (.int .i64 (intI zt)), Eqs (.bool (inI zt)), Eqs (.int .i64 (intI zt)), Eqs (.bool (inI zt))] [] [] (by kernel_rfl) hn rfl (by kernel_rfl) (by kernel_rfl) (by kernel_rfl) (by kernel_rfl) (by kernel_rfl) (by kernel_rfl) ⟨Eqs.mono4 _, Tup2.mono4 (Eqs.mono4 _) (Eqs.mono4 _), Tup2.mono4 (Eqs.mono4 _) (Eqs.mono4 _), Eqs.mono4 _, Eqs.mono4 _, Eqs.mono4 _, Eqs.mono4 _, trivial⟩ ok_nil (IsOld.all (bx := []) trivial) (DisOld.all (bx := []) trivial) ?_ ?_
        · exact ⟨.norm 72 rfl rfl rfl (fun a_ w_ hn_ hBt hr hR hD hO hS => op_loadv W2ok ((hR 2 rfl).trans f2) (b2.keep hBt trivial)),
            .norm 73 rfl rfl rfl (fun a_ w_ hn_ hBt hr hR hD hO hS => op_wint (isw_eq (show a_.eval (.tmp 72) = .agg #[.bool nx, .slice ax 400 cx] from hD 0 rfl) (At.rl hr) Lt)),
            .norm 71 rfl rfl rfl (fun a_ w_ hn_ hBt hr hR hD hO hS => op_mvp (p := Tup2 (Eqs (.int .i64 (intI zt))) (Eqs (.bool (inI zt)))) (show Tup2 (Eqs (.int .i64 (intI zt))) (Eqs (.bool (inI zt))) (a_.eval (.tmp 73)) w_ from hD 1 rfl)),
            .norm 74 rfl rfl rfl (fun a_ w_ hn_ hBt hr hR hD hO hS => op_ex20 (show Tup2 (Eqs (.int .i64 (intI zt))) (Eqs (.bool (inI zt))) (a_.eval (.tmp 71)) w_ from hD 2 rfl)),
            .norm 75 rfl rfl rfl (fun a_ w_ hn_ hBt hr hR hD hO hS => op_ex21 (show Tup2 (Eqs (.int .i64 (intI zt))) (Eqs (.bool (inI zt))) (a_.eval (.tmp 71)) w_ from hD 2 rfl)),
            .norm 10 rfl rfl rfl (fun a_ w_ hn_ hBt hr hR hD hO hS => op_assign (show a_.eval (.tmp 74) = .int .i64 (intI zt) from hD 3 rfl)),
            .norm 11 rfl rfl rfl (fun a_ w_ hn_ hBt hr hR hD hO hS => op_assign (show a_.eval (.tmp 75) = .bool (inI zt) from hD 4 rfl)),
            trivial⟩
        intro a18 w18 gs18 hn18 hd18 hBt hr hR hP hX hU
        replace hn := hn18; replace hd := hd18.trans hd
        replace b2 := b2.keep hBt trivial
        replace f1 := (hR 1 rfl).trans f1
        replace f2 := (hR 2 rfl).trans f2
        replace f4 := (hR 4 rfl).trans f4
        replace f8 := (hR 8 rfl).trans f8
        replace f9 := (hR 9 rfl).trans f9
        have e10 : a18.eval (.tmp 10) = .int .i64 (intI zt) := hP 5 (by decide)
        have f10 := e10
        have e11 : a18.eval (.tmp 11) = .bool (inI zt) := hP 6 (by decide)
        have f11 := e11
        replace Ax := Ax.rl hr
        replace At := At.rl hr
        replace G11 := G11.rl hr
        replace A11 := A11.rl hr
        replace G15 := G15.rl hr
        replace A15 := A15.rl hr
        replace HB := HB.trans (hBt.below HB.size (UpOld.all (bx := []) trivial))
        clear hBt hr hR hP hX hU
        refine wp_seq ?_
        cases hbi : inI zt with
        | true =>
          rw [hbi] at f11
          refine region4 [some 76, some 77, some 78, some 79, some 80, some 81, some 82, some 83, some 84, some 85, some 86, some 87, some 88, some 89, some 90, some 91, some 92, some 4] [Eqs (.bool true), Eqs (.bool true), Eqs (.int .i64 v), Eqs (.int .i64 v), Eqs (.bool true), Eqs (.bool true), Eqs (.bool true), Eqs (.bool true), Eqs (.bool false), Eqs (.bool false), Eqs (.int .i64 (intI zt)), OutW ((intI zt)) (2), Eqs (.agg #[.bool nx, .slice ax 400 cx]), OutW (zt) (400), Eqs (.bool true), Eqs (.bool true), Eqs (.bool true), Eqs (.bool true)] [] [] (by kernel_rfl) hn rfl (by kernel_rfl) (by kernel_rfl) (by kernel_rfl) (by kernel_rfl) (by kernel_rfl) (by kernel_rfl) ⟨Eqs.mono4 _, Eqs.mono4 _, Eqs.mono4 _, Eqs.mono4 _, Eqs.mono4 _, Eqs.mono4 _, Eqs.mono4 _, Eqs.mono4 _, Eqs.mono4 _, Eqs.mono4 _, Eqs.mono4 _, OutW.mono4 _ _, Eqs.mono4 _, OutW.mono4 _ _, Eqs.mono4 _, Eqs.mono4 _, Eqs.mono4 _, Eqs.mono4 _, trivial⟩ ok_nil (IsOld.all (bx := []) trivial) (DisOld.all (bx := []) trivial) ?_ ?_
          · exact ⟨.norm 76 rfl rfl rfl (fun a_ w_ hn_ hBt hr hR hD hO hS => op_mv ((hR 9 rfl).trans f9)),
              .norm 77 rfl rfl rfl (fun a_ w_ hn_ hBt hr hR hD hO hS => op_mv (show a_.eval (.tmp 76) = .bool true from hD 0 rfl)),
              .norm 78 rfl rfl rfl (fun a_ w_ hn_ hBt hr hR hD hO hS => ⟨⟨_, rfl⟩, fun _ => op_mv ((hR 8 rfl).trans f8), fun hne => absurd (hD 1 rfl) hne⟩),
              .norm 79 rfl rfl rfl (fun a_ w_ hn_ hBt hr hR hD hO hS => ⟨⟨_, rfl⟩, fun _ => op_mv ((hR 1 rfl).trans f1), fun hne => absurd (hD 1 rfl) hne⟩),
              .norm 80 rfl rfl rfl (fun a_ w_ hn_ hBt hr hR hD hO hS => ⟨⟨_, rfl⟩, fun _ => op_eql (show a_.eval (.tmp 78) = .int .i64 v from hD 2 rfl) (show a_.eval (.tmp 79) = .int .i64 v from hD 3 rfl) rfl, fun hne => absurd (hD 1 rfl) hne⟩),
              .norm 81 rfl rfl rfl (fun a_ w_ hn_ hBt hr hR hD hO hS => op_pickb (show a_.eval (.tmp 77) = .bool true from hD 1 rfl) (show a_.eval (.tmp 80) = .bool true from hD 4 rfl)),
              .norm 82 rfl rfl rfl (fun a_ w_ hn_ hBt hr hR hD hO hS => op_mv (show a_.eval (.tmp 81) = .bool true from hD 5 rfl)),
              .norm 83 rfl rfl rfl (fun a_ w_ hn_ hBt hr hR hD hO hS => ⟨⟨_, rfl⟩, fun _ => op_mv ((hR 11 rfl).trans f11), fun hne => absurd (hD 6 rfl) hne⟩),
              .norm 84 rfl rfl rfl (fun a_ w_ hn_ hBt hr hR hD hO hS => ⟨⟨_, rfl⟩, fun _ => op_not (show a_.eval (.tmp 83) = .bool true from hD 7 rfl), fun hne => absurd (hD 6 rfl) hne⟩),
              .norm 85 rfl rfl rfl (fun a_ w_ hn_ hBt hr hR hD hO hS => ⟨⟨_, rfl⟩, fun _ => op_mv (show a_.eval (.tmp 84) = .bool false from hD 8 rfl), fun hne => absurd (hD 6 rfl) hne⟩),
              .norm 86 rfl rfl rfl (fun a_ w_ hn_ hBt hr hR hD hO hS => ⟨⟨_, rfl⟩, fun _ => op_mv ((hR 10 rfl).trans f10), fun hne => absurd (hD 9 rfl) hne⟩),
              .norm 87 rfl rfl rfl (fun a_ w_ hn_ hBt hr hR hD hO hS => ⟨⟨_, rfl⟩, fun _ => op_oft (show a_.eval (.tmp 86) = .int .i64 (intI zt) from hD 10 rfl) (intI_in _).1 (intI_in _).2, fun hne => absurd (hD 9 rfl) hne⟩),
              .norm 88 rfl rfl rfl (fun a_ w_ hn_ hBt hr hR hD hO hS => ⟨⟨_, rfl⟩, fun _ => op_loadv W2ok ((hR 2 rfl).trans f2) (b2.keep hBt trivial), fun hne => absurd (hD 9 rfl) hne⟩),
              .norm 89 rfl rfl rfl (fun a_ w_ hn_ hBt hr hR hD hO hS => ⟨⟨_, rfl⟩, fun _ => op_wtrim (isw_eq (show a_.eval (.tmp 88) = .agg #[.bool nx, .slice ax 400 cx] from hD 12 rfl) (At.rl hr) Lt) (by omega), fun hne => absurd (hD 9 rfl) hne⟩),
              .norm 90 rfl rfl rfl (fun a_ w_ hn_ hBt hr hR hD hO hS => ⟨⟨_, rfl⟩, fun _ => op_same (show OutW ((intI zt)) (2) (a_.eval (.tmp 87)) w_ from hD 11 rfl) (show OutW (zt) (400) (a_.eval (.tmp 89)) w_ from hD 13 rfl) (intI_of hbi), fun hne => absurd (hD 9 rfl) hne⟩),
              .norm 91 rfl rfl rfl (fun a_ w_ hn_ hBt hr hR hD hO hS => ⟨⟨_, rfl⟩, fun _ => op_pickb (show a_.eval (.tmp 85) = .bool false from hD 9 rfl) (show a_.eval (.tmp 90) = .bool true from hD 14 rfl), fun hne => absurd (hD 6 rfl) hne⟩),
              .norm 92 rfl rfl rfl (fun a_ w_ hn_ hBt hr hR hD hO hS => op_pickb (show a_.eval (.tmp 82) = .bool true from hD 6 rfl) (show a_.eval (.tmp 91) = .bool true from hD 15 rfl)),
              .norm 4 rfl rfl rfl (fun a_ w_ hn_ hBt hr hR hD hO hS => op_assign (show a_.eval (.tmp 92) = .bool true from hD 16 rfl)),
              trivial⟩
          intro a19 w19 gs19 hn19 hd19 hBt hr hR hP hX hU
          replace hn := hn19; replace hd := hd19.trans hd
          have e4 : a19.eval (.tmp 4) = .bool true := hP 17 (by decide)
          have f4 := e4
          replace Ax := Ax.rl hr
          replace At := At.rl hr
          replace G11 := G11.rl hr
          replace A11 := A11.rl hr
          replace G15 := G15.rl hr
          replace A15 := A15.rl hr
          replace HB := HB.trans (hBt.below HB.size (UpOld.all (bx := []) trivial))
          clear hBt hr hR hP hX hU
          refine wp_ret ?_
          repeat (first | refine then_ret ?_ | refine scope_ret ?_ | refine block_ret ?_)
          exact bodyPost_ret (v := .bool true) (res_t rfl f4) hd ⟨rfl, HB⟩
        | false =>
          rw [hbi] at f11
          refine region4 [some 76, some 77, some 78, some 79, some 80, some 81, some 82, some 83, some 84, some 85, some 86, some 87, some 88, some 89, some 90, some 91, some 92, some 4] [Eqs (.bool true), Eqs (.bool true), Eqs (.int .i64 v), Eqs (.int .i64 v), Eqs (.bool true), Eqs (.bool true), Eqs (.bool true), Eqs (.bool false), Eqs (.bool true), Eqs (.bool true), (fun _ _ => True), (fun _ _ => True), (fun _ _ => True), (fun _ _ => True), (fun _ _ => True), Eqs (.bool true), Eqs (.bool true), Eqs (.bool true)] [] [] (by kernel_rfl) hn rfl (by kernel_rfl) (by kernel_rfl) (by kernel_rfl) (by kernel_rfl) (by kernel_rfl) (by kernel_rfl) ⟨Eqs.mono4 _, Eqs.mono4 _, Eqs.mono4 _, Eqs.mono4 _, Eqs.mono4 _, Eqs.mono4 _, Eqs.mono4 _, Eqs.mono4 _, Eqs.mono4 _, Eqs.mono4 _, True.mono4, True.mono4, True.mono4, True.mono4, True.mono4, Eqs.mono4 _, Eqs.mono4 _, Eqs.mono4 _, trivial⟩ ok_nil (IsOld.all (bx := []) trivial) (DisOld.all (bx := []) trivial) ?_ ?_
          · exact ⟨.norm 76 rfl rfl rfl (fun a_ w_ hn_ hBt hr hR hD hO hS => op_mv ((hR 9 rfl).trans f9)),
              .norm 77 rfl rfl rfl (fun a_ w_ hn_ hBt hr hR hD hO hS => op_mv (show a_.eval (.tmp 76) = .bool true from hD 0 rfl)),
              .norm 78 rfl rfl rfl (fun a_ w_ hn_ hBt hr hR hD hO hS => ⟨⟨_, rfl⟩, fun _ => op_mv ((hR 8 rfl).trans f8), fun hne => absurd (hD 1 rfl) hne⟩),
              .norm 79 rfl rfl rfl (fun a_ w_ hn_ hBt hr hR hD hO hS => ⟨⟨_, rfl⟩, fun _ => op_mv ((hR 1 rfl).trans f1), fun hne => absurd (hD 1 rfl) hne⟩),
              .norm 80 rfl rfl rfl (fun a_ w_ hn_ hBt hr hR hD hO hS => ⟨⟨_, rfl⟩, fun _ => op_eql (show a_.eval (.tmp 78) = .int .i64 v from hD 2 rfl) (show a_.eval (.tmp 79) = .int .i64 v from hD 3 rfl) rfl, fun hne => absurd (hD 1 rfl) hne⟩),
              .norm 81 rfl rfl rfl (fun a_ w_ hn_ hBt hr hR hD hO hS => op_pickb (show a_.eval (.tmp 77) = .bool true from hD 1 rfl) (show a_.eval (.tmp 80) = .bool true from hD 4 rfl)),
              .norm 82 rfl rfl rfl (fun a_ w_ hn_ hBt hr hR hD hO hS => op_mv (show a_.eval (.tmp 81) = .bool true from hD 5 rfl)),
              .norm 83 rfl rfl rfl (fun a_ w_ hn_ hBt hr hR hD hO hS => ⟨⟨_, rfl⟩, fun _ => op_mv ((hR 11 rfl).trans f11), fun hne => absurd (hD 6 rfl) hne⟩),
              .norm 84 rfl rfl rfl (fun a_ w_ hn_ hBt hr hR hD hO hS => ⟨⟨_, rfl⟩, fun _ => op_not (show a_.eval (.tmp 83) = .bool false from hD 7 rfl), fun hne => absurd (hD 6 rfl) hne⟩),
              .norm 85 rfl rfl rfl (fun a_ w_ hn_ hBt hr hR hD hO hS => ⟨⟨_, rfl⟩, fun _ => op_mv (show a_.eval (.tmp 84) = .bool true from hD 8 rfl), fun hne => absurd (hD 6 rfl) hne⟩),
              .norm 86 rfl rfl rfl (fun a_ w_ hn_ hBt hr hR hD hO hS => ⟨⟨_, rfl⟩, fun h => absurd ((show _ = Value.bool true from hD 9 rfl).symm.trans h) (by simp), fun _ => trivial⟩),
              .norm 87 rfl rfl rfl (fun a_ w_ hn_ hBt hr hR hD hO hS => ⟨⟨_, rfl⟩, fun h => absurd ((show _ = Value.bool true from hD 9 rfl).symm.trans h) (by simp), fun _ => trivial⟩),
              .norm 88 rfl rfl rfl (fun a_ w_ hn_ hBt hr hR hD hO hS => ⟨⟨_, rfl⟩, fun h => absurd ((show _ = Value.bool true from hD 9 rfl).symm.trans h) (by simp), fun _ => trivial⟩),
              .norm 89 rfl rfl rfl (fun a_ w_ hn_ hBt hr hR hD hO hS => ⟨⟨_, rfl⟩, fun h => absurd ((show _ = Value.bool true from hD 9 rfl).symm.trans h) (by simp), fun _ => trivial⟩),
              .norm 90 rfl rfl rfl (fun a_ w_ hn_ hBt hr hR hD hO hS => ⟨⟨_, rfl⟩, fun h => absurd ((show _ = Value.bool true from hD 9 rfl).symm.trans h) (by simp), fun _ => trivial⟩),
              .norm 91 rfl rfl rfl (fun a_ w_ hn_ hBt hr hR hD hO hS => ⟨⟨_, rfl⟩, fun _ => op_pickb (show a_.eval (.tmp 85) = .bool true from hD 9 rfl) rfl, fun hne => absurd (hD 6 rfl) hne⟩),
              .norm 92 rfl rfl rfl (fun a_ w_ hn_ hBt hr hR hD hO hS => op_pickb (show a_.eval (.tmp 82) = .bool true from hD 6 rfl) (show a_.eval (.tmp 91) = .bool true from hD 15 rfl)),
              .norm 4 rfl rfl rfl (fun a_ w_ hn_ hBt hr hR hD hO hS => op_assign (show a_.eval (.tmp 92) = .bool true from hD 16 rfl)),
              trivial⟩
          intro a20 w20 gs20 hn20 hd20 hBt hr hR hP hX hU
          replace hn := hn20; replace hd := hd20.trans hd
          have e4 : a20.eval (.tmp 4) = .bool true := hP 17 (by decide)
          have f4 := e4
          replace Ax := Ax.rl hr
          replace At := At.rl hr
          replace G11 := G11.rl hr
          replace A11 := A11.rl hr
          replace G15 := G15.rl hr
          replace A15 := A15.rl hr
          replace HB := HB.trans (hBt.below HB.size (UpOld.all (bx := []) trivial))
          clear hBt hr hR hP hX hU
          refine wp_ret ?_
          repeat (first | refine then_ret ?_ | refine scope_ret ?_ | refine block_ret ?_)
          exact bodyPost_ret (v := .bool true) (res_t rfl f4) hd ⟨rfl, HB⟩
      · skip
        refine wp_skip ?_
        refine wp_seq ?_
        refine region4 [some 66, some 67, some 68, some 65, some 69, some 70, some 8, some 9] [Eqs (.int .i64 v), OutW (v) (2), Tup2 (Eqs (.int .i64 v)) (Eqs (.bool true)), Tup2 (Eqs (.int .i64 v)) (Eqs (.bool true)), Eqs (.int .i64 v), Eqs (.bool true), Eqs (.int .i64 v), Eqs (.bool true)] [] [] (by kernel_rfl) hn rfl (by kernel_rfl) (by kernel_rfl) (by kernel_rfl) (by kernel_rfl) (by kernel_rfl) (by kernel_rfl) ⟨Eqs.mono4 _, OutW.mono4 _ _, Tup2.mono4 (Eqs.mono4 _) (Eqs.mono4 _), Tup2.mono4 (Eqs.mono4 _) (Eqs.mono4 _), Eqs.mono4 _, Eqs.mono4 _, Eqs.mono4 _, Eqs.mono4 _, trivial⟩ ok_nil (IsOld.all (bx := []) trivial) (DisOld.all (bx := []) trivial) ?_ ?_
        · exact ⟨.norm 66 rfl rfl rfl (fun a_ w_ hn_ hBt hr hR hD hO hS => op_mv ((hR 1 rfl).trans f1)),
            .norm 67 rfl rfl rfl (fun a_ w_ hn_ hBt hr hR hD hO hS => op_oft (show a_.eval (.tmp 66) = .int .i64 v from hD 0 rfl) hv1 hv2),
            .norm 68 rfl rfl rfl (fun a_ w_ hn_ hBt hr hR hD hO hS => op_wintv (show OutW (v) (2) (a_.eval (.tmp 67)) w_ from hD 1 rfl).is hv1 hv2),
            .norm 65 rfl rfl rfl (fun a_ w_ hn_ hBt hr hR hD hO hS => op_mvp (p := Tup2 (Eqs (.int .i64 v)) (Eqs (.bool true))) (show Tup2 (Eqs (.int .i64 v)) (Eqs (.bool true)) (a_.eval (.tmp 68)) w_ from hD 2 rfl)),
            .norm 69 rfl rfl rfl (fun a_ w_ hn_ hBt hr hR hD hO hS => op_ex20 (show Tup2 (Eqs (.int .i64 v)) (Eqs (.bool true)) (a_.eval (.tmp 65)) w_ from hD 3 rfl)),
            .norm 70 rfl rfl rfl (fun a_ w_ hn_ hBt hr hR hD hO hS => op_ex21 (show Tup2 (Eqs (.int .i64 v)) (Eqs (.bool true)) (a_.eval (.tmp 65)) w_ from hD 3 rfl)),
            .norm 8 rfl rfl rfl (fun a_ w_ hn_ hBt hr hR hD hO hS => op_assign (show a_.eval (.tmp 69) = .int .i64 v from hD 4 rfl)),
            .norm 9 rfl rfl rfl (fun a_ w_ hn_ hBt hr hR hD hO hS => op_assign (show a_.eval (.tmp 70) = .bool true from hD 5 rfl)),
            trivial⟩
        intro a21 w21 gs21 hn21 hd21 hBt hr hR hP hX hU
        replace hn := hn21; replace hd := hd21.trans hd
        replace b2 := b2.keep hBt trivial
        replace f1 := (hR 1 rfl).trans f1
        replace f2 := (hR 2 rfl).trans f2
        replace f4 := (hR 4 rfl).trans f4
        have e8 : a21.eval (.tmp 8) = .int .i64 v := hP 6 (by decide)
        have f8 := e8
        have e9 : a21.eval (.tmp 9) = .bool true := hP 7 (by decide)
        have f9 := e9
        replace Ax := Ax.rl hr
        replace At := At.rl hr
        replace G11 := G11.rl hr
        replace A11 := A11.rl hr
        replace HB := HB.trans (hBt.below HB.size (UpOld.all (bx := []) trivial))
        clear hBt hr hR hP hX hU
        refine wp_seq ?_
        refine region4 [some 72, some 73, some 71, some 74, some 75, some 10, some 11] [Eqs (.agg #[.bool nx, .slice ax 400 cx]), Tup2 (Eqs (.int .i64 (intI zt))) (Eqs (.bool (inI zt))), Tup2 (Eqs (.int .i64 (intI zt))) (Eqs (.bool (inI zt))), Eqs (.int .i64 (intI zt)), Eqs (.bool (inI zt)), Eqs (.int .i64 (intI zt)), Eqs (.bool (inI zt))] [] [] (by kernel_rfl) hn rfl (by kernel_rfl) (by kernel_rfl) (by kernel_rfl) (by kernel_rfl) (by kernel_rfl) (by kernel_rfl) ⟨Eqs.mono4 _, Tup2.mono4 (Eqs.mono4 _) (Eqs.mono4 _), Tup2.mono4 (Eqs.mono4 _) (Eqs.mono4 _), Eqs.mono4 _, Eqs.mono4 _, Eqs.mono4 _, Eqs.mono4 _, trivial⟩ ok_nil (IsOld.all (bx := []) trivial) (DisOld.all (bx := []) trivial) ?_ ?_
        · exact ⟨.norm 72 rfl rfl rfl (fun a_ w_ hn_ hBt hr hR hD hO hS => op_loadv W2ok ((hR 2 rfl).trans f2) (b2.keep hBt trivial)),
            .norm 73 rfl rfl rfl (fun a_ w_ hn_ hBt hr hR hD hO hS => op_wint (isw_eq (show a_.eval (.tmp 72) = .agg #[.bool nx, .slice ax 400 cx] from hD 0 rfl) (At.rl hr) Lt)),
            .norm 71 rfl rfl rfl (fun a_ w_ hn_ hBt hr hR hD hO hS => op_mvp (p := Tup2 (Eqs (.int .i64 (intI zt))) (Eqs (.bool (inI zt)))) (show Tup2 (Eqs (.int .i64 (intI zt))) (Eqs (.bool (inI zt))) (a_.eval (.tmp 73)) w_ from hD 1 rfl)),
            .norm 74 rfl rfl rfl (fun a_ w_ hn_ hBt hr hR hD hO hS => op_ex20 (show Tup2 (Eqs (.int .i64 (intI zt))) (Eqs (.bool (inI zt))) (a_.eval (.tmp 71)) w_ from hD 2 rfl)),
            .norm 75 rfl rfl rfl (fun a_ w_ hn_ hBt hr hR hD hO hS => op_ex21 (show Tup2 (Eqs (.int .i64 (intI zt))) (Eqs (.bool (inI zt))) (a_.eval (.tmp 71)) w_ from hD 2 rfl)),
            .norm 10 rfl rfl rfl (fun a_ w_ hn_ hBt hr hR hD hO hS => op_assign (show a_.eval (.tmp 74) = .int .i64 (intI zt) from hD 3 rfl)),
            .norm 11 rfl rfl rfl (fun a_ w_ hn_ hBt hr hR hD hO hS => op_assign (show a_.eval (.tmp 75) = .bool (inI zt) from hD 4 rfl)),
            trivial⟩
        intro a22 w22 gs22 hn22 hd22 hBt hr hR hP hX hU
        replace hn := hn22; replace hd := hd22.trans hd
        replace b2 := b2.keep hBt trivial
        replace f1 := (hR 1 rfl).trans f1
        replace f2 := (hR 2 rfl).trans f2
        replace f4 := (hR 4 rfl).trans f4
        replace f8 := (hR 8 rfl).trans f8
        replace f9 := (hR 9 rfl).trans f9
        have e10 : a22.eval (.tmp 10) = .int .i64 (intI zt) := hP 5 (by decide)
        have f10 := e10
        have e11 : a22.eval (.tmp 11) = .bool (inI zt) := hP 6 (by decide)
        have f11 := e11
        replace Ax := Ax.rl hr
        replace At := At.rl hr
        replace G11 := G11.rl hr
        replace A11 := A11.rl hr
        replace HB := HB.trans (hBt.below HB.size (UpOld.all (bx := []) trivial))
        clear hBt hr hR hP hX hU
        refine wp_seq ?_
        cases hbi : inI zt with
        | true =>
          rw [hbi] at f11
          refine region4 [some 76, some 77, some 78, some 79, some 80, some 81, some 82, some 83, some 84, some 85, some 86, some 87, some 88, some 89, some 90, some 91, some 92, some 4] [Eqs (.bool true), Eqs (.bool true), Eqs (.int .i64 v), Eqs (.int .i64 v), Eqs (.bool true), Eqs (.bool true), Eqs (.bool true), Eqs (.bool true), Eqs (.bool false), Eqs (.bool false), Eqs (.int .i64 (intI zt)), OutW ((intI zt)) (2), Eqs (.agg #[.bool nx, .slice ax 400 cx]), OutW (zt) (400), Eqs (.bool true), Eqs (.bool true), Eqs (.bool true), Eqs (.bool true)] [] [] (by kernel_rfl) hn rfl (by kernel_rfl) (by kernel_rfl) (by kernel_rfl) (by kernel_rfl) (by kernel_rfl) (by kernel_rfl) ⟨Eqs.mono4 _, Eqs.mono4 _, Eqs.mono4 _, Eqs.mono4 _, Eqs.mono4 _, Eqs.mono4 _, Eqs.mono4 _, Eqs.mono4 _, Eqs.mono4 _, Eqs.mono4 _, Eqs.mono4 _, OutW.mono4 _ _, Eqs.mono4 _, OutW.mono4 _ _, Eqs.mono4 _, Eqs.mono4 _, Eqs.mono4 _, Eqs.mono4 _, trivial⟩ ok_nil (IsOld.all (bx := []) trivial) (DisOld.all (bx := []) trivial) ?_ ?_
          · exact ⟨.norm 76 rfl rfl rfl (fun a_ w_ hn_ hBt hr hR hD hO hS => op_mv ((hR 9 rfl).trans f9)),
              .norm 77 rfl rfl rfl (fun a_ w_ hn_ hBt hr hR hD hO hS => op_mv (show a_.eval (.tmp 76) = .bool true from hD 0 rfl)),
              .norm 78 rfl rfl rfl (fun a_ w_ hn_ hBt hr hR hD hO hS => ⟨⟨_, rfl⟩, fun _ => op_mv ((hR 8 rfl).trans f8), fun hne => absurd (hD 1 rfl) hne⟩),
              .norm 79 rfl rfl rfl (fun a_ w_ hn_ hBt hr hR hD hO hS => ⟨⟨_, rfl⟩, fun _ => op_mv ((hR 1 rfl).trans f1), fun hne => absurd (hD 1 rfl) hne⟩),
              .norm 80 rfl rfl rfl (fun a_ w_ hn_ hBt hr hR hD hO hS => ⟨⟨_, rfl⟩, fun _ => op_eql (show a_.eval (.tmp 78) = .int .i64 v from hD 2 rfl) (show a_.eval (.tmp 79) = .int .i64 v from hD 3 rfl) rfl, fun hne => absurd (hD 1 rfl) hne⟩),
              .norm 81 rfl rfl rfl (fun a_ w_ hn_ hBt hr hR hD hO hS => op_pickb (show a_.eval (.tmp 77) = .bool true from hD 1 rfl) (show a_.eval (.tmp 80) = .bool true from hD 4 rfl)),
              .norm 82 rfl rfl rfl (fun a_ w_ hn_ hBt hr hR hD hO hS => op_mv (show a_.eval (.tmp 81) = .bool true from hD 5 rfl)),
              .norm 83 rfl rfl rfl (fun a_ w_ hn_ hBt hr hR hD hO hS => ⟨⟨_, rfl⟩, fun _ => op_mv ((hR 11 rfl).trans f11), fun hne => absurd (hD 6 rfl) hne⟩),
              .norm 84 rfl rfl rfl (fun a_ w_ hn_ hBt hr hR hD hO hS => ⟨⟨_, rfl⟩, fun _ => op_not (show a_.eval (.tmp 83) = .bool true from hD 7 rfl), fun hne => absurd (hD 6 rfl) hne⟩),
              .norm 85 rfl rfl rfl (fun a_ w_ hn_ hBt hr hR hD hO hS => ⟨⟨_, rfl⟩, fun _ => op_mv (show a_.eval (.tmp 84) = .bool false from hD 8 rfl), fun hne => absurd (hD 6 rfl) hne⟩),
              .norm 86 rfl rfl rfl (fun a_ w_ hn_ hBt hr hR hD hO hS => ⟨⟨_, rfl⟩, fun _ => op_mv ((hR 10 rfl).trans f10), fun hne => absurd (hD 9 rfl) hne⟩),
              .norm 87 rfl rfl rfl (fun a_ w_ hn_ hBt hr hR hD hO hS => ⟨⟨_, rfl⟩, fun _ => op_oft (show a_.eval (.tmp 86) = .int .i64 (intI zt) from hD 10 rfl) (intI_in _).1 (intI_in _).2, fun hne => absurd (hD 9 rfl) hne⟩),
              .norm 88 rfl rfl rfl (fun a_ w_ hn_ hBt hr hR hD hO hS => ⟨⟨_, rfl⟩, fun _ => op_loadv W2ok ((hR 2 rfl).trans f2) (b2.keep hBt trivial), fun hne => absurd (hD 9 rfl) hne⟩),
              .norm 89 rfl rfl rfl (fun a_ w_ hn_ hBt hr hR hD hO hS => ⟨⟨_, rfl⟩, fun _ => op_wtrim (isw_eq (show a_.eval (.tmp 88) = .agg #[.bool nx, .slice ax 400 cx] from hD 12 rfl) (At.rl hr) Lt) (by omega), fun hne => absurd (hD 9 rfl) hne⟩),
              .norm 90 rfl rfl rfl (fun a_ w_ hn_ hBt hr hR hD hO hS => ⟨⟨_, rfl⟩, fun _ => op_same (show OutW ((intI zt)) (2) (a_.eval (.tmp 87)) w_ from hD 11 rfl) (show OutW (zt) (400) (a_.eval (.tmp 89)) w_ from hD 13 rfl) (intI_of hbi), fun hne => absurd (hD 9 rfl) hne⟩),
              .norm 91 rfl rfl rfl (fun a_ w_ hn_ hBt hr hR hD hO hS => ⟨⟨_, rfl⟩, fun _ => op_pickb (show a_.eval (.tmp 85) = .bool false from hD 9 rfl) (show a_.eval (.tmp 90) = .bool true from hD 14 rfl), fun hne => absurd (hD 6 rfl) hne⟩),
              .norm 92 rfl rfl rfl (fun a_ w_ hn_ hBt hr hR hD hO hS => op_pickb (show a_.eval (.tmp 82) = .bool true from hD 6 rfl) (show a_.eval (.tmp 91) = .bool true from hD 15 rfl)),
              .norm 4 rfl rfl rfl (fun a_ w_ hn_ hBt hr hR hD hO hS => op_assign (show a_.eval (.tmp 92) = .bool true from hD 16 rfl)),
              trivial⟩
          intro a23 w23 gs23 hn23 hd23 hBt hr hR hP hX hU
          replace hn := hn23; replace hd := hd23.trans hd
          have e4 : a23.eval (.tmp 4) = .bool true := hP 17 (by decide)
          have f4 := e4
          replace Ax := Ax.rl hr
          replace At := At.rl hr
          replace G11 := G11.rl hr
          replace A11 := A11.rl hr
          replace HB := HB.trans (hBt.below HB.size (UpOld.all (bx := []) trivial))
          clear hBt hr hR hP hX hU
          refine wp_ret ?_
          repeat (first | refine then_ret ?_ | refine scope_ret ?_ | refine block_ret ?_)
          exact bodyPost_ret (v := .bool true) (res_t rfl f4) hd ⟨rfl, HB⟩
        | false =>
          rw [hbi] at f11
          refine region4 [some 76, some 77, some 78, some 79, some 80, some 81, some 82, some 83, some 84, some 85, some 86, some 87, some 88, some 89, some 90, some 91, some 92, some 4] [Eqs (.bool true), Eqs (.bool true), Eqs (.int .i64 v), Eqs (.int .i64 v), Eqs (.bool true), Eqs (.bool true), Eqs (.bool true), Eqs (.bool false), Eqs (.bool true), Eqs (.bool true), (fun _ _ => True), (fun _ _ => True), (fun _ _ => True), (fun _ _ => True), (fun _ _ => True), Eqs (.bool true), Eqs (.bool true), Eqs (.bool true)] [] [] (by kernel_rfl) hn rfl (by kernel_rfl) (by kernel_rfl) (by kernel_rfl) (by kernel_rfl) (by kernel_rfl) (by kernel_rfl) ⟨Eqs.mono4 _, Eqs.mono4 _, Eqs.mono4 _, Eqs.mono4 _, Eqs.mono4 _, Eqs.mono4 _, Eqs.mono4 _, Eqs.mono4 _, Eqs.mono4 _, Eqs.mono4 _, True.mono4, True.mono4, True.mono4, True.mono4, True.mono4, Eqs.mono4 _, Eqs.mono4 _, Eqs.mono4 _, trivial⟩ ok_nil (IsOld.all (bx := []) trivial) (DisOld.all (bx := []) trivial) ?_ ?_
          · exact ⟨.norm 76 rfl rfl rfl (fun a_ w_ hn_ hBt hr hR hD hO hS => op_mv ((hR 9 rfl).trans f9)),
              .norm 77 rfl rfl rfl (fun a_ w_ hn_ hBt hr hR hD hO hS => op_mv (show a_.eval (.tmp 76) = .bool true from hD 0 rfl)),
              .norm 78 rfl rfl rfl (fun a_ w_ hn_ hBt hr hR hD hO hS => ⟨⟨_, rfl⟩, fun _ => op_mv ((hR 8 rfl).trans f8), fun hne => absurd (hD 1 rfl) hne⟩),
              .norm 79 rfl rfl rfl (fun a_ w_ hn_ hBt hr hR hD hO hS => ⟨⟨_, rfl⟩, fun _ => op_mv ((hR 1 rfl).trans f1), fun hne => absurd (hD 1 rfl) hne⟩),
              .norm 80 rfl rfl rfl (fun a_ w_ hn_ hBt hr hR hD hO hS => ⟨⟨_, rfl⟩, fun _ => op_eql (show a_.eval (.tmp 78) = .int .i64 v from hD 2 rfl) (show a_.eval (.tmp 79) = .int .i64 v from hD 3 rfl) rfl, fun hne => absurd (hD 1 rfl) hne⟩),
              .norm 81 rfl rfl rfl (fun a_ w_ hn_ hBt hr hR hD hO hS => op_pickb (show a_.eval (.tmp 77) = .bool true from hD 1 rfl) (show a_.eval (.tmp 80) = .bool true from hD 4 rfl)),
              .norm 82 rfl rfl rfl (fun a_ w_ hn_ hBt hr hR hD hO hS => op_mv (show a_.eval (.tmp 81) = .bool true from hD 5 rfl)),
              .norm 83 rfl rfl rfl (fun a_ w_ hn_ hBt hr hR hD hO hS => ⟨⟨_, rfl⟩, fun _ => op_mv ((hR 11 rfl).trans f11), fun hne => absurd (hD 6 rfl) hne⟩),
              .norm 84 rfl rfl rfl (fun a_ w_ hn_ hBt hr hR hD hO hS => ⟨⟨_, rfl⟩, fun _ => op_not (show a_.eval (.tmp 83) = .bool false from hD 7 rfl), fun hne => absurd (hD 6 rfl) hne⟩),
              .norm 85 rfl rfl rfl (fun a_ w_ hn_ hBt hr hR hD hO hS => ⟨⟨_, rfl⟩, fun _ => op_mv (show a_.eval (.tmp 84) = .bool true from hD 8 rfl), fun hne => absurd (hD 6 rfl) hne⟩),
              .norm 86 rfl rfl rfl (fun a_ w_ hn_ hBt hr hR hD hO hS => ⟨⟨_, rfl⟩, fun h => absurd ((show _ = Value.bool true from hD 9 rfl).symm.trans h) (by simp), fun _ => trivial⟩),
              .norm 87 rfl rfl rfl (fun a_ w_ hn_ hBt hr hR hD hO hS => ⟨⟨_, rfl⟩, fun h => absurd ((show _ = Value.bool true from hD 9 rfl).symm.trans h) (by simp), fun _ => trivial⟩),
              .norm 88 rfl rfl rfl (fun a_ w_ hn_ hBt hr hR hD hO hS => ⟨⟨_, rfl⟩, fun h => absurd ((show _ = Value.bool true from hD 9 rfl).symm.trans h) (by simp), fun _ => trivial⟩),
              .norm 89 rfl rfl rfl (fun a_ w_ hn_ hBt hr hR hD hO hS => ⟨⟨_, rfl⟩, fun h => absurd ((show _ = Value.bool true from hD 9 rfl).symm.trans h) (by simp), fun _ => trivial⟩),
              .norm 90 rfl rfl rfl (fun a_ w_ hn_ hBt hr hR hD hO hS => ⟨⟨_, rfl⟩, fun h => absurd ((show _ = Value.bool true from hD 9 rfl).symm.trans h) (by simp), fun _ => trivial⟩),
              .norm 91 rfl rfl rfl (fun a_ w_ hn_ hBt hr hR hD hO hS => ⟨⟨_, rfl⟩, fun _ => op_pickb (show a_.eval (.tmp 85) = .bool true from hD 9 rfl) rfl, fun hne => absurd (hD 6 rfl) hne⟩),
              .norm 92 rfl rfl rfl (fun a_ w_ hn_ hBt hr hR hD hO hS => op_pickb (show a_.eval (.tmp 82) = .bool true from hD 6 rfl) (show a_.eval (.tmp 91) = .bool true from hD 15 rfl)),
              .norm 4 rfl rfl rfl (fun a_ w_ hn_ hBt hr hR hD hO hS => op_assign (show a_.eval (.tmp 92) = .bool true from hD 16 rfl)),
              trivial⟩
          intro a24 w24 gs24 hn24 hd24 hBt hr hR hP hX hU
          replace hn := hn24; replace hd := hd24.trans hd
          have e4 : a24.eval (.tmp 4) = .bool true := hP 17 (by decide)
          have f4 := e4
          replace Ax := Ax.rl hr
          replace At := At.rl hr
          replace G11 := G11.rl hr
          replace A11 := A11.rl hr
          replace HB := HB.trans (hBt.below HB.size (UpOld.all (bx := []) trivial))
          clear hBt hr hR hP hX hU
          refine wp_ret ?_
          repeat (first | refine then_ret ?_ | refine scope_ret ?_ | refine block_ret ?_)
          exact bodyPost_ret (v := .bool true) (res_t rfl f4) hd ⟨rfl, HB⟩
    · skip
      have h4 := of_decide_eq_false hc20
      have Lt : xs.length ≤ 400 := by omega
      have hBr : Brief zx := brief_of Ax.sl.parts.2.2.2 Ax.worth Lt
      refine wp_skip ?_
      refine wp_seq ?_
      refine region4 [some 25, some 26, some 5] [Eqs (.agg #[.bool nx, .slice ax mx cx]), Eqs (.string (txt zx)), Eqs (.string (txt zx))] [] [] (by kernel_rfl) hn rfl (by kernel_rfl) (by kernel_rfl) (by kernel_rfl) (by kernel_rfl) (by kernel_rfl) (by kernel_rfl) ⟨Eqs.mono4 _, Eqs.mono4 _, Eqs.mono4 _, trivial⟩ ok_nil (IsOld.all (bx := []) trivial) (DisOld.all (bx := []) trivial) ?_ ?_
      · exact ⟨.norm 25 rfl rfl rfl (fun a_ w_ hn_ hBt hr hR hD hO hS => op_loadv W2ok ((hR 2 rfl).trans f2) (b2.keep hBt trivial)),
          .norm 26 rfl rfl rfl (fun a_ w_ hn_ hBt hr hR hD hO hS => op_wtext (isw_eq (show a_.eval (.tmp 25) = .agg #[.bool nx, .slice ax mx cx] from hD 0 rfl) (Ax.rl hr) Lt) (by omega)),
          .norm 5 rfl rfl rfl (fun a_ w_ hn_ hBt hr hR hD hO hS => op_assign (show a_.eval (.tmp 26) = .string (txt zx) from hD 1 rfl)),
          trivial⟩
      intro a25 w25 gs25 hn25 hd25 hBt hr hR hP hX hU
      replace hn := hn25; replace hd := hd25.trans hd
      replace b2 := b2.keep hBt trivial
      replace f1 := (hR 1 rfl).trans f1
      replace f2 := (hR 2 rfl).trans f2
      replace f4 := (hR 4 rfl).trans f4
      have e5 : a25.eval (.tmp 5) = .string (txt zx) := hP 2 (by decide)
      have f5 := e5
      replace Ax := Ax.rl hr
      replace HB := HB.trans (hBt.below HB.size (UpOld.all (bx := []) trivial))
      clear hBt hr hR hP hX hU
      refine wp_seq ?_
      refine region4 [some 28, some 29, some 27, some 30, some 31, some 6, none, some 7] [Eqs (.string (txt zx)), Tup2 (OutW (zOf (txt zx)) (6000)) (Eqs (.int .i64 (eOf (txt zx)))), Tup2 (OutW (zOf (txt zx)) (6000)) (Eqs (.int .i64 (eOf (txt zx)))), OutW (zOf (txt zx)) (6000), Eqs (.int .i64 (eOf (txt zx))), (fun _ _ => True), (fun _ _ => True), Eqs (.int .i64 (eOf (txt zx)))] [⟨W2, some 5, 0, 6, .agg #[.bool false, .slice none 0 0], some (6, 30, 3), []⟩] [] (by kernel_rfl) hn rfl (by kernel_rfl) (by kernel_rfl) (by kernel_rfl) (by kernel_rfl) (by kernel_rfl) (by kernel_rfl) ⟨Eqs.mono4 _, Tup2.mono4 (OutW.mono4 _ _) (Eqs.mono4 _), Tup2.mono4 (OutW.mono4 _ _) (Eqs.mono4 _), OutW.mono4 _ _, Eqs.mono4 _, True.mono4, True.mono4, Eqs.mono4 _, trivial⟩ (ok_cons W2ok ok_nil) (IsOld.all (bx := [⟨W2, some 5, 0, 6, .agg #[.bool false, .slice none 0 0], some (6, 30, 3), []⟩]) ⟨someNe, trivial⟩) (DisOld.all (bx := [⟨W2, some 5, 0, 6, .agg #[.bool false, .slice none 0 0], some (6, 30, 3), []⟩]) ⟨someNe, trivial⟩) ?_ ?_
      · exact ⟨.norm 28 rfl rfl rfl (fun a_ w_ hn_ hBt hr hR hD hO hS => op_mv ((hR 5 rfl).trans f5)),
          .norm 29 rfl rfl rfl (fun a_ w_ hn_ hBt hr hR hD hO hS => op_wparse (show a_.eval (.tmp 28) = .string (txt zx) from hD 0 rfl) (hT.below (HB.trans (hBt.below HB.size (UpOld.all (bx := [⟨W2, some 5, 0, 6, .agg #[.bool false, .slice none 0 0], some (6, 30, 3), []⟩]) ⟨someNe, trivial⟩))))),
          .norm 27 rfl rfl rfl (fun a_ w_ hn_ hBt hr hR hD hO hS => op_mvp (p := Tup2 (OutW (zOf (txt zx)) (6000)) (Eqs (.int .i64 (eOf (txt zx))))) (show Tup2 (OutW (zOf (txt zx)) (6000)) (Eqs (.int .i64 (eOf (txt zx)))) (a_.eval (.tmp 29)) w_ from hD 1 rfl)),
          .norm 30 rfl rfl rfl (fun a_ w_ hn_ hBt hr hR hD hO hS => op_ex20 (show Tup2 (OutW (zOf (txt zx)) (6000)) (Eqs (.int .i64 (eOf (txt zx)))) (a_.eval (.tmp 27)) w_ from hD 2 rfl)),
          .norm 31 rfl rfl rfl (fun a_ w_ hn_ hBt hr hR hD hO hS => op_ex21 (show Tup2 (OutW (zOf (txt zx)) (6000)) (Eqs (.int .i64 (eOf (txt zx)))) (a_.eval (.tmp 27)) w_ from hD 2 rfl)),
          .alloc 0 _ rfl rfl (.inl ⟨rfl, rfl⟩) rfl rfl rfl rfl rfl,
          .store 0 _ _ _ rfl rfl rfl rfl rfl rfl rfl (fun ia h => by cases h; rfl) rfl rfl rfl OutW.cs,
          .norm 7 rfl rfl rfl (fun a_ w_ hn_ hBt hr hR hD hO hS => op_assign (show a_.eval (.tmp 31) = .int .i64 (eOf (txt zx)) from hD 4 rfl)),
          trivial⟩
      intro a26 w26 gs26 hn26 hd26 hBt hr hR hP hX hU
      replace hn := hn26; replace hd := hd26.trans hd
      have ne2_6 : (gs1 0) ≠ gs26 0 := by have h1 := b2.lt; have h2 := (hX 0 _ rfl).2.2.1 (by simp); omega
      replace b2 := b2.keep hBt ⟨someNe, trivial⟩
      obtain ⟨n_27, a_27, c_27, r_27, e30, G27, l27⟩ : OutW (zOf (txt zx)) (6000) (a26.eval (.tmp 30)) w26 := hP 3 (by decide)
      have A27 := G27.ag
      have b6 : BoxV W2 w26 (gs26 0) (.agg #[.bool n_27, .slice a_27 r_27.length c_27]) := boxv_of (hX 0 _ rfl).2.2.2 e30
      have f6 := (hX 0 _ rfl).1
      have u6 : w.heap.size ≤ gs26 0 := Nat.le_trans HB.size ((hX 0 _ rfl).2.2.1 (by simp))
      replace f1 := (hR 1 rfl).trans f1
      replace f2 := (hR 2 rfl).trans f2
      replace f4 := (hR 4 rfl).trans f4
      replace f5 := (hR 5 rfl).trans f5
      have e7 : a26.eval (.tmp 7) = .int .i64 (eOf (txt zx)) := hP 7 (by decide)
      have f7 := e7
      replace Ax := Ax.rl hr
      replace HB := HB.trans (hBt.below HB.size (UpOld.all (bx := [⟨W2, some 5, 0, 6, .agg #[.bool false, .slice none 0 0], some (6, 30, 3), []⟩]) ⟨someNe, trivial⟩))
      clear hBt hr hR hP hX hU
      refine wp_seq ?_
      refine wp_seq ?_
      refine region4 [some 32, some 33, some 34, some 35, some 36, some 37, some 38, some 39, some 40] [Eqs (.int .i64 (eOf (txt zx))), Eqs (.bool false), Eqs (.bool false), Eqs (.agg #[.bool n_27, .slice a_27 r_27.length c_27]), Eqs (.agg #[.bool nx, .slice ax mx cx]), OutW (zx) (400), Eqs (.bool true), Eqs (.bool false), Eqs (.bool false)] [] [] (by kernel_rfl) hn rfl (by kernel_rfl) (by kernel_rfl) (by kernel_rfl) (by kernel_rfl) (by kernel_rfl) (by kernel_rfl) ⟨Eqs.mono4 _, Eqs.mono4 _, Eqs.mono4 _, Eqs.mono4 _, Eqs.mono4 _, OutW.mono4 _ _, Eqs.mono4 _, Eqs.mono4 _, Eqs.mono4 _, trivial⟩ ok_nil (IsOld.all (bx := []) trivial) (DisOld.all (bx := []) trivial) ?_ ?_
      · exact ⟨.norm 32 rfl rfl rfl (fun a_ w_ hn_ hBt hr hR hD hO hS => op_mv ((hR 7 rfl).trans f7)),
          .norm 33 rfl rfl rfl (fun a_ w_ hn_ hBt hr hR hD hO hS => op_neqEf (show a_.eval (.tmp 32) = .int .i64 (eOf (txt zx)) from hD 0 rfl) (back_txt hBr).2),
          .norm 34 rfl rfl rfl (fun a_ w_ hn_ hBt hr hR hD hO hS => op_mv (show a_.eval (.tmp 33) = .bool false from hD 1 rfl)),
          .norm 35 rfl rfl rfl (fun a_ w_ hn_ hBt hr hR hD hO hS => ⟨⟨_, rfl⟩, fun _ => op_loadv W2ok ((hR 6 rfl).trans f6) (b6.keep hBt trivial), fun hne => absurd (hD 2 rfl) hne⟩),
          .norm 36 rfl rfl rfl (fun a_ w_ hn_ hBt hr hR hD hO hS => ⟨⟨_, rfl⟩, fun _ => op_loadv W2ok ((hR 2 rfl).trans f2) (b2.keep hBt trivial), fun hne => absurd (hD 2 rfl) hne⟩),
          .norm 37 rfl rfl rfl (fun a_ w_ hn_ hBt hr hR hD hO hS => ⟨⟨_, rfl⟩, fun _ => op_wtrim (isw_eq (show a_.eval (.tmp 36) = .agg #[.bool nx, .slice ax mx cx] from hD 4 rfl) (Ax.rl hr) Lt) (by omega), fun hne => absurd (hD 2 rfl) hne⟩),
          .norm 38 rfl rfl rfl (fun a_ w_ hn_ hBt hr hR hD hO hS => ⟨⟨_, rfl⟩, fun _ => op_same (outw_eq (show a_.eval (.tmp 35) = .agg #[.bool n_27, .slice a_27 r_27.length c_27] from hD 3 rfl) (G27.rl hr) l27) (show OutW (zx) (400) (a_.eval (.tmp 37)) w_ from hD 5 rfl) (back_txt hBr).1, fun hne => absurd (hD 2 rfl) hne⟩),
          .norm 39 rfl rfl rfl (fun a_ w_ hn_ hBt hr hR hD hO hS => ⟨⟨_, rfl⟩, fun _ => op_not (show a_.eval (.tmp 38) = .bool true from hD 6 rfl), fun hne => absurd (hD 2 rfl) hne⟩),
          .norm 40 rfl rfl rfl (fun a_ w_ hn_ hBt hr hR hD hO hS => op_pickb (show a_.eval (.tmp 34) = .bool false from hD 2 rfl) (show a_.eval (.tmp 39) = .bool false from hD 7 rfl)),
          trivial⟩
      intro a28 w28 gs28 hn28 hd28 hBt hr hR hP hX hU
      replace hn := hn28; replace hd := hd28.trans hd
      replace b2 := b2.keep hBt trivial
      replace b6 := b6.keep hBt trivial
      replace f1 := (hR 1 rfl).trans f1
      replace f2 := (hR 2 rfl).trans f2
      replace f4 := (hR 4 rfl).trans f4
      replace f5 := (hR 5 rfl).trans f5
      replace f6 := (hR 6 rfl).trans f6
      replace f7 := (hR 7 rfl).trans f7
      have e40 : a28.eval (.tmp 40) = .bool false := hP 8 (by decide)
      have f40 := e40
      replace Ax := Ax.rl hr
      replace G27 := G27.rl hr
      replace A27 := A27.rl hr
      replace HB := HB.trans (hBt.below HB.size (UpOld.all (bx := []) trivial))
      clear hBt hr hR hP hX hU
      refine wp_cond_false f40 ?_
      refine wp_skip ?_
      refine wp_seq ?_
      refine wp_seq ?_
      refine region4 [some 41, some 42, some 43] [Eqs (.agg #[.bool nx, .slice ax mx cx]), Eqs (.int .i64 (Int.sign zx)), Eqs (.bool (decide ((Int.sign zx) < 0)))] [] [] (by kernel_rfl) hn rfl (by kernel_rfl) (by kernel_rfl) (by kernel_rfl) (by kernel_rfl) (by kernel_rfl) (by kernel_rfl) ⟨Eqs.mono4 _, Eqs.mono4 _, Eqs.mono4 _, trivial⟩ ok_nil (IsOld.all (bx := []) trivial) (DisOld.all (bx := []) trivial) ?_ ?_
      · exact ⟨.norm 41 rfl rfl rfl (fun a_ w_ hn_ hBt hr hR hD hO hS => op_loadv W2ok ((hR 2 rfl).trans f2) (b2.keep hBt trivial)),
          .norm 42 rfl rfl rfl (fun a_ w_ hn_ hBt hr hR hD hO hS => op_sign (isw_eq (show a_.eval (.tmp 41) = .agg #[.bool nx, .slice ax mx cx] from hD 0 rfl) (Ax.rl hr) Lt) (by omega)),
          .norm 43 rfl rfl rfl (fun a_ w_ hn_ hBt hr hR hD hO hS => op_lssk (show a_.eval (.tmp 42) = .int .i64 (Int.sign zx) from hD 1 rfl)),
          trivial⟩
      intro a29 w29 gs29 hn29 hd29 hBt hr hR hP hX hU
      replace hn := hn29; replace hd := hd29.trans hd
      replace b2 := b2.keep hBt trivial
      replace b6 := b6.keep hBt trivial
      replace f1 := (hR 1 rfl).trans f1
      replace f2 := (hR 2 rfl).trans f2
      replace f4 := (hR 4 rfl).trans f4
      replace f5 := (hR 5 rfl).trans f5
      replace f6 := (hR 6 rfl).trans f6
      replace f7 := (hR 7 rfl).trans f7
      have e43 : a29.eval (.tmp 43) = .bool (decide ((Int.sign zx) < 0)) := hP 2 (by decide)
      have f43 := e43
      replace Ax := Ax.rl hr
      replace G27 := G27.rl hr
      replace A27 := A27.rl hr
      replace HB := HB.trans (hBt.below HB.size (UpOld.all (bx := []) trivial))
      clear hBt hr hR hP hX hU
      refine wp_cond_split f43 (fun hc43 => ?_) (fun hc43 => ?_)
      · skip
        have hzn : zx < 0 := Int.sign_neg_iff.1 (of_decide_eq_true hc43)
        have hsz1 := (ms_neg hzn).2.2
        refine wp_seq ?_
        refine region4 [some 45, some 46, some 47, some 48, some 44, some 49, some 50, none, some 7] [Eqs (.string (txt zx)), Eqs (.string (((txt zx)).extract 1 ((txt zx)).size)), Eqs (.string (omin zx)), Tup2 (OutW (zOf (omin zx)) (6000)) (Eqs (.int .i64 (eOf (omin zx)))), Tup2 (OutW (zOf (omin zx)) (6000)) (Eqs (.int .i64 (eOf (omin zx)))), OutW (zOf (omin zx)) (6000), Eqs (.int .i64 (eOf (omin zx))), (fun _ _ => True), Eqs (.int .i64 (eOf (omin zx)))] [⟨W2, none, (gs26 0), 6, .agg #[.bool n_27, .slice a_27 r_27.length c_27], some (7, 49, 5), []⟩] [] (by kernel_rfl) hn rfl (by kernel_rfl) (by kernel_rfl) (by kernel_rfl) (by kernel_rfl) (by kernel_rfl) (by kernel_rfl) ⟨Eqs.mono4 _, Eqs.mono4 _, Eqs.mono4 _, Tup2.mono4 (OutW.mono4 _ _) (Eqs.mono4 _), Tup2.mono4 (OutW.mono4 _ _) (Eqs.mono4 _), OutW.mono4 _ _, Eqs.mono4 _, True.mono4, Eqs.mono4 _, trivial⟩ (ok_cons W2ok ok_nil) (IsOld.all (bx := [⟨W2, none, (gs26 0), 6, .agg #[.bool n_27, .slice a_27 r_27.length c_27], some (7, 49, 5), []⟩]) ⟨fun _ => ⟨f6, b6⟩, trivial⟩) (DisOld.all (bx := [⟨W2, none, (gs26 0), 6, .agg #[.bool n_27, .slice a_27 r_27.length c_27], some (7, 49, 5), []⟩]) ⟨fun _ => trivial, trivial⟩) ?_ ?_
        · exact ⟨.norm 45 rfl rfl rfl (fun a_ w_ hn_ hBt hr hR hD hO hS => op_mv ((hR 5 rfl).trans f5)),
            .norm 46 rfl rfl rfl (fun a_ w_ hn_ hBt hr hR hD hO hS => op_slst (k := 1) (show a_.eval (.tmp 45) = .string (txt zx) from hD 0 rfl) rfl (by omega)),
            .norm 47 rfl rfl rfl (fun a_ w_ hn_ hBt hr hR hD hO hS => op_adds (c := ⟨#[226, 136, 146]⟩) (show a_.eval (.tmp 46) = .string (((txt zx)).extract 1 ((txt zx)).size) from hD 1 rfl) (omin_size hBr)),
            .norm 48 rfl rfl rfl (fun a_ w_ hn_ hBt hr hR hD hO hS => op_wparse (show a_.eval (.tmp 47) = .string (omin zx) from hD 2 rfl) (hT.below (HB.trans (hBt.below HB.size (UpOld.all (bx := [⟨W2, none, (gs26 0), 6, .agg #[.bool n_27, .slice a_27 r_27.length c_27], some (7, 49, 5), []⟩]) ⟨fun _ => u6, trivial⟩))))),
            .norm 44 rfl rfl rfl (fun a_ w_ hn_ hBt hr hR hD hO hS => op_mvp (p := Tup2 (OutW (zOf (omin zx)) (6000)) (Eqs (.int .i64 (eOf (omin zx))))) (show Tup2 (OutW (zOf (omin zx)) (6000)) (Eqs (.int .i64 (eOf (omin zx)))) (a_.eval (.tmp 48)) w_ from hD 3 rfl)),
            .norm 49 rfl rfl rfl (fun a_ w_ hn_ hBt hr hR hD hO hS => op_ex20 (show Tup2 (OutW (zOf (omin zx)) (6000)) (Eqs (.int .i64 (eOf (omin zx)))) (a_.eval (.tmp 44)) w_ from hD 4 rfl)),
            .norm 50 rfl rfl rfl (fun a_ w_ hn_ hBt hr hR hD hO hS => op_ex21 (show Tup2 (OutW (zOf (omin zx)) (6000)) (Eqs (.int .i64 (eOf (omin zx)))) (a_.eval (.tmp 44)) w_ from hD 4 rfl)),
            .store 0 _ _ _ rfl rfl rfl rfl rfl rfl rfl (fun ia h => by cases h) rfl rfl rfl OutW.cs,
            .norm 7 rfl rfl rfl (fun a_ w_ hn_ hBt hr hR hD hO hS => op_assign (show a_.eval (.tmp 50) = .int .i64 (eOf (omin zx)) from hD 6 rfl)),
            trivial⟩
        intro a30 w30 gs30 hn30 hd30 hBt hr hR hP hX hU
        replace hn := hn30; replace hd := hd30.trans hd
        replace b2 := b2.keep hBt ⟨fun _ => ne2_6.symm, trivial⟩
        obtain ⟨n_31, a_31, c_31, r_31, e49, G31, l31⟩ : OutW (zOf (omin zx)) (6000) (a30.eval (.tmp 49)) w30 := hP 5 (by decide)
        have A31 := G31.ag
        have b6 : BoxV W2 w30 ((gs26 0)) (.agg #[.bool n_31, .slice a_31 r_31.length c_31]) := boxv_old ((hX 0 _ rfl).2.1 rfl) (hX 0 _ rfl).2.2.2 e49
        replace f6 : a30.eval (.tmp 6) = _ := (hR 6 rfl).trans f6
        replace f1 := (hR 1 rfl).trans f1
        replace f2 := (hR 2 rfl).trans f2
        replace f4 := (hR 4 rfl).trans f4
        replace f5 := (hR 5 rfl).trans f5
        have e7 : a30.eval (.tmp 7) = .int .i64 (eOf (omin zx)) := hP 8 (by decide)
        have f7 := e7
        replace Ax := Ax.rl hr
        replace G27 := G27.rl hr
        replace A27 := A27.rl hr
        replace HB := HB.trans (hBt.below HB.size (UpOld.all (bx := [⟨W2, none, (gs26 0), 6, .agg #[.bool n_27, .slice a_27 r_27.length c_27], some (7, 49, 5), []⟩]) ⟨fun _ => u6, trivial⟩))
        clear hBt hr hR hP hX hU
        refine wp_seq ?_
        refine region4 [some 51, some 52, some 53, some 54, some 55, some 56, some 57, some 58, some 59, some 60, some 61, some 62, some 63, some 64] [Eqs (.int .i64 (eOf (omin zx))), Eqs (.bool false), Eqs (.bool false), Eqs (.agg #[.bool n_31, .slice a_31 r_31.length c_31]), Eqs (.agg #[.bool nx, .slice ax mx cx]), OutW (zx) (400), Eqs (.bool true), Eqs (.bool false), Eqs (.bool false), Eqs (.bool false), Eqs (.string (txt zx)), Eqs (.int .u8 ((((txt zx)).get! 0).toNat : Int)), Eqs (.bool false), Eqs (.bool false)] [] [] (by kernel_rfl) hn rfl (by kernel_rfl) (by kernel_rfl) (by kernel_rfl) (by kernel_rfl) (by kernel_rfl) (by kernel_rfl) ⟨Eqs.mono4 _, Eqs.mono4 _, Eqs.mono4 _, Eqs.mono4 _, Eqs.mono4 _, OutW.mono4 _ _, Eqs.mono4 _, Eqs.mono4 _, Eqs.mono4 _, Eqs.mono4 _, Eqs.mono4 _, Eqs.mono4 _, Eqs.mono4 _, Eqs.mono4 _, trivial⟩ ok_nil (IsOld.all (bx := []) trivial) (DisOld.all (bx := []) trivial) ?_ ?_
        · exact ⟨.norm 51 rfl rfl rfl (fun a_ w_ hn_ hBt hr hR hD hO hS => op_mv ((hR 7 rfl).trans f7)),
            .norm 52 rfl rfl rfl (fun a_ w_ hn_ hBt hr hR hD hO hS => op_neqEf (show a_.eval (.tmp 51) = .int .i64 (eOf (omin zx)) from hD 0 rfl) (omin_back hzn hBr).2),
            .norm 53 rfl rfl rfl (fun a_ w_ hn_ hBt hr hR hD hO hS => op_mv (show a_.eval (.tmp 52) = .bool false from hD 1 rfl)),
            .norm 54 rfl rfl rfl (fun a_ w_ hn_ hBt hr hR hD hO hS => ⟨⟨_, rfl⟩, fun _ => op_loadv W2ok ((hR 6 rfl).trans f6) (b6.keep hBt trivial), fun hne => absurd (hD 2 rfl) hne⟩),
            .norm 55 rfl rfl rfl (fun a_ w_ hn_ hBt hr hR hD hO hS => ⟨⟨_, rfl⟩, fun _ => op_loadv W2ok ((hR 2 rfl).trans f2) (b2.keep hBt trivial), fun hne => absurd (hD 2 rfl) hne⟩),
            .norm 56 rfl rfl rfl (fun a_ w_ hn_ hBt hr hR hD hO hS => ⟨⟨_, rfl⟩, fun _ => op_wtrim (isw_eq (show a_.eval (.tmp 55) = .agg #[.bool nx, .slice ax mx cx] from hD 4 rfl) (Ax.rl hr) Lt) (by omega), fun hne => absurd (hD 2 rfl) hne⟩),
            .norm 57 rfl rfl rfl (fun a_ w_ hn_ hBt hr hR hD hO hS => ⟨⟨_, rfl⟩, fun _ => op_same (outw_eq (show a_.eval (.tmp 54) = .agg #[.bool n_31, .slice a_31 r_31.length c_31] from hD 3 rfl) (G31.rl hr) l31) (show OutW (zx) (400) (a_.eval (.tmp 56)) w_ from hD 5 rfl) (omin_back hzn hBr).1, fun hne => absurd (hD 2 rfl) hne⟩),
            .norm 58 rfl rfl rfl (fun a_ w_ hn_ hBt hr hR hD hO hS => ⟨⟨_, rfl⟩, fun _ => op_not (show a_.eval (.tmp 57) = .bool true from hD 6 rfl), fun hne => absurd (hD 2 rfl) hne⟩),
            .norm 59 rfl rfl rfl (fun a_ w_ hn_ hBt hr hR hD hO hS => op_pickb (show a_.eval (.tmp 53) = .bool false from hD 2 rfl) (show a_.eval (.tmp 58) = .bool false from hD 7 rfl)),
            .norm 60 rfl rfl rfl (fun a_ w_ hn_ hBt hr hR hD hO hS => op_mv (show a_.eval (.tmp 59) = .bool false from hD 8 rfl)),
            .norm 61 rfl rfl rfl (fun a_ w_ hn_ hBt hr hR hD hO hS => ⟨⟨_, rfl⟩, fun _ => op_mv ((hR 5 rfl).trans f5), fun hne => absurd (hD 9 rfl) hne⟩),
            .norm 62 rfl rfl rfl (fun a_ w_ hn_ hBt hr hR hD hO hS => ⟨⟨_, rfl⟩, fun _ => op_idxs (k := 0) (show a_.eval (.tmp 61) = .string (txt zx) from hD 10 rfl) rfl (by omega), fun hne => absurd (hD 9 rfl) hne⟩),
            .norm 63 rfl rfl rfl (fun a_ w_ hn_ hBt hr hR hD hO hS => ⟨⟨_, rfl⟩, fun _ => op_neq8f (show a_.eval (.tmp 62) = .int .u8 ((((txt zx)).get! 0).toNat : Int) from hD 11 rfl) (by have := (ms_neg hzn).2.1; omega), fun hne => absurd (hD 9 rfl) hne⟩),
            .norm 64 rfl rfl rfl (fun a_ w_ hn_ hBt hr hR hD hO hS => op_pickb (show a_.eval (.tmp 60) = .bool false from hD 9 rfl) (show a_.eval (.tmp 63) = .bool false from hD 12 rfl)),
            trivial⟩
        intro a32 w32 gs32 hn32 hd32 hBt hr hR hP hX hU
        replace hn := hn32; replace hd := hd32.trans hd
        replace b2 := b2.keep hBt trivial
        replace f1 := (hR 1 rfl).trans f1
        replace f2 := (hR 2 rfl).trans f2
        replace f4 := (hR 4 rfl).trans f4
        have e64 : a32.eval (.tmp 64) = .bool false := hP 13 (by decide)
        have f64 := e64
        replace Ax := Ax.rl hr
        replace G27 := G27.rl hr
        replace A27 := A27.rl hr
        replace G31 := G31.rl hr
        replace A31 := A31.rl hr
        replace HB := HB.trans (hBt.below HB.size (UpOld.all (bx := []) trivial))
        clear hBt hr hR hP hX hU
        refine wp_cond_false f64 ?_
        refine wp_skip ?_
        refine wp_seq ?_
        refine region4 [some 66, some 67, some 68, some 65, some 69, some 70, some 8, some 9] [Eqs (.int .i64 v), OutW (v) (2), Tup2 (Eqs (.int .i64 v)) (Eqs (.bool true)), Tup2 (Eqs (.int .i64 v)) (Eqs (.bool true)), Eqs (.int .i64 v), Eqs (.bool true), Eqs (.int .i64 v), Eqs (.bool true)] [] [] (by kernel_rfl) hn rfl (by kernel_rfl) (by kernel_rfl) (by kernel_rfl) (by kernel_rfl) (by kernel_rfl) (by kernel_rfl) ⟨Eqs.mono4 _, OutW.mono4 _ _, Tup2.mono4 (Eqs.mono4 _) (Eqs.mono4 _), Tup2.mono4 (Eqs.mono4 _) (Eqs.mono4 _), Eqs.mono4 _, Eqs.mono4 _, Eqs.mono4 _, Eqs.mono4 _, trivial⟩ ok_nil (IsOld.all (bx := []) trivial) (DisOld.all (bx := []) trivial) ?_ ?_
        · exact ⟨.norm 66 rfl rfl rfl (fun a_ w_ hn_ hBt hr hR hD hO hS => op_mv ((hR 1 rfl).trans f1)),
            .norm 67 rfl rfl rfl (fun a_ w_ hn_ hBt hr hR hD hO hS => op_oft (show a_.eval (.tmp 66) = .int .i64 v from hD 0 rfl) hv1 hv2),
            .norm 68 rfl rfl rfl (fun a_ w_ hn_ hBt hr hR hD hO hS => op_wintv (show OutW (v) (2) (a_.eval (.tmp 67)) w_ from hD 1 rfl).is hv1 hv2),
            .norm 65 rfl rfl rfl (fun a_ w_ hn_ hBt hr hR hD hO hS => op_mvp (p := Tup2 (Eqs (.int .i64 v)) (Eqs (.bool true))) (show Tup2 (Eqs (.int .i64 v)) (Eqs (.bool true)) (a_.eval (.tmp 68)) w_ from hD 2 rfl)),
            .norm 69 rfl rfl rfl (fun a_ w_ hn_ hBt hr hR hD hO hS => op_ex20 (show Tup2 (Eqs (.int .i64 v)) (Eqs (.bool true)) (a_.eval (.tmp 65)) w_ from hD 3 rfl)),
            .norm 70 rfl rfl rfl (fun a_ w_ hn_ hBt hr hR hD hO hS => op_ex21 (show Tup2 (Eqs (.int .i64 v)) (Eqs (.bool true)) (a_.eval (.tmp 65)) w_ from hD 3 rfl)),
            .norm 8 rfl rfl rfl (fun a_ w_ hn_ hBt hr hR hD hO hS => op_assign (show a_.eval (.tmp 69) = .int .i64 v from hD 4 rfl)),
            .norm 9 rfl rfl rfl (fun a_ w_ hn_ hBt hr hR hD hO hS => op_assign (show a_.eval (.tmp 70) = .bool true from hD 5 rfl)),
            trivial⟩
        intro a33 w33 gs33 hn33 hd33 hBt hr hR hP hX hU
        replace hn := hn33; replace hd := hd33.trans hd
        replace b2 := b2.keep hBt trivial
        replace f1 := (hR 1 rfl).trans f1
        replace f2 := (hR 2 rfl).trans f2
        replace f4 := (hR 4 rfl).trans f4
        have e8 : a33.eval (.tmp 8) = .int .i64 v := hP 6 (by decide)
        have f8 := e8
        have e9 : a33.eval (.tmp 9) = .bool true := hP 7 (by decide)
        have f9 := e9
        replace Ax := Ax.rl hr
        replace G27 := G27.rl hr
        replace A27 := A27.rl hr
        replace G31 := G31.rl hr
        replace A31 := A31.rl hr
        replace HB := HB.trans (hBt.below HB.size (UpOld.all (bx := []) trivial))
        clear hBt hr hR hP hX hU
        refine wp_seq ?_
        refine region4 [some 72, some 73, some 71, some 74, some 75, some 10, some 11] [Eqs (.agg #[.bool nx, .slice ax mx cx]), Tup2 (Eqs (.int .i64 (intI zx))) (Eqs (.bool (inI zx))), Tup2 (Eqs (.int .i64 (intI zx))) (Eqs (.bool (inI zx))), Eqs (.int .i64 (intI zx)), Eqs (.bool (inI zx)), Eqs (.int .i64 (intI zx)), Eqs (.bool (inI zx))] [] [] (by kernel_rfl) hn rfl (by kernel_rfl) (by kernel_rfl) (by kernel_rfl) (by kernel_rfl) (by kernel_rfl) (by kernel_rfl) ⟨Eqs.mono4 _, Tup2.mono4 (Eqs.mono4 _) (Eqs.mono4 _), Tup2.mono4 (Eqs.mono4 _) (Eqs.mono4 _), Eqs.mono4 _, Eqs.mono4 _, Eqs.mono4 _, Eqs.mono4 _, trivial⟩ ok_nil (IsOld.all (bx := []) trivial) (DisOld.all (bx := []) trivial) ?_ ?_
        · exact ⟨.norm 72 rfl rfl rfl (fun a_ w_ hn_ hBt hr hR hD hO hS => op_loadv W2ok ((hR 2 rfl).trans f2) (b2.keep hBt trivial)),
            .norm 73 rfl rfl rfl (fun a_ w_ hn_ hBt hr hR hD hO hS => op_wint (isw_eq (show a_.eval (.tmp 72) = .agg #[.bool nx, .slice ax mx cx] from hD 0 rfl) (Ax.rl hr) Lt)),
            .norm 71 rfl rfl rfl (fun a_ w_ hn_ hBt hr hR hD hO hS => op_mvp (p := Tup2 (Eqs (.int .i64 (intI zx))) (Eqs (.bool (inI zx)))) (show Tup2 (Eqs (.int .i64 (intI zx))) (Eqs (.bool (inI zx))) (a_.eval (.tmp 73)) w_ from hD 1 rfl)),
            .norm 74 rfl rfl rfl (fun a_ w_ hn_ hBt hr hR hD hO hS => op_ex20 (show Tup2 (Eqs (.int .i64 (intI zx))) (Eqs (.bool (inI zx))) (a_.eval (.tmp 71)) w_ from hD 2 rfl)),
            .norm 75 rfl rfl rfl (fun a_ w_ hn_ hBt hr hR hD hO hS => op_ex21 (show Tup2 (Eqs (.int .i64 (intI zx))) (Eqs (.bool (inI zx))) (a_.eval (.tmp 71)) w_ from hD 2 rfl)),
            .norm 10 rfl rfl rfl (fun a_ w_ hn_ hBt hr hR hD hO hS => op_assign (show a_.eval (.tmp 74) = .int .i64 (intI zx) from hD 3 rfl)),
            .norm 11 rfl rfl rfl (fun a_ w_ hn_ hBt hr hR hD hO hS => op_assign (show a_.eval (.tmp 75) = .bool (inI zx) from hD 4 rfl)),
            trivial⟩
        intro a34 w34 gs34 hn34 hd34 hBt hr hR hP hX hU
        replace hn := hn34; replace hd := hd34.trans hd
        replace b2 := b2.keep hBt trivial
        replace f1 := (hR 1 rfl).trans f1
        replace f2 := (hR 2 rfl).trans f2
        replace f4 := (hR 4 rfl).trans f4
        replace f8 := (hR 8 rfl).trans f8
        replace f9 := (hR 9 rfl).trans f9
        have e10 : a34.eval (.tmp 10) = .int .i64 (intI zx) := hP 5 (by decide)
        have f10 := e10
        have e11 : a34.eval (.tmp 11) = .bool (inI zx) := hP 6 (by decide)
        have f11 := e11
        replace Ax := Ax.rl hr
        replace G27 := G27.rl hr
        replace A27 := A27.rl hr
        replace G31 := G31.rl hr
        replace A31 := A31.rl hr
        replace HB := HB.trans (hBt.below HB.size (UpOld.all (bx := []) trivial))
        clear hBt hr hR hP hX hU
        refine wp_seq ?_
        cases hbi : inI zx with
        | true =>
          rw [hbi] at f11
          refine region4 [some 76, some 77, some 78, some 79, some 80, some 81, some 82, some 83, some 84, some 85, some 86, some 87, some 88, some 89, some 90, some 91, some 92, some 4] [Eqs (.bool true), Eqs (.bool true), Eqs (.int .i64 v), Eqs (.int .i64 v), Eqs (.bool true), Eqs (.bool true), Eqs (.bool true), Eqs (.bool true), Eqs (.bool false), Eqs (.bool false), Eqs (.int .i64 (intI zx)), OutW ((intI zx)) (2), Eqs (.agg #[.bool nx, .slice ax mx cx]), OutW (zx) (400), Eqs (.bool true), Eqs (.bool true), Eqs (.bool true), Eqs (.bool true)] [] [] (by kernel_rfl) hn rfl (by kernel_rfl) (by kernel_rfl) (by kernel_rfl) (by kernel_rfl) (by kernel_rfl) (by kernel_rfl) ⟨Eqs.mono4 _, Eqs.mono4 _, Eqs.mono4 _, Eqs.mono4 _, Eqs.mono4 _, Eqs.mono4 _, Eqs.mono4 _, Eqs.mono4 _, Eqs.mono4 _, Eqs.mono4 _, Eqs.mono4 _, OutW.mono4 _ _, Eqs.mono4 _, OutW.mono4 _ _, Eqs.mono4 _, Eqs.mono4 _, Eqs.mono4 _, Eqs.mono4 _, trivial⟩ ok_nil (IsOld.all (bx := []) trivial) (DisOld.all (bx := []) trivial) ?_ ?_
          · exact ⟨.norm 76 rfl rfl rfl (fun a_ w_ hn_ hBt hr hR hD hO hS => op_mv ((hR 9 rfl).trans f9)),
              .norm 77 rfl rfl rfl (fun a_ w_ hn_ hBt hr hR hD hO hS => op_mv (show a_.eval (.tmp 76) = .bool true from hD 0 rfl)),
              .norm 78 rfl rfl rfl (fun a_ w_ hn_ hBt hr hR hD hO hS => ⟨⟨_, rfl⟩, fun _ => op_mv ((hR 8 rfl).trans f8), fun hne => absurd (hD 1 rfl) hne⟩),
              .norm 79 rfl rfl rfl (fun a_ w_ hn_ hBt hr hR hD hO hS => ⟨⟨_, rfl⟩, fun _ => op_mv ((hR 1 rfl).trans f1), fun hne => absurd (hD 1 rfl) hne⟩),
              .norm 80 rfl rfl rfl (fun a_ w_ hn_ hBt hr hR hD hO hS => ⟨⟨_, rfl⟩, fun _ => op_eql (show a_.eval (.tmp 78) = .int .i64 v from hD 2 rfl) (show a_.eval (.tmp 79) = .int .i64 v from hD 3 rfl) rfl, fun hne => absurd (hD 1 rfl) hne⟩),
              .norm 81 rfl rfl rfl (fun a_ w_ hn_ hBt hr hR hD hO hS => op_pickb (show a_.eval (.tmp 77) = .bool true from hD 1 rfl) (show a_.eval (.tmp 80) = .bool true from hD 4 rfl)),
              .norm 82 rfl rfl rfl (fun a_ w_ hn_ hBt hr hR hD hO hS => op_mv (show a_.eval (.tmp 81) = .bool true from hD 5 rfl)),
              .norm 83 rfl rfl rfl (fun a_ w_ hn_ hBt hr hR hD hO hS => ⟨⟨_, rfl⟩, fun _ => op_mv ((hR 11 rfl).trans f11), fun hne => absurd (hD 6 rfl) hne⟩),
              .norm 84 rfl rfl rfl (fun a_ w_ hn_ hBt hr hR hD hO hS => ⟨⟨_, rfl⟩, fun _ => op_not (show a_.eval (.tmp 83) = .bool true from hD 7 rfl), fun hne => absurd (hD 6 rfl) hne⟩),
              .norm 85 rfl rfl rfl (fun a_ w_ hn_ hBt hr hR hD hO hS => ⟨⟨_, rfl⟩, fun _ => op_mv (show a_.eval (.tmp 84) = .bool false from hD 8 rfl), fun hne => absurd (hD 6 rfl) hne⟩),
              .norm 86 rfl rfl rfl (fun a_ w_ hn_ hBt hr hR hD hO hS => ⟨⟨_, rfl⟩, fun _ => op_mv ((hR 10 rfl).trans f10), fun hne => absurd (hD 9 rfl) hne⟩),
              .norm 87 rfl rfl rfl (fun a_ w_ hn_ hBt hr hR hD hO hS => ⟨⟨_, rfl⟩, fun _ => op_oft (show a_.eval (.tmp 86) = .int .i64 (intI zx) from hD 10 rfl) (intI_in _).1 (intI_in _).2, fun hne => absurd (hD 9 rfl) hne⟩),
              .norm 88 rfl rfl rfl (fun a_ w_ hn_ hBt hr hR hD hO hS => ⟨⟨_, rfl⟩, fun _ => op_loadv W2ok ((hR 2 rfl).trans f2) (b2.keep hBt trivial), fun hne => absurd (hD 9 rfl) hne⟩),
              .norm 89 rfl rfl rfl (fun a_ w_ hn_ hBt hr hR hD hO hS => ⟨⟨_, rfl⟩, fun _ => op_wtrim (isw_eq (show a_.eval (.tmp 88) = .agg #[.bool nx, .slice ax mx cx] from hD 12 rfl) (Ax.rl hr) Lt) (by omega), fun hne => absurd (hD 9 rfl) hne⟩),
              .norm 90 rfl rfl rfl (fun a_ w_ hn_ hBt hr hR hD hO hS => ⟨⟨_, rfl⟩, fun _ => op_same (show OutW ((intI zx)) (2) (a_.eval (.tmp 87)) w_ from hD 11 rfl) (show OutW (zx) (400) (a_.eval (.tmp 89)) w_ from hD 13 rfl) (intI_of hbi), fun hne => absurd (hD 9 rfl) hne⟩),
              .norm 91 rfl rfl rfl (fun a_ w_ hn_ hBt hr hR hD hO hS => ⟨⟨_, rfl⟩, fun _ => op_pickb (show a_.eval (.tmp 85) = .bool false from hD 9 rfl) (show a_.eval (.tmp 90) = .bool true from hD 14 rfl), fun hne => absurd (hD 6 rfl) hne⟩),
              .norm 92 rfl rfl rfl (fun a_ w_ hn_ hBt hr hR hD hO hS => op_pickb (show a_.eval (.tmp 82) = .bool true from hD 6 rfl) (show a_.eval (.tmp 91) = .bool true from hD 15 rfl)),
              .norm 4 rfl rfl rfl (fun a_ w_ hn_ hBt hr hR hD hO hS => op_assign (show a_.eval (.tmp 92) = .bool true from hD 16 rfl)),
              trivial⟩
          intro a35 w35 gs35 hn35 hd35 hBt hr hR hP hX hU
          replace hn := hn35; replace hd := hd35.trans hd
          have e4 : a35.eval (.tmp 4) = .bool true := hP 17 (by decide)
          have f4 := e4
          replace Ax := Ax.rl hr
          replace G27 := G27.rl hr
          replace A27 := A27.rl hr
          replace G31 := G31.rl hr
          replace A31 := A31.rl hr
          replace HB := HB.trans (hBt.below HB.size (UpOld.all (bx := []) trivial))
          clear hBt hr hR hP hX hU
          refine wp_ret ?_
          repeat (first | refine then_ret ?_ | refine scope_ret ?_ | refine block_ret ?_)
          exact bodyPost_ret (v := .bool true) (res_t rfl f4) hd ⟨rfl, HB⟩
        | false =>
          rw [hbi] at f11
          refine region4 [some 76, some 77, some 78, some 79, some 80, some 81, some 82, some 83, some 84, some 85, some 86, some 87, some 88, some 89, some 90, some 91, some 92, some 4] [Eqs (.bool true), Eqs (.bool true), Eqs (.int .i64 v), Eqs (.int .i64 v), Eqs (.bool true), Eqs (.bool true), Eqs (.bool true), Eqs (.bool false), Eqs (.bool true), Eqs (.bool true), (fun _ _ => True), (fun _ _ => True), (fun _ _ => True), (fun _ _ => True), (fun _ _ => True), Eqs (.bool true), Eqs (.bool true), Eqs (.bool true)] [] [] (by kernel_rfl) hn rfl (by kernel_rfl) (by kernel_rfl) (by kernel_rfl) (by kernel_rfl) (by kernel_rfl) (by kernel_rfl) ⟨Eqs.mono4 _, Eqs.mono4 _, Eqs.mono4 _, Eqs.mono4 _, Eqs.mono4 _, Eqs.mono4 _, Eqs.mono4 _, Eqs.mono4 _, Eqs.mono4 _, Eqs.mono4 _, True.mono4, True.mono4, True.mono4, True.mono4, True.mono4, Eqs.mono4 _, Eqs.mono4 _, Eqs.mono4 _, trivial⟩ ok_nil (IsOld.all (bx := []) trivial) (DisOld.all (bx := []) trivial) ?_ ?_
          · exact ⟨.norm 76 rfl rfl rfl (fun a_ w_ hn_ hBt hr hR hD hO hS => op_mv ((hR 9 rfl).trans f9)),
              .norm 77 rfl rfl rfl (fun a_ w_ hn_ hBt hr hR hD hO hS => op_mv (show a_.eval (.tmp 76) = .bool true from hD 0 rfl)),
              .norm 78 rfl rfl rfl (fun a_ w_ hn_ hBt hr hR hD hO hS => ⟨⟨_, rfl⟩, fun _ => op_mv ((hR 8 rfl).trans f8), fun hne => absurd (hD 1 rfl) hne⟩),
              .norm 79 rfl rfl rfl (fun a_ w_ hn_ hBt hr hR hD hO hS => ⟨⟨_, rfl⟩, fun _ => op_mv ((hR 1 rfl).trans f1), fun hne => absurd (hD 1 rfl) hne⟩),
              .norm 80 rfl rfl rfl (fun a_ w_ hn_ hBt hr hR hD hO hS => ⟨⟨_, rfl⟩, fun _ => op_eql (show a_.eval (.tmp 78) = .int .i64 v from hD 2 rfl) (show a_.eval (.tmp 79) = .int .i64 v from hD 3 rfl) rfl, fun hne => absurd (hD 1 rfl) hne⟩),
              .norm 81 rfl rfl rfl (fun a_ w_ hn_ hBt hr hR hD hO hS => op_pickb (show a_.eval (.tmp 77) = .bool true from hD 1 rfl) (show a_.eval (.tmp 80) = .bool true from hD 4 rfl)),
              .norm 82 rfl rfl rfl (fun a_ w_ hn_ hBt hr hR hD hO hS => op_mv (show a_.eval (.tmp 81) = .bool true from hD 5 rfl)),
              .norm 83 rfl rfl rfl (fun a_ w_ hn_ hBt hr hR hD hO hS => ⟨⟨_, rfl⟩, fun _ => op_mv ((hR 11 rfl).trans f11), fun hne => absurd (hD 6 rfl) hne⟩),
              .norm 84 rfl rfl rfl (fun a_ w_ hn_ hBt hr hR hD hO hS => ⟨⟨_, rfl⟩, fun _ => op_not (show a_.eval (.tmp 83) = .bool false from hD 7 rfl), fun hne => absurd (hD 6 rfl) hne⟩),
              .norm 85 rfl rfl rfl (fun a_ w_ hn_ hBt hr hR hD hO hS => ⟨⟨_, rfl⟩, fun _ => op_mv (show a_.eval (.tmp 84) = .bool true from hD 8 rfl), fun hne => absurd (hD 6 rfl) hne⟩),
              .norm 86 rfl rfl rfl (fun a_ w_ hn_ hBt hr hR hD hO hS => ⟨⟨_, rfl⟩, fun h => absurd ((show _ = Value.bool true from hD 9 rfl).symm.trans h) (by simp), fun _ => trivial⟩),
              .norm 87 rfl rfl rfl (fun a_ w_ hn_ hBt hr hR hD hO hS => ⟨⟨_, rfl⟩, fun h => absurd ((show _ = Value.bool true from hD 9 rfl).symm.trans h) (by simp), fun _ => trivial⟩),
              .norm 88 rfl rfl rfl (fun a_ w_ hn_ hBt hr hR hD hO hS => ⟨⟨_, rfl⟩, fun h => absurd ((show _ = Value.bool true from hD 9 rfl).symm.trans h) (by simp), fun _ => trivial⟩),
              .norm 89 rfl rfl rfl (fun a_ w_ hn_ hBt hr hR hD hO hS => ⟨⟨_, rfl⟩, fun h => absurd ((show _ = Value.bool true from hD 9 rfl).symm.trans h) (by simp), fun _ => trivial⟩),
              .norm 90 rfl rfl rfl (fun a_ w_ hn_ hBt hr hR hD hO hS => ⟨⟨_, rfl⟩, fun h => absurd ((show _ = Value.bool true from hD 9 rfl).symm.trans h) (by simp), fun _ => trivial⟩),
              .norm 91 rfl rfl rfl (fun a_ w_ hn_ hBt hr hR hD hO hS => ⟨⟨_, rfl⟩, fun _ => op_pickb (show a_.eval (.tmp 85) = .bool true from hD 9 rfl) rfl, fun hne => absurd (hD 6 rfl) hne⟩),
              .norm 92 rfl rfl rfl (fun a_ w_ hn_ hBt hr hR hD hO hS => op_pickb (show a_.eval (.tmp 82) = .bool true from hD 6 rfl) (show a_.eval (.tmp 91) = .bool true from hD 15 rfl)),
              .norm 4 rfl rfl rfl (fun a_ w_ hn_ hBt hr hR hD hO hS => op_assign (show a_.eval (.tmp 92) = .bool true from hD 16 rfl)),
              trivial⟩
          intro a36 w36 gs36 hn36 hd36 hBt hr hR hP hX hU
          replace hn := hn36; replace hd := hd36.trans hd
          have e4 : a36.eval (.tmp 4) = .bool true := hP 17 (by decide)
          have f4 := e4
          replace Ax := Ax.rl hr
          replace G27 := G27.rl hr
          replace A27 := A27.rl hr
          replace G31 := G31.rl hr
          replace A31 := A31.rl hr
          replace HB := HB.trans (hBt.below HB.size (UpOld.all (bx := []) trivial))
          clear hBt hr hR hP hX hU
          refine wp_ret ?_
          repeat (first | refine then_ret ?_ | refine scope_ret ?_ | refine block_ret ?_)
          exact bodyPost_ret (v := .bool true) (res_t rfl f4) hd ⟨rfl, HB⟩
      · skip
        refine wp_skip ?_
        refine wp_seq ?_
        refine region4 [some 66, some 67, some 68, some 65, some 69, some 70, some 8, some 9] [Eqs (.int .i64 v), OutW (v) (2), Tup2 (Eqs (.int .i64 v)) (Eqs (.bool true)), Tup2 (Eqs (.int .i64 v)) (Eqs (.bool true)), Eqs (.int .i64 v), Eqs (.bool true), Eqs (.int .i64 v), Eqs (.bool true)] [] [] (by kernel_rfl) hn rfl (by kernel_rfl) (by kernel_rfl) (by kernel_rfl) (by kernel_rfl) (by kernel_rfl) (by kernel_rfl) ⟨Eqs.mono4 _, OutW.mono4 _ _, Tup2.mono4 (Eqs.mono4 _) (Eqs.mono4 _), Tup2.mono4 (Eqs.mono4 _) (Eqs.mono4 _), Eqs.mono4 _, Eqs.mono4 _, Eqs.mono4 _, Eqs.mono4 _, trivial⟩ ok_nil (IsOld.all (bx := []) trivial) (DisOld.all (bx := []) trivial) ?_ ?_
        · exact ⟨.norm 66 rfl rfl rfl (fun a_ w_ hn_ hBt hr hR hD hO hS => op_mv ((hR 1 rfl).trans f1)),
            .norm 67 rfl rfl rfl (fun a_ w_ hn_ hBt hr hR hD hO hS => op_oft (show a_.eval (.tmp 66) = .int .i64 v from hD 0 rfl) hv1 hv2),
            .norm 68 rfl rfl rfl (fun a_ w_ hn_ hBt hr hR hD hO hS => op_wintv (show OutW (v) (2) (a_.eval (.tmp 67)) w_ from hD 1 rfl).is hv1 hv2),
            .norm 65 rfl rfl rfl (fun a_ w_ hn_ hBt hr hR hD hO hS => op_mvp (p := Tup2 (Eqs (.int .i64 v)) (Eqs (.bool true))) (show Tup2 (Eqs (.int .i64 v)) (Eqs (.bool true)) (a_.eval (.tmp 68)) w_ from hD 2 rfl)),
            .norm 69 rfl rfl rfl (fun a_ w_ hn_ hBt hr hR hD hO hS => op_ex20 (show Tup2 (Eqs (.int .i64 v)) (Eqs (.bool true)) (a_.eval (.tmp 65)) w_ from hD 3 rfl)),
            .norm 70 rfl rfl rfl (fun a_ w_ hn_ hBt hr hR hD hO hS => op_ex21 (show Tup2 (Eqs (.int .i64 v)) (Eqs (.bool true)) (a_.eval (.tmp 65)) w_ from hD 3 rfl)),
            .norm 8 rfl rfl rfl (fun a_ w_ hn_ hBt hr hR hD hO hS => op_assign (show a_.eval (.tmp 69) = .int .i64 v from hD 4 rfl)),
            .norm 9 rfl rfl rfl (fun a_ w_ hn_ hBt hr hR hD hO hS => op_assign (show a_.eval (.tmp 70) = .bool true from hD 5 rfl)),
            trivial⟩
        intro a37 w37 gs37 hn37 hd37 hBt hr hR hP hX hU
        replace hn := hn37; replace hd := hd37.trans hd
        replace b2 := b2.keep hBt trivial
        replace f1 := (hR 1 rfl).trans f1
        replace f2 := (hR 2 rfl).trans f2
        replace f4 := (hR 4 rfl).trans f4
        have e8 : a37.eval (.tmp 8) = .int .i64 v := hP 6 (by decide)
        have f8 := e8
        have e9 : a37.eval (.tmp 9) = .bool true := hP 7 (by decide)
        have f9 := e9
        replace Ax := Ax.rl hr
        replace G27 := G27.rl hr
        replace A27 := A27.rl hr
        replace HB := HB.trans (hBt.below HB.size (UpOld.all (bx := []) trivial))
        clear hBt hr hR hP hX hU
        refine wp_seq ?_
        refine region4 [some 72, some 73, some 71, some 74, some 75, some 10, some 11] [Eqs (.agg #[.bool nx, .slice ax mx cx]), Tup2 (Eqs (.int .i64 (intI zx))) (Eqs (.bool (inI zx))), Tup2 (Eqs (.int .i64 (intI zx))) (Eqs (.bool (inI zx))), Eqs (.int .i64 (intI zx)), Eqs (.bool (inI zx)), Eqs (.int .i64 (intI zx)), Eqs (.bool (inI zx))] [] [] (by kernel_rfl) hn rfl (by kernel_rfl) (by kernel_rfl) (by kernel_rfl) (by kernel_rfl) (by kernel_rfl) (by kernel_rfl) ⟨Eqs.mono4 _, Tup2.mono4 (Eqs.mono4 _) (Eqs.mono4 _), Tup2.mono4 (Eqs.mono4 _) (Eqs.mono4 _), Eqs.mono4 _, Eqs.mono4 _, Eqs.mono4 _, Eqs.mono4 _, trivial⟩ ok_nil (IsOld.all (bx := []) trivial) (DisOld.all (bx := []) trivial) ?_ ?_
        · exact ⟨.norm 72 rfl rfl rfl (fun a_ w_ hn_ hBt hr hR hD hO hS => op_loadv W2ok ((hR 2 rfl).trans f2) (b2.keep hBt trivial)),
            .norm 73 rfl rfl rfl (fun a_ w_ hn_ hBt hr hR hD hO hS => op_wint (isw_eq (show a_.eval (.tmp 72) = .agg #[.bool nx, .slice ax mx cx] from hD 0 rfl) (Ax.rl hr) Lt)),
            .norm 71 rfl rfl rfl (fun a_ w_ hn_ hBt hr hR hD hO hS => op_mvp (p := Tup2 (Eqs (.int .i64 (intI zx))) (Eqs (.bool (inI zx)))) (show Tup2 (Eqs (.int .i64 (intI zx))) (Eqs (.bool (inI zx))) (a_.eval (.tmp 73)) w_ from hD 1 rfl)),
            .norm 74 rfl rfl rfl (fun a_ w_ hn_ hBt hr hR hD hO hS => op_ex20 (show Tup2 (Eqs (.int .i64 (intI zx))) (Eqs (.bool (inI zx))) (a_.eval (.tmp 71)) w_ from hD 2 rfl)),
            .norm 75 rfl rfl rfl (fun a_ w_ hn_ hBt hr hR hD hO hS => op_ex21 (show Tup2 (Eqs (.int .i64 (intI zx))) (Eqs (.bool (inI zx))) (a_.eval (.tmp 71)) w_ from hD 2 rfl)),
            .norm 10 rfl rfl rfl (fun a_ w_ hn_ hBt hr hR hD hO hS => op_assign (show a_.eval (.tmp 74) = .int .i64 (intI zx) from hD 3 rfl)),
            .norm 11 rfl rfl rfl (fun a_ w_ hn_ hBt hr hR hD hO hS => op_assign (show a_.eval (.tmp 75) = .bool (inI zx) from hD 4 rfl)),
            trivial⟩
        intro a38 w38 gs38 hn38 hd38 hBt hr hR hP hX hU
        replace hn := hn38; replace hd := hd38.trans hd
        replace b2 := b2.keep hBt trivial
        replace f1 := (hR 1 rfl).trans f1
        replace f2 := (hR 2 rfl).trans f2
        replace f4 := (hR 4 rfl).trans f4
        replace f8 := (hR 8 rfl).trans f8
        replace f9 := (hR 9 rfl).trans f9
        have e10 : a38.eval (.tmp 10) = .int .i64 (intI zx) := hP 5 (by decide)
        have f10 := e10
        have e11 : a38.eval (.tmp 11) = .bool (inI zx) := hP 6 (by decide)
        have f11 := e11
        replace Ax := Ax.rl hr
        replace G27 := G27.rl hr
        replace A27 := A27.rl hr
        replace HB := HB.trans (hBt.below HB.size (UpOld.all (bx := []) trivial))
        clear hBt hr hR hP hX hU
        refine wp_seq ?_
        cases hbi : inI zx with
        | true =>
          rw [hbi] at f11
          refine region4 [some 76, some 77, some 78, some 79, some 80, some 81, some 82, some 83, some 84, some 85, some 86, some 87, some 88, some 89, some 90, some 91, some 92, some 4] [Eqs (.bool true), Eqs (.bool true), Eqs (.int .i64 v), Eqs (.int .i64 v), Eqs (.bool true), Eqs (.bool true), Eqs (.bool true), Eqs (.bool true), Eqs (.bool false), Eqs (.bool false), Eqs (.int .i64 (intI zx)), OutW ((intI zx)) (2), Eqs (.agg #[.bool nx, .slice ax mx cx]), OutW (zx) (400), Eqs (.bool true), Eqs (.bool true), Eqs (.bool true), Eqs (.bool true)] [] [] (by kernel_rfl) hn rfl (by kernel_rfl) (by kernel_rfl) (by kernel_rfl) (by kernel_rfl) (by kernel_rfl) (by kernel_rfl) ⟨Eqs.mono4 _, Eqs.mono4 _, Eqs.mono4 _, Eqs.mono4 _, Eqs.mono4 _, Eqs.mono4 _, Eqs.mono4 _, Eqs.mono4 _, Eqs.mono4 _, Eqs.mono4 _, Eqs.mono4 _, OutW.mono4 _ _, Eqs.mono4 _, OutW.mono4 _ _, Eqs.mono4 _, Eqs.mono4 _, Eqs.mono4 _, Eqs.mono4 _, trivial⟩ ok_nil (IsOld.all (bx := []) trivial) (DisOld.all (bx := []) trivial) ?_ ?_
          · exact ⟨.norm 76 rfl rfl rfl (fun a_ w_ hn_ hBt hr hR hD hO hS => op_mv ((hR 9 rfl).trans f9)),
              .norm 77 rfl rfl rfl (fun a_ w_ hn_ hBt hr hR hD hO hS => op_mv (show a_.eval (.tmp 76) = .bool true from hD 0 rfl)),
              .norm 78 rfl rfl rfl (fun a_ w_ hn_ hBt hr hR hD hO hS => ⟨⟨_, rfl⟩, fun _ => op_mv ((hR 8 rfl).trans f8), fun hne => absurd (hD 1 rfl) hne⟩),
              .norm 79 rfl rfl rfl (fun a_ w_ hn_ hBt hr hR hD hO hS => ⟨⟨_, rfl⟩, fun _ => op_mv ((hR 1 rfl).trans f1), fun hne => absurd (hD 1 rfl) hne⟩),
              .norm 80 rfl rfl rfl (fun a_ w_ hn_ hBt hr hR hD hO hS => ⟨⟨_, rfl⟩, fun _ => op_eql (show a_.eval (.tmp 78) = .int .i64 v from hD 2 rfl) (show a_.eval (.tmp 79) = .int .i64 v from hD 3 rfl) rfl, fun hne => absurd (hD 1 rfl) hne⟩),
              .norm 81 rfl rfl rfl (fun a_ w_ hn_ hBt hr hR hD hO hS => op_pickb (show a_.eval (.tmp 77) = .bool true from hD 1 rfl) (show a_.eval (.tmp 80) = .bool true from hD 4 rfl)),
              .norm 82 rfl rfl rfl (fun a_ w_ hn_ hBt hr hR hD hO hS => op_mv (show a_.eval (.tmp 81) = .bool true from hD 5 rfl)),
              .norm 83 rfl rfl rfl (fun a_ w_ hn_ hBt hr hR hD hO hS => ⟨⟨_, rfl⟩, fun _ => op_mv ((hR 11 rfl).trans f11), fun hne => absurd (hD 6 rfl) hne⟩),
              .norm 84 rfl rfl rfl (fun a_ w_ hn_ hBt hr hR hD hO hS => ⟨⟨_, rfl⟩, fun _ => op_not (show a_.eval (.tmp 83) = .bool true from hD 7 rfl), fun hne => absurd (hD 6 rfl) hne⟩),
              .norm 85 rfl rfl rfl (fun a_ w_ hn_ hBt hr hR hD hO hS => ⟨⟨_, rfl⟩, fun _ => op_mv (show a_.eval (.tmp 84) = .bool false from hD 8 rfl), fun hne => absurd (hD 6 rfl) hne⟩),
              .norm 86 rfl rfl rfl (fun a_ w_ hn_ hBt hr hR hD hO hS => ⟨⟨_, rfl⟩, fun _ => op_mv ((hR 10 rfl).trans f10), fun hne => absurd (hD 9 rfl) hne⟩),
              .norm 87 rfl rfl rfl (fun a_ w_ hn_ hBt hr hR hD hO hS => ⟨⟨_, rfl⟩, fun _ => op_oft (show a_.eval (.tmp 86) = .int .i64 (intI zx) from hD 10 rfl) (intI_in _).1 (intI_in _).2, fun hne => absurd (hD 9 rfl) hne⟩),
              .norm 88 rfl rfl rfl (fun a_ w_ hn_ hBt hr hR hD hO hS => ⟨⟨_, rfl⟩, fun _ => op_loadv W2ok ((hR 2 rfl).trans f2) (b2.keep hBt trivial), fun hne => absurd (hD 9 rfl) hne⟩),
              .norm 89 rfl rfl rfl (fun a_ w_ hn_ hBt hr hR hD hO hS => ⟨⟨_, rfl⟩, fun _ => op_wtrim (isw_eq (show a_.eval (.tmp 88) = .agg #[.bool nx, .slice ax mx cx] from hD 12 rfl) (Ax.rl hr) Lt) (by omega), fun hne => absurd (hD 9 rfl) hne⟩),
              .norm 90 rfl rfl rfl (fun a_ w_ hn_ hBt hr hR hD hO hS => ⟨⟨_, rfl⟩, fun _ => op_same (show OutW ((intI zx)) (2) (a_.eval (.tmp 87)) w_ from hD 11 rfl) (show OutW (zx) (400) (a_.eval (.tmp 89)) w_ from hD 13 rfl) (intI_of hbi), fun hne => absurd (hD 9 rfl) hne⟩),
              .norm 91 rfl rfl rfl (fun a_ w_ hn_ hBt hr hR hD hO hS => ⟨⟨_, rfl⟩, fun _ => op_pickb (show a_.eval (.tmp 85) = .bool false from hD 9 rfl) (show a_.eval (.tmp 90) = .bool true from hD 14 rfl), fun hne => absurd (hD 6 rfl) hne⟩),
              .norm 92 rfl rfl rfl (fun a_ w_ hn_ hBt hr hR hD hO hS => op_pickb (show a_.eval (.tmp 82) = .bool true from hD 6 rfl) (show a_.eval (.tmp 91) = .bool true from hD 15 rfl)),
              .norm 4 rfl rfl rfl (fun a_ w_ hn_ hBt hr hR hD hO hS => op_assign (show a_.eval (.tmp 92) = .bool true from hD 16 rfl)),
              trivial⟩
          intro a39 w39 gs39 hn39 hd39 hBt hr hR hP hX hU
          replace hn := hn39; replace hd := hd39.trans hd
          have e4 : a39.eval (.tmp 4) = .bool true := hP 17 (by decide)
          have f4 := e4
          replace Ax := Ax.rl hr
          replace G27 := G27.rl hr
          replace A27 := A27.rl hr
          replace HB := HB.trans (hBt.below HB.size (UpOld.all (bx := []) trivial))
          clear hBt hr hR hP hX hU
          refine wp_ret ?_
          repeat (first | refine then_ret ?_ | refine scope_ret ?_ | refine block_ret ?_)
          exact bodyPost_ret (v := .bool true) (res_t rfl f4) hd ⟨rfl, HB⟩
        | false =>
          rw [hbi] at f11
          refine region4 [some 76, some 77, some 78, some 79, some 80, some 81, some 82, some 83, some 84, some 85, some 86, some 87, some 88, some 89, some 90, some 91, some 92, some 4] [Eqs (.bool true), Eqs (.bool true), Eqs (.int .i64 v), Eqs (.int .i64 v), Eqs (.bool true), Eqs (.bool true), Eqs (.bool true), Eqs (.bool false), Eqs (.bool true), Eqs (.bool true), (fun _ _ => True), (fun _ _ => True), (fun _ _ => True), (fun _ _ => True), (fun _ _ => True), Eqs (.bool true), Eqs (.bool true), Eqs (.bool true)] [] [] (by kernel_rfl) hn rfl (by kernel_rfl) (by kernel_rfl) (by kernel_rfl) (by kernel_rfl) (by kernel_rfl) (by kernel_rfl) ⟨Eqs.mono4 _, Eqs.mono4 _, Eqs.mono4 _, Eqs.mono4 _, Eqs.mono4 _, Eqs.mono4 _, Eqs.mono4 _, Eqs.mono4 _, Eqs.mono4 _, Eqs.mono4 _, True.mono4, True.mono4, True.mono4, True.mono4, True.mono4, Eqs.mono4 _, Eqs.mono4 _, Eqs.mono4 _, trivial⟩ ok_nil (IsOld.all (bx := []) trivial) (DisOld.all (bx := []) trivial) ?_ ?_
          · exact ⟨.norm 76 rfl rfl rfl (fun a_ w_ hn_ hBt hr hR hD hO hS => op_mv ((hR 9 rfl).trans f9)),
              .norm 77 rfl rfl rfl (fun a_ w_ hn_ hBt hr hR hD hO hS => op_mv (show a_.eval (.tmp 76) = .bool true from hD 0 rfl)),
              .norm 78 rfl rfl rfl (fun a_ w_ hn_ hBt hr hR hD hO hS => ⟨⟨_, rfl⟩, fun _ => op_mv ((hR 8 rfl).trans f8), fun hne => absurd (hD 1 rfl) hne⟩),
              .norm 79 rfl rfl rfl (fun a_ w_ hn_ hBt hr hR hD hO hS => ⟨⟨_, rfl⟩, fun _ => op_mv ((hR 1 rfl).trans f1), fun hne => absurd (hD 1 rfl) hne⟩),
              .norm 80 rfl rfl rfl (fun a_ w_ hn_ hBt hr hR hD hO hS => ⟨⟨_, rfl⟩, fun _ => op_eql (show a_.eval (.tmp 78) = .int .i64 v from hD 2 rfl) (show a_.eval (.tmp 79) = .int .i64 v from hD 3 rfl) rfl, fun hne => absurd (hD 1 rfl) hne⟩),
              .norm 81 rfl rfl rfl (fun a_ w_ hn_ hBt hr hR hD hO hS => op_pickb (show a_.eval (.tmp 77) = .bool true from hD 1 rfl) (show a_.eval (.tmp 80) = .bool true from hD 4 rfl)),
              .norm 82 rfl rfl rfl (fun a_ w_ hn_ hBt hr hR hD hO hS => op_mv (show a_.eval (.tmp 81) = .bool true from hD 5 rfl)),
              .norm 83 rfl rfl rfl (fun a_ w_ hn_ hBt hr hR hD hO hS => ⟨⟨_, rfl⟩, fun _ => op_mv ((hR 11 rfl).trans f11), fun hne => absurd (hD 6 rfl) hne⟩),
              .norm 84 rfl rfl rfl (fun a_ w_ hn_ hBt hr hR hD hO hS => ⟨⟨_, rfl⟩, fun _ => op_not (show a_.eval (.tmp 83) = .bool false from hD 7 rfl), fun hne => absurd (hD 6 rfl) hne⟩),
              .norm 85 rfl rfl rfl (fun a_ w_ hn_ hBt hr hR hD hO hS => ⟨⟨_, rfl⟩, fun _ => op_mv (show a_.eval (.tmp 84) = .bool true from hD 8 rfl), fun hne => absurd (hD 6 rfl) hne⟩),
              .norm 86 rfl rfl rfl (fun a_ w_ hn_ hBt hr hR hD hO hS => ⟨⟨_, rfl⟩, fun h => absurd ((show _ = Value.bool true from hD 9 rfl).symm.trans h) (by simp), fun _ => trivial⟩),
              .norm 87 rfl rfl rfl (fun a_ w_ hn_ hBt hr hR hD hO hS => ⟨⟨_, rfl⟩, fun h => absurd ((show _ = Value.bool true from hD 9 rfl).symm.trans h) (by simp), fun _ => trivial⟩),
              .norm 88 rfl rfl rfl (fun a_ w_ hn_ hBt hr hR hD hO hS => ⟨⟨_, rfl⟩, fun h => absurd ((show _ = Value.bool true from hD 9 rfl).symm.trans h) (by simp), fun _ => trivial⟩),
              .norm 89 rfl rfl rfl (fun a_ w_ hn_ hBt hr hR hD hO hS => ⟨⟨_, rfl⟩, fun h => absurd ((show _ = Value.bool true from hD 9 rfl).symm.trans h) (by simp), fun _ => trivial⟩),
              .norm 90 rfl rfl rfl (fun a_ w_ hn_ hBt hr hR hD hO hS => ⟨⟨_, rfl⟩, fun h => absurd ((show _ = Value.bool true from hD 9 rfl).symm.trans h) (by simp), fun _ => trivial⟩),
              .norm 91 rfl rfl rfl (fun a_ w_ hn_ hBt hr hR hD hO hS => ⟨⟨_, rfl⟩, fun _ => op_pickb (show a_.eval (.tmp 85) = .bool true from hD 9 rfl) rfl, fun hne => absurd (hD 6 rfl) hne⟩),
              .norm 92 rfl rfl rfl (fun a_ w_ hn_ hBt hr hR hD hO hS => op_pickb (show a_.eval (.tmp 82) = .bool true from hD 6 rfl) (show a_.eval (.tmp 91) = .bool true from hD 15 rfl)),
              .norm 4 rfl rfl rfl (fun a_ w_ hn_ hBt hr hR hD hO hS => op_assign (show a_.eval (.tmp 92) = .bool true from hD 16 rfl)),
              trivial⟩
          intro a40 w40 gs40 hn40 hd40 hBt hr hR hP hX hU
          replace hn := hn40; replace hd := hd40.trans hd
          have e4 : a40.eval (.tmp 4) = .bool true := hP 17 (by decide)
          have f4 := e4
          replace Ax := Ax.rl hr
          replace G27 := G27.rl hr
          replace A27 := A27.rl hr
          replace HB := HB.trans (hBt.below HB.size (UpOld.all (bx := []) trivial))
          clear hBt hr hR hP hX hU
          refine wp_ret ?_
          repeat (first | refine then_ret ?_ | refine scope_ret ?_ | refine block_ret ?_)
          exact bodyPost_ret (v := .bool true) (res_t rfl f4) hd ⟨rfl, HB⟩
end Lm
end Go.Proofs.YtdiiankcjgoecaaDoor

namespace Go.Proofs.YtdiiankcjgoecaaDoor
namespace wholeBackLaw
open Go.ChangeShapes Go.WideShapes Go.ChangeAt Go.RowKit
open Go.ChangeMaps (open_string shut_string)
theorem own : ownKnob Tryd.prog.godebug = none := by kernel_rfl
theorem laidOut : laidOutB Tryd.prog = true := by kernel_rfl
theorem bytes4 : Tryd.prog.bytesOf 124 = 4 := by kernel_rfl
theorem sl_of {w : World} {x : Addr} {l c : Nat} {zs : List Int} (hl : l ≤ c) (hm : c ≤ maxLen) (hz : zs.length = c) (hcell : ∀ i, i < zs.length → w.cell? (x.add i) = some (.int .u32 (zs.getD i 0))) (hwz : ∀ n ∈ zs, (Lit.int .u32 n).wf = true) : Lm.Sl w (.slice (some x) l c) (zs.take l) := by
  have hll : (zs.take l).length = l := by rw [List.length_take]; omega
  refine ⟨some x, c, by rw [hll], by omega, hm, fun n hn => ?_, ?_⟩
  · have := bounds_u32 (hwz n (List.mem_of_mem_take hn))
    omega
  · by_cases h0 : l = 0
    · exact .inl (List.eq_nil_of_length_eq_zero (by omega))
    · obtain ⟨b, off, spot⟩ := x
      have h1 := hcell 0 (by omega)
      have hspot : spot = none := by simpa [Addr.add] using World.cell?_spot h1
      subst hspot
      refine .inr ⟨b, off, rfl, fun i hi => ?_⟩
      have h2 := hcell i (by omega)
      rw [Lm.getD_take _ _ _ (by omega)]
      have e : (⟨b, off, none⟩ : Addr).add i = ⟨b, off + i, none⟩ := by
        by_cases hi0 : i = 0
        · subst hi0; simp [Addr.add]
        · simp [Addr.add, hi0]
      rwa [e] at h2
noncomputable def laidWorld (os : Os) : World :=
  let w0 := World.holding Tryd.prog os ⟨#[], #[], []⟩
  let put (h : Array Obj) (g : Nat) (cs : Array Value) : Array Obj := h.modify g fun
    | .cells _ t frozen => .cells cs t frozen
    | o => o
  let h1 := put w0.heap (Tryd.lays197_ren.g 3) (Lib.firstTab.map fun z => Value.int .u8 z).toArray
  let h2 := put h1 (Tryd.lays197_ren.g 4) ((List.range 16).flatMap fun i => [Value.int .u8 (Lib.accLo i), Value.int .u8 (Lib.accHi i)]).toArray
  { w0 with heap := h2 }
theorem laid_met (os : Os) : laidMet Tryd.prog Rows.wholeBackRow.laid ((laidWorld os).forCall (fun _ _ => 0) ⟨#[], #[.agg #[.bool false, .slice none 0 0], .int .i64 0], []⟩).memory :=
  laidMet_of_run' 8 (by kernel_rfl) (by kernel_rfl)
theorem tabs {W : World} (h : laidMet Tryd.prog Rows.wholeBackRow.laid W) : Lm.Tabs W :=
  utf8Tabs_of_reads (ρ := Tryd.lays197_ren) { Tryd.lays197 with } ⟨by kernel_rfl, by kernel_rfl, by kernel_rfl, by kernel_rfl, by kernel_rfl, by kernel_rfl, by kernel_rfl⟩
    (Lib.laidMet.reads h (show ("unicode/utf8.first", Lib.firstData) ∈ Rows.wholeBackRow.laid from by
      rw [show Lib.firstData = Rows.laid_unicode_utf8_first from by kernel_rfl]
      exact .tail _ (.head _)))
    (Lib.laidMet.reads h (show ("unicode/utf8.acceptRanges", Lib.acceptData) ∈ Rows.wholeBackRow.laid from by
      rw [show Lib.acceptData = Rows.laid_unicode_utf8_acceptRanges from by kernel_rfl]
      exact .head _))
theorem reads (os : Os) {H : Type} (enc : TypeId × Value → H) : ∃ places, DataW.whole enc Tryd.prog ((laidWorld os).forCall (fun _ _ => 0) ⟨#[], #[.agg #[.bool false, .slice none 0 0], .int .i64 0], []⟩).memory Tryd.f4.params.toList Rows.wholeBackSpec.vars false (#[.agg #[.bool false, .slice none 0 0], .int .i64 0] : Array Value).toList 8 = some ([.agg [.lit (.bool false), .nil], .lit (.int .i64 0)], [], places) :=
  ⟨[], by kernel_rfl⟩
set_option linter.unusedVariables false in
set_option maxRecDepth 100000 in
theorem lifted (os : Os) (started : os.Started) (H : Type) (enc : TypeId × Value → H) (F : Stop.Interp) :
    ReturnsInHanded {} Tryd.checked os 4 .any ((OpenSpec.ofChange Rows.wholeBackSpec).preRow enc Tryd.prog Tryd.f4 Rows.wholeBackRow.domain false Rows.wholeBackRow.laid) (((OpenSpec.ofChange Rows.wholeBackSpec).at F).post enc Tryd.prog Tryd.f4 false true false false) := by
  obtain ⟨places, hx⟩ := reads os enc
  refine returnsInHanded_of_row (C := Tryd.checked) (s := (OpenSpec.ofChange Rows.wholeBackSpec)) own started (by kernel_rfl) Tryd.func4
    (witness_row_at (enc := enc) (C := Tryd.checked) false (laidWorld os) #[.agg #[.bool false, .slice none 0 0], .int .i64 0] rfl (by kernel_rfl) (by kernel_rfl) (by kernel_rfl)
      (OpenSpec.preRow_of_cond 8 hx (by kernel_rfl) (fun k hk => by cases hk) (by kernel_rfl) (laid_met os))) ?_
  intro W base args ds gs before hval0 hW hcnd0 hcond hsz0 hL hj2 hj3
  have hTabs : Lm.Tabs W := tabs hL
  have hval : ∀ (j : Nat) t v, Tryd.f4.params[j]? = some t → args[j]? = some v → Value.okWide Tryd.prog W .any base t v := hval0
  have hW' := hW
  obtain ⟨p, q, hA0, hV, rfl, hfz, hnd⟩ := hW
  have hA : DataW.TrodAll enc Tryd.prog W 0 (fun _ => true) true Tryd.f4.params.toList args.toList ds p := hA0
  have hsz : (DataW.weightsEach Tryd.prog (Tryd.f4.params.toList ++ Rows.wholeBackSpec.plain.varTypes Tryd.prog) (ds ++ gs)).all (· ≤ reachBytes) = true := hsz0
  rw [Tryd.params4] at hA hval hsz
  obtain ⟨v0, vs0, d0, ds0, p0, q0, hargs, rfl, rfl, h0, r0⟩ := trodAll_cons hA
  obtain ⟨v1, vs1, d1, ds1, p1, q1, rfl, rfl, rfl, h1, r1⟩ := trodAll_cons r0
  obtain ⟨rfl, rfl, rfl⟩ := trodAll_nil r1
  obtain rfl : args = #[v0, v1] := by cases args; simp_all
  obtain ⟨rfl, rfl⟩ := trodVars_none hV
  have k0 := h0
  have lt0 : ∀ x ∈ p0, x.block < W.heap.size := by obtain ⟨m, hm⟩ := k0; exact DataW.trod_lt m _ _ _ hm
  obtain ⟨g0, a0, len0, cap0, z0, hv0, w0, b0⟩ : ∃ ng ao n cap zs, v0 = .agg #[.bool ng, .slice ao n cap] ∧ Lm.Sl W (.slice ao n cap) zs ∧ n ≤ 35184372088832 := by
    obtain ⟨x0, x1, y0, y1, m, hv, hd, _, t0, t1⟩ := Go.Joins.open_agg2 Tryd.underlying24 (by kernel_rfl) (by kernel_rfl) (hval 0 24 v0 rfl rfl) h0
    obtain ⟨b, hb0, _⟩ := DataW.trod_bool Tryd.underlying4 t0
    obtain rfl : x0 = .bool b := by simpa using hb0
    rcases open_ints Tryd.underlying22 Tryd.underlying124 (by kernel_rfl) t1 with ⟨hcs, _⟩ | ⟨x, l, c, zs, hcs, _, hl, hm, hz, hx, hcell, hwz⟩
    · obtain rfl : x1 = .slice none 0 0 := by simpa using hcs
      exact ⟨b, none, 0, 0, [], hv, ⟨none, 0, rfl, Nat.le_refl _, by simp [maxLen], Lm.limb_nil, .inl rfl⟩, by omega⟩
    · obtain rfl : x1 = .slice (some x) l c := by simpa using hcs
      have hz' : zs.length = c := by simpa using hz
      have hx1 : y1.1 = .slice (lits .u32 (zs.take l)) (lits .u32 (zs.drop l)) := congrArg Prod.fst hx
      refine ⟨b, some x, l, c, _, hv, sl_of hl hm hz' hcell hwz, ?_⟩
      have hs := List.all_eq_true.1 hsz _ (DataW.weights_mem_each (j := 0) (t := 24) rfl (congrArg some hd) (((lits .u32 (zs.take l) : List (DataW H)).length + (lits .u32 (zs.drop l) : List (DataW H)).length) * Tryd.prog.bytesOf 124) (by rw [hx1]; simp [DataW.weights, DataW.weightsEach, Tryd.underlying24, Tryd.underlying22]))
      rw [bytes4] at hs
      simp only [lits, List.length_map, List.length_take, List.length_drop, reachBytes, decide_eq_true_eq] at hs
      omega
  subst hv0
  obtain ⟨a1, rfl, rfl, rfl, w1⟩ := open_int Tryd.underlying3 (hval 1 3 v1 rfl rfl) h1
  clear hA0 hval0
  refine (Lm.wback_law W g0 a0 len0 cap0 z0 _ a1 hTabs ⟨w0, rfl⟩ b0 w1).mono fun e W' ⟨he, bel⟩ => ?_
  subst he
  exact ⟨_, rfl, _, _, _, [], _, [], hW', trodAll_mk1 (shut_bool Tryd.underlying4 _), (trodAll_cons_mk (Below.trod laidOut (by kernel_rfl) (of_decide_eq_true (by kernel_rfl)) k0 bel lt0) (trodAll_cons_mk (shut_int Tryd.underlying3 w1) trodAll_mk0)), rfl, bel.frame _, fun h => by cases h⟩
theorem said : Rows.WholeBackSaid :=
  OpenClaim.holds_of_cond 4 Tryd.f4 rfl rfl rfl rfl rfl rfl rfl ⟨rfl, rfl, rfl, rfl, rfl⟩ rfl rfl rfl rfl rfl (by kernel_rfl) Tryd.func4 (by kernel_rfl)
    (of_decide_eq_true (by kernel_rfl)) (by unfold Func.isWrapper; first | (rw [if_pos (by decide +kernel)]; kernel_rfl) | (rw [if_neg (by decide +kernel)]; exact ⟨rfl, rfl⟩))
    (fun os started H enc _ F => by rw [OpenClaim.pre_eq_preRow]; exact lifted os started H enc F)
theorem plain (f : FuncId) (fn : Func) (hf : Tryd.pinned.checked.prog.funcNamed "rafter/rafterlaw02.WholeBack" = some f) (hfn : Tryd.pinned.checked.prog.funcs[f]? = some fn) :
    false = Tryd.pinned.checked.prog.looks [] ∧ ∀ (j : Nat) t, fn.params[j]? = some t → Tryd.pinned.checked.prog.wantsStandIn t = false := by
  obtain rfl : f = 4 := Option.some.inj ((show Tryd.prog.funcNamed "rafter/rafterlaw02.WholeBack" = some 4 by kernel_rfl).symm.trans hf) |>.symm
  obtain rfl : fn = Tryd.f4 := (Option.some.inj (Tryd.func4.symm.trans hfn)).symm
  refine ⟨by kernel_rfl, fun j t ht => ?_⟩
  rw [Tryd.params4] at ht
  have hm := Array.mem_of_getElem? ht
  simp at hm
  rcases hm with rfl | rfl
  · exact (show Tryd.prog.wantsStandIn 24 = false by kernel_rfl)
  · exact (show Tryd.prog.wantsStandIn 3 = false by kernel_rfl)
theorem card : Rows.WholeBackCardSaid :=
  Claim7.holds_tied_plain_at .later [] _ _ _ _ said (fun _ h => by cases h) (by kernel_rfl) (fun _ h => by cases h) wholeBack_row_tie rfl ⟨rfl, rfl⟩ (by kernel_rfl) rfl plain (by kernel_rfl)
end wholeBackLaw
theorem wholeBack_card : Rows.WholeBackCardSaid := wholeBackLaw.card
#print axioms wholeBack_card
end Go.Proofs.YtdiiankcjgoecaaDoor

