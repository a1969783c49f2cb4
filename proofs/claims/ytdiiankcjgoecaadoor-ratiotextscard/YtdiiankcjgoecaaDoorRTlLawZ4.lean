/-
  Single operations on texts, in regions over frames that are not written out. A minus ahead of a text, by its bytes and by its first rune. No program is named here. What the library's utf8.DecodeRuneInString does, at this program. A minus ahead of a text: whole.splitMinus. The number that a text says: whole.Parse; the document's Number and Parse. The document's Number and Parse. Texts of whole numbers: whole.Text, the document's Text. A whole number's text, read again. No walk is here. A text cut at its first slash: what the library's Cut answers, and by counting. No program is named here. What the library's strings.Cut does, at this program. Texts of fractions: ratio.Parse, ratio.Text. Texts of fractions: ratio.Text; the document's Parse and Text. The document's Parse of a fraction; a fraction copied. RatioTexts answers true, whatever text and fraction it is handed.
-/
import Derived.Shelf.Unicode.DecodeSlow
import Derived.Shelf.Unicode.DecodeAny
import Derived.Shelf.Lay
import Derived.Lib.LaidU8
import Derived.Test.YtdiiankcjgoecaaDoorProg
import Derived.Shelf.Strings.Shaped
import Derived.Shelf.LaysM
import Derived.Deep.LoopGhost
import Derived.Test.YtdiiankcjgoecaaDoorRTlLawZ3
namespace Go.Proofs.YtdiiankcjgoecaaDoor
namespace Lm
open Go Go.RowKit
def IfS (P : Prop) (p : Says) : Says := fun v w => P → p v w
theorem IfS.mono4 {P : Prop} {p : Says} (h : Mono4 p) : Mono4 (IfS P p) := fun v w w' hr h' hP => h v w w' hr (h' hP)
theorem gtrue {P : Prop} [Decidable P] {v : Value} {w : World} (h : Eqs (.bool (decide P)) v w) (hg : v = .bool true) : P := by
  have e : v = .bool (decide P) := h
  rw [hg] at e
  exact of_decide_eq_true (Value.bool.inj e).symm
theorem gof {P : Prop} [Decidable P] {v : Value} {w : World} (h : Eqs (.bool (decide P)) v w) (hP : P) : v = .bool true := by
  have e : v = .bool (decide P) := h
  rw [e, decide_eq_true hP]
section
variable {dst : Option Tmp} {ty : TypeId} {pos : String} {after : Array Edge} {guard : Option (Nat × Bool)} {a : Act} {w : World} {ats : Array TypeId} {i j : Nat}
theorem op_eql32k {u v : Int} (h1 : a.eval (.tmp i) = .int .i32 u) :
    Does Tryd.prog { dst, op := .binOp .eql 21 (.tmp i) (.const (.int .i32 v)) 21, type := ty, pos, after, guard } a.eval w fun v' w' => Below w.heap.size w w' ∧ Eqs (.bool (decide (u = v))) v' w' := by
  refine does_bin (v := .bool (decide (u = v))) ?_ ?_ ⟨Below.refl _ _, rfl⟩
  · rw [h1]; simp [go_sem, Act.eval]
  · rw [h1]; simp [go_sem, Act.eval]; rfl
theorem op_eql32t {u v : Int} (h1 : a.eval (.tmp i) = .int .i32 u) (h : u = v) :
    Does Tryd.prog { dst, op := .binOp .eql 21 (.tmp i) (.const (.int .i32 v)) 21, type := ty, pos, after, guard } a.eval w fun v' w' => Below w.heap.size w w' ∧ Eqs (.bool true) v' w' :=
  (op_eql32k h1).mono fun _ _ ⟨hb, e⟩ => ⟨hb, by rw [Eqs, show _ = _ from e, decide_eq_true h]⟩
theorem op_eql32f {u v : Int} (h1 : a.eval (.tmp i) = .int .i32 u) (h : u ≠ v) :
    Does Tryd.prog { dst, op := .binOp .eql 21 (.tmp i) (.const (.int .i32 v)) 21, type := ty, pos, after, guard } a.eval w fun v' w' => Below w.heap.size w w' ∧ Eqs (.bool false) v' w' :=
  (op_eql32k h1).mono fun _ _ ⟨hb, e⟩ => ⟨hb, by rw [Eqs, show _ = _ from e, decide_eq_false h]⟩
theorem op_eql8k {u v : Int} (h1 : a.eval (.tmp i) = .int .u8 u) :
    Does Tryd.prog { dst, op := .binOp .eql 5 (.tmp i) (.const (.int .u8 v)) 5, type := ty, pos, after, guard } a.eval w fun v' w' => Below w.heap.size w w' ∧ Eqs (.bool (decide (u = v))) v' w' := by
  refine does_bin (v := .bool (decide (u = v))) ?_ ?_ ⟨Below.refl _ _, rfl⟩
  · rw [h1]; simp [go_sem, Act.eval]
  · rw [h1]; simp [go_sem, Act.eval]; rfl
theorem op_lens {s : ByteArray} (h : a.eval (.tmp i) = .string s) : Does Tryd.prog { dst, op := .call { callee := .builtin .len, args := #[.tmp i], argTypes := #[9] }, type := ty, pos, after, guard } a.eval w fun v' w' => Below w.heap.size w w' ∧ Eqs (.int .i64 (s.size : Int)) v' w' := by
  have e : (execOp a.eval { dst, op := .call { callee := .builtin .len, args := #[.tmp i], argTypes := #[9] }, type := ty, pos, after, guard }).run Tryd.prog w = .ok (.value (.int .i64 (s.size : Int))) w := by
    have h' : a.tmps[i]?.getD undef = .string s := by simpa [Act.eval] using h
    simp [go_sem, h']
  refine ⟨?_⟩
  unfold Turns
  rw [e]
  exact ⟨Below.refl _ _, rfl⟩
theorem op_idxs {s : ByteArray} {k : Nat} {c : Int} (h : a.eval (.tmp i) = .string s) (hc : a.eval (.const (.int .i64 c)) = .int .i64 (k : Int)) (hk : k < s.size) : Does Tryd.prog { dst, op := .index 9 (.tmp i) (.const (.int .i64 c)), type := ty, pos, after, guard } a.eval w fun v' w' => Below w.heap.size w w' ∧ Eqs (.int .u8 ((s.get! k).toNat : Int)) v' w' := by
  have e : (execOp a.eval { dst, op := .index 9 (.tmp i) (.const (.int .i64 c)), type := ty, pos, after, guard }).run Tryd.prog w = .ok (.value (.int .u8 ((s.get! k).toNat : Int))) w := by
    simp only [execOp, h, hc]
    go_simp
    rw [Utf8W.get!_of_lt s k hk]
  refine ⟨?_⟩
  unfold Turns
  rw [e]
  exact ⟨Below.refl _ _, rfl⟩
theorem op_slst {s : ByteArray} {x : Operand} {k : Nat} (h : a.eval (.tmp i) = .string s) (hx : a.eval x = .int .i64 (k : Int)) (hk : k ≤ s.size) : Does Tryd.prog { dst, op := .slice 9 (.tmp i) (some x) none none, type := ty, pos, after, guard } a.eval w fun v' w' => Below w.heap.size w w' ∧ Eqs (.string (s.extract k s.size)) v' w' := by
  have e : (execOp a.eval { dst, op := .slice 9 (.tmp i) (some x) none none, type := ty, pos, after, guard }).run Tryd.prog w = .ok (.value (.string (s.extract k s.size))) w := by
    simp only [execOp, Option.map, h, hx]
    go_simp
  refine ⟨?_⟩
  unfold Turns
  rw [e]
  exact ⟨Below.refl _ _, rfl⟩
theorem op_pickand {P Q : Prop} [Decidable P] [Decidable Q] {c x : Operand} (hc : a.eval c = .bool (decide P)) (hx : P → a.eval x = .bool (decide Q)) :
    Does Tryd.prog { dst, op := .pick c x (.const (.bool false)), type := ty, pos, after, guard } a.eval w fun v' w' => Below w.heap.size w w' ∧ Eqs (.bool (decide (P ∧ Q))) v' w' := by
  refine does_pick (b := decide P) hc ⟨Below.refl _ _, ?_⟩
  show _ = _
  by_cases hP : P
  · simp [hP, hx hP]
  · simp [hP, Act.eval]
theorem op_eqlst {s : ByteArray} (h1 : a.eval (.tmp i) = .string s) (h2 : a.eval (.tmp j) = .string s) :
    Does Tryd.prog { dst, op := .binOp .eql 9 (.tmp i) (.tmp j) 9, type := ty, pos, after, guard } a.eval w fun v' w' => Below w.heap.size w w' ∧ Eqs (.bool true) v' w' := by
  refine does_bin (v := .bool true) ?_ ?_ ⟨Below.refl _ _, rfl⟩
  · rw [h1, h2]; simp [go_sem]
  · rw [h1, h2]; simp [go_sem]
end
end Lm
end Go.Proofs.YtdiiankcjgoecaaDoor

namespace Go.Proofs.YtdiiankcjgoecaaDoor
namespace Lm
open Go Go.RowKit
def msplit (s : ByteArray) : Bool × ByteArray :=
  if 3 ≤ s.size ∧ (s.get! 0).toNat = 226 ∧ (s.get! 1).toNat = 136 ∧ (s.get! 2).toNat = 146 then (true, s.extract 3 s.size)
  else if 0 < s.size ∧ (s.get! 0).toNat = 45 then (true, s.extract 1 s.size)
  else (false, s)
theorem decN (s : ByteArray) (h : 0 < s.size) : Lib.decodeGo s = Lib.decodeN s.size (s.get! 0).toNat (s.get! 1).toNat (s.get! 2).toNat (s.get! 3).toNat := by
  rw [Lib.decodeGo, if_neg (by omega), Lib.decode_at]
  rfl
theorem decN_45 (n b0 b1 b2 b3 : Nat) : (Lib.decodeN n b0 b1 b2 b3).1 = 45 ↔ b0 = 45 := by
  unfold Lib.decodeN
  repeat' split
  all_goals first | (simp only; done) | (simp only; omega)
theorem decN_45w (n b1 b2 b3 : Nat) : Lib.decodeN n 45 b1 b2 b3 = (45, 1) := by simp [Lib.decodeN]
theorem decN_8722 (n b0 b1 b2 b3 : Nat) : (Lib.decodeN n b0 b1 b2 b3).1 = 8722 ↔ 3 ≤ n ∧ b0 = 226 ∧ b1 = 136 ∧ b2 = 146 := by
  unfold Lib.decodeN
  repeat' split
  all_goals (simp only; omega)
theorem decN_8722w {n b3 : Nat} (h : 3 ≤ n) : Lib.decodeN n 226 136 146 b3 = (8722, 3) := by
  unfold Lib.decodeN
  rw [if_neg (by omega), if_neg (by omega), if_pos (by omega), if_pos (by omega)]
theorem dec_45 (s : ByteArray) : (Lib.decodeGo s).1 = 45 ↔ 0 < s.size ∧ (s.get! 0).toNat = 45 := by
  by_cases h : 0 < s.size
  · rw [decN s h, decN_45]; simp [h]
  · rw [Lib.decodeGo, if_pos (by omega)]; simp [h]
theorem dec_8722 (s : ByteArray) : (Lib.decodeGo s).1 = 8722 ↔ 3 ≤ s.size ∧ (s.get! 0).toNat = 226 ∧ (s.get! 1).toNat = 136 ∧ (s.get! 2).toNat = 146 := by
  by_cases h : 0 < s.size
  · rw [decN s h, decN_8722]
  · rw [Lib.decodeGo, if_pos (by omega)]
    constructor
    · intro h; simp at h
    · intro h; omega
theorem msplit_ways (s : ByteArray) : ((Lib.decodeGo s = (8722, 3) ∧ 3 ≤ s.size ∧ (s.get! 0).toNat = 226 ∧ (s.get! 1).toNat = 136 ∧ (s.get! 2).toNat = 146) ∧ msplit s = (true, s.extract 3 s.size)) ∨
    ((Lib.decodeGo s = (45, 1) ∧ 0 < s.size ∧ (s.get! 0).toNat = 45) ∧ msplit s = (true, s.extract 1 s.size)) ∨
    (((Lib.decodeGo s).1 ≠ 45 ∧ (Lib.decodeGo s).1 ≠ 8722 ∧ ¬ (3 ≤ s.size ∧ (s.get! 0).toNat = 226 ∧ (s.get! 1).toNat = 136 ∧ (s.get! 2).toNat = 146) ∧ ¬ (0 < s.size ∧ (s.get! 0).toNat = 45)) ∧ msplit s = (false, s)) := by
  by_cases h1 : 3 ≤ s.size ∧ (s.get! 0).toNat = 226 ∧ (s.get! 1).toNat = 136 ∧ (s.get! 2).toNat = 146
  · refine .inl ⟨⟨?_, h1⟩, by rw [msplit, if_pos h1]⟩
    rw [decN s (by omega), h1.2.1, h1.2.2.1, h1.2.2.2]
    exact decN_8722w h1.1
  · by_cases h2 : 0 < s.size ∧ (s.get! 0).toNat = 45
    · refine .inr (.inl ⟨⟨?_, h2⟩, by rw [msplit, if_neg h1, if_pos h2]⟩)
      rw [decN s h2.1, h2.2]
      exact decN_45w _ _ _ _
    · exact .inr (.inr ⟨⟨fun e => h2 ((dec_45 s).1 e), fun e => h1 ((dec_8722 s).1 e), h1, h2⟩, by rw [msplit, if_neg h1, if_neg h2]⟩)
end Lm
end Go.Proofs.YtdiiankcjgoecaaDoor

namespace Go.Proofs
open Go.Shelf
shelf_lay Lays.n197 Nm 197 at Tryd as Tryd.lays197
namespace YtdiiankcjgoecaaDoor
namespace Lm
open Go Go.RowKit
def Tabs (w : World) : Prop := Lib.Utf8Tabs (Tryd.lays197_ren.g 3) (Tryd.lays197_ren.g 4) w
theorem Tabs.below {w w' : World} (h : Tabs w) (hb : Below w.heap.size w w') : Tabs w' := Utf8Tabs_below h hb
theorem decode_any (w : World) (s : ByteArray) (hT : Tabs w) :
    Calls Tryd.prog 83 #[.string s] w fun e w' => e = .returned (.tuple #[.int .i32 (Lib.decodeGo s).1, .int .i64 (Lib.decodeGo s).2]) ∧ Below w.heap.size w w' := Any.utf8_DecodeRuneInString Tryd.lays197 s w hT
end Lm
end YtdiiankcjgoecaaDoor
end Go.Proofs

namespace Go.Proofs.YtdiiankcjgoecaaDoor
namespace Lm
open Go Go.RowKit
section
variable {dst : Option Tmp} {ty : TypeId} {pos : String} {after : Array Edge} {guard : Option (Nat × Bool)} {a : Act} {w : World} {ats : Array TypeId} {i j : Nat}
theorem has_decode : Has Tryd.prog 83 := by unfold Has; kernel_rfl
theorem op_decode {s : ByteArray} {R : Int} {K : Nat} (h : a.eval (.tmp i) = .string s) (hT : Tabs w) (hd : (((Lib.decodeGo s).1 : Nat) : Int) = R ∧ (Lib.decodeGo s).2 = K) :
    Does Tryd.prog { dst, op := .call { callee := .value (.func 83), args := #[.tmp i], argTypes := ats }, type := ty, pos, after, guard } a.eval w fun v w' => Below w.heap.size w w' ∧ Tup2 (Eqs (.int .i32 R)) (Eqs (.int .i64 (K : Int))) v w' := by
  refine does_call has_decode _ (by simp only [List.map_toArray, List.map_cons, List.map_nil, h]) ((decode_any w s hT).mono ?_)
  rintro e w' ⟨rfl, hb⟩
  obtain ⟨rfl, rfl⟩ := hd
  exact ⟨_, rfl, hb, _, _, rfl, rfl, rfl⟩
end
set_option maxRecDepth 20000 in
set_option maxHeartbeats 1000000 in
theorem split_z (w : World) (s : ByteArray) (hT : Tabs w) :
    Calls Tryd.prog 42 #[.string s] w fun e w' => e = .returned (.tuple #[.bool (msplit s).1, .string (msplit s).2]) ∧ Below w.heap.size w w' := by
  rcases msplit_ways s with ⟨⟨hd0, h3⟩, hm⟩ | ⟨⟨hd0, h3⟩, hm⟩ | ⟨⟨hn1', hn2', _, _⟩, hm⟩
  · skip
    go_enter Tryd.func42, Tryd.ntmps42
    generalize hA : (Act.mk _ _) = aa
    have hn : aa.tmps.size = 19 := by rw [← hA]; rfl
    have hd : aa.defers = [] := by rw [← hA]
    have f0 : aa.eval (.tmp 0) = .string s := by rw [← hA]; rfl
    clear hA
    have HB : Below w.heap.size w w := Below.refl _ _
    refine wp_seq ?_
    refine region4 [some 2, some 3] [Eqs ((.bool false)), Eqs ((.string ⟨#[]⟩))] [] [] (by kernel_rfl) hn rfl (by kernel_rfl) (by kernel_rfl) (by kernel_rfl) (by kernel_rfl) (by kernel_rfl) (by kernel_rfl) ⟨Eqs.mono4 _, Eqs.mono4 _, trivial⟩ ok_nil (IsOld.all (bx := []) trivial) (DisOld.all (bx := []) trivial) ?_ ?_
    · exact ⟨.norm 2 rfl rfl rfl (fun a_ w_ hn_ hBt hr hR hD hO hS => op_assign rfl),
        .norm 3 rfl rfl rfl (fun a_ w_ hn_ hBt hr hR hD hO hS => op_assign rfl),
        trivial⟩
    intro a1 w1 gs1 hn1 hd1 hBt hr hR hP hX hU
    replace hn := hn1; replace hd := hd1.trans hd
    replace f0 := (hR 0 rfl).trans f0
    have e2 : a1.eval (.tmp 2) = (.bool false) := hP 0 (by decide)
    have f2 := e2
    have e3 : a1.eval (.tmp 3) = (.string ⟨#[]⟩) := hP 1 (by decide)
    have f3 := e3
    replace HB := HB.trans (hBt.below HB.size (UpOld.all (bx := []) trivial))
    clear hBt hr hR hP hX hU
    refine wp_seq ?_
    refine region4 [some 7, some 8, some 6, some 9, some 10, some 4, some 5] [Eqs (.string s), Tup2 (Eqs (.int .i32 8722)) (Eqs (.int .i64 (3 : Int))), Tup2 (Eqs (.int .i32 8722)) (Eqs (.int .i64 (3 : Int))), Eqs (.int .i32 8722), Eqs (.int .i64 (3 : Int)), Eqs (.int .i32 8722), Eqs (.int .i64 (3 : Int))] [] [] (by kernel_rfl) hn rfl (by kernel_rfl) (by kernel_rfl) (by kernel_rfl) (by kernel_rfl) (by kernel_rfl) (by kernel_rfl) ⟨Eqs.mono4 _, Tup2.mono4 (Eqs.mono4 _) (Eqs.mono4 _), Tup2.mono4 (Eqs.mono4 _) (Eqs.mono4 _), Eqs.mono4 _, Eqs.mono4 _, Eqs.mono4 _, Eqs.mono4 _, trivial⟩ ok_nil (IsOld.all (bx := []) trivial) (DisOld.all (bx := []) trivial) ?_ ?_
    · exact ⟨.norm 7 rfl rfl rfl (fun a_ w_ hn_ hBt hr hR hD hO hS => op_mv ((hR 0 rfl).trans f0)),
        .norm 8 rfl rfl rfl (fun a_ w_ hn_ hBt hr hR hD hO hS => op_decode (show a_.eval (.tmp 7) = .string s from hD 0 rfl) (hT.below (HB.trans (hBt.below HB.size (UpOld.all (bx := []) trivial)))) ⟨by rw [hd0]; rfl, by rw [hd0]⟩),
        .norm 6 rfl rfl rfl (fun a_ w_ hn_ hBt hr hR hD hO hS => op_mvp (p := Tup2 (Eqs (.int .i32 8722)) (Eqs (.int .i64 (3 : Int)))) (show Tup2 (Eqs (.int .i32 8722)) (Eqs (.int .i64 (3 : Int))) (a_.eval (.tmp 8)) w_ from hD 1 rfl)),
        .norm 9 rfl rfl rfl (fun a_ w_ hn_ hBt hr hR hD hO hS => op_ex20 (show Tup2 (Eqs (.int .i32 8722)) (Eqs (.int .i64 (3 : Int))) (a_.eval (.tmp 6)) w_ from hD 2 rfl)),
        .norm 10 rfl rfl rfl (fun a_ w_ hn_ hBt hr hR hD hO hS => op_ex21 (show Tup2 (Eqs (.int .i32 8722)) (Eqs (.int .i64 (3 : Int))) (a_.eval (.tmp 6)) w_ from hD 2 rfl)),
        .norm 4 rfl rfl rfl (fun a_ w_ hn_ hBt hr hR hD hO hS => op_assign (show a_.eval (.tmp 9) = .int .i32 8722 from hD 3 rfl)),
        .norm 5 rfl rfl rfl (fun a_ w_ hn_ hBt hr hR hD hO hS => op_assign (show a_.eval (.tmp 10) = .int .i64 (3 : Int) from hD 4 rfl)),
        trivial⟩
    intro a2 w2 gs2 hn2 hd2 hBt hr hR hP hX hU
    replace hn := hn2; replace hd := hd2.trans hd
    replace f0 := (hR 0 rfl).trans f0
    replace f2 := (hR 2 rfl).trans f2
    replace f3 := (hR 3 rfl).trans f3
    have e4 : a2.eval (.tmp 4) = .int .i32 8722 := hP 5 (by decide)
    have f4 := e4
    have e5 : a2.eval (.tmp 5) = .int .i64 (3 : Int) := hP 6 (by decide)
    have f5 := e5
    replace HB := HB.trans (hBt.below HB.size (UpOld.all (bx := []) trivial))
    clear hBt hr hR hP hX hU
    refine wp_seq ?_
    refine wp_seq ?_
    refine region4 [some 11] [Eqs (.int .i32 8722)] [] [] (by kernel_rfl) hn rfl (by kernel_rfl) (by kernel_rfl) (by kernel_rfl) (by kernel_rfl) (by kernel_rfl) (by kernel_rfl) ⟨Eqs.mono4 _, trivial⟩ ok_nil (IsOld.all (bx := []) trivial) (DisOld.all (bx := []) trivial) ?_ ?_
    · exact ⟨.norm 11 rfl rfl rfl (fun a_ w_ hn_ hBt hr hR hD hO hS => op_mv ((hR 4 rfl).trans f4)),
        trivial⟩
    intro a3 w3 gs3 hn3 hd3 hBt hr hR hP hX hU
    replace hn := hn3; replace hd := hd3.trans hd
    replace f0 := (hR 0 rfl).trans f0
    replace f2 := (hR 2 rfl).trans f2
    replace f3 := (hR 3 rfl).trans f3
    replace f5 := (hR 5 rfl).trans f5
    have e11 : a3.eval (.tmp 11) = .int .i32 8722 := hP 0 (by decide)
    have f11 := e11
    replace HB := HB.trans (hBt.below HB.size (UpOld.all (bx := []) trivial))
    clear hBt hr hR hP hX hU
    refine wp_block ?_
    refine wp_seq ?_
    refine wp_seq ?_
    refine region4 [some 13, some 12] [Eqs (.bool false), Eqs (.bool false)] [] [] (by kernel_rfl) hn rfl (by kernel_rfl) (by kernel_rfl) (by kernel_rfl) (by kernel_rfl) (by kernel_rfl) (by kernel_rfl) ⟨Eqs.mono4 _, Eqs.mono4 _, trivial⟩ ok_nil (IsOld.all (bx := []) trivial) (DisOld.all (bx := []) trivial) ?_ ?_
    · exact ⟨.norm 13 rfl rfl rfl (fun a_ w_ hn_ hBt hr hR hD hO hS => op_eql32f ((hR 11 rfl).trans f11) (by decide)),
        .norm 12 rfl rfl rfl (fun a_ w_ hn_ hBt hr hR hD hO hS => op_assign (show a_.eval (.tmp 13) = .bool false from hD 0 rfl)),
        trivial⟩
    intro a4 w4 gs4 hn4 hd4 hBt hr hR hP hX hU
    replace hn := hn4; replace hd := hd4.trans hd
    replace f0 := (hR 0 rfl).trans f0
    replace f2 := (hR 2 rfl).trans f2
    replace f3 := (hR 3 rfl).trans f3
    replace f5 := (hR 5 rfl).trans f5
    replace f11 := (hR 11 rfl).trans f11
    have e12 : a4.eval (.tmp 12) = .bool false := hP 1 (by decide)
    have f12 := e12
    replace HB := HB.trans (hBt.below HB.size (UpOld.all (bx := []) trivial))
    clear hBt hr hR hP hX hU
    refine wp_cond_false f12 ?_
    refine region4 [some 14, some 12] [Eqs (.bool true), Eqs (.bool true)] [] [] (by kernel_rfl) hn rfl (by kernel_rfl) (by kernel_rfl) (by kernel_rfl) (by kernel_rfl) (by kernel_rfl) (by kernel_rfl) ⟨Eqs.mono4 _, Eqs.mono4 _, trivial⟩ ok_nil (IsOld.all (bx := []) trivial) (DisOld.all (bx := []) trivial) ?_ ?_
    · exact ⟨.norm 14 rfl rfl rfl (fun a_ w_ hn_ hBt hr hR hD hO hS => op_eql32t ((hR 11 rfl).trans f11) rfl),
        .norm 12 rfl rfl rfl (fun a_ w_ hn_ hBt hr hR hD hO hS => op_assign (show a_.eval (.tmp 14) = .bool true from hD 0 rfl)),
        trivial⟩
    intro a5 w5 gs5 hn5 hd5 hBt hr hR hP hX hU
    replace hn := hn5; replace hd := hd5.trans hd
    replace f0 := (hR 0 rfl).trans f0
    replace f2 := (hR 2 rfl).trans f2
    replace f3 := (hR 3 rfl).trans f3
    replace f5 := (hR 5 rfl).trans f5
    have e12 : a5.eval (.tmp 12) = .bool true := hP 1 (by decide)
    have f12 := e12
    replace HB := HB.trans (hBt.below HB.size (UpOld.all (bx := []) trivial))
    clear hBt hr hR hP hX hU
    refine wp_cond_true f12 ?_
    refine wp_seq ?_
    refine region4 [some 15, some 16, some 17, some 2, some 3] [Eqs (.string s), Eqs (.int .i64 (3 : Int)), Eqs (.string ((s).extract 3 (s).size)), Eqs ((.bool true)), Eqs (.string ((s).extract 3 (s).size))] [] [] (by kernel_rfl) hn rfl (by kernel_rfl) (by kernel_rfl) (by kernel_rfl) (by kernel_rfl) (by kernel_rfl) (by kernel_rfl) ⟨Eqs.mono4 _, Eqs.mono4 _, Eqs.mono4 _, Eqs.mono4 _, Eqs.mono4 _, trivial⟩ ok_nil (IsOld.all (bx := []) trivial) (DisOld.all (bx := []) trivial) ?_ ?_
    · exact ⟨.norm 15 rfl rfl rfl (fun a_ w_ hn_ hBt hr hR hD hO hS => op_mv ((hR 0 rfl).trans f0)),
        .norm 16 rfl rfl rfl (fun a_ w_ hn_ hBt hr hR hD hO hS => op_mv ((hR 5 rfl).trans f5)),
        .norm 17 rfl rfl rfl (fun a_ w_ hn_ hBt hr hR hD hO hS => op_slst (k := 3) (show a_.eval (.tmp 15) = .string s from hD 0 rfl) (show a_.eval (.tmp 16) = .int .i64 (3 : Int) from hD 1 rfl) (by omega)),
        .norm 2 rfl rfl rfl (fun a_ w_ hn_ hBt hr hR hD hO hS => op_assign rfl),
        .norm 3 rfl rfl rfl (fun a_ w_ hn_ hBt hr hR hD hO hS => op_assign (show a_.eval (.tmp 17) = .string ((s).extract 3 (s).size) from hD 2 rfl)),
        trivial⟩
    intro a6 w6 gs6 hn6 hd6 hBt hr hR hP hX hU
    replace hn := hn6; replace hd := hd6.trans hd
    replace f0 := (hR 0 rfl).trans f0
    have e2 : a6.eval (.tmp 2) = (.bool true) := hP 3 (by decide)
    have f2 := e2
    have e3 : a6.eval (.tmp 3) = .string ((s).extract 3 (s).size) := hP 4 (by decide)
    have f3 := e3
    replace HB := HB.trans (hBt.below HB.size (UpOld.all (bx := []) trivial))
    clear hBt hr hR hP hX hU
    refine wp_ret ?_
    repeat (first | refine then_ret ?_ | refine scope_ret ?_ | refine block_ret ?_)
    exact bodyPost_ret (v := .tuple #[.bool true, .string ((s).extract 3 (s).size)]) (res_tt2 rfl f2 f3) hd ⟨by rw [hm], HB⟩
  · skip
    go_enter Tryd.func42, Tryd.ntmps42
    generalize hA : (Act.mk _ _) = aa
    have hn : aa.tmps.size = 19 := by rw [← hA]; rfl
    have hd : aa.defers = [] := by rw [← hA]
    have f0 : aa.eval (.tmp 0) = .string s := by rw [← hA]; rfl
    clear hA
    have HB : Below w.heap.size w w := Below.refl _ _
    refine wp_seq ?_
    refine region4 [some 2, some 3] [Eqs ((.bool false)), Eqs ((.string ⟨#[]⟩))] [] [] (by kernel_rfl) hn rfl (by kernel_rfl) (by kernel_rfl) (by kernel_rfl) (by kernel_rfl) (by kernel_rfl) (by kernel_rfl) ⟨Eqs.mono4 _, Eqs.mono4 _, trivial⟩ ok_nil (IsOld.all (bx := []) trivial) (DisOld.all (bx := []) trivial) ?_ ?_
    · exact ⟨.norm 2 rfl rfl rfl (fun a_ w_ hn_ hBt hr hR hD hO hS => op_assign rfl),
        .norm 3 rfl rfl rfl (fun a_ w_ hn_ hBt hr hR hD hO hS => op_assign rfl),
        trivial⟩
    intro a1 w1 gs1 hn1 hd1 hBt hr hR hP hX hU
    replace hn := hn1; replace hd := hd1.trans hd
    replace f0 := (hR 0 rfl).trans f0
    have e2 : a1.eval (.tmp 2) = (.bool false) := hP 0 (by decide)
    have f2 := e2
    have e3 : a1.eval (.tmp 3) = (.string ⟨#[]⟩) := hP 1 (by decide)
    have f3 := e3
    replace HB := HB.trans (hBt.below HB.size (UpOld.all (bx := []) trivial))
    clear hBt hr hR hP hX hU
    refine wp_seq ?_
    refine region4 [some 7, some 8, some 6, some 9, some 10, some 4, some 5] [Eqs (.string s), Tup2 (Eqs (.int .i32 45)) (Eqs (.int .i64 (1 : Int))), Tup2 (Eqs (.int .i32 45)) (Eqs (.int .i64 (1 : Int))), Eqs (.int .i32 45), Eqs (.int .i64 (1 : Int)), Eqs (.int .i32 45), Eqs (.int .i64 (1 : Int))] [] [] (by kernel_rfl) hn rfl (by kernel_rfl) (by kernel_rfl) (by kernel_rfl) (by kernel_rfl) (by kernel_rfl) (by kernel_rfl) ⟨Eqs.mono4 _, Tup2.mono4 (Eqs.mono4 _) (Eqs.mono4 _), Tup2.mono4 (Eqs.mono4 _) (Eqs.mono4 _), Eqs.mono4 _, Eqs.mono4 _, Eqs.mono4 _, Eqs.mono4 _, trivial⟩ ok_nil (IsOld.all (bx := []) trivial) (DisOld.all (bx := []) trivial) ?_ ?_
    · exact ⟨.norm 7 rfl rfl rfl (fun a_ w_ hn_ hBt hr hR hD hO hS => op_mv ((hR 0 rfl).trans f0)),
        .norm 8 rfl rfl rfl (fun a_ w_ hn_ hBt hr hR hD hO hS => op_decode (show a_.eval (.tmp 7) = .string s from hD 0 rfl) (hT.below (HB.trans (hBt.below HB.size (UpOld.all (bx := []) trivial)))) ⟨by rw [hd0]; rfl, by rw [hd0]⟩),
        .norm 6 rfl rfl rfl (fun a_ w_ hn_ hBt hr hR hD hO hS => op_mvp (p := Tup2 (Eqs (.int .i32 45)) (Eqs (.int .i64 (1 : Int)))) (show Tup2 (Eqs (.int .i32 45)) (Eqs (.int .i64 (1 : Int))) (a_.eval (.tmp 8)) w_ from hD 1 rfl)),
        .norm 9 rfl rfl rfl (fun a_ w_ hn_ hBt hr hR hD hO hS => op_ex20 (show Tup2 (Eqs (.int .i32 45)) (Eqs (.int .i64 (1 : Int))) (a_.eval (.tmp 6)) w_ from hD 2 rfl)),
        .norm 10 rfl rfl rfl (fun a_ w_ hn_ hBt hr hR hD hO hS => op_ex21 (show Tup2 (Eqs (.int .i32 45)) (Eqs (.int .i64 (1 : Int))) (a_.eval (.tmp 6)) w_ from hD 2 rfl)),
        .norm 4 rfl rfl rfl (fun a_ w_ hn_ hBt hr hR hD hO hS => op_assign (show a_.eval (.tmp 9) = .int .i32 45 from hD 3 rfl)),
        .norm 5 rfl rfl rfl (fun a_ w_ hn_ hBt hr hR hD hO hS => op_assign (show a_.eval (.tmp 10) = .int .i64 (1 : Int) from hD 4 rfl)),
        trivial⟩
    intro a2 w2 gs2 hn2 hd2 hBt hr hR hP hX hU
    replace hn := hn2; replace hd := hd2.trans hd
    replace f0 := (hR 0 rfl).trans f0
    replace f2 := (hR 2 rfl).trans f2
    replace f3 := (hR 3 rfl).trans f3
    have e4 : a2.eval (.tmp 4) = .int .i32 45 := hP 5 (by decide)
    have f4 := e4
    have e5 : a2.eval (.tmp 5) = .int .i64 (1 : Int) := hP 6 (by decide)
    have f5 := e5
    replace HB := HB.trans (hBt.below HB.size (UpOld.all (bx := []) trivial))
    clear hBt hr hR hP hX hU
    refine wp_seq ?_
    refine wp_seq ?_
    refine region4 [some 11] [Eqs (.int .i32 45)] [] [] (by kernel_rfl) hn rfl (by kernel_rfl) (by kernel_rfl) (by kernel_rfl) (by kernel_rfl) (by kernel_rfl) (by kernel_rfl) ⟨Eqs.mono4 _, trivial⟩ ok_nil (IsOld.all (bx := []) trivial) (DisOld.all (bx := []) trivial) ?_ ?_
    · exact ⟨.norm 11 rfl rfl rfl (fun a_ w_ hn_ hBt hr hR hD hO hS => op_mv ((hR 4 rfl).trans f4)),
        trivial⟩
    intro a3 w3 gs3 hn3 hd3 hBt hr hR hP hX hU
    replace hn := hn3; replace hd := hd3.trans hd
    replace f0 := (hR 0 rfl).trans f0
    replace f2 := (hR 2 rfl).trans f2
    replace f3 := (hR 3 rfl).trans f3
    replace f5 := (hR 5 rfl).trans f5
    have e11 : a3.eval (.tmp 11) = .int .i32 45 := hP 0 (by decide)
    have f11 := e11
    replace HB := HB.trans (hBt.below HB.size (UpOld.all (bx := []) trivial))
    clear hBt hr hR hP hX hU
    refine wp_block ?_
    refine wp_seq ?_
    refine wp_seq ?_
    refine region4 [some 13, some 12] [Eqs (.bool true), Eqs (.bool true)] [] [] (by kernel_rfl) hn rfl (by kernel_rfl) (by kernel_rfl) (by kernel_rfl) (by kernel_rfl) (by kernel_rfl) (by kernel_rfl) ⟨Eqs.mono4 _, Eqs.mono4 _, trivial⟩ ok_nil (IsOld.all (bx := []) trivial) (DisOld.all (bx := []) trivial) ?_ ?_
    · exact ⟨.norm 13 rfl rfl rfl (fun a_ w_ hn_ hBt hr hR hD hO hS => op_eql32t ((hR 11 rfl).trans f11) rfl),
        .norm 12 rfl rfl rfl (fun a_ w_ hn_ hBt hr hR hD hO hS => op_assign (show a_.eval (.tmp 13) = .bool true from hD 0 rfl)),
        trivial⟩
    intro a4 w4 gs4 hn4 hd4 hBt hr hR hP hX hU
    replace hn := hn4; replace hd := hd4.trans hd
    replace f0 := (hR 0 rfl).trans f0
    replace f2 := (hR 2 rfl).trans f2
    replace f3 := (hR 3 rfl).trans f3
    replace f5 := (hR 5 rfl).trans f5
    replace f11 := (hR 11 rfl).trans f11
    have e12 : a4.eval (.tmp 12) = .bool true := hP 1 (by decide)
    have f12 := e12
    replace HB := HB.trans (hBt.below HB.size (UpOld.all (bx := []) trivial))
    clear hBt hr hR hP hX hU
    refine wp_cond_true f12 ?_
    refine wp_skip ?_
    refine wp_cond_true f12 ?_
    refine wp_seq ?_
    refine region4 [some 15, some 16, some 17, some 2, some 3] [Eqs (.string s), Eqs (.int .i64 (1 : Int)), Eqs (.string ((s).extract 1 (s).size)), Eqs ((.bool true)), Eqs (.string ((s).extract 1 (s).size))] [] [] (by kernel_rfl) hn rfl (by kernel_rfl) (by kernel_rfl) (by kernel_rfl) (by kernel_rfl) (by kernel_rfl) (by kernel_rfl) ⟨Eqs.mono4 _, Eqs.mono4 _, Eqs.mono4 _, Eqs.mono4 _, Eqs.mono4 _, trivial⟩ ok_nil (IsOld.all (bx := []) trivial) (DisOld.all (bx := []) trivial) ?_ ?_
    · exact ⟨.norm 15 rfl rfl rfl (fun a_ w_ hn_ hBt hr hR hD hO hS => op_mv ((hR 0 rfl).trans f0)),
        .norm 16 rfl rfl rfl (fun a_ w_ hn_ hBt hr hR hD hO hS => op_mv ((hR 5 rfl).trans f5)),
        .norm 17 rfl rfl rfl (fun a_ w_ hn_ hBt hr hR hD hO hS => op_slst (k := 1) (show a_.eval (.tmp 15) = .string s from hD 0 rfl) (show a_.eval (.tmp 16) = .int .i64 (1 : Int) from hD 1 rfl) (by omega)),
        .norm 2 rfl rfl rfl (fun a_ w_ hn_ hBt hr hR hD hO hS => op_assign rfl),
        .norm 3 rfl rfl rfl (fun a_ w_ hn_ hBt hr hR hD hO hS => op_assign (show a_.eval (.tmp 17) = .string ((s).extract 1 (s).size) from hD 2 rfl)),
        trivial⟩
    intro a5 w5 gs5 hn5 hd5 hBt hr hR hP hX hU
    replace hn := hn5; replace hd := hd5.trans hd
    replace f0 := (hR 0 rfl).trans f0
    have e2 : a5.eval (.tmp 2) = (.bool true) := hP 3 (by decide)
    have f2 := e2
    have e3 : a5.eval (.tmp 3) = .string ((s).extract 1 (s).size) := hP 4 (by decide)
    have f3 := e3
    replace HB := HB.trans (hBt.below HB.size (UpOld.all (bx := []) trivial))
    clear hBt hr hR hP hX hU
    refine wp_ret ?_
    repeat (first | refine then_ret ?_ | refine scope_ret ?_ | refine block_ret ?_)
    exact bodyPost_ret (v := .tuple #[.bool true, .string ((s).extract 1 (s).size)]) (res_tt2 rfl f2 f3) hd ⟨by rw [hm], HB⟩
  · have hne1 : (((Lib.decodeGo s).1 : Nat) : Int) ≠ 45 := by omega
    have hne2 : (((Lib.decodeGo s).1 : Nat) : Int) ≠ 8722 := by omega
    go_enter Tryd.func42, Tryd.ntmps42
    generalize hA : (Act.mk _ _) = aa
    have hn : aa.tmps.size = 19 := by rw [← hA]; rfl
    have hd : aa.defers = [] := by rw [← hA]
    have f0 : aa.eval (.tmp 0) = .string s := by rw [← hA]; rfl
    clear hA
    have HB : Below w.heap.size w w := Below.refl _ _
    refine wp_seq ?_
    refine region4 [some 2, some 3] [Eqs ((.bool false)), Eqs ((.string ⟨#[]⟩))] [] [] (by kernel_rfl) hn rfl (by kernel_rfl) (by kernel_rfl) (by kernel_rfl) (by kernel_rfl) (by kernel_rfl) (by kernel_rfl) ⟨Eqs.mono4 _, Eqs.mono4 _, trivial⟩ ok_nil (IsOld.all (bx := []) trivial) (DisOld.all (bx := []) trivial) ?_ ?_
    · exact ⟨.norm 2 rfl rfl rfl (fun a_ w_ hn_ hBt hr hR hD hO hS => op_assign rfl),
        .norm 3 rfl rfl rfl (fun a_ w_ hn_ hBt hr hR hD hO hS => op_assign rfl),
        trivial⟩
    intro a1 w1 gs1 hn1 hd1 hBt hr hR hP hX hU
    replace hn := hn1; replace hd := hd1.trans hd
    replace f0 := (hR 0 rfl).trans f0
    have e2 : a1.eval (.tmp 2) = (.bool false) := hP 0 (by decide)
    have f2 := e2
    have e3 : a1.eval (.tmp 3) = (.string ⟨#[]⟩) := hP 1 (by decide)
    have f3 := e3
    replace HB := HB.trans (hBt.below HB.size (UpOld.all (bx := []) trivial))
    clear hBt hr hR hP hX hU
    refine wp_seq ?_
    refine region4 [some 7, some 8, some 6, some 9, some 10, some 4, some 5] [Eqs (.string s), Tup2 (Eqs (.int .i32 (((Lib.decodeGo s).1 : Nat) : Int))) (Eqs (.int .i64 ((Lib.decodeGo s).2 : Int))), Tup2 (Eqs (.int .i32 (((Lib.decodeGo s).1 : Nat) : Int))) (Eqs (.int .i64 ((Lib.decodeGo s).2 : Int))), Eqs (.int .i32 (((Lib.decodeGo s).1 : Nat) : Int)), Eqs (.int .i64 ((Lib.decodeGo s).2 : Int)), Eqs (.int .i32 (((Lib.decodeGo s).1 : Nat) : Int)), Eqs (.int .i64 ((Lib.decodeGo s).2 : Int))] [] [] (by kernel_rfl) hn rfl (by kernel_rfl) (by kernel_rfl) (by kernel_rfl) (by kernel_rfl) (by kernel_rfl) (by kernel_rfl) ⟨Eqs.mono4 _, Tup2.mono4 (Eqs.mono4 _) (Eqs.mono4 _), Tup2.mono4 (Eqs.mono4 _) (Eqs.mono4 _), Eqs.mono4 _, Eqs.mono4 _, Eqs.mono4 _, Eqs.mono4 _, trivial⟩ ok_nil (IsOld.all (bx := []) trivial) (DisOld.all (bx := []) trivial) ?_ ?_
    · exact ⟨.norm 7 rfl rfl rfl (fun a_ w_ hn_ hBt hr hR hD hO hS => op_mv ((hR 0 rfl).trans f0)),
        .norm 8 rfl rfl rfl (fun a_ w_ hn_ hBt hr hR hD hO hS => op_decode (show a_.eval (.tmp 7) = .string s from hD 0 rfl) (hT.below (HB.trans (hBt.below HB.size (UpOld.all (bx := []) trivial)))) ⟨rfl, rfl⟩),
        .norm 6 rfl rfl rfl (fun a_ w_ hn_ hBt hr hR hD hO hS => op_mvp (p := Tup2 (Eqs (.int .i32 (((Lib.decodeGo s).1 : Nat) : Int))) (Eqs (.int .i64 ((Lib.decodeGo s).2 : Int)))) (show Tup2 (Eqs (.int .i32 (((Lib.decodeGo s).1 : Nat) : Int))) (Eqs (.int .i64 ((Lib.decodeGo s).2 : Int))) (a_.eval (.tmp 8)) w_ from hD 1 rfl)),
        .norm 9 rfl rfl rfl (fun a_ w_ hn_ hBt hr hR hD hO hS => op_ex20 (show Tup2 (Eqs (.int .i32 (((Lib.decodeGo s).1 : Nat) : Int))) (Eqs (.int .i64 ((Lib.decodeGo s).2 : Int))) (a_.eval (.tmp 6)) w_ from hD 2 rfl)),
        .norm 10 rfl rfl rfl (fun a_ w_ hn_ hBt hr hR hD hO hS => op_ex21 (show Tup2 (Eqs (.int .i32 (((Lib.decodeGo s).1 : Nat) : Int))) (Eqs (.int .i64 ((Lib.decodeGo s).2 : Int))) (a_.eval (.tmp 6)) w_ from hD 2 rfl)),
        .norm 4 rfl rfl rfl (fun a_ w_ hn_ hBt hr hR hD hO hS => op_assign (show a_.eval (.tmp 9) = .int .i32 (((Lib.decodeGo s).1 : Nat) : Int) from hD 3 rfl)),
        .norm 5 rfl rfl rfl (fun a_ w_ hn_ hBt hr hR hD hO hS => op_assign (show a_.eval (.tmp 10) = .int .i64 ((Lib.decodeGo s).2 : Int) from hD 4 rfl)),
        trivial⟩
    intro a2 w2 gs2 hn2 hd2 hBt hr hR hP hX hU
    replace hn := hn2; replace hd := hd2.trans hd
    replace f0 := (hR 0 rfl).trans f0
    replace f2 := (hR 2 rfl).trans f2
    replace f3 := (hR 3 rfl).trans f3
    have e4 : a2.eval (.tmp 4) = .int .i32 (((Lib.decodeGo s).1 : Nat) : Int) := hP 5 (by decide)
    have f4 := e4
    have e5 : a2.eval (.tmp 5) = .int .i64 ((Lib.decodeGo s).2 : Int) := hP 6 (by decide)
    have f5 := e5
    replace HB := HB.trans (hBt.below HB.size (UpOld.all (bx := []) trivial))
    clear hBt hr hR hP hX hU
    refine wp_seq ?_
    refine wp_seq ?_
    refine region4 [some 11] [Eqs (.int .i32 (((Lib.decodeGo s).1 : Nat) : Int))] [] [] (by kernel_rfl) hn rfl (by kernel_rfl) (by kernel_rfl) (by kernel_rfl) (by kernel_rfl) (by kernel_rfl) (by kernel_rfl) ⟨Eqs.mono4 _, trivial⟩ ok_nil (IsOld.all (bx := []) trivial) (DisOld.all (bx := []) trivial) ?_ ?_
    · exact ⟨.norm 11 rfl rfl rfl (fun a_ w_ hn_ hBt hr hR hD hO hS => op_mv ((hR 4 rfl).trans f4)),
        trivial⟩
    intro a3 w3 gs3 hn3 hd3 hBt hr hR hP hX hU
    replace hn := hn3; replace hd := hd3.trans hd
    replace f0 := (hR 0 rfl).trans f0
    replace f2 := (hR 2 rfl).trans f2
    replace f3 := (hR 3 rfl).trans f3
    replace f5 := (hR 5 rfl).trans f5
    have e11 : a3.eval (.tmp 11) = .int .i32 (((Lib.decodeGo s).1 : Nat) : Int) := hP 0 (by decide)
    have f11 := e11
    replace HB := HB.trans (hBt.below HB.size (UpOld.all (bx := []) trivial))
    clear hBt hr hR hP hX hU
    refine wp_block ?_
    refine wp_seq ?_
    refine wp_seq ?_
    refine region4 [some 13, some 12] [Eqs (.bool false), Eqs (.bool false)] [] [] (by kernel_rfl) hn rfl (by kernel_rfl) (by kernel_rfl) (by kernel_rfl) (by kernel_rfl) (by kernel_rfl) (by kernel_rfl) ⟨Eqs.mono4 _, Eqs.mono4 _, trivial⟩ ok_nil (IsOld.all (bx := []) trivial) (DisOld.all (bx := []) trivial) ?_ ?_
    · exact ⟨.norm 13 rfl rfl rfl (fun a_ w_ hn_ hBt hr hR hD hO hS => op_eql32f ((hR 11 rfl).trans f11) hne1),
        .norm 12 rfl rfl rfl (fun a_ w_ hn_ hBt hr hR hD hO hS => op_assign (show a_.eval (.tmp 13) = .bool false from hD 0 rfl)),
        trivial⟩
    intro a4 w4 gs4 hn4 hd4 hBt hr hR hP hX hU
    replace hn := hn4; replace hd := hd4.trans hd
    replace f0 := (hR 0 rfl).trans f0
    replace f2 := (hR 2 rfl).trans f2
    replace f3 := (hR 3 rfl).trans f3
    replace f5 := (hR 5 rfl).trans f5
    replace f11 := (hR 11 rfl).trans f11
    have e12 : a4.eval (.tmp 12) = .bool false := hP 1 (by decide)
    have f12 := e12
    replace HB := HB.trans (hBt.below HB.size (UpOld.all (bx := []) trivial))
    clear hBt hr hR hP hX hU
    refine wp_cond_false f12 ?_
    refine region4 [some 14, some 12] [Eqs (.bool false), Eqs (.bool false)] [] [] (by kernel_rfl) hn rfl (by kernel_rfl) (by kernel_rfl) (by kernel_rfl) (by kernel_rfl) (by kernel_rfl) (by kernel_rfl) ⟨Eqs.mono4 _, Eqs.mono4 _, trivial⟩ ok_nil (IsOld.all (bx := []) trivial) (DisOld.all (bx := []) trivial) ?_ ?_
    · exact ⟨.norm 14 rfl rfl rfl (fun a_ w_ hn_ hBt hr hR hD hO hS => op_eql32f ((hR 11 rfl).trans f11) hne2),
        .norm 12 rfl rfl rfl (fun a_ w_ hn_ hBt hr hR hD hO hS => op_assign (show a_.eval (.tmp 14) = .bool false from hD 0 rfl)),
        trivial⟩
    intro a5 w5 gs5 hn5 hd5 hBt hr hR hP hX hU
    replace hn := hn5; replace hd := hd5.trans hd
    replace f0 := (hR 0 rfl).trans f0
    replace f2 := (hR 2 rfl).trans f2
    replace f3 := (hR 3 rfl).trans f3
    replace f5 := (hR 5 rfl).trans f5
    have e12 : a5.eval (.tmp 12) = .bool false := hP 1 (by decide)
    have f12 := e12
    replace HB := HB.trans (hBt.below HB.size (UpOld.all (bx := []) trivial))
    clear hBt hr hR hP hX hU
    refine wp_cond_false f12 ?_
    refine wp_skip ?_
    refine block_normal ?_
    refine wp_seq ?_
    refine region4 [some 18, some 2, some 3] [Eqs (.string s), Eqs ((.bool false)), Eqs (.string s)] [] [] (by kernel_rfl) hn rfl (by kernel_rfl) (by kernel_rfl) (by kernel_rfl) (by kernel_rfl) (by kernel_rfl) (by kernel_rfl) ⟨Eqs.mono4 _, Eqs.mono4 _, Eqs.mono4 _, trivial⟩ ok_nil (IsOld.all (bx := []) trivial) (DisOld.all (bx := []) trivial) ?_ ?_
    · exact ⟨.norm 18 rfl rfl rfl (fun a_ w_ hn_ hBt hr hR hD hO hS => op_mv ((hR 0 rfl).trans f0)),
        .norm 2 rfl rfl rfl (fun a_ w_ hn_ hBt hr hR hD hO hS => op_assign rfl),
        .norm 3 rfl rfl rfl (fun a_ w_ hn_ hBt hr hR hD hO hS => op_assign (show a_.eval (.tmp 18) = .string s from hD 0 rfl)),
        trivial⟩
    intro a6 w6 gs6 hn6 hd6 hBt hr hR hP hX hU
    replace hn := hn6; replace hd := hd6.trans hd
    have e2 : a6.eval (.tmp 2) = (.bool false) := hP 1 (by decide)
    have f2 := e2
    have e3 : a6.eval (.tmp 3) = .string s := hP 2 (by decide)
    have f3 := e3
    replace HB := HB.trans (hBt.below HB.size (UpOld.all (bx := []) trivial))
    clear hBt hr hR hP hX hU
    refine wp_ret ?_
    repeat (first | refine then_ret ?_ | refine scope_ret ?_ | refine block_ret ?_)
    exact bodyPost_ret (v := .tuple #[.bool false, .string s]) (res_tt2 rfl f2 f3) hd ⟨by rw [hm], HB⟩
end Lm
end Go.Proofs.YtdiiankcjgoecaaDoor

namespace Go.Proofs.YtdiiankcjgoecaaDoor
namespace Lm
open Go Go.RowKit
open Dm (Err Fine)
open Classical in
noncomputable def kOf (r : ByteArray) : Int := if 5120 < r.size then 2 else if 1 ≤ r.size ∧ Dig (bytesOf r) then 0 else 10
open Classical in
noncomputable def xOf (r : ByteArray) : Int := if Fine r then dval (bytesOf r) else 0
theorem of_err {r : ByteArray} {k : Int} (h : Err r k) : k = kOf r ∧ xOf r = 0 ∧ kOf r ≠ 0 := by
  have hf : ¬ Fine r := fun hf => Dm.err_fine h hf
  have h1 : k = kOf r := by
    rcases h with ⟨rfl, h2⟩ | ⟨rfl, h2, h3⟩
    · rw [kOf, if_pos h2]
    · rw [kOf, if_neg (by omega), if_neg h3]
  refine ⟨h1, by rw [xOf, if_neg hf], ?_⟩
  rw [← h1]
  rcases h with ⟨h1, _⟩ | ⟨h1, _⟩ <;> omega
theorem of_fine {r : ByteArray} (h : Fine r) : kOf r = 0 ∧ xOf r = dval (bytesOf r) := by
  refine ⟨?_, by rw [xOf, if_pos h]⟩
  rw [kOf, if_neg (by have := h.2.1; omega), if_pos ⟨h.1, h.2.2⟩]
theorem p10_le_pw (n : Nat) : p10 n ≤ pw n := by
  induction n with
  | zero => simp [p10, pw]
  | succ n ih =>
    simp only [p10, pw]
    have := pw_pos n
    omega
noncomputable def zOf (s : ByteArray) : Int := sg (msplit s).1 (xOf (msplit s).2)
noncomputable def eOf (s : ByteArray) : Int := kOf (msplit s).2
section
variable {dst : Option Tmp} {ty : TypeId} {pos : String} {after : Array Edge} {guard : Option (Nat × Bool)} {a : Act} {w : World} {ats : Array TypeId} {i j : Nat}
theorem has_split : Has Tryd.prog 42 := by unfold Has; kernel_rfl
theorem op_split {s : ByteArray} (h : a.eval (.tmp i) = .string s) (hT : Tabs w) :
    Does Tryd.prog { dst, op := .call { callee := .value (.func 42), args := #[.tmp i], argTypes := ats }, type := ty, pos, after, guard } a.eval w fun v w' => Below w.heap.size w w' ∧ Tup2 (Eqs (.bool (msplit s).1)) (Eqs (.string (msplit s).2)) v w' := by
  refine does_call has_split _ (by simp only [List.map_toArray, List.map_cons, List.map_nil, h]) ((split_z w s hT).mono ?_)
  rintro e w' ⟨rfl, hb⟩
  exact ⟨_, rfl, hb, _, _, rfl, rfl, rfl⟩
theorem has_lparse : Has Tryd.prog 43 := by unfold Has; kernel_rfl
theorem op_lparse {s : ByteArray} (h : a.eval (.tmp i) = .string s) :
    Does Tryd.prog { dst, op := .call { callee := .value (.func 43), args := #[.tmp i], argTypes := ats }, type := ty, pos, after, guard } a.eval w fun v w' => Below w.heap.size w w' ∧ Tup2 (OutL (xOf s) 6000) (Eqs (.int .i64 (kOf s))) v w' := by
  refine does_call has_lparse _ (by simp only [List.map_toArray, List.map_cons, List.map_nil, h]) ((parse_e w s).mono ?_)
  rintro e w' ⟨⟨k, hk, rfl⟩ | ⟨hf, v, rfl, rs, ho, hc, hv⟩, hb⟩
  · obtain ⟨h1, h2, _⟩ := of_err hk
    refine ⟨_, rfl, hb, _, _, rfl, ?_, by rw [h1]; rfl⟩
    rw [h2]
    exact ⟨none, 0, [], rfl, ⟨sl_nil w', canon_nil, rfl⟩, by simp⟩
  · obtain ⟨h1, h2⟩ := of_fine hf
    refine ⟨_, rfl, hb, _, _, rfl, ?_, by rw [h1]; rfl⟩
    rw [h2]
    obtain ⟨ao, cap, rfl, _⟩ := id ho
    refine ⟨ao, cap, rs, rfl, ⟨ho.sl, hc, hv⟩, ?_⟩
    have h3 := (dval_bounds hf.2.2).2
    rw [bytesOf_length] at h3
    have h4 := canon_len hc (m := s.size) (by rw [hv]; have := p10_le_pw s.size; omega)
    have := hf.2.1
    omega
theorem has_natural : Has Tryd.prog 61 := by unfold Has; kernel_rfl
theorem op_natural {s : ByteArray} (h : a.eval (.tmp i) = .string s) :
    Does Tryd.prog { dst, op := .call { callee := .value (.func 61), args := #[.tmp i], argTypes := ats }, type := ty, pos, after, guard } a.eval w fun v w' => Below w.heap.size w w' ∧ Tup2 (OutN (xOf s) 6000) (Eqs (.int .i64 (kOf s))) v w' := by
  refine does_call has_natural _ (by simp only [List.map_toArray, List.map_cons, List.map_nil, h]) ((Dm.natural_any w s).mono ?_)
  rintro e w' ⟨k, ao, cap, D, x, rfl, hG, hl, hx, hb⟩
  obtain ⟨rfl, rfl, h0⟩ : k = kOf s ∧ x = xOf s ∧ 0 ≤ x := by
    rcases hx with ⟨h1, h2⟩ | ⟨h1, h2, h3⟩
    · obtain ⟨g1, g2, _⟩ := of_err h1
      exact ⟨g1, by rw [g2, h2], by omega⟩
    · obtain ⟨g1, g2⟩ := of_fine h1
      exact ⟨by rw [g1, h2], by rw [g2, h3], by rw [h3]; exact (dval_bounds h1.2.2).1⟩
  refine ⟨_, rfl, hb, _, _, rfl, ⟨false, ao, cap, D, rfl, ⟨?_, ?_⟩, hl⟩, rfl⟩
  · rwa [Int.natAbs_of_nonneg h0]
  · exact (decide_eq_false (by omega)).symm
theorem has_signed : Has Tryd.prog 44 := by unfold Has; kernel_rfl
theorem op_signed0 {b : Bool} {x : Int} {L : Nat} (h1 : a.eval (.tmp i) = .bool b) (h2 : OutL x L (a.eval (.tmp j)) w) (hL : L ≤ 1000000) :
    Does Tryd.prog { dst, op := .call { callee := .value (.func 44), args := #[.tmp i, .tmp j], argTypes := ats }, type := ty, pos, after, guard } a.eval w fun v w' => Below w.heap.size w w' ∧ OutW (sg b x) L v w' := by
  obtain ⟨ao, cap, rs, e, G, l⟩ := h2
  refine does_call has_signed _ (by simp only [List.map_toArray, List.map_cons, List.map_nil, h1, e]) ((signed_g w b ao cap rs x G (by omega)).mono ?_)
  rintro e w' ⟨ng, rfl, hW, hb⟩
  exact ⟨_, rfl, hb, ng, ao, cap, rs, rfl, hW, l⟩
theorem op_neqkE {u v : Int} (h1 : a.eval (.tmp i) = .int .i64 u) :
    Does Tryd.prog { dst, op := .binOp .neq 27 (.tmp i) (.const (.int .i64 v)) 27, type := ty, pos, after, guard } a.eval w fun v' w' => Below w.heap.size w w' ∧ Eqs (.bool (!decide (u = v))) v' w' := by
  refine does_bin (v := .bool (!decide (u = v))) ?_ ?_ ⟨Below.refl _ _, rfl⟩
  · rw [h1]; simp [go_sem, Act.eval]
  · rw [h1]; simp [go_sem, Act.eval]; rfl
end
theorem xOf_zero {r : ByteArray} {b : Bool} (h : kOf r ≠ 0) : sg b (xOf r) = 0 := by
  have hf : ¬ Fine r := fun hf => h (of_fine hf).1
  rw [xOf, if_neg hf]
  cases b <;> rfl
theorem outw_zero (w : World) {L : Nat} : OutW 0 L (.agg #[.bool false, .slice none 0 0]) w := ⟨false, none, 0, [], rfl, ⟨⟨sl_nil w, canon_nil, rfl⟩, rfl⟩, by simp⟩
set_option maxRecDepth 20000 in
set_option maxHeartbeats 1000000 in
theorem wparse_z (w : World) (s : ByteArray) (hT : Tabs w) :
    Calls Tryd.prog 11 #[.string s] w fun e w' => ∃ v, e = .returned v ∧ Tup2 (OutW (zOf s) 6000) (Eqs (.int .i64 (eOf s))) v w' ∧ Below w.heap.size w w' := by
  go_enter Tryd.func11, Tryd.ntmps11
  generalize hA : (Act.mk _ _) = aa
  have hn : aa.tmps.size = 25 := by rw [← hA]; rfl
  have hd : aa.defers = [] := by rw [← hA]
  have f0 : aa.eval (.tmp 0) = .string s := by rw [← hA]; rfl
  clear hA
  have HB : Below w.heap.size w w := Below.refl _ _
  refine wp_seq ?_
  refine region4 [some 2, some 3] [(fun _ _ => True), Eqs ((.int .i64 0))] [⟨W2, some 0, 0, 2, .agg #[.bool false, .slice none 0 0], none, []⟩] [] (by kernel_rfl) hn rfl (by kernel_rfl) (by kernel_rfl) (by kernel_rfl) (by kernel_rfl) (by kernel_rfl) (by kernel_rfl) ⟨True.mono4, Eqs.mono4 _, trivial⟩ (ok_cons W2ok ok_nil) (IsOld.all (bx := [⟨W2, some 0, 0, 2, .agg #[.bool false, .slice none 0 0], none, []⟩]) ⟨someNe, trivial⟩) (DisOld.all (bx := [⟨W2, some 0, 0, 2, .agg #[.bool false, .slice none 0 0], none, []⟩]) ⟨someNe, trivial⟩) ?_ ?_
  · exact ⟨.alloc 0 _ rfl rfl (.inl ⟨rfl, rfl⟩) rfl rfl rfl rfl rfl,
      .norm 3 rfl rfl rfl (fun a_ w_ hn_ hBt hr hR hD hO hS => op_assign rfl),
      trivial⟩
  intro a1 w1 gs1 hn1 hd1 hBt hr hR hP hX hU
  replace hn := hn1; replace hd := hd1.trans hd
  have b2 : BoxV W2 w1 (gs1 0) (.agg #[.bool false, .slice none 0 0]) := (hX 0 _ rfl).2.2.2
  have f2 := (hX 0 _ rfl).1
  have u2 : w.heap.size ≤ gs1 0 := Nat.le_trans HB.size ((hX 0 _ rfl).2.2.1 (by simp))
  replace f0 := (hR 0 rfl).trans f0
  have e3 : a1.eval (.tmp 3) = (.int .i64 0) := hP 1 (by decide)
  have f3 := e3
  replace HB := HB.trans (hBt.below HB.size (UpOld.all (bx := [⟨W2, some 0, 0, 2, .agg #[.bool false, .slice none 0 0], none, []⟩]) ⟨someNe, trivial⟩))
  clear hBt hr hR hP hX hU
  refine wp_seq ?_
  refine region4 [some 9, some 10, some 8, some 11, some 12, some 4, some 5] [Eqs (.string s), Tup2 (Eqs (.bool (msplit s).1)) (Eqs (.string (msplit s).2)), Tup2 (Eqs (.bool (msplit s).1)) (Eqs (.string (msplit s).2)), Eqs (.bool (msplit s).1), Eqs (.string (msplit s).2), Eqs (.bool (msplit s).1), Eqs (.string (msplit s).2)] [] [] (by kernel_rfl) hn rfl (by kernel_rfl) (by kernel_rfl) (by kernel_rfl) (by kernel_rfl) (by kernel_rfl) (by kernel_rfl) ⟨Eqs.mono4 _, Tup2.mono4 (Eqs.mono4 _) (Eqs.mono4 _), Tup2.mono4 (Eqs.mono4 _) (Eqs.mono4 _), Eqs.mono4 _, Eqs.mono4 _, Eqs.mono4 _, Eqs.mono4 _, trivial⟩ ok_nil (IsOld.all (bx := []) trivial) (DisOld.all (bx := []) trivial) ?_ ?_
  · exact ⟨.norm 9 rfl rfl rfl (fun a_ w_ hn_ hBt hr hR hD hO hS => op_mv ((hR 0 rfl).trans f0)),
      .norm 10 rfl rfl rfl (fun a_ w_ hn_ hBt hr hR hD hO hS => op_split (show a_.eval (.tmp 9) = .string s from hD 0 rfl) (hT.below (HB.trans (hBt.below HB.size (UpOld.all (bx := []) trivial))))),
      .norm 8 rfl rfl rfl (fun a_ w_ hn_ hBt hr hR hD hO hS => op_mvp (p := Tup2 (Eqs (.bool (msplit s).1)) (Eqs (.string (msplit s).2))) (show Tup2 (Eqs (.bool (msplit s).1)) (Eqs (.string (msplit s).2)) (a_.eval (.tmp 10)) w_ from hD 1 rfl)),
      .norm 11 rfl rfl rfl (fun a_ w_ hn_ hBt hr hR hD hO hS => op_ex20 (show Tup2 (Eqs (.bool (msplit s).1)) (Eqs (.string (msplit s).2)) (a_.eval (.tmp 8)) w_ from hD 2 rfl)),
      .norm 12 rfl rfl rfl (fun a_ w_ hn_ hBt hr hR hD hO hS => op_ex21 (show Tup2 (Eqs (.bool (msplit s).1)) (Eqs (.string (msplit s).2)) (a_.eval (.tmp 8)) w_ from hD 2 rfl)),
      .norm 4 rfl rfl rfl (fun a_ w_ hn_ hBt hr hR hD hO hS => op_assign (show a_.eval (.tmp 11) = .bool (msplit s).1 from hD 3 rfl)),
      .norm 5 rfl rfl rfl (fun a_ w_ hn_ hBt hr hR hD hO hS => op_assign (show a_.eval (.tmp 12) = .string (msplit s).2 from hD 4 rfl)),
      trivial⟩
  intro a2 w2 gs2 hn2 hd2 hBt hr hR hP hX hU
  replace hn := hn2; replace hd := hd2.trans hd
  replace b2 := b2.keep hBt trivial
  replace f2 := (hR 2 rfl).trans f2
  replace f3 := (hR 3 rfl).trans f3
  have e4 : a2.eval (.tmp 4) = .bool (msplit s).1 := hP 5 (by decide)
  have f4 := e4
  have e5 : a2.eval (.tmp 5) = .string (msplit s).2 := hP 6 (by decide)
  have f5 := e5
  replace HB := HB.trans (hBt.below HB.size (UpOld.all (bx := []) trivial))
  clear hBt hr hR hP hX hU
  refine wp_seq ?_
  refine region4 [some 14, some 15, some 13, some 16, some 17, some 6, some 7] [Eqs (.string (msplit s).2), Tup2 (OutL (xOf (msplit s).2) (6000)) (Eqs (.int .i64 (kOf (msplit s).2))), Tup2 (OutL (xOf (msplit s).2) (6000)) (Eqs (.int .i64 (kOf (msplit s).2))), OutL (xOf (msplit s).2) (6000), Eqs (.int .i64 (kOf (msplit s).2)), OutL (xOf (msplit s).2) (6000), Eqs (.int .i64 (kOf (msplit s).2))] [] [] (by kernel_rfl) hn rfl (by kernel_rfl) (by kernel_rfl) (by kernel_rfl) (by kernel_rfl) (by kernel_rfl) (by kernel_rfl) ⟨Eqs.mono4 _, Tup2.mono4 (OutL.mono4 _ _) (Eqs.mono4 _), Tup2.mono4 (OutL.mono4 _ _) (Eqs.mono4 _), OutL.mono4 _ _, Eqs.mono4 _, OutL.mono4 _ _, Eqs.mono4 _, trivial⟩ ok_nil (IsOld.all (bx := []) trivial) (DisOld.all (bx := []) trivial) ?_ ?_
  · exact ⟨.norm 14 rfl rfl rfl (fun a_ w_ hn_ hBt hr hR hD hO hS => op_mv ((hR 5 rfl).trans f5)),
      .norm 15 rfl rfl rfl (fun a_ w_ hn_ hBt hr hR hD hO hS => op_lparse (show a_.eval (.tmp 14) = .string (msplit s).2 from hD 0 rfl)),
      .norm 13 rfl rfl rfl (fun a_ w_ hn_ hBt hr hR hD hO hS => op_mvp (p := Tup2 (OutL (xOf (msplit s).2) (6000)) (Eqs (.int .i64 (kOf (msplit s).2)))) (show Tup2 (OutL (xOf (msplit s).2) (6000)) (Eqs (.int .i64 (kOf (msplit s).2))) (a_.eval (.tmp 15)) w_ from hD 1 rfl)),
      .norm 16 rfl rfl rfl (fun a_ w_ hn_ hBt hr hR hD hO hS => op_ex20 (show Tup2 (OutL (xOf (msplit s).2) (6000)) (Eqs (.int .i64 (kOf (msplit s).2))) (a_.eval (.tmp 13)) w_ from hD 2 rfl)),
      .norm 17 rfl rfl rfl (fun a_ w_ hn_ hBt hr hR hD hO hS => op_ex21 (show Tup2 (OutL (xOf (msplit s).2) (6000)) (Eqs (.int .i64 (kOf (msplit s).2))) (a_.eval (.tmp 13)) w_ from hD 2 rfl)),
      .norm 6 rfl rfl rfl (fun a_ w_ hn_ hBt hr hR hD hO hS => op_asp (p := OutL (xOf (msplit s).2) (6000)) (show OutL (xOf (msplit s).2) (6000) (a_.eval (.tmp 16)) w_ from hD 3 rfl)),
      .norm 7 rfl rfl rfl (fun a_ w_ hn_ hBt hr hR hD hO hS => op_assign (show a_.eval (.tmp 17) = .int .i64 (kOf (msplit s).2) from hD 4 rfl)),
      trivial⟩
  intro a3 w3 gs3 hn3 hd3 hBt hr hR hP hX hU
  replace hn := hn3; replace hd := hd3.trans hd
  replace b2 := b2.keep hBt trivial
  replace f2 := (hR 2 rfl).trans f2
  replace f3 := (hR 3 rfl).trans f3
  replace f4 := (hR 4 rfl).trans f4
  obtain ⟨a_4, c_4, r_4, e6, K4, l4⟩ : OutL (xOf (msplit s).2) (6000) (a3.eval (.tmp 6)) w3 := hP 5 (by decide)
  have S4 := K4.sl; have V4 := K4.val
  have f6 := e6
  have e7 : a3.eval (.tmp 7) = .int .i64 (kOf (msplit s).2) := hP 6 (by decide)
  have f7 := e7
  replace HB := HB.trans (hBt.below HB.size (UpOld.all (bx := []) trivial))
  clear hBt hr hR hP hX hU
  refine wp_seq ?_
  refine wp_seq ?_
  refine region4 [some 18, some 19] [Eqs (.int .i64 (kOf (msplit s).2)), Eqs (.bool (!decide ((kOf (msplit s).2) = 0)))] [] [] (by kernel_rfl) hn rfl (by kernel_rfl) (by kernel_rfl) (by kernel_rfl) (by kernel_rfl) (by kernel_rfl) (by kernel_rfl) ⟨Eqs.mono4 _, Eqs.mono4 _, trivial⟩ ok_nil (IsOld.all (bx := []) trivial) (DisOld.all (bx := []) trivial) ?_ ?_
  · exact ⟨.norm 18 rfl rfl rfl (fun a_ w_ hn_ hBt hr hR hD hO hS => op_mv ((hR 7 rfl).trans f7)),
      .norm 19 rfl rfl rfl (fun a_ w_ hn_ hBt hr hR hD hO hS => op_neqkE (show a_.eval (.tmp 18) = .int .i64 (kOf (msplit s).2) from hD 0 rfl)),
      trivial⟩
  intro a5 w5 gs5 hn5 hd5 hBt hr hR hP hX hU
  replace hn := hn5; replace hd := hd5.trans hd
  replace b2 := b2.keep hBt trivial
  replace f2 := (hR 2 rfl).trans f2
  replace f3 := (hR 3 rfl).trans f3
  replace f4 := (hR 4 rfl).trans f4
  replace f6 := (hR 6 rfl).trans f6
  replace f7 := (hR 7 rfl).trans f7
  have e19 : a5.eval (.tmp 19) = .bool (!decide ((kOf (msplit s).2) = 0)) := hP 1 (by decide)
  have f19 := e19
  replace K4 := K4.rl hr
  replace S4 := S4.rl hr
  replace HB := HB.trans (hBt.below HB.size (UpOld.all (bx := []) trivial))
  clear hBt hr hR hP hX hU
  refine wp_cond_split f19 (fun hc19 => ?_) (fun hc19 => ?_)
  · skip
    have hk0 : kOf (msplit s).2 ≠ 0 := by simpa using hc19
    refine wp_seq ?_
    refine region4 [some 20, some 21, none, some 3] [Eqs (.agg #[.bool false, .slice none 0 0]), Eqs (.int .i64 (kOf (msplit s).2)), (fun _ _ => True), Eqs (.int .i64 (kOf (msplit s).2))] [⟨W2, none, (gs1 0), 2, .agg #[.bool false, .slice none 0 0], some (2, 20, 0), []⟩] [] (by kernel_rfl) hn rfl (by kernel_rfl) (by kernel_rfl) (by kernel_rfl) (by kernel_rfl) (by kernel_rfl) (by kernel_rfl) ⟨Eqs.mono4 _, Eqs.mono4 _, True.mono4, Eqs.mono4 _, trivial⟩ (ok_cons W2ok ok_nil) (IsOld.all (bx := [⟨W2, none, (gs1 0), 2, .agg #[.bool false, .slice none 0 0], some (2, 20, 0), []⟩]) ⟨fun _ => ⟨f2, b2⟩, trivial⟩) (DisOld.all (bx := [⟨W2, none, (gs1 0), 2, .agg #[.bool false, .slice none 0 0], some (2, 20, 0), []⟩]) ⟨fun _ => trivial, trivial⟩) ?_ ?_
    · exact ⟨.norm 20 rfl rfl rfl (fun a_ w_ hn_ hBt hr hR hD hO hS => op_bW0),
        .norm 21 rfl rfl rfl (fun a_ w_ hn_ hBt hr hR hD hO hS => op_mv ((hR 7 rfl).trans f7)),
        .store 0 _ _ _ rfl rfl rfl rfl rfl rfl rfl (fun ia h => by cases h) rfl rfl rfl (eqs_cs w2_cs),
        .norm 3 rfl rfl rfl (fun a_ w_ hn_ hBt hr hR hD hO hS => op_assign (show a_.eval (.tmp 21) = .int .i64 (kOf (msplit s).2) from hD 1 rfl)),
        trivial⟩
    intro a6 w6 gs6 hn6 hd6 hBt hr hR hP hX hU
    replace hn := hn6; replace hd := hd6.trans hd
    have e20 : a6.eval (.tmp 20) = .agg #[.bool false, .slice none 0 0] := hP 0 (by decide)
    have b2 : BoxV W2 w6 ((gs1 0)) (.agg #[.bool false, .slice none 0 0]) := boxv_old ((hX 0 _ rfl).2.1 rfl) (hX 0 _ rfl).2.2.2 e20
    replace f2 : a6.eval (.tmp 2) = _ := (hR 2 rfl).trans f2
    replace f4 := (hR 4 rfl).trans f4
    replace f6 := (hR 6 rfl).trans f6
    have e3 : a6.eval (.tmp 3) = .int .i64 (kOf (msplit s).2) := hP 3 (by decide)
    have f3 := e3
    replace K4 := K4.rl hr
    replace S4 := S4.rl hr
    replace HB := HB.trans (hBt.below HB.size (UpOld.all (bx := [⟨W2, none, (gs1 0), 2, .agg #[.bool false, .slice none 0 0], some (2, 20, 0), []⟩]) ⟨fun _ => u2, trivial⟩))
    clear hBt hr hR hP hX hU
    refine wp_ret ?_
    repeat (first | refine then_ret ?_ | refine scope_ret ?_ | refine block_ret ?_)
    exact bodyPost_ret (v := .tuple #[.agg #[.bool false, .slice none 0 0], .int .i64 (kOf (msplit s).2)]) (res_ct rfl f2 (lv_W2 b2) f3) hd ⟨_, rfl, ⟨_, _, rfl, by rw [zOf, xOf_zero hk0]; exact outw_zero _, rfl⟩, HB⟩
  · skip
    have hk0 : kOf (msplit s).2 = 0 := by simpa using hc19
    refine wp_skip ?_
    refine wp_seq ?_
    refine region4 [some 22, some 23, some 24, none, some 3] [Eqs (.bool (msplit s).1), Eqs (.slice a_4 r_4.length c_4), OutW (sg ((msplit s).1) (xOf (msplit s).2)) (6000), (fun _ _ => True), Eqs ((.int .i64 0))] [⟨W2, none, (gs1 0), 2, .agg #[.bool false, .slice none 0 0], some (3, 24, 2), []⟩] [] (by kernel_rfl) hn rfl (by kernel_rfl) (by kernel_rfl) (by kernel_rfl) (by kernel_rfl) (by kernel_rfl) (by kernel_rfl) ⟨Eqs.mono4 _, Eqs.mono4 _, OutW.mono4 _ _, True.mono4, Eqs.mono4 _, trivial⟩ (ok_cons W2ok ok_nil) (IsOld.all (bx := [⟨W2, none, (gs1 0), 2, .agg #[.bool false, .slice none 0 0], some (3, 24, 2), []⟩]) ⟨fun _ => ⟨f2, b2⟩, trivial⟩) (DisOld.all (bx := [⟨W2, none, (gs1 0), 2, .agg #[.bool false, .slice none 0 0], some (3, 24, 2), []⟩]) ⟨fun _ => trivial, trivial⟩) ?_ ?_
    · exact ⟨.norm 22 rfl rfl rfl (fun a_ w_ hn_ hBt hr hR hD hO hS => op_mv ((hR 4 rfl).trans f4)),
        .norm 23 rfl rfl rfl (fun a_ w_ hn_ hBt hr hR hD hO hS => op_mv ((hR 6 rfl).trans f6)),
        .norm 24 rfl rfl rfl (fun a_ w_ hn_ hBt hr hR hD hO hS => op_signed0 (show a_.eval (.tmp 22) = .bool (msplit s).1 from hD 0 rfl) (outl_eq (show a_.eval (.tmp 23) = .slice a_4 r_4.length c_4 from hD 1 rfl) (K4.rl hr) l4) (by omega)),
        .store 0 _ _ _ rfl rfl rfl rfl rfl rfl rfl (fun ia h => by cases h) rfl rfl rfl OutW.cs,
        .norm 3 rfl rfl rfl (fun a_ w_ hn_ hBt hr hR hD hO hS => op_assign rfl),
        trivial⟩
    intro a7 w7 gs7 hn7 hd7 hBt hr hR hP hX hU
    replace hn := hn7; replace hd := hd7.trans hd
    obtain ⟨n_8, a_8, c_8, r_8, e24, G8, l8⟩ : OutW (sg ((msplit s).1) (xOf (msplit s).2)) (6000) (a7.eval (.tmp 24)) w7 := hP 2 (by decide)
    have A8 := G8.ag
    have b2 : BoxV W2 w7 ((gs1 0)) (.agg #[.bool n_8, .slice a_8 r_8.length c_8]) := boxv_old ((hX 0 _ rfl).2.1 rfl) (hX 0 _ rfl).2.2.2 e24
    replace f2 : a7.eval (.tmp 2) = _ := (hR 2 rfl).trans f2
    have e3 : a7.eval (.tmp 3) = (.int .i64 0) := hP 4 (by decide)
    have f3 := e3
    replace K4 := K4.rl hr
    replace S4 := S4.rl hr
    replace HB := HB.trans (hBt.below HB.size (UpOld.all (bx := [⟨W2, none, (gs1 0), 2, .agg #[.bool false, .slice none 0 0], some (3, 24, 2), []⟩]) ⟨fun _ => u2, trivial⟩))
    clear hBt hr hR hP hX hU
    refine wp_ret ?_
    repeat (first | refine then_ret ?_ | refine scope_ret ?_ | refine block_ret ?_)
    exact bodyPost_ret (v := .tuple #[.agg #[.bool n_8, .slice a_8 r_8.length c_8], (.int .i64 0)]) (res_ct rfl f2 (lv_W2 b2) f3) hd ⟨_, rfl, ⟨_, _, rfl, outw_eq rfl G8 l8, by rw [eOf, hk0]; rfl⟩, HB⟩
end Lm
end Go.Proofs.YtdiiankcjgoecaaDoor

namespace Go.Proofs.YtdiiankcjgoecaaDoor
namespace Lm
open Go Go.RowKit
open Dm (Err Fine)
theorem ms1 {s : ByteArray} (_h : (((3 ≤ (s.size : Int)) ∧ (((s.get! 0).toNat : Int) = 226)) ∧ (((s.get! 1).toNat : Int) = 136)) ∧ (((s.get! 2).toNat : Int) = 146)) : msplit s = (true, s.extract 3 s.size) := by
  rw [msplit, if_pos (by omega)]
theorem ms2 {s : ByteArray} (_h : ¬ ((((3 ≤ (s.size : Int)) ∧ (((s.get! 0).toNat : Int) = 226)) ∧ (((s.get! 1).toNat : Int) = 136)) ∧ (((s.get! 2).toNat : Int) = 146))) (_h' : (0 < (s.size : Int)) ∧ (((s.get! 0).toNat : Int) = 45)) : msplit s = (true, s.extract 1 s.size) := by
  rw [msplit, if_neg (by omega), if_pos (by omega)]
theorem ms3 {s : ByteArray} (_h : ¬ ((((3 ≤ (s.size : Int)) ∧ (((s.get! 0).toNat : Int) = 226)) ∧ (((s.get! 1).toNat : Int) = 136)) ∧ (((s.get! 2).toNat : Int) = 146))) (_h' : ¬ ((0 < (s.size : Int)) ∧ (((s.get! 0).toNat : Int) = 45))) : msplit s = (false, s) := by
  rw [msplit, if_neg (by omega), if_neg (by omega)]
set_option maxRecDepth 20000 in
set_option maxHeartbeats 1000000 in
theorem number_z (w : World) (s : ByteArray) :
    Calls Tryd.prog 45 #[.string s] w fun e w' => ∃ v, e = .returned v ∧ Tup2 (OutN (zOf s) 6000) (Eqs (.int .i64 (eOf s))) v w' ∧ Below w.heap.size w w' := by
  go_enter Tryd.func45, Tryd.ntmps45
  generalize hA : (Act.mk _ _) = aa
  have hn : aa.tmps.size = 47 := by rw [← hA]; rfl
  have hd : aa.defers = [] := by rw [← hA]
  have f0 : aa.eval (.tmp 0) = .string s := by rw [← hA]; rfl
  clear hA
  have HB : Below w.heap.size w w := Below.refl _ _
  refine wp_seq ?_
  refine region4 [some 2, some 3] [(fun _ _ => True), Eqs ((.int .i64 0))] [⟨N2, some 0, 0, 2, .agg #[.bool false, .slice none 0 0], none, []⟩] [] (by kernel_rfl) hn rfl (by kernel_rfl) (by kernel_rfl) (by kernel_rfl) (by kernel_rfl) (by kernel_rfl) (by kernel_rfl) ⟨True.mono4, Eqs.mono4 _, trivial⟩ (ok_cons N2ok ok_nil) (IsOld.all (bx := [⟨N2, some 0, 0, 2, .agg #[.bool false, .slice none 0 0], none, []⟩]) ⟨someNe, trivial⟩) (DisOld.all (bx := [⟨N2, some 0, 0, 2, .agg #[.bool false, .slice none 0 0], none, []⟩]) ⟨someNe, trivial⟩) ?_ ?_
  · exact ⟨.alloc 0 _ rfl rfl (.inl ⟨rfl, rfl⟩) rfl rfl rfl rfl rfl,
      .norm 3 rfl rfl rfl (fun a_ w_ hn_ hBt hr hR hD hO hS => op_assign rfl),
      trivial⟩
  intro a1 w1 gs1 hn1 hd1 hBt hr hR hP hX hU
  replace hn := hn1; replace hd := hd1.trans hd
  have b2 : BoxV N2 w1 (gs1 0) (.agg #[.bool false, .slice none 0 0]) := (hX 0 _ rfl).2.2.2
  have f2 := (hX 0 _ rfl).1
  have u2 : w.heap.size ≤ gs1 0 := Nat.le_trans HB.size ((hX 0 _ rfl).2.2.1 (by simp))
  replace f0 := (hR 0 rfl).trans f0
  have e3 : a1.eval (.tmp 3) = (.int .i64 0) := hP 1 (by decide)
  have f3 := e3
  replace HB := HB.trans (hBt.below HB.size (UpOld.all (bx := [⟨N2, some 0, 0, 2, .agg #[.bool false, .slice none 0 0], none, []⟩]) ⟨someNe, trivial⟩))
  clear hBt hr hR hP hX hU
  refine wp_seq ?_
  refine region4 [some 4] [Eqs ((.bool false))] [] [] (by kernel_rfl) hn rfl (by kernel_rfl) (by kernel_rfl) (by kernel_rfl) (by kernel_rfl) (by kernel_rfl) (by kernel_rfl) ⟨Eqs.mono4 _, trivial⟩ ok_nil (IsOld.all (bx := []) trivial) (DisOld.all (bx := []) trivial) ?_ ?_
  · exact ⟨.norm 4 rfl rfl rfl (fun a_ w_ hn_ hBt hr hR hD hO hS => op_assign rfl),
      trivial⟩
  intro a2 w2 gs2 hn2 hd2 hBt hr hR hP hX hU
  replace hn := hn2; replace hd := hd2.trans hd
  replace b2 := b2.keep hBt trivial
  replace f0 := (hR 0 rfl).trans f0
  replace f2 := (hR 2 rfl).trans f2
  replace f3 := (hR 3 rfl).trans f3
  have e4 : a2.eval (.tmp 4) = (.bool false) := hP 0 (by decide)
  have f4 := e4
  replace HB := HB.trans (hBt.below HB.size (UpOld.all (bx := []) trivial))
  clear hBt hr hR hP hX hU
  refine wp_seq ?_
  refine wp_seq ?_
  refine region4 [some 7, some 8, some 9, some 10, some 11, some 12, some 13, some 14, some 15, some 16, some 17, some 18, some 19, some 20, some 21, some 22, some 23, some 24] [Eqs (.string s), Eqs (.int .i64 ((s).size : Int)), Eqs (.bool (decide (3 ≤ ((s).size : Int)))), Eqs (.bool (decide (3 ≤ ((s).size : Int)))), IfS (3 ≤ ((s).size : Int)) (Eqs (.string s)), IfS (3 ≤ ((s).size : Int)) (Eqs (.int .u8 (((s).get! 0).toNat : Int))), IfS (3 ≤ ((s).size : Int)) (Eqs (.bool (decide ((((s).get! 0).toNat : Int) = 226)))), Eqs (.bool (decide ((3 ≤ ((s).size : Int)) ∧ ((((s).get! 0).toNat : Int) = 226)))), Eqs (.bool (decide ((3 ≤ ((s).size : Int)) ∧ ((((s).get! 0).toNat : Int) = 226)))), IfS ((3 ≤ ((s).size : Int)) ∧ ((((s).get! 0).toNat : Int) = 226)) (Eqs (.string s)), IfS ((3 ≤ ((s).size : Int)) ∧ ((((s).get! 0).toNat : Int) = 226)) (Eqs (.int .u8 (((s).get! 1).toNat : Int))), IfS ((3 ≤ ((s).size : Int)) ∧ ((((s).get! 0).toNat : Int) = 226)) (Eqs (.bool (decide ((((s).get! 1).toNat : Int) = 136)))), Eqs (.bool (decide (((3 ≤ ((s).size : Int)) ∧ ((((s).get! 0).toNat : Int) = 226)) ∧ ((((s).get! 1).toNat : Int) = 136)))), Eqs (.bool (decide (((3 ≤ ((s).size : Int)) ∧ ((((s).get! 0).toNat : Int) = 226)) ∧ ((((s).get! 1).toNat : Int) = 136)))), IfS (((3 ≤ ((s).size : Int)) ∧ ((((s).get! 0).toNat : Int) = 226)) ∧ ((((s).get! 1).toNat : Int) = 136)) (Eqs (.string s)), IfS (((3 ≤ ((s).size : Int)) ∧ ((((s).get! 0).toNat : Int) = 226)) ∧ ((((s).get! 1).toNat : Int) = 136)) (Eqs (.int .u8 (((s).get! 2).toNat : Int))), IfS (((3 ≤ ((s).size : Int)) ∧ ((((s).get! 0).toNat : Int) = 226)) ∧ ((((s).get! 1).toNat : Int) = 136)) (Eqs (.bool (decide ((((s).get! 2).toNat : Int) = 146)))), Eqs (.bool (decide ((((3 ≤ ((s).size : Int)) ∧ ((((s).get! 0).toNat : Int) = 226)) ∧ ((((s).get! 1).toNat : Int) = 136)) ∧ ((((s).get! 2).toNat : Int) = 146))))] [] [] (by kernel_rfl) hn rfl (by kernel_rfl) (by kernel_rfl) (by kernel_rfl) (by kernel_rfl) (by kernel_rfl) (by kernel_rfl) ⟨Eqs.mono4 _, Eqs.mono4 _, Eqs.mono4 _, Eqs.mono4 _, IfS.mono4 (Eqs.mono4 _), IfS.mono4 (Eqs.mono4 _), IfS.mono4 (Eqs.mono4 _), Eqs.mono4 _, Eqs.mono4 _, IfS.mono4 (Eqs.mono4 _), IfS.mono4 (Eqs.mono4 _), IfS.mono4 (Eqs.mono4 _), Eqs.mono4 _, Eqs.mono4 _, IfS.mono4 (Eqs.mono4 _), IfS.mono4 (Eqs.mono4 _), IfS.mono4 (Eqs.mono4 _), Eqs.mono4 _, trivial⟩ ok_nil (IsOld.all (bx := []) trivial) (DisOld.all (bx := []) trivial) ?_ ?_
  · exact ⟨.norm 7 rfl rfl rfl (fun a_ w_ hn_ hBt hr hR hD hO hS => op_mv ((hR 0 rfl).trans f0)),
      .norm 8 rfl rfl rfl (fun a_ w_ hn_ hBt hr hR hD hO hS => op_lens (show a_.eval (.tmp 7) = .string s from hD 0 rfl)),
      .norm 9 rfl rfl rfl (fun a_ w_ hn_ hBt hr hR hD hO hS => op_geqk (show a_.eval (.tmp 8) = .int .i64 ((s).size : Int) from hD 1 rfl)),
      .norm 10 rfl rfl rfl (fun a_ w_ hn_ hBt hr hR hD hO hS => op_mv (show a_.eval (.tmp 9) = .bool (decide (3 ≤ ((s).size : Int))) from hD 2 rfl)),
      .norm 11 rfl rfl rfl (fun a_ w_ hn_ hBt hr hR hD hO hS => ⟨⟨_, rfl⟩, fun hg_ => (have hP_ : 3 ≤ ((s).size : Int) := gtrue (show Eqs (.bool (decide (3 ≤ ((s).size : Int)))) _ w_ from hD 3 rfl) hg_; (op_mv ((hR 0 rfl).trans f0)).mono (fun _ _ h_ => ⟨h_.1, fun _ => h_.2⟩)), fun hne_ hP_ => absurd (gof (show Eqs (.bool (decide (3 ≤ ((s).size : Int)))) _ w_ from hD 3 rfl) hP_) hne_⟩),
      .norm 12 rfl rfl rfl (fun a_ w_ hn_ hBt hr hR hD hO hS => ⟨⟨_, rfl⟩, fun hg_ => (have hP_ : 3 ≤ ((s).size : Int) := gtrue (show Eqs (.bool (decide (3 ≤ ((s).size : Int)))) _ w_ from hD 3 rfl) hg_; (op_idxs (k := 0) (show a_.eval (.tmp 11) = .string s from (show IfS (3 ≤ ((s).size : Int)) (Eqs (.string s)) (a_.eval (.tmp 11)) w_ from hD 4 rfl) hP_) rfl (by omega)).mono (fun _ _ h_ => ⟨h_.1, fun _ => h_.2⟩)), fun hne_ hP_ => absurd (gof (show Eqs (.bool (decide (3 ≤ ((s).size : Int)))) _ w_ from hD 3 rfl) hP_) hne_⟩),
      .norm 13 rfl rfl rfl (fun a_ w_ hn_ hBt hr hR hD hO hS => ⟨⟨_, rfl⟩, fun hg_ => (have hP_ : 3 ≤ ((s).size : Int) := gtrue (show Eqs (.bool (decide (3 ≤ ((s).size : Int)))) _ w_ from hD 3 rfl) hg_; (op_eql8k (show a_.eval (.tmp 12) = .int .u8 (((s).get! 0).toNat : Int) from (show IfS (3 ≤ ((s).size : Int)) (Eqs (.int .u8 (((s).get! 0).toNat : Int))) (a_.eval (.tmp 12)) w_ from hD 5 rfl) hP_)).mono (fun _ _ h_ => ⟨h_.1, fun _ => h_.2⟩)), fun hne_ hP_ => absurd (gof (show Eqs (.bool (decide (3 ≤ ((s).size : Int)))) _ w_ from hD 3 rfl) hP_) hne_⟩),
      .norm 14 rfl rfl rfl (fun a_ w_ hn_ hBt hr hR hD hO hS => op_pickand (show a_.eval (.tmp 10) = .bool (decide (3 ≤ ((s).size : Int))) from hD 3 rfl) (fun hP_ => (show a_.eval (.tmp 13) = .bool (decide ((((s).get! 0).toNat : Int) = 226)) from (show IfS (3 ≤ ((s).size : Int)) (Eqs (.bool (decide ((((s).get! 0).toNat : Int) = 226)))) (a_.eval (.tmp 13)) w_ from hD 6 rfl) hP_))),
      .norm 15 rfl rfl rfl (fun a_ w_ hn_ hBt hr hR hD hO hS => op_mv (show a_.eval (.tmp 14) = .bool (decide ((3 ≤ ((s).size : Int)) ∧ ((((s).get! 0).toNat : Int) = 226))) from hD 7 rfl)),
      .norm 16 rfl rfl rfl (fun a_ w_ hn_ hBt hr hR hD hO hS => ⟨⟨_, rfl⟩, fun hg_ => (have hP_ : (3 ≤ ((s).size : Int)) ∧ ((((s).get! 0).toNat : Int) = 226) := gtrue (show Eqs (.bool (decide ((3 ≤ ((s).size : Int)) ∧ ((((s).get! 0).toNat : Int) = 226)))) _ w_ from hD 8 rfl) hg_; (op_mv ((hR 0 rfl).trans f0)).mono (fun _ _ h_ => ⟨h_.1, fun _ => h_.2⟩)), fun hne_ hP_ => absurd (gof (show Eqs (.bool (decide ((3 ≤ ((s).size : Int)) ∧ ((((s).get! 0).toNat : Int) = 226)))) _ w_ from hD 8 rfl) hP_) hne_⟩),
      .norm 17 rfl rfl rfl (fun a_ w_ hn_ hBt hr hR hD hO hS => ⟨⟨_, rfl⟩, fun hg_ => (have hP_ : (3 ≤ ((s).size : Int)) ∧ ((((s).get! 0).toNat : Int) = 226) := gtrue (show Eqs (.bool (decide ((3 ≤ ((s).size : Int)) ∧ ((((s).get! 0).toNat : Int) = 226)))) _ w_ from hD 8 rfl) hg_; (op_idxs (k := 1) (show a_.eval (.tmp 16) = .string s from (show IfS ((3 ≤ ((s).size : Int)) ∧ ((((s).get! 0).toNat : Int) = 226)) (Eqs (.string s)) (a_.eval (.tmp 16)) w_ from hD 9 rfl) hP_) rfl (by omega)).mono (fun _ _ h_ => ⟨h_.1, fun _ => h_.2⟩)), fun hne_ hP_ => absurd (gof (show Eqs (.bool (decide ((3 ≤ ((s).size : Int)) ∧ ((((s).get! 0).toNat : Int) = 226)))) _ w_ from hD 8 rfl) hP_) hne_⟩),
      .norm 18 rfl rfl rfl (fun a_ w_ hn_ hBt hr hR hD hO hS => ⟨⟨_, rfl⟩, fun hg_ => (have hP_ : (3 ≤ ((s).size : Int)) ∧ ((((s).get! 0).toNat : Int) = 226) := gtrue (show Eqs (.bool (decide ((3 ≤ ((s).size : Int)) ∧ ((((s).get! 0).toNat : Int) = 226)))) _ w_ from hD 8 rfl) hg_; (op_eql8k (show a_.eval (.tmp 17) = .int .u8 (((s).get! 1).toNat : Int) from (show IfS ((3 ≤ ((s).size : Int)) ∧ ((((s).get! 0).toNat : Int) = 226)) (Eqs (.int .u8 (((s).get! 1).toNat : Int))) (a_.eval (.tmp 17)) w_ from hD 10 rfl) hP_)).mono (fun _ _ h_ => ⟨h_.1, fun _ => h_.2⟩)), fun hne_ hP_ => absurd (gof (show Eqs (.bool (decide ((3 ≤ ((s).size : Int)) ∧ ((((s).get! 0).toNat : Int) = 226)))) _ w_ from hD 8 rfl) hP_) hne_⟩),
      .norm 19 rfl rfl rfl (fun a_ w_ hn_ hBt hr hR hD hO hS => op_pickand (show a_.eval (.tmp 15) = .bool (decide ((3 ≤ ((s).size : Int)) ∧ ((((s).get! 0).toNat : Int) = 226))) from hD 8 rfl) (fun hP_ => (show a_.eval (.tmp 18) = .bool (decide ((((s).get! 1).toNat : Int) = 136)) from (show IfS ((3 ≤ ((s).size : Int)) ∧ ((((s).get! 0).toNat : Int) = 226)) (Eqs (.bool (decide ((((s).get! 1).toNat : Int) = 136)))) (a_.eval (.tmp 18)) w_ from hD 11 rfl) hP_))),
      .norm 20 rfl rfl rfl (fun a_ w_ hn_ hBt hr hR hD hO hS => op_mv (show a_.eval (.tmp 19) = .bool (decide (((3 ≤ ((s).size : Int)) ∧ ((((s).get! 0).toNat : Int) = 226)) ∧ ((((s).get! 1).toNat : Int) = 136))) from hD 12 rfl)),
      .norm 21 rfl rfl rfl (fun a_ w_ hn_ hBt hr hR hD hO hS => ⟨⟨_, rfl⟩, fun hg_ => (have hP_ : ((3 ≤ ((s).size : Int)) ∧ ((((s).get! 0).toNat : Int) = 226)) ∧ ((((s).get! 1).toNat : Int) = 136) := gtrue (show Eqs (.bool (decide (((3 ≤ ((s).size : Int)) ∧ ((((s).get! 0).toNat : Int) = 226)) ∧ ((((s).get! 1).toNat : Int) = 136)))) _ w_ from hD 13 rfl) hg_; (op_mv ((hR 0 rfl).trans f0)).mono (fun _ _ h_ => ⟨h_.1, fun _ => h_.2⟩)), fun hne_ hP_ => absurd (gof (show Eqs (.bool (decide (((3 ≤ ((s).size : Int)) ∧ ((((s).get! 0).toNat : Int) = 226)) ∧ ((((s).get! 1).toNat : Int) = 136)))) _ w_ from hD 13 rfl) hP_) hne_⟩),
      .norm 22 rfl rfl rfl (fun a_ w_ hn_ hBt hr hR hD hO hS => ⟨⟨_, rfl⟩, fun hg_ => (have hP_ : ((3 ≤ ((s).size : Int)) ∧ ((((s).get! 0).toNat : Int) = 226)) ∧ ((((s).get! 1).toNat : Int) = 136) := gtrue (show Eqs (.bool (decide (((3 ≤ ((s).size : Int)) ∧ ((((s).get! 0).toNat : Int) = 226)) ∧ ((((s).get! 1).toNat : Int) = 136)))) _ w_ from hD 13 rfl) hg_; (op_idxs (k := 2) (show a_.eval (.tmp 21) = .string s from (show IfS (((3 ≤ ((s).size : Int)) ∧ ((((s).get! 0).toNat : Int) = 226)) ∧ ((((s).get! 1).toNat : Int) = 136)) (Eqs (.string s)) (a_.eval (.tmp 21)) w_ from hD 14 rfl) hP_) rfl (by omega)).mono (fun _ _ h_ => ⟨h_.1, fun _ => h_.2⟩)), fun hne_ hP_ => absurd (gof (show Eqs (.bool (decide (((3 ≤ ((s).size : Int)) ∧ ((((s).get! 0).toNat : Int) = 226)) ∧ ((((s).get! 1).toNat : Int) = 136)))) _ w_ from hD 13 rfl) hP_) hne_⟩),
      .norm 23 rfl rfl rfl (fun a_ w_ hn_ hBt hr hR hD hO hS => ⟨⟨_, rfl⟩, fun hg_ => (have hP_ : ((3 ≤ ((s).size : Int)) ∧ ((((s).get! 0).toNat : Int) = 226)) ∧ ((((s).get! 1).toNat : Int) = 136) := gtrue (show Eqs (.bool (decide (((3 ≤ ((s).size : Int)) ∧ ((((s).get! 0).toNat : Int) = 226)) ∧ ((((s).get! 1).toNat : Int) = 136)))) _ w_ from hD 13 rfl) hg_; (op_eql8k (show a_.eval (.tmp 22) = .int .u8 (((s).get! 2).toNat : Int) from (show IfS (((3 ≤ ((s).size : Int)) ∧ ((((s).get! 0).toNat : Int) = 226)) ∧ ((((s).get! 1).toNat : Int) = 136)) (Eqs (.int .u8 (((s).get! 2).toNat : Int))) (a_.eval (.tmp 22)) w_ from hD 15 rfl) hP_)).mono (fun _ _ h_ => ⟨h_.1, fun _ => h_.2⟩)), fun hne_ hP_ => absurd (gof (show Eqs (.bool (decide (((3 ≤ ((s).size : Int)) ∧ ((((s).get! 0).toNat : Int) = 226)) ∧ ((((s).get! 1).toNat : Int) = 136)))) _ w_ from hD 13 rfl) hP_) hne_⟩),
      .norm 24 rfl rfl rfl (fun a_ w_ hn_ hBt hr hR hD hO hS => op_pickand (show a_.eval (.tmp 20) = .bool (decide (((3 ≤ ((s).size : Int)) ∧ ((((s).get! 0).toNat : Int) = 226)) ∧ ((((s).get! 1).toNat : Int) = 136))) from hD 13 rfl) (fun hP_ => (show a_.eval (.tmp 23) = .bool (decide ((((s).get! 2).toNat : Int) = 146)) from (show IfS (((3 ≤ ((s).size : Int)) ∧ ((((s).get! 0).toNat : Int) = 226)) ∧ ((((s).get! 1).toNat : Int) = 136)) (Eqs (.bool (decide ((((s).get! 2).toNat : Int) = 146)))) (a_.eval (.tmp 23)) w_ from hD 16 rfl) hP_))),
      trivial⟩
  intro a3 w3 gs3 hn3 hd3 hBt hr hR hP hX hU
  replace hn := hn3; replace hd := hd3.trans hd
  replace b2 := b2.keep hBt trivial
  replace f0 := (hR 0 rfl).trans f0
  replace f2 := (hR 2 rfl).trans f2
  replace f3 := (hR 3 rfl).trans f3
  replace f4 := (hR 4 rfl).trans f4
  have e24 : a3.eval (.tmp 24) = .bool (decide ((((3 ≤ ((s).size : Int)) ∧ ((((s).get! 0).toNat : Int) = 226)) ∧ ((((s).get! 1).toNat : Int) = 136)) ∧ ((((s).get! 2).toNat : Int) = 146))) := hP 17 (by decide)
  have f24 := e24
  replace HB := HB.trans (hBt.below HB.size (UpOld.all (bx := []) trivial))
  clear hBt hr hR hP hX hU
  refine wp_cond_split f24 (fun hc24 => ?_) (fun hc24 => ?_)
  · skip
    have hms := ms1 (of_decide_eq_true hc24)
    have hb24 := of_decide_eq_true hc24
    refine wp_seq ?_
    refine region4 [some 4] [Eqs ((.bool true))] [] [] (by kernel_rfl) hn rfl (by kernel_rfl) (by kernel_rfl) (by kernel_rfl) (by kernel_rfl) (by kernel_rfl) (by kernel_rfl) ⟨Eqs.mono4 _, trivial⟩ ok_nil (IsOld.all (bx := []) trivial) (DisOld.all (bx := []) trivial) ?_ ?_
    · exact ⟨.norm 4 rfl rfl rfl (fun a_ w_ hn_ hBt hr hR hD hO hS => op_assign rfl),
        trivial⟩
    intro a4 w4 gs4 hn4 hd4 hBt hr hR hP hX hU
    replace hn := hn4; replace hd := hd4.trans hd
    replace b2 := b2.keep hBt trivial
    replace f0 := (hR 0 rfl).trans f0
    replace f2 := (hR 2 rfl).trans f2
    replace f3 := (hR 3 rfl).trans f3
    have e4 : a4.eval (.tmp 4) = (.bool true) := hP 0 (by decide)
    have f4 := e4
    replace HB := HB.trans (hBt.below HB.size (UpOld.all (bx := []) trivial))
    clear hBt hr hR hP hX hU
    refine region4 [some 25, some 26, some 0] [Eqs (.string s), Eqs (.string ((s).extract 3 (s).size)), Eqs (.string ((s).extract 3 (s).size))] [] [(2, 0)] (by kernel_rfl) hn rfl (by kernel_rfl) (by kernel_rfl) (by kernel_rfl) (by kernel_rfl) (by kernel_rfl) (by kernel_rfl) ⟨Eqs.mono4 _, Eqs.mono4 _, Eqs.mono4 _, trivial⟩ ok_nil (IsOld.all (bx := []) trivial) (DisOld.all (bx := []) trivial) ?_ ?_
    · exact ⟨.norm 25 rfl rfl rfl (fun a_ w_ hn_ hBt hr hR hD hO hS => op_mv ((hS 2 0 rfl rfl).trans f0)),
        .norm 26 rfl rfl rfl (fun a_ w_ hn_ hBt hr hR hD hO hS => op_slst (k := 3) (show a_.eval (.tmp 25) = .string s from hD 0 rfl) rfl (by omega)),
        .norm 0 rfl rfl rfl (fun a_ w_ hn_ hBt hr hR hD hO hS => op_assign (show a_.eval (.tmp 26) = .string ((s).extract 3 (s).size) from hD 1 rfl)),
        trivial⟩
    intro a5 w5 gs5 hn5 hd5 hBt hr hR hP hX hU
    replace hn := hn5; replace hd := hd5.trans hd
    replace b2 := b2.keep hBt trivial
    replace f2 := (hR 2 rfl).trans f2
    replace f3 := (hR 3 rfl).trans f3
    replace f4 := (hR 4 rfl).trans f4
    have e0 : a5.eval (.tmp 0) = .string ((s).extract 3 (s).size) := hP 2 (by decide)
    have f0 := e0
    replace HB := HB.trans (hBt.below HB.size (UpOld.all (bx := []) trivial))
    clear hBt hr hR hP hX hU
    refine wp_seq ?_
    refine region4 [some 38, some 39, some 37, some 40, some 41, some 5, none, some 6] [Eqs (.string ((s).extract 3 (s).size)), Tup2 (OutN (xOf ((s).extract 3 (s).size)) (6000)) (Eqs (.int .i64 (kOf ((s).extract 3 (s).size)))), Tup2 (OutN (xOf ((s).extract 3 (s).size)) (6000)) (Eqs (.int .i64 (kOf ((s).extract 3 (s).size)))), OutN (xOf ((s).extract 3 (s).size)) (6000), Eqs (.int .i64 (kOf ((s).extract 3 (s).size))), (fun _ _ => True), (fun _ _ => True), Eqs (.int .i64 (kOf ((s).extract 3 (s).size)))] [⟨N2, some 5, 0, 5, .agg #[.bool false, .slice none 0 0], some (6, 40, 3), []⟩] [] (by kernel_rfl) hn rfl (by kernel_rfl) (by kernel_rfl) (by kernel_rfl) (by kernel_rfl) (by kernel_rfl) (by kernel_rfl) ⟨Eqs.mono4 _, Tup2.mono4 (OutN.mono4 _ _) (Eqs.mono4 _), Tup2.mono4 (OutN.mono4 _ _) (Eqs.mono4 _), OutN.mono4 _ _, Eqs.mono4 _, True.mono4, True.mono4, Eqs.mono4 _, trivial⟩ (ok_cons N2ok ok_nil) (IsOld.all (bx := [⟨N2, some 5, 0, 5, .agg #[.bool false, .slice none 0 0], some (6, 40, 3), []⟩]) ⟨someNe, trivial⟩) (DisOld.all (bx := [⟨N2, some 5, 0, 5, .agg #[.bool false, .slice none 0 0], some (6, 40, 3), []⟩]) ⟨someNe, trivial⟩) ?_ ?_
    · exact ⟨.norm 38 rfl rfl rfl (fun a_ w_ hn_ hBt hr hR hD hO hS => op_mv ((hR 0 rfl).trans f0)),
        .norm 39 rfl rfl rfl (fun a_ w_ hn_ hBt hr hR hD hO hS => op_natural (show a_.eval (.tmp 38) = .string ((s).extract 3 (s).size) from hD 0 rfl)),
        .norm 37 rfl rfl rfl (fun a_ w_ hn_ hBt hr hR hD hO hS => op_mvp (p := Tup2 (OutN (xOf ((s).extract 3 (s).size)) (6000)) (Eqs (.int .i64 (kOf ((s).extract 3 (s).size))))) (show Tup2 (OutN (xOf ((s).extract 3 (s).size)) (6000)) (Eqs (.int .i64 (kOf ((s).extract 3 (s).size)))) (a_.eval (.tmp 39)) w_ from hD 1 rfl)),
        .norm 40 rfl rfl rfl (fun a_ w_ hn_ hBt hr hR hD hO hS => op_ex20 (show Tup2 (OutN (xOf ((s).extract 3 (s).size)) (6000)) (Eqs (.int .i64 (kOf ((s).extract 3 (s).size)))) (a_.eval (.tmp 37)) w_ from hD 2 rfl)),
        .norm 41 rfl rfl rfl (fun a_ w_ hn_ hBt hr hR hD hO hS => op_ex21 (show Tup2 (OutN (xOf ((s).extract 3 (s).size)) (6000)) (Eqs (.int .i64 (kOf ((s).extract 3 (s).size)))) (a_.eval (.tmp 37)) w_ from hD 2 rfl)),
        .alloc 0 _ rfl rfl (.inl ⟨rfl, rfl⟩) rfl rfl rfl rfl rfl,
        .store 0 _ _ _ rfl rfl rfl rfl rfl rfl rfl (fun ia h => by cases h; rfl) rfl rfl rfl OutN.cs,
        .norm 6 rfl rfl rfl (fun a_ w_ hn_ hBt hr hR hD hO hS => op_assign (show a_.eval (.tmp 41) = .int .i64 (kOf ((s).extract 3 (s).size)) from hD 4 rfl)),
        trivial⟩
    intro a6 w6 gs6 hn6 hd6 hBt hr hR hP hX hU
    replace hn := hn6; replace hd := hd6.trans hd
    have ne2_5 : (gs1 0) ≠ gs6 0 := by have h1 := b2.lt; have h2 := (hX 0 _ rfl).2.2.1 (by simp); omega
    replace b2 := b2.keep hBt ⟨someNe, trivial⟩
    obtain ⟨n_7, a_7, c_7, r_7, e40, G7, l7⟩ : OutN (xOf ((s).extract 3 (s).size)) (6000) (a6.eval (.tmp 40)) w6 := hP 3 (by decide)
    have b5 : BoxV N2 w6 (gs6 0) (.agg #[.bool n_7, .slice a_7 r_7.length c_7]) := boxv_of (hX 0 _ rfl).2.2.2 e40
    have f5 := (hX 0 _ rfl).1
    have u5 : w.heap.size ≤ gs6 0 := Nat.le_trans HB.size ((hX 0 _ rfl).2.2.1 (by simp))
    replace f2 := (hR 2 rfl).trans f2
    replace f3 := (hR 3 rfl).trans f3
    replace f4 := (hR 4 rfl).trans f4
    have e6 : a6.eval (.tmp 6) = .int .i64 (kOf ((s).extract 3 (s).size)) := hP 7 (by decide)
    have f6 := e6
    replace HB := HB.trans (hBt.below HB.size (UpOld.all (bx := [⟨N2, some 5, 0, 5, .agg #[.bool false, .slice none 0 0], some (6, 40, 3), []⟩]) ⟨someNe, trivial⟩))
    clear hBt hr hR hP hX hU
    refine wp_seq ?_
    refine wp_seq ?_
    refine region4 [some 42] [Eqs ((.bool true))] [] [] (by kernel_rfl) hn rfl (by kernel_rfl) (by kernel_rfl) (by kernel_rfl) (by kernel_rfl) (by kernel_rfl) (by kernel_rfl) ⟨Eqs.mono4 _, trivial⟩ ok_nil (IsOld.all (bx := []) trivial) (DisOld.all (bx := []) trivial) ?_ ?_
    · exact ⟨.norm 42 rfl rfl rfl (fun a_ w_ hn_ hBt hr hR hD hO hS => op_mv ((hR 4 rfl).trans f4)),
        trivial⟩
    intro a8 w8 gs8 hn8 hd8 hBt hr hR hP hX hU
    replace hn := hn8; replace hd := hd8.trans hd
    replace b2 := b2.keep hBt trivial
    replace b5 := b5.keep hBt trivial
    replace f2 := (hR 2 rfl).trans f2
    replace f3 := (hR 3 rfl).trans f3
    replace f5 := (hR 5 rfl).trans f5
    replace f6 := (hR 6 rfl).trans f6
    have e42 : a8.eval (.tmp 42) = (.bool true) := hP 0 (by decide)
    have f42 := e42
    replace G7 := G7.rl hr
    replace HB := HB.trans (hBt.below HB.size (UpOld.all (bx := []) trivial))
    clear hBt hr hR hP hX hU
    refine wp_cond_true f42 ?_
    refine region4 [some 43, some 44, none] [Eqs (.agg #[.bool n_7, .slice a_7 r_7.length c_7]), OutN ((-xOf ((s).extract 3 (s).size))) (6000), (fun _ _ => True)] [⟨N2, none, (gs6 0), 5, .agg #[.bool n_7, .slice a_7 r_7.length c_7], some (2, 44, 1), [0]⟩] [] (by kernel_rfl) hn rfl (by kernel_rfl) (by kernel_rfl) (by kernel_rfl) (by kernel_rfl) (by kernel_rfl) (by kernel_rfl) ⟨Eqs.mono4 _, OutN.mono4 _ _, True.mono4, trivial⟩ (ok_cons N2ok ok_nil) (IsOld.all (bx := [⟨N2, none, (gs6 0), 5, .agg #[.bool n_7, .slice a_7 r_7.length c_7], some (2, 44, 1), [0]⟩]) ⟨fun _ => ⟨f5, b5⟩, trivial⟩) (DisOld.all (bx := [⟨N2, none, (gs6 0), 5, .agg #[.bool n_7, .slice a_7 r_7.length c_7], some (2, 44, 1), [0]⟩]) ⟨fun _ => trivial, trivial⟩) ?_ ?_
    · exact ⟨.norm 43 rfl rfl rfl (fun a_ w_ hn_ hBt hr hR hD hO hS => op_loadv N2ok ((hR 5 rfl).trans f5) (hO 0 _ rfl rfl rfl)),
        .norm 44 rfl rfl rfl (fun a_ w_ hn_ hBt hr hR hD hO hS => op_nminus (outn_eq (show a_.eval (.tmp 43) = .agg #[.bool n_7, .slice a_7 r_7.length c_7] from hD 0 rfl) (G7.rl hr) l7) (by omega)),
        .store 0 _ _ _ rfl rfl rfl rfl rfl rfl rfl (fun ia h => by cases h) rfl rfl rfl OutN.cs,
        trivial⟩
    intro a9 w9 gs9 hn9 hd9 hBt hr hR hP hX hU
    replace hn := hn9; replace hd := hd9.trans hd
    replace b2 := b2.keep hBt ⟨fun _ => ne2_5.symm, trivial⟩
    obtain ⟨n_10, a_10, c_10, r_10, e44, G10, l10⟩ : OutN ((-xOf ((s).extract 3 (s).size))) (6000) (a9.eval (.tmp 44)) w9 := hP 1 (by decide)
    have b5 : BoxV N2 w9 ((gs6 0)) (.agg #[.bool n_10, .slice a_10 r_10.length c_10]) := boxv_old ((hX 0 _ rfl).2.1 rfl) (hX 0 _ rfl).2.2.2 e44
    replace f5 : a9.eval (.tmp 5) = _ := (hR 5 rfl).trans f5
    replace f2 := (hR 2 rfl).trans f2
    replace f3 := (hR 3 rfl).trans f3
    replace f6 := (hR 6 rfl).trans f6
    replace G7 := G7.rl hr
    replace HB := HB.trans (hBt.below HB.size (UpOld.all (bx := [⟨N2, none, (gs6 0), 5, .agg #[.bool n_7, .slice a_7 r_7.length c_7], some (2, 44, 1), [0]⟩]) ⟨fun _ => u5, trivial⟩))
    clear hBt hr hR hP hX hU
    refine wp_seq ?_
    refine region4 [some 45, some 46, none, some 3] [Eqs (.agg #[.bool n_10, .slice a_10 r_10.length c_10]), Eqs (.int .i64 (kOf ((s).extract 3 (s).size))), (fun _ _ => True), Eqs (.int .i64 (kOf ((s).extract 3 (s).size)))] [⟨N2, none, (gs1 0), 2, .agg #[.bool false, .slice none 0 0], some (2, 45, 0), []⟩] [] (by kernel_rfl) hn rfl (by kernel_rfl) (by kernel_rfl) (by kernel_rfl) (by kernel_rfl) (by kernel_rfl) (by kernel_rfl) ⟨Eqs.mono4 _, Eqs.mono4 _, True.mono4, Eqs.mono4 _, trivial⟩ (ok_cons N2ok ok_nil) (IsOld.all (bx := [⟨N2, none, (gs1 0), 2, .agg #[.bool false, .slice none 0 0], some (2, 45, 0), []⟩]) ⟨fun _ => ⟨f2, b2⟩, trivial⟩) (DisOld.all (bx := [⟨N2, none, (gs1 0), 2, .agg #[.bool false, .slice none 0 0], some (2, 45, 0), []⟩]) ⟨fun _ => trivial, trivial⟩) ?_ ?_
    · exact ⟨.norm 45 rfl rfl rfl (fun a_ w_ hn_ hBt hr hR hD hO hS => op_loadv N2ok ((hR 5 rfl).trans f5) (b5.keep hBt ⟨fun _ => ne2_5, trivial⟩)),
        .norm 46 rfl rfl rfl (fun a_ w_ hn_ hBt hr hR hD hO hS => op_mv ((hR 6 rfl).trans f6)),
        .store 0 _ _ _ rfl rfl rfl rfl rfl rfl rfl (fun ia h => by cases h) rfl rfl rfl (eqs_cs n2_cs),
        .norm 3 rfl rfl rfl (fun a_ w_ hn_ hBt hr hR hD hO hS => op_assign (show a_.eval (.tmp 46) = .int .i64 (kOf ((s).extract 3 (s).size)) from hD 1 rfl)),
        trivial⟩
    intro a11 w11 gs11 hn11 hd11 hBt hr hR hP hX hU
    replace hn := hn11; replace hd := hd11.trans hd
    have e45 : a11.eval (.tmp 45) = .agg #[.bool n_10, .slice a_10 r_10.length c_10] := hP 0 (by decide)
    have b2 : BoxV N2 w11 ((gs1 0)) (.agg #[.bool n_10, .slice a_10 r_10.length c_10]) := boxv_old ((hX 0 _ rfl).2.1 rfl) (hX 0 _ rfl).2.2.2 e45
    replace f2 : a11.eval (.tmp 2) = _ := (hR 2 rfl).trans f2
    have e3 : a11.eval (.tmp 3) = .int .i64 (kOf ((s).extract 3 (s).size)) := hP 3 (by decide)
    have f3 := e3
    replace G7 := G7.rl hr
    replace G10 := G10.rl hr
    replace HB := HB.trans (hBt.below HB.size (UpOld.all (bx := [⟨N2, none, (gs1 0), 2, .agg #[.bool false, .slice none 0 0], some (2, 45, 0), []⟩]) ⟨fun _ => u2, trivial⟩))
    clear hBt hr hR hP hX hU
    refine wp_ret ?_
    repeat (first | refine then_ret ?_ | refine scope_ret ?_ | refine block_ret ?_)
    exact bodyPost_ret (v := .tuple #[.agg #[.bool n_10, .slice a_10 r_10.length c_10], .int .i64 (kOf ((s).extract 3 (s).size))]) (res_ct rfl f2 (lv_N2 b2) f3) hd ⟨_, rfl, ⟨_, _, rfl, by rw [zOf, hms]; exact outn_eq rfl G10 l10, by rw [eOf, hms]; rfl⟩, HB⟩
  · skip
    have hb24 := of_decide_eq_false hc24
    refine wp_seq ?_
    refine region4 [some 27, some 28, some 29, some 30, some 31, some 32, some 33, some 34] [Eqs (.string s), Eqs (.int .i64 ((s).size : Int)), Eqs (.bool (decide (0 < ((s).size : Int)))), Eqs (.bool (decide (0 < ((s).size : Int)))), IfS (0 < ((s).size : Int)) (Eqs (.string s)), IfS (0 < ((s).size : Int)) (Eqs (.int .u8 (((s).get! 0).toNat : Int))), IfS (0 < ((s).size : Int)) (Eqs (.bool (decide ((((s).get! 0).toNat : Int) = 45)))), Eqs (.bool (decide ((0 < ((s).size : Int)) ∧ ((((s).get! 0).toNat : Int) = 45))))] [] [] (by kernel_rfl) hn rfl (by kernel_rfl) (by kernel_rfl) (by kernel_rfl) (by kernel_rfl) (by kernel_rfl) (by kernel_rfl) ⟨Eqs.mono4 _, Eqs.mono4 _, Eqs.mono4 _, Eqs.mono4 _, IfS.mono4 (Eqs.mono4 _), IfS.mono4 (Eqs.mono4 _), IfS.mono4 (Eqs.mono4 _), Eqs.mono4 _, trivial⟩ ok_nil (IsOld.all (bx := []) trivial) (DisOld.all (bx := []) trivial) ?_ ?_
    · exact ⟨.norm 27 rfl rfl rfl (fun a_ w_ hn_ hBt hr hR hD hO hS => op_mv ((hR 0 rfl).trans f0)),
        .norm 28 rfl rfl rfl (fun a_ w_ hn_ hBt hr hR hD hO hS => op_lens (show a_.eval (.tmp 27) = .string s from hD 0 rfl)),
        .norm 29 rfl rfl rfl (fun a_ w_ hn_ hBt hr hR hD hO hS => op_gtrk (show a_.eval (.tmp 28) = .int .i64 ((s).size : Int) from hD 1 rfl)),
        .norm 30 rfl rfl rfl (fun a_ w_ hn_ hBt hr hR hD hO hS => op_mv (show a_.eval (.tmp 29) = .bool (decide (0 < ((s).size : Int))) from hD 2 rfl)),
        .norm 31 rfl rfl rfl (fun a_ w_ hn_ hBt hr hR hD hO hS => ⟨⟨_, rfl⟩, fun hg_ => (have hP_ : 0 < ((s).size : Int) := gtrue (show Eqs (.bool (decide (0 < ((s).size : Int)))) _ w_ from hD 3 rfl) hg_; (op_mv ((hR 0 rfl).trans f0)).mono (fun _ _ h_ => ⟨h_.1, fun _ => h_.2⟩)), fun hne_ hP_ => absurd (gof (show Eqs (.bool (decide (0 < ((s).size : Int)))) _ w_ from hD 3 rfl) hP_) hne_⟩),
        .norm 32 rfl rfl rfl (fun a_ w_ hn_ hBt hr hR hD hO hS => ⟨⟨_, rfl⟩, fun hg_ => (have hP_ : 0 < ((s).size : Int) := gtrue (show Eqs (.bool (decide (0 < ((s).size : Int)))) _ w_ from hD 3 rfl) hg_; (op_idxs (k := 0) (show a_.eval (.tmp 31) = .string s from (show IfS (0 < ((s).size : Int)) (Eqs (.string s)) (a_.eval (.tmp 31)) w_ from hD 4 rfl) hP_) rfl (by omega)).mono (fun _ _ h_ => ⟨h_.1, fun _ => h_.2⟩)), fun hne_ hP_ => absurd (gof (show Eqs (.bool (decide (0 < ((s).size : Int)))) _ w_ from hD 3 rfl) hP_) hne_⟩),
        .norm 33 rfl rfl rfl (fun a_ w_ hn_ hBt hr hR hD hO hS => ⟨⟨_, rfl⟩, fun hg_ => (have hP_ : 0 < ((s).size : Int) := gtrue (show Eqs (.bool (decide (0 < ((s).size : Int)))) _ w_ from hD 3 rfl) hg_; (op_eql8k (show a_.eval (.tmp 32) = .int .u8 (((s).get! 0).toNat : Int) from (show IfS (0 < ((s).size : Int)) (Eqs (.int .u8 (((s).get! 0).toNat : Int))) (a_.eval (.tmp 32)) w_ from hD 5 rfl) hP_)).mono (fun _ _ h_ => ⟨h_.1, fun _ => h_.2⟩)), fun hne_ hP_ => absurd (gof (show Eqs (.bool (decide (0 < ((s).size : Int)))) _ w_ from hD 3 rfl) hP_) hne_⟩),
        .norm 34 rfl rfl rfl (fun a_ w_ hn_ hBt hr hR hD hO hS => op_pickand (show a_.eval (.tmp 30) = .bool (decide (0 < ((s).size : Int))) from hD 3 rfl) (fun hP_ => (show a_.eval (.tmp 33) = .bool (decide ((((s).get! 0).toNat : Int) = 45)) from (show IfS (0 < ((s).size : Int)) (Eqs (.bool (decide ((((s).get! 0).toNat : Int) = 45)))) (a_.eval (.tmp 33)) w_ from hD 6 rfl) hP_))),
        trivial⟩
    intro a12 w12 gs12 hn12 hd12 hBt hr hR hP hX hU
    replace hn := hn12; replace hd := hd12.trans hd
    replace b2 := b2.keep hBt trivial
    replace f0 := (hR 0 rfl).trans f0
    replace f2 := (hR 2 rfl).trans f2
    replace f3 := (hR 3 rfl).trans f3
    replace f4 := (hR 4 rfl).trans f4
    have e34 : a12.eval (.tmp 34) = .bool (decide ((0 < ((s).size : Int)) ∧ ((((s).get! 0).toNat : Int) = 45))) := hP 7 (by decide)
    have f34 := e34
    replace HB := HB.trans (hBt.below HB.size (UpOld.all (bx := []) trivial))
    clear hBt hr hR hP hX hU
    refine wp_cond_split f34 (fun hc34 => ?_) (fun hc34 => ?_)
    · skip
      have hms := ms2 hb24 (of_decide_eq_true hc34)
      have hb34 := of_decide_eq_true hc34
      refine wp_seq ?_
      refine region4 [some 4] [Eqs ((.bool true))] [] [] (by kernel_rfl) hn rfl (by kernel_rfl) (by kernel_rfl) (by kernel_rfl) (by kernel_rfl) (by kernel_rfl) (by kernel_rfl) ⟨Eqs.mono4 _, trivial⟩ ok_nil (IsOld.all (bx := []) trivial) (DisOld.all (bx := []) trivial) ?_ ?_
      · exact ⟨.norm 4 rfl rfl rfl (fun a_ w_ hn_ hBt hr hR hD hO hS => op_assign rfl),
          trivial⟩
      intro a13 w13 gs13 hn13 hd13 hBt hr hR hP hX hU
      replace hn := hn13; replace hd := hd13.trans hd
      replace b2 := b2.keep hBt trivial
      replace f0 := (hR 0 rfl).trans f0
      replace f2 := (hR 2 rfl).trans f2
      replace f3 := (hR 3 rfl).trans f3
      have e4 : a13.eval (.tmp 4) = (.bool true) := hP 0 (by decide)
      have f4 := e4
      replace HB := HB.trans (hBt.below HB.size (UpOld.all (bx := []) trivial))
      clear hBt hr hR hP hX hU
      refine region4 [some 35, some 36, some 0] [Eqs (.string s), Eqs (.string ((s).extract 1 (s).size)), Eqs (.string ((s).extract 1 (s).size))] [] [(2, 0)] (by kernel_rfl) hn rfl (by kernel_rfl) (by kernel_rfl) (by kernel_rfl) (by kernel_rfl) (by kernel_rfl) (by kernel_rfl) ⟨Eqs.mono4 _, Eqs.mono4 _, Eqs.mono4 _, trivial⟩ ok_nil (IsOld.all (bx := []) trivial) (DisOld.all (bx := []) trivial) ?_ ?_
      · exact ⟨.norm 35 rfl rfl rfl (fun a_ w_ hn_ hBt hr hR hD hO hS => op_mv ((hS 2 0 rfl rfl).trans f0)),
          .norm 36 rfl rfl rfl (fun a_ w_ hn_ hBt hr hR hD hO hS => op_slst (k := 1) (show a_.eval (.tmp 35) = .string s from hD 0 rfl) rfl (by omega)),
          .norm 0 rfl rfl rfl (fun a_ w_ hn_ hBt hr hR hD hO hS => op_assign (show a_.eval (.tmp 36) = .string ((s).extract 1 (s).size) from hD 1 rfl)),
          trivial⟩
      intro a14 w14 gs14 hn14 hd14 hBt hr hR hP hX hU
      replace hn := hn14; replace hd := hd14.trans hd
      replace b2 := b2.keep hBt trivial
      replace f2 := (hR 2 rfl).trans f2
      replace f3 := (hR 3 rfl).trans f3
      replace f4 := (hR 4 rfl).trans f4
      have e0 : a14.eval (.tmp 0) = .string ((s).extract 1 (s).size) := hP 2 (by decide)
      have f0 := e0
      replace HB := HB.trans (hBt.below HB.size (UpOld.all (bx := []) trivial))
      clear hBt hr hR hP hX hU
      refine wp_seq ?_
      refine region4 [some 38, some 39, some 37, some 40, some 41, some 5, none, some 6] [Eqs (.string ((s).extract 1 (s).size)), Tup2 (OutN (xOf ((s).extract 1 (s).size)) (6000)) (Eqs (.int .i64 (kOf ((s).extract 1 (s).size)))), Tup2 (OutN (xOf ((s).extract 1 (s).size)) (6000)) (Eqs (.int .i64 (kOf ((s).extract 1 (s).size)))), OutN (xOf ((s).extract 1 (s).size)) (6000), Eqs (.int .i64 (kOf ((s).extract 1 (s).size))), (fun _ _ => True), (fun _ _ => True), Eqs (.int .i64 (kOf ((s).extract 1 (s).size)))] [⟨N2, some 5, 0, 5, .agg #[.bool false, .slice none 0 0], some (6, 40, 3), []⟩] [] (by kernel_rfl) hn rfl (by kernel_rfl) (by kernel_rfl) (by kernel_rfl) (by kernel_rfl) (by kernel_rfl) (by kernel_rfl) ⟨Eqs.mono4 _, Tup2.mono4 (OutN.mono4 _ _) (Eqs.mono4 _), Tup2.mono4 (OutN.mono4 _ _) (Eqs.mono4 _), OutN.mono4 _ _, Eqs.mono4 _, True.mono4, True.mono4, Eqs.mono4 _, trivial⟩ (ok_cons N2ok ok_nil) (IsOld.all (bx := [⟨N2, some 5, 0, 5, .agg #[.bool false, .slice none 0 0], some (6, 40, 3), []⟩]) ⟨someNe, trivial⟩) (DisOld.all (bx := [⟨N2, some 5, 0, 5, .agg #[.bool false, .slice none 0 0], some (6, 40, 3), []⟩]) ⟨someNe, trivial⟩) ?_ ?_
      · exact ⟨.norm 38 rfl rfl rfl (fun a_ w_ hn_ hBt hr hR hD hO hS => op_mv ((hR 0 rfl).trans f0)),
          .norm 39 rfl rfl rfl (fun a_ w_ hn_ hBt hr hR hD hO hS => op_natural (show a_.eval (.tmp 38) = .string ((s).extract 1 (s).size) from hD 0 rfl)),
          .norm 37 rfl rfl rfl (fun a_ w_ hn_ hBt hr hR hD hO hS => op_mvp (p := Tup2 (OutN (xOf ((s).extract 1 (s).size)) (6000)) (Eqs (.int .i64 (kOf ((s).extract 1 (s).size))))) (show Tup2 (OutN (xOf ((s).extract 1 (s).size)) (6000)) (Eqs (.int .i64 (kOf ((s).extract 1 (s).size)))) (a_.eval (.tmp 39)) w_ from hD 1 rfl)),
          .norm 40 rfl rfl rfl (fun a_ w_ hn_ hBt hr hR hD hO hS => op_ex20 (show Tup2 (OutN (xOf ((s).extract 1 (s).size)) (6000)) (Eqs (.int .i64 (kOf ((s).extract 1 (s).size)))) (a_.eval (.tmp 37)) w_ from hD 2 rfl)),
          .norm 41 rfl rfl rfl (fun a_ w_ hn_ hBt hr hR hD hO hS => op_ex21 (show Tup2 (OutN (xOf ((s).extract 1 (s).size)) (6000)) (Eqs (.int .i64 (kOf ((s).extract 1 (s).size)))) (a_.eval (.tmp 37)) w_ from hD 2 rfl)),
          .alloc 0 _ rfl rfl (.inl ⟨rfl, rfl⟩) rfl rfl rfl rfl rfl,
          .store 0 _ _ _ rfl rfl rfl rfl rfl rfl rfl (fun ia h => by cases h; rfl) rfl rfl rfl OutN.cs,
          .norm 6 rfl rfl rfl (fun a_ w_ hn_ hBt hr hR hD hO hS => op_assign (show a_.eval (.tmp 41) = .int .i64 (kOf ((s).extract 1 (s).size)) from hD 4 rfl)),
          trivial⟩
      intro a15 w15 gs15 hn15 hd15 hBt hr hR hP hX hU
      replace hn := hn15; replace hd := hd15.trans hd
      have ne2_5 : (gs1 0) ≠ gs15 0 := by have h1 := b2.lt; have h2 := (hX 0 _ rfl).2.2.1 (by simp); omega
      replace b2 := b2.keep hBt ⟨someNe, trivial⟩
      obtain ⟨n_16, a_16, c_16, r_16, e40, G16, l16⟩ : OutN (xOf ((s).extract 1 (s).size)) (6000) (a15.eval (.tmp 40)) w15 := hP 3 (by decide)
      have b5 : BoxV N2 w15 (gs15 0) (.agg #[.bool n_16, .slice a_16 r_16.length c_16]) := boxv_of (hX 0 _ rfl).2.2.2 e40
      have f5 := (hX 0 _ rfl).1
      have u5 : w.heap.size ≤ gs15 0 := Nat.le_trans HB.size ((hX 0 _ rfl).2.2.1 (by simp))
      replace f2 := (hR 2 rfl).trans f2
      replace f3 := (hR 3 rfl).trans f3
      replace f4 := (hR 4 rfl).trans f4
      have e6 : a15.eval (.tmp 6) = .int .i64 (kOf ((s).extract 1 (s).size)) := hP 7 (by decide)
      have f6 := e6
      replace HB := HB.trans (hBt.below HB.size (UpOld.all (bx := [⟨N2, some 5, 0, 5, .agg #[.bool false, .slice none 0 0], some (6, 40, 3), []⟩]) ⟨someNe, trivial⟩))
      clear hBt hr hR hP hX hU
      refine wp_seq ?_
      refine wp_seq ?_
      refine region4 [some 42] [Eqs ((.bool true))] [] [] (by kernel_rfl) hn rfl (by kernel_rfl) (by kernel_rfl) (by kernel_rfl) (by kernel_rfl) (by kernel_rfl) (by kernel_rfl) ⟨Eqs.mono4 _, trivial⟩ ok_nil (IsOld.all (bx := []) trivial) (DisOld.all (bx := []) trivial) ?_ ?_
      · exact ⟨.norm 42 rfl rfl rfl (fun a_ w_ hn_ hBt hr hR hD hO hS => op_mv ((hR 4 rfl).trans f4)),
          trivial⟩
      intro a17 w17 gs17 hn17 hd17 hBt hr hR hP hX hU
      replace hn := hn17; replace hd := hd17.trans hd
      replace b2 := b2.keep hBt trivial
      replace b5 := b5.keep hBt trivial
      replace f2 := (hR 2 rfl).trans f2
      replace f3 := (hR 3 rfl).trans f3
      replace f5 := (hR 5 rfl).trans f5
      replace f6 := (hR 6 rfl).trans f6
      have e42 : a17.eval (.tmp 42) = (.bool true) := hP 0 (by decide)
      have f42 := e42
      replace G16 := G16.rl hr
      replace HB := HB.trans (hBt.below HB.size (UpOld.all (bx := []) trivial))
      clear hBt hr hR hP hX hU
      refine wp_cond_true f42 ?_
      refine region4 [some 43, some 44, none] [Eqs (.agg #[.bool n_16, .slice a_16 r_16.length c_16]), OutN ((-xOf ((s).extract 1 (s).size))) (6000), (fun _ _ => True)] [⟨N2, none, (gs15 0), 5, .agg #[.bool n_16, .slice a_16 r_16.length c_16], some (2, 44, 1), [0]⟩] [] (by kernel_rfl) hn rfl (by kernel_rfl) (by kernel_rfl) (by kernel_rfl) (by kernel_rfl) (by kernel_rfl) (by kernel_rfl) ⟨Eqs.mono4 _, OutN.mono4 _ _, True.mono4, trivial⟩ (ok_cons N2ok ok_nil) (IsOld.all (bx := [⟨N2, none, (gs15 0), 5, .agg #[.bool n_16, .slice a_16 r_16.length c_16], some (2, 44, 1), [0]⟩]) ⟨fun _ => ⟨f5, b5⟩, trivial⟩) (DisOld.all (bx := [⟨N2, none, (gs15 0), 5, .agg #[.bool n_16, .slice a_16 r_16.length c_16], some (2, 44, 1), [0]⟩]) ⟨fun _ => trivial, trivial⟩) ?_ ?_
      · exact ⟨.norm 43 rfl rfl rfl (fun a_ w_ hn_ hBt hr hR hD hO hS => op_loadv N2ok ((hR 5 rfl).trans f5) (hO 0 _ rfl rfl rfl)),
          .norm 44 rfl rfl rfl (fun a_ w_ hn_ hBt hr hR hD hO hS => op_nminus (outn_eq (show a_.eval (.tmp 43) = .agg #[.bool n_16, .slice a_16 r_16.length c_16] from hD 0 rfl) (G16.rl hr) l16) (by omega)),
          .store 0 _ _ _ rfl rfl rfl rfl rfl rfl rfl (fun ia h => by cases h) rfl rfl rfl OutN.cs,
          trivial⟩
      intro a18 w18 gs18 hn18 hd18 hBt hr hR hP hX hU
      replace hn := hn18; replace hd := hd18.trans hd
      replace b2 := b2.keep hBt ⟨fun _ => ne2_5.symm, trivial⟩
      obtain ⟨n_19, a_19, c_19, r_19, e44, G19, l19⟩ : OutN ((-xOf ((s).extract 1 (s).size))) (6000) (a18.eval (.tmp 44)) w18 := hP 1 (by decide)
      have b5 : BoxV N2 w18 ((gs15 0)) (.agg #[.bool n_19, .slice a_19 r_19.length c_19]) := boxv_old ((hX 0 _ rfl).2.1 rfl) (hX 0 _ rfl).2.2.2 e44
      replace f5 : a18.eval (.tmp 5) = _ := (hR 5 rfl).trans f5
      replace f2 := (hR 2 rfl).trans f2
      replace f3 := (hR 3 rfl).trans f3
      replace f6 := (hR 6 rfl).trans f6
      replace G16 := G16.rl hr
      replace HB := HB.trans (hBt.below HB.size (UpOld.all (bx := [⟨N2, none, (gs15 0), 5, .agg #[.bool n_16, .slice a_16 r_16.length c_16], some (2, 44, 1), [0]⟩]) ⟨fun _ => u5, trivial⟩))
      clear hBt hr hR hP hX hU
      refine wp_seq ?_
      refine region4 [some 45, some 46, none, some 3] [Eqs (.agg #[.bool n_19, .slice a_19 r_19.length c_19]), Eqs (.int .i64 (kOf ((s).extract 1 (s).size))), (fun _ _ => True), Eqs (.int .i64 (kOf ((s).extract 1 (s).size)))] [⟨N2, none, (gs1 0), 2, .agg #[.bool false, .slice none 0 0], some (2, 45, 0), []⟩] [] (by kernel_rfl) hn rfl (by kernel_rfl) (by kernel_rfl) (by kernel_rfl) (by kernel_rfl) (by kernel_rfl) (by kernel_rfl) ⟨Eqs.mono4 _, Eqs.mono4 _, True.mono4, Eqs.mono4 _, trivial⟩ (ok_cons N2ok ok_nil) (IsOld.all (bx := [⟨N2, none, (gs1 0), 2, .agg #[.bool false, .slice none 0 0], some (2, 45, 0), []⟩]) ⟨fun _ => ⟨f2, b2⟩, trivial⟩) (DisOld.all (bx := [⟨N2, none, (gs1 0), 2, .agg #[.bool false, .slice none 0 0], some (2, 45, 0), []⟩]) ⟨fun _ => trivial, trivial⟩) ?_ ?_
      · exact ⟨.norm 45 rfl rfl rfl (fun a_ w_ hn_ hBt hr hR hD hO hS => op_loadv N2ok ((hR 5 rfl).trans f5) (b5.keep hBt ⟨fun _ => ne2_5, trivial⟩)),
          .norm 46 rfl rfl rfl (fun a_ w_ hn_ hBt hr hR hD hO hS => op_mv ((hR 6 rfl).trans f6)),
          .store 0 _ _ _ rfl rfl rfl rfl rfl rfl rfl (fun ia h => by cases h) rfl rfl rfl (eqs_cs n2_cs),
          .norm 3 rfl rfl rfl (fun a_ w_ hn_ hBt hr hR hD hO hS => op_assign (show a_.eval (.tmp 46) = .int .i64 (kOf ((s).extract 1 (s).size)) from hD 1 rfl)),
          trivial⟩
      intro a20 w20 gs20 hn20 hd20 hBt hr hR hP hX hU
      replace hn := hn20; replace hd := hd20.trans hd
      have e45 : a20.eval (.tmp 45) = .agg #[.bool n_19, .slice a_19 r_19.length c_19] := hP 0 (by decide)
      have b2 : BoxV N2 w20 ((gs1 0)) (.agg #[.bool n_19, .slice a_19 r_19.length c_19]) := boxv_old ((hX 0 _ rfl).2.1 rfl) (hX 0 _ rfl).2.2.2 e45
      replace f2 : a20.eval (.tmp 2) = _ := (hR 2 rfl).trans f2
      have e3 : a20.eval (.tmp 3) = .int .i64 (kOf ((s).extract 1 (s).size)) := hP 3 (by decide)
      have f3 := e3
      replace G16 := G16.rl hr
      replace G19 := G19.rl hr
      replace HB := HB.trans (hBt.below HB.size (UpOld.all (bx := [⟨N2, none, (gs1 0), 2, .agg #[.bool false, .slice none 0 0], some (2, 45, 0), []⟩]) ⟨fun _ => u2, trivial⟩))
      clear hBt hr hR hP hX hU
      refine wp_ret ?_
      repeat (first | refine then_ret ?_ | refine scope_ret ?_ | refine block_ret ?_)
      exact bodyPost_ret (v := .tuple #[.agg #[.bool n_19, .slice a_19 r_19.length c_19], .int .i64 (kOf ((s).extract 1 (s).size))]) (res_ct rfl f2 (lv_N2 b2) f3) hd ⟨_, rfl, ⟨_, _, rfl, by rw [zOf, hms]; exact outn_eq rfl G19 l19, by rw [eOf, hms]; rfl⟩, HB⟩
    · skip
      have hms := ms3 hb24 (of_decide_eq_false hc34)
      refine wp_skip ?_
      refine wp_seq ?_
      refine region4 [some 38, some 39, some 37, some 40, some 41, some 5, none, some 6] [Eqs (.string s), Tup2 (OutN (xOf s) (6000)) (Eqs (.int .i64 (kOf s))), Tup2 (OutN (xOf s) (6000)) (Eqs (.int .i64 (kOf s))), OutN (xOf s) (6000), Eqs (.int .i64 (kOf s)), (fun _ _ => True), (fun _ _ => True), Eqs (.int .i64 (kOf s))] [⟨N2, some 5, 0, 5, .agg #[.bool false, .slice none 0 0], some (6, 40, 3), []⟩] [] (by kernel_rfl) hn rfl (by kernel_rfl) (by kernel_rfl) (by kernel_rfl) (by kernel_rfl) (by kernel_rfl) (by kernel_rfl) ⟨Eqs.mono4 _, Tup2.mono4 (OutN.mono4 _ _) (Eqs.mono4 _), Tup2.mono4 (OutN.mono4 _ _) (Eqs.mono4 _), OutN.mono4 _ _, Eqs.mono4 _, True.mono4, True.mono4, Eqs.mono4 _, trivial⟩ (ok_cons N2ok ok_nil) (IsOld.all (bx := [⟨N2, some 5, 0, 5, .agg #[.bool false, .slice none 0 0], some (6, 40, 3), []⟩]) ⟨someNe, trivial⟩) (DisOld.all (bx := [⟨N2, some 5, 0, 5, .agg #[.bool false, .slice none 0 0], some (6, 40, 3), []⟩]) ⟨someNe, trivial⟩) ?_ ?_
      · exact ⟨.norm 38 rfl rfl rfl (fun a_ w_ hn_ hBt hr hR hD hO hS => op_mv ((hR 0 rfl).trans f0)),
          .norm 39 rfl rfl rfl (fun a_ w_ hn_ hBt hr hR hD hO hS => op_natural (show a_.eval (.tmp 38) = .string s from hD 0 rfl)),
          .norm 37 rfl rfl rfl (fun a_ w_ hn_ hBt hr hR hD hO hS => op_mvp (p := Tup2 (OutN (xOf s) (6000)) (Eqs (.int .i64 (kOf s)))) (show Tup2 (OutN (xOf s) (6000)) (Eqs (.int .i64 (kOf s))) (a_.eval (.tmp 39)) w_ from hD 1 rfl)),
          .norm 40 rfl rfl rfl (fun a_ w_ hn_ hBt hr hR hD hO hS => op_ex20 (show Tup2 (OutN (xOf s) (6000)) (Eqs (.int .i64 (kOf s))) (a_.eval (.tmp 37)) w_ from hD 2 rfl)),
          .norm 41 rfl rfl rfl (fun a_ w_ hn_ hBt hr hR hD hO hS => op_ex21 (show Tup2 (OutN (xOf s) (6000)) (Eqs (.int .i64 (kOf s))) (a_.eval (.tmp 37)) w_ from hD 2 rfl)),
          .alloc 0 _ rfl rfl (.inl ⟨rfl, rfl⟩) rfl rfl rfl rfl rfl,
          .store 0 _ _ _ rfl rfl rfl rfl rfl rfl rfl (fun ia h => by cases h; rfl) rfl rfl rfl OutN.cs,
          .norm 6 rfl rfl rfl (fun a_ w_ hn_ hBt hr hR hD hO hS => op_assign (show a_.eval (.tmp 41) = .int .i64 (kOf s) from hD 4 rfl)),
          trivial⟩
      intro a21 w21 gs21 hn21 hd21 hBt hr hR hP hX hU
      replace hn := hn21; replace hd := hd21.trans hd
      have ne2_5 : (gs1 0) ≠ gs21 0 := by have h1 := b2.lt; have h2 := (hX 0 _ rfl).2.2.1 (by simp); omega
      replace b2 := b2.keep hBt ⟨someNe, trivial⟩
      obtain ⟨n_22, a_22, c_22, r_22, e40, G22, l22⟩ : OutN (xOf s) (6000) (a21.eval (.tmp 40)) w21 := hP 3 (by decide)
      have b5 : BoxV N2 w21 (gs21 0) (.agg #[.bool n_22, .slice a_22 r_22.length c_22]) := boxv_of (hX 0 _ rfl).2.2.2 e40
      have f5 := (hX 0 _ rfl).1
      have u5 : w.heap.size ≤ gs21 0 := Nat.le_trans HB.size ((hX 0 _ rfl).2.2.1 (by simp))
      replace f2 := (hR 2 rfl).trans f2
      replace f3 := (hR 3 rfl).trans f3
      replace f4 := (hR 4 rfl).trans f4
      have e6 : a21.eval (.tmp 6) = .int .i64 (kOf s) := hP 7 (by decide)
      have f6 := e6
      replace HB := HB.trans (hBt.below HB.size (UpOld.all (bx := [⟨N2, some 5, 0, 5, .agg #[.bool false, .slice none 0 0], some (6, 40, 3), []⟩]) ⟨someNe, trivial⟩))
      clear hBt hr hR hP hX hU
      refine wp_seq ?_
      refine wp_seq ?_
      refine region4 [some 42] [Eqs ((.bool false))] [] [] (by kernel_rfl) hn rfl (by kernel_rfl) (by kernel_rfl) (by kernel_rfl) (by kernel_rfl) (by kernel_rfl) (by kernel_rfl) ⟨Eqs.mono4 _, trivial⟩ ok_nil (IsOld.all (bx := []) trivial) (DisOld.all (bx := []) trivial) ?_ ?_
      · exact ⟨.norm 42 rfl rfl rfl (fun a_ w_ hn_ hBt hr hR hD hO hS => op_mv ((hR 4 rfl).trans f4)),
          trivial⟩
      intro a23 w23 gs23 hn23 hd23 hBt hr hR hP hX hU
      replace hn := hn23; replace hd := hd23.trans hd
      replace b2 := b2.keep hBt trivial
      replace b5 := b5.keep hBt trivial
      replace f2 := (hR 2 rfl).trans f2
      replace f3 := (hR 3 rfl).trans f3
      replace f5 := (hR 5 rfl).trans f5
      replace f6 := (hR 6 rfl).trans f6
      have e42 : a23.eval (.tmp 42) = (.bool false) := hP 0 (by decide)
      have f42 := e42
      replace G22 := G22.rl hr
      replace HB := HB.trans (hBt.below HB.size (UpOld.all (bx := []) trivial))
      clear hBt hr hR hP hX hU
      refine wp_cond_false f42 ?_
      refine wp_skip ?_
      refine wp_seq ?_
      refine region4 [some 45, some 46, none, some 3] [Eqs (.agg #[.bool n_22, .slice a_22 r_22.length c_22]), Eqs (.int .i64 (kOf s)), (fun _ _ => True), Eqs (.int .i64 (kOf s))] [⟨N2, none, (gs1 0), 2, .agg #[.bool false, .slice none 0 0], some (2, 45, 0), []⟩] [] (by kernel_rfl) hn rfl (by kernel_rfl) (by kernel_rfl) (by kernel_rfl) (by kernel_rfl) (by kernel_rfl) (by kernel_rfl) ⟨Eqs.mono4 _, Eqs.mono4 _, True.mono4, Eqs.mono4 _, trivial⟩ (ok_cons N2ok ok_nil) (IsOld.all (bx := [⟨N2, none, (gs1 0), 2, .agg #[.bool false, .slice none 0 0], some (2, 45, 0), []⟩]) ⟨fun _ => ⟨f2, b2⟩, trivial⟩) (DisOld.all (bx := [⟨N2, none, (gs1 0), 2, .agg #[.bool false, .slice none 0 0], some (2, 45, 0), []⟩]) ⟨fun _ => trivial, trivial⟩) ?_ ?_
      · exact ⟨.norm 45 rfl rfl rfl (fun a_ w_ hn_ hBt hr hR hD hO hS => op_loadv N2ok ((hR 5 rfl).trans f5) (b5.keep hBt ⟨fun _ => ne2_5, trivial⟩)),
          .norm 46 rfl rfl rfl (fun a_ w_ hn_ hBt hr hR hD hO hS => op_mv ((hR 6 rfl).trans f6)),
          .store 0 _ _ _ rfl rfl rfl rfl rfl rfl rfl (fun ia h => by cases h) rfl rfl rfl (eqs_cs n2_cs),
          .norm 3 rfl rfl rfl (fun a_ w_ hn_ hBt hr hR hD hO hS => op_assign (show a_.eval (.tmp 46) = .int .i64 (kOf s) from hD 1 rfl)),
          trivial⟩
      intro a24 w24 gs24 hn24 hd24 hBt hr hR hP hX hU
      replace hn := hn24; replace hd := hd24.trans hd
      have e45 : a24.eval (.tmp 45) = .agg #[.bool n_22, .slice a_22 r_22.length c_22] := hP 0 (by decide)
      have b2 : BoxV N2 w24 ((gs1 0)) (.agg #[.bool n_22, .slice a_22 r_22.length c_22]) := boxv_old ((hX 0 _ rfl).2.1 rfl) (hX 0 _ rfl).2.2.2 e45
      replace f2 : a24.eval (.tmp 2) = _ := (hR 2 rfl).trans f2
      have e3 : a24.eval (.tmp 3) = .int .i64 (kOf s) := hP 3 (by decide)
      have f3 := e3
      replace G22 := G22.rl hr
      replace HB := HB.trans (hBt.below HB.size (UpOld.all (bx := [⟨N2, none, (gs1 0), 2, .agg #[.bool false, .slice none 0 0], some (2, 45, 0), []⟩]) ⟨fun _ => u2, trivial⟩))
      clear hBt hr hR hP hX hU
      refine wp_ret ?_
      repeat (first | refine then_ret ?_ | refine scope_ret ?_ | refine block_ret ?_)
      exact bodyPost_ret (v := .tuple #[.agg #[.bool n_22, .slice a_22 r_22.length c_22], .int .i64 (kOf s)]) (res_ct rfl f2 (lv_N2 b2) f3) hd ⟨_, rfl, ⟨_, _, rfl, by rw [zOf, hms]; exact outn_eq rfl G22 l22, by rw [eOf, hms]; rfl⟩, HB⟩
section
variable {dst : Option Tmp} {ty : TypeId} {pos : String} {after : Array Edge} {guard : Option (Nat × Bool)} {a : Act} {w : World} {ats : Array TypeId} {i j : Nat}
theorem has_number : Has Tryd.prog 45 := by unfold Has; kernel_rfl
theorem op_number {s : ByteArray} (h : a.eval (.tmp i) = .string s) :
    Does Tryd.prog { dst, op := .call { callee := .value (.func 45), args := #[.tmp i], argTypes := ats }, type := ty, pos, after, guard } a.eval w fun v w' => Below w.heap.size w w' ∧ Tup2 (OutN (zOf s) 6000) (Eqs (.int .i64 (eOf s))) v w' := by
  refine does_call has_number _ (by simp only [List.map_toArray, List.map_cons, List.map_nil, h]) ((number_z w s).mono ?_)
  rintro e w' ⟨v, rfl, ht, hb⟩
  exact ⟨_, rfl, hb, ht⟩
end
end Lm
end Go.Proofs.YtdiiankcjgoecaaDoor

namespace Go.Proofs.YtdiiankcjgoecaaDoor
namespace Lm
open Go Go.RowKit
noncomputable def dig (x : Int) : List Int := @Classical.epsilon (List Int) ⟨[]⟩ fun ds => IsDec ds x
theorem dig_eq {ds : List Int} {x : Int} (h : IsDec ds x) : ds = dig x := isDec_one h (@Classical.epsilon_spec (List Int) (fun ds => IsDec ds x) ⟨ds, h⟩)
noncomputable def txt (z : Int) : ByteArray := if z < 0 then strOfNums (45 :: dig (z.natAbs : Int)) else strOfNums (dig (z.natAbs : Int))
theorem sg_abs {b : Bool} {x z : Int} (hx : 0 ≤ x) (h : sg b x = z) : x = (z.natAbs : Int) := by
  subst h
  cases b <;> simp [sg] <;> omega
section
variable {dst : Option Tmp} {ty : TypeId} {pos : String} {after : Array Edge} {guard : Option (Nat × Bool)} {a : Act} {w : World} {ats : Array TypeId} {i j : Nat} {z : Int} {L : Nat}
theorem has_wtext0 : Has Tryd.prog 13 := by unfold Has; kernel_rfl
theorem op_wtext (h : IsW z L (a.eval (.tmp i)) w) (hL : L ≤ 1000000) :
    Does Tryd.prog { dst, op := .call { callee := .value (.func 13), args := #[.tmp i], argTypes := ats }, type := ty, pos, after, guard } a.eval w fun v w' => Below w.heap.size w w' ∧ Eqs (.string (txt z)) v w' := by
  obtain ⟨ng, ao, n, cap, zs, e, A, l⟩ := h
  have hx := sg_abs (val_bounds A.sl.parts.2.2.2).1 A.worth
  by_cases hz : z < 0
  · refine does_call has_wtext0 _ (by simp only [List.map_toArray, List.map_cons, List.map_nil, e]) ((wtext_neg w ng ao n cap zs A.sl (by omega) (by rw [A.worth]; exact hz)).mono ?_)
    rintro e w' ⟨ds, rfl, hd, hb⟩
    refine ⟨_, rfl, hb, ?_⟩
    rw [hx] at hd
    rw [txt, if_pos hz, ← dig_eq hd]
    rfl
  · refine does_call has_wtext0 _ (by simp only [List.map_toArray, List.map_cons, List.map_nil, e]) ((wtext_pos w ng ao n cap zs A.sl (by omega) (by rw [A.worth]; exact hz)).mono ?_)
    rintro e w' ⟨ds, rfl, hd, hb⟩
    refine ⟨_, rfl, hb, ?_⟩
    rw [hx] at hd
    rw [txt, if_neg hz, ← dig_eq hd]
    rfl
theorem has_ntext : Has Tryd.prog 49 := by unfold Has; kernel_rfl
theorem op_ntext (h : OutN z L (a.eval (.tmp i)) w) (hL : L ≤ 100000) :
    Does Tryd.prog { dst, op := .call { callee := .value (.func 49), args := #[.tmp i], argTypes := ats }, type := ty, pos, after, guard } a.eval w fun v w' => Below w.heap.size w w' ∧ Eqs (.string (txt z)) v w' := by
  obtain ⟨ng, ao, cap, rs, e, ⟨G, hs⟩, l⟩ := h
  subst hs
  by_cases hz : z < 0
  · have h0 : 0 < rs.length := by
      apply Nat.pos_of_ne_zero
      intro h
      have hv := G.2.2
      rw [List.eq_nil_of_length_eq_zero h] at hv
      simp only [Dm.val] at hv
      omega
    rw [decide_eq_true hz] at e
    refine does_call has_ntext _ (by simp only [List.map_toArray, List.map_cons, List.map_nil, e]) ((Dm.rtext_minus w ao cap rs _ G (by omega) h0).mono ?_)
    rintro e w' ⟨ds, rfl, hd, hb⟩
    refine ⟨_, rfl, hb, ?_⟩
    rw [txt, if_pos hz, ← dig_eq hd]
    rfl
  · rw [decide_eq_false hz] at e
    by_cases h0 : 0 < rs.length
    · refine does_call has_ntext _ (by simp only [List.map_toArray, List.map_cons, List.map_nil, e]) ((Dm.rtext_pos w ao cap rs _ G (by omega) h0).mono ?_)
      rintro e w' ⟨ds, rfl, hd, hb⟩
      refine ⟨_, rfl, hb, ?_⟩
      rw [txt, if_neg hz, ← dig_eq hd]
      rfl
    · obtain rfl : rs = [] := List.eq_nil_of_length_eq_zero (by omega)
      have hv := G.2.2
      simp only [Dm.val] at hv
      refine does_call has_ntext _ (by simp only [List.map_toArray, List.map_cons, List.map_nil, e, List.length_nil]) ((Dm.rtext_zero w ao cap).mono ?_)
      rintro e w' ⟨ds, rfl, hd, hb⟩
      refine ⟨_, rfl, hb, ?_⟩
      rw [txt, if_neg hz, ← hv, ← dig_eq hd]
      rfl
end
section
variable {dst : Option Tmp} {ty : TypeId} {pos : String} {after : Array Edge} {guard : Option (Nat × Bool)} {a : Act} {w : World} {ats : Array TypeId} {i j : Nat} {z : Int} {L : Nat}
theorem num_w (w : World) (u : Int) : Calls Tryd.prog 16 #[.int .i64 u] w fun e w' => e = .returned (.int .i64 u) ∧ w' = w := by
  go_enter Tryd.func16, Tryd.ntmps16
  go_wp2
  go_ret
  exact ⟨rfl, rfl⟩
theorem has_num0 : Has Tryd.prog 16 := by unfold Has; kernel_rfl
theorem op_num0 {u : Int} (h : a.eval (.tmp i) = .int .i64 u) :
    Does Tryd.prog { dst, op := .call { callee := .value (.func 16), args := #[.tmp i], argTypes := ats }, type := ty, pos, after, guard } a.eval w fun v w' => Below w.heap.size w w' ∧ Eqs (.int .i64 u) v w' := by
  refine does_call has_num0 _ (by simp only [List.map_toArray, List.map_cons, List.map_nil, h]) ((num_w w u).mono ?_)
  rintro e w' ⟨rfl, rfl⟩
  exact ⟨_, rfl, Below.refl _ _, rfl⟩
theorem has_wparse : Has Tryd.prog 11 := by unfold Has; kernel_rfl
theorem op_wparse {s : ByteArray} (h : a.eval (.tmp i) = .string s) (hT : Tabs w) :
    Does Tryd.prog { dst, op := .call { callee := .value (.func 11), args := #[.tmp i], argTypes := ats }, type := ty, pos, after, guard } a.eval w fun v w' => Below w.heap.size w w' ∧ Tup2 (OutW (zOf s) 6000) (Eqs (.int .i64 (eOf s))) v w' := by
  refine does_call has_wparse _ (by simp only [List.map_toArray, List.map_cons, List.map_nil, h]) ((wparse_z w s hT).mono ?_)
  rintro e w' ⟨v, rfl, ht, hb⟩
  exact ⟨_, rfl, hb, ht⟩
end
end Lm
end Go.Proofs.YtdiiankcjgoecaaDoor

namespace Go.Proofs.YtdiiankcjgoecaaDoor
namespace Lm
open Go Go.RowKit
open Dm (Err Fine)
theorem bytes_strOf8 {ds : List Int} (h : ∀ c ∈ ds, 0 ≤ c ∧ c < 256) : bytesOf (strOfNums ds) = ds := by
  rw [bytesOf, strOfNums_data, List.map_map]
  conv => rhs; rw [← List.map_id ds]
  apply List.map_congr_left
  intro c hc
  have := h c hc
  simp only [Function.comp_apply, id]
  have e : (UInt8.ofNat c.toNat).toNat = c.toNat := by
    simp
    omega
  rw [e]
  omega
theorem dec_ex (n : Nat) : ∃ ds, IsDec ds (n : Int) := by
  induction n using Nat.strongRecOn with
  | _ n ih =>
    by_cases h : n < 10
    · refine ⟨[48 + (n : Int)], dig_cons.2 ⟨by omega, dig_nil⟩, by simp [dval, p10]; omega, ?_⟩
      by_cases h0 : n = 0
      · subst h0; exact .inl ⟨rfl, rfl⟩
      · exact .inr ⟨_, _, rfl, by omega⟩
    · obtain ⟨ds, h1, h2, h3⟩ := ih (n / 10) (by omega)
      refine ⟨ds ++ [48 + ((n % 10 : Nat) : Int)], dig_snoc h1 (by omega) (by omega), by rw [dval_snoc, h2]; omega, .inr ?_⟩
      rcases h3 with ⟨h3, _⟩ | ⟨c, cs, rfl, hc⟩
      · omega
      · exact ⟨c, cs ++ [48 + ((n % 10 : Nat) : Int)], rfl, hc⟩
theorem dig_dec (n : Nat) : IsDec (dig (n : Int)) (n : Int) := by
  obtain ⟨ds, h⟩ := dec_ex n
  rw [← dig_eq h]
  exact h
theorem isDec_len {ds : List Int} {x : Int} {n : Nat} (h : IsDec ds x) (hx : x < p10 n) (hn : 1 ≤ n) : ds.length ≤ n := by
  rcases h.2.2 with ⟨_, rfl⟩ | ⟨c, cs, rfl, hc⟩
  · simpa using hn
  · have h1 := h.1 c (by simp)
    have h2 := h.2.1
    simp only [dval] at h2
    have h3 := (dval_bounds (show Dig cs from fun y hy => h.1 y (by simp [hy]))).1
    apply Classical.byContradiction
    intro hl
    have h4 := p10_mono (m := n) (n := cs.length) (by simp at hl; omega)
    have h5 : 1 * p10 cs.length ≤ (c - 48) * p10 cs.length := Int.mul_le_mul_of_nonneg_right (by omega) (by have := p10_pos cs.length; omega)
    omega
theorem dig8 {x : Int} {ds : List Int} (h : IsDec ds x) : ∀ c ∈ ds, 0 ≤ c ∧ c < 256 := fun c hc => by have := h.1 c hc; omega
theorem txt_pos {z : Int} (h : ¬ z < 0) : bytesOf (txt z) = dig (z.natAbs : Int) := by
  rw [txt, if_neg h, bytes_strOf8 (dig8 (dig_dec _))]
theorem txt_neg {z : Int} (h : z < 0) : bytesOf (txt z) = 45 :: dig (z.natAbs : Int) := by
  rw [txt, if_pos h, bytes_strOf8]
  intro c hc
  rcases List.mem_cons.1 hc with rfl | hc
  · omega
  · exact dig8 (dig_dec _) c hc
end Lm
end Go.Proofs.YtdiiankcjgoecaaDoor

namespace Go.Proofs.YtdiiankcjgoecaaDoor
namespace Lm
open Go Go.RowKit
def over (s : ByteArray) : ByteArray := ⟨(Lib.cut s.data.toList [47]).1.toArray⟩
def und (s : ByteArray) : ByteArray := ⟨(Lib.cut s.data.toList [47]).2.1.toArray⟩
def fnd (s : ByteArray) : Bool := (Lib.cut s.data.toList [47]).2.2
theorem index_slash : ∀ (l : List UInt8) (k : Nat), (∀ i, i < k → l[i]? ≠ some 47) → k ≤ l.length → (k = l.length ∨ l[k]? = some 47) → Lib.index l [47] = if k < l.length then (k : Int) else -1
  | [], k, _, hk, _ => by
    have : k = 0 := by simpa using hk
    subst this
    simp [Lib.index]
  | b :: l, k, h, hk, h2 => by
    by_cases hb : b = 47
    · have hk0 : k = 0 := by
        apply Classical.byContradiction
        intro hn
        exact h 0 (by omega) (by simp [hb])
      subst hk0 hb
      simp [Lib.index, List.isPrefixOf]
    · have hk1 : 0 < k := by
        apply Nat.pos_of_ne_zero
        intro hn
        subst hn
        rcases h2 with h2 | h2
        · simp at h2
        · simp at h2; exact hb h2
      obtain ⟨j, rfl⟩ : ∃ j, k = j + 1 := ⟨k - 1, by omega⟩
      have ih := index_slash l j (fun i hi => by have := h (i + 1) (by omega); simpa using this) (by simp at hk; omega) (by simpa using h2)
      have hp : [47].isPrefixOf (b :: l) = false := by
        simp only [List.isPrefixOf, Bool.and_true]
        exact beq_eq_false_iff_ne.2 (fun e => hb e.symm)
      by_cases hj : j < l.length
      · rw [if_pos hj] at ih
        have h3 : ((j : Int) == -1) = false := beq_eq_false_iff_ne.2 (by omega)
        simp only [Lib.index, hp, ih, h3, List.length_cons, Bool.false_eq_true, if_false]
        rw [if_pos (by omega)]
        omega
      · rw [if_neg hj] at ih
        simp only [Lib.index, hp, ih, List.length_cons, Bool.false_eq_true, if_false, beq_self_eq_true, if_true]
        rw [if_neg (by omega)]
theorem byte_at {s : ByteArray} {k : Nat} (hk : k < s.size) : s.data.toList[k]? = some (s.get! k) := by
  rw [Array.getElem?_toList, Array.getElem?_eq_getElem (by simpa using hk), Utf8W.get!_of_lt s k hk]
  rfl
theorem ext_list {s t : ByteArray} (h : s.data.toList = t.data.toList) : s = t := by
  apply ByteArray.ext
  exact Array.toList_inj.1 h
theorem cut_at {s : ByteArray} {k : Nat} (h : ∀ i, i < k → ((s.get! i).toNat : Int) ≠ 47) (hk : k ≤ s.size) (h2 : k = s.size ∨ ((s.get! k).toNat : Int) = 47) : over s = s.extract 0 k ∧ fnd s = decide (k < s.size) ∧ (k < s.size → und s = s.extract (k + 1) s.size) := by
  have hl : s.data.toList.length = s.size := by simp
  have hi := index_slash s.data.toList k (fun i hi e => by
    rw [byte_at (by omega)] at e
    have := Option.some.inj e
    exact h i hi (by rw [this]; rfl)) (by omega) (by
      by_cases hks : k = s.size
      · exact .inl (by omega)
      · refine .inr ?_
        rw [byte_at (by omega)]
        rcases h2 with h2 | h2
        · exact absurd h2 hks
        · congr 1
          apply UInt8.toNat_inj.1
          show _ = 47
          omega)
  rw [hl] at hi
  unfold over und fnd Lib.cut
  rw [hi]
  by_cases hks : k < s.size
  · rw [if_pos hks, if_pos (by omega)]
    refine ⟨ext_list ?_, by simp [hks], fun _ => ext_list ?_⟩
    · rw [Lib.extract_data]
      simp
    · rw [Lib.extract_data]
      simp
      rw [List.take_of_length_le (by rw [List.length_drop, hl]; omega)]
  · rw [if_neg hks, if_neg (by omega)]
    refine ⟨ext_list ?_, by simp [hks], fun h => absurd h hks⟩
    rw [Lib.extract_data]
    have hke : k = s.size := by omega
    rw [List.drop_zero, List.take_of_length_le (by omega)]
end Lm
end Go.Proofs.YtdiiankcjgoecaaDoor

namespace Go.Proofs
open Go.Shelf
shelf_lay LaysM.n145 Nm 145 at Tryd as Tryd.laysM145
namespace YtdiiankcjgoecaaDoor
namespace Lm
open Go Go.RowKit
def TabsR (w : World) : Prop := Tabs w ∧ ∃ m, w.cell? ⟨Tryd.laysM145_ren.g 1, 0, none⟩ = some (.int .i64 m)
theorem TabsR.below {w w' : World} (h : TabsR w) (hb : Below w.heap.size w w') : TabsR w' :=
  ⟨h.1.below hb, let ⟨m, hm⟩ := h.2; ⟨m, (hb.cell (p := ⟨Tryd.laysM145_ren.g 1, 0, none⟩) (lt_of_cell hm)).trans hm⟩⟩
theorem tabsR_of {w : World} (h : Tabs w) (hs : w.ShapedOpen Tryd.prog) : TabsR w := ⟨h, Tryd.laysM145.s1_3 w hs⟩
theorem scut_any (w : World) (s : ByteArray) (hT : TabsR w) (hs : s.size < 4294967281) :
    Calls Tryd.prog 57 #[.string s, .string ⟨#[47]⟩] w fun e w' => e = .returned (.tuple #[.string (over s), .string (und s), .bool (fnd s)]) ∧ Below w.heap.size w w' := by
  obtain ⟨m, hm⟩ := hT.2
  refine (Any.strings_Cut { Tryd.laysM145 with } s ⟨#[47]⟩ m w hs hm).mono ?_
  rintro e w' ⟨rfl, n, rfl⟩
  exact ⟨rfl, ⟨rfl, rfl, rfl, Nat.le_refl _, fun _ _ => rfl⟩⟩
end Lm
end YtdiiankcjgoecaaDoor
end Go.Proofs

namespace Go.Proofs.YtdiiankcjgoecaaDoor
namespace Lm
open Go Go.RowKit
section
variable {dst : Option Tmp} {ty : TypeId} {pos : String} {after : Array Edge} {guard : Option (Nat × Bool)} {a : Act} {w : World} {ats : Array TypeId} {i j : Nat} {z : Int} {L : Nat}
theorem has_cut : Has Tryd.prog 57 := by unfold Has; kernel_rfl
theorem op_cut {s : ByteArray} (h : a.eval (.tmp i) = .string s) (hT : TabsR w) (hs : s.size < 4294967281) :
    Does Tryd.prog { dst, op := .call { callee := .value (.func 57), args := #[.tmp i, .const (.string ⟨#[47]⟩)], argTypes := ats }, type := ty, pos, after, guard } a.eval w fun v w' => Below w.heap.size w w' ∧ Tup3 (Eqs (.string (over s))) (Eqs (.string (und s))) (Eqs (.bool (fnd s))) v w' := by
  refine does_call has_cut _ (by simp only [List.map_toArray, List.map_cons, List.map_nil, h]; rfl) ((scut_any w s hT hs).mono ?_)
  rintro e w' ⟨rfl, hb⟩
  exact ⟨_, rfl, hb, _, _, _, rfl, rfl, rfl, rfl⟩
theorem op_inck0 {k : Nat} (h1 : a.eval (.tmp i) = .int .i64 (k : Int)) (h : k < 9223372036854775807) :
    Does Tryd.prog { dst, op := .binOp .add 3 (.tmp i) (.const (.int .i64 1)) 3, type := ty, pos, after, guard } a.eval w fun v' w' => Below w.heap.size w w' ∧ Eqs (.int .i64 ((k + 1 : Nat) : Int)) v' w' := by
  refine does_bin (v := .int .i64 ((k + 1 : Nat) : Int)) ?_ ?_ ⟨Below.refl _ _, rfl⟩
  · rw [h1]; simp [go_sem, Act.eval]
  · rw [h1]; simp [go_sem, Act.eval]; exact wrap64 (by omega) (by omega)
theorem op_eqli {u v : Int} (h1 : a.eval (.tmp i) = .int .i64 u) (h2 : a.eval (.tmp j) = .int .i64 v) :
    Does Tryd.prog { dst, op := .binOp .eql 3 (.tmp i) (.tmp j) 3, type := ty, pos, after, guard } a.eval w fun v' w' => Below w.heap.size w w' ∧ Eqs (.bool (decide (u = v))) v' w' := by
  refine does_bin (v := .bool (decide (u = v))) ?_ ?_ ⟨Below.refl _ _, rfl⟩
  · rw [h1, h2]; simp [go_sem]
  · rw [h1, h2]; simp [go_sem]; rfl
theorem op_neq8d {u v : Int} (h1 : a.eval (.tmp i) = .int .u8 u) :
    Does Tryd.prog { dst, op := .binOp .neq 5 (.tmp i) (.const (.int .u8 v)) 5, type := ty, pos, after, guard } a.eval w fun v' w' => Below w.heap.size w w' ∧ Eqs (.bool (decide (u ≠ v))) v' w' := by
  refine does_bin (v := .bool (decide (u ≠ v))) ?_ ?_ ⟨Below.refl _ _, rfl⟩
  · rw [h1]; simp [go_sem, Act.eval]
  · rw [h1]; simp [go_sem, Act.eval]; rfl
theorem op_idxt {s : ByteArray} {k : Nat} (h : a.eval (.tmp i) = .string s) (hc : a.eval (.tmp j) = .int .i64 (k : Int)) (hk : k < s.size) : Does Tryd.prog { dst, op := .index 9 (.tmp i) (.tmp j), type := ty, pos, after, guard } a.eval w fun v' w' => Below w.heap.size w w' ∧ Eqs (.int .u8 ((s.get! k).toNat : Int)) v' w' := by
  have e : (execOp a.eval { dst, op := .index 9 (.tmp i) (.tmp j), type := ty, pos, after, guard }).run Tryd.prog w = .ok (.value (.int .u8 ((s.get! k).toNat : Int))) w := by
    simp only [execOp, h, hc]
    go_simp
    rw [Utf8W.get!_of_lt s k hk]
  refine ⟨?_⟩
  unfold Turns
  rw [e]
  exact ⟨Below.refl _ _, rfl⟩
theorem op_slhs {s t : ByteArray} {x : Operand} {k : Nat} (h : a.eval (.tmp i) = .string s) (hx : a.eval x = .int .i64 (k : Int)) (hk : k ≤ s.size) (ht : t = s.extract 0 k) : Does Tryd.prog { dst, op := .slice 9 (.tmp i) none (some x) none, type := ty, pos, after, guard } a.eval w fun v' w' => Below w.heap.size w w' ∧ Eqs (.string t) v' w' := by
  subst ht
  have e : (execOp a.eval { dst, op := .slice 9 (.tmp i) none (some x) none, type := ty, pos, after, guard }).run Tryd.prog w = .ok (.value (.string (s.extract 0 k))) w := by
    simp only [execOp, Option.map, h, hx]
    go_simp
  refine ⟨?_⟩
  unfold Turns
  rw [e]
  exact ⟨Below.refl _ _, rfl⟩
theorem op_sllo {s t : ByteArray} {x : Operand} {k : Nat} (h : a.eval (.tmp i) = .string s) (hx : a.eval x = .int .i64 (k : Int)) (hk : k ≤ s.size) (ht : t = s.extract k s.size) : Does Tryd.prog { dst, op := .slice 9 (.tmp i) (some x) none none, type := ty, pos, after, guard } a.eval w fun v' w' => Below w.heap.size w w' ∧ Eqs (.string t) v' w' := by
  subst ht
  exact op_slst h hx hk
theorem op_addsk {c s : ByteArray} (h1 : a.eval (.tmp i) = .string s) (hs : (s ++ c).size ≤ 1000000) :
    Does Tryd.prog { dst, op := .binOp .add 9 (.tmp i) (.const (.string c)) 9, type := ty, pos, after, guard } a.eval w fun v' w' => Below w.heap.size w w' ∧ Eqs (.string (s ++ c)) v' w' := by
  have hs' : s.size + c.size ≤ 1000000 := by rw [← ByteArray.size_append]; exact hs
  refine does_bin (v := .string (s ++ c)) ?_ ?_ ⟨Below.refl _ _, rfl⟩
  · rw [h1]; simp [go_sem, Act.eval]
  · rw [h1]; simp [Act.eval]; go_simp; omega
theorem op_addst {c s : ByteArray} (h1 : a.eval (.tmp i) = .string s) (h2 : a.eval (.tmp j) = .string c) (hs : (s ++ c).size ≤ 1000000) :
    Does Tryd.prog { dst, op := .binOp .add 9 (.tmp i) (.tmp j) 9, type := ty, pos, after, guard } a.eval w fun v' w' => Below w.heap.size w w' ∧ Eqs (.string (s ++ c)) v' w' := by
  have hs' : s.size + c.size ≤ 1000000 := by rw [← ByteArray.size_append]; exact hs
  refine does_bin (v := .string (s ++ c)) ?_ ?_ ⟨Below.refl _ _, rfl⟩
  · rw [h1, h2]; simp [go_sem]
  · rw [h1, h2]; go_simp; omega
theorem has_ltext0 : Has Tryd.prog 47 := by unfold Has; kernel_rfl
theorem op_ltxt (h : IsL z L (a.eval (.tmp i)) w) (hL : L ≤ 1000000) :
    Does Tryd.prog { dst, op := .call { callee := .value (.func 47), args := #[.tmp i], argTypes := ats }, type := ty, pos, after, guard } a.eval w fun v w' => Below w.heap.size w w' ∧ Eqs (.string (txt z)) v w' := by
  obtain ⟨ao, n, cap, zs, e, S, V, l⟩ := h
  refine does_call has_ltext0 _ (by simp only [List.map_toArray, List.map_cons, List.map_nil, e]) ((text_any w ao n cap zs S (by omega)).mono ?_)
  rintro e w' ⟨ds, rfl, hd, hb⟩
  refine ⟨_, rfl, hb, ?_⟩
  have h0 : 0 ≤ z := by rw [← V]; exact (val_bounds S.parts.2.2.2).1
  rw [V, show z = (z.natAbs : Int) by omega] at hd
  rw [txt, if_neg (by omega), ← dig_eq hd]
  rfl
end
theorem txt_le {z : Int} {n : Nat} (h : (z.natAbs : Int) < p10 n) (hn : 1 ≤ n) : (txt z).size ≤ n + 1 := by
  have h1 := isDec_len (dig_dec z.natAbs) h hn
  by_cases hz : z < 0
  · rw [← bytesOf_length, txt_neg hz, List.length_cons]; omega
  · rw [← bytesOf_length, txt_pos hz]; omega
theorem wh_txt {w : World} {ng : Bool} {ao : Option Addr} {cap : Nat} {rs : List Int} {z : Int} (G : Wh w ng ao cap rs z) : (txt z).size ≤ 10 * rs.length + 2 := by
  have h1 := G.1.val
  have h2 := (val_bounds G.1.canon.1).2
  have h3 := pw_le_p10 rs.length
  have h4 := p10_mono (m := 10 * rs.length) (n := 10 * rs.length + 1) (by omega)
  have := txt_le (z := z) (n := 10 * rs.length + 1) (by omega) (by omega)
  omega
theorem got_txt {w : World} {ao : Option Addr} {cap : Nat} {rs : List Int} {z : Int} (G : Got w ao cap rs z) : (txt z).size ≤ 10 * rs.length + 2 := by
  have h1 := G.val
  have h2 := val_bounds G.canon.1
  have h3 := pw_le_p10 rs.length
  have h4 := p10_mono (m := 10 * rs.length) (n := 10 * rs.length + 1) (by omega)
  have := txt_le (z := z) (n := 10 * rs.length + 1) (by omega) (by omega)
  omega
theorem whn_txt {w : World} {ng : Bool} {ao : Option Addr} {cap : Nat} {rs : List Int} {z : Int} (G : Dm.Wh w ng ao cap rs z) : (txt z).size ≤ 4 * rs.length + 2 := by
  have h1 := G.1.2.2
  have h2 := (Dm.val_bounds G.1.2.1.1).2
  rw [Dm.pw_p10] at h2
  have h4 := p10_mono (m := 4 * rs.length) (n := 4 * rs.length + 1) (by omega)
  have := txt_le (z := z) (n := 4 * rs.length + 1) (by omega) (by omega)
  omega
noncomputable def rtxt (p q : Int) : ByteArray := if q = 1 then txt p else (txt p ++ ⟨#[47]⟩) ++ txt q
theorem rtxt1 {p q : Int} (h : q = 1) : rtxt p q = txt p := by rw [rtxt, if_pos h]
theorem rtxt2 {p q : Int} (h : q ≠ 1) : rtxt p q = (txt p ++ ⟨#[47]⟩) ++ txt q := by rw [rtxt, if_neg h]
theorem outr_zero0 (w : World) {L : Nat} : OutR 0 0 L (.agg #[.bool false, .slice none 0 0, .slice none 0 0]) w := ⟨false, none, 0, [], none, 0, [], rfl, ⟨⟨sl_nil w, canon_nil, rfl⟩, rfl⟩, ⟨sl_nil w, canon_nil, rfl⟩, by simp, by simp⟩
open Classical in
noncomputable def rAns (s : ByteArray) : Int × Int × Int :=
  if (10240 : Int) < (s.size : Int) then (0, 0, 2) else if eOf (over s) ≠ 0 then (0, 0, eOf (over s)) else if fnd s = false then (zOf (over s), 1, 0) else if kOf (und s) ≠ 0 then (0, 0, kOf (und s)) else if xOf (und s) = 0 then (0, 0, 20) else (nm (zOf (over s)) (xOf (und s)), dn (zOf (over s)) (xOf (und s)), 0)
variable {s : ByteArray}
theorem ra1 (h : (10240 : Int) < (s.size : Int)) : rAns s = (0, 0, 2) := by rw [rAns, if_pos h]
theorem ra2 (h : ¬ (10240 : Int) < (s.size : Int)) (h2 : eOf (over s) ≠ 0) : rAns s = (0, 0, eOf (over s)) := by rw [rAns, if_neg h, if_pos h2]
theorem ra3 (h : ¬ (10240 : Int) < (s.size : Int)) (h2 : eOf (over s) = 0) (h3 : fnd s = false) : rAns s = (zOf (over s), 1, 0) := by rw [rAns, if_neg h, if_neg (fun h => h h2), if_pos h3]
theorem ra4 (h : ¬ (10240 : Int) < (s.size : Int)) (h2 : eOf (over s) = 0) (h3 : fnd s = true) (h4 : kOf (und s) ≠ 0) : rAns s = (0, 0, kOf (und s)) := by rw [rAns, if_neg h, if_neg (fun h => h h2), if_neg (by rw [h3]; simp), if_pos h4]
theorem ra5 (h : ¬ (10240 : Int) < (s.size : Int)) (h2 : eOf (over s) = 0) (h3 : fnd s = true) (h4 : kOf (und s) = 0) (h5 : xOf (und s) = 0) : rAns s = (0, 0, 20) := by rw [rAns, if_neg h, if_neg (fun h => h h2), if_neg (by rw [h3]; simp), if_neg (fun h => h h4), if_pos h5]
theorem ra6 (h : ¬ (10240 : Int) < (s.size : Int)) (h2 : eOf (over s) = 0) (h3 : fnd s = true) (h4 : kOf (und s) = 0) (h5 : xOf (und s) ≠ 0) : rAns s = (nm (zOf (over s)) (xOf (und s)), dn (zOf (over s)) (xOf (und s)), 0) := by rw [rAns, if_neg h, if_neg (fun h => h h2), if_neg (by rw [h3]; simp), if_neg (fun h => h h4), if_neg h5]
set_option maxRecDepth 20000 in
set_option maxHeartbeats 2000000 in
theorem rparse_z (w : World) (s : ByteArray) (hT : TabsR w) :
    Calls Tryd.prog 24 #[.string s] w fun e w' => ∃ v, e = .returned v ∧ Tup2 (OutR (rAns s).1 (rAns s).2.1 24000) (Eqs (.int .i64 (rAns s).2.2)) v w' ∧ Below w.heap.size w w' := by
  go_enter Tryd.func24, Tryd.ntmps24
  generalize hA : (Act.mk _ _) = aa
  have hn : aa.tmps.size = 48 := by rw [← hA]; rfl
  have hd : aa.defers = [] := by rw [← hA]
  have f0 : aa.eval (.tmp 0) = .string s := by rw [← hA]; rfl
  clear hA
  have HB : Below w.heap.size w w := Below.refl _ _
  refine wp_seq ?_
  refine region4 [some 2, some 3] [(fun _ _ => True), Eqs ((.int .i64 0))] [⟨R3, some 0, 0, 2, .agg #[.bool false, .slice none 0 0, .slice none 0 0], none, []⟩] [] (by kernel_rfl) hn rfl (by kernel_rfl) (by kernel_rfl) (by kernel_rfl) (by kernel_rfl) (by kernel_rfl) (by kernel_rfl) ⟨True.mono4, Eqs.mono4 _, trivial⟩ (ok_cons R3ok ok_nil) (IsOld.all (bx := [⟨R3, some 0, 0, 2, .agg #[.bool false, .slice none 0 0, .slice none 0 0], none, []⟩]) ⟨someNe, trivial⟩) (DisOld.all (bx := [⟨R3, some 0, 0, 2, .agg #[.bool false, .slice none 0 0, .slice none 0 0], none, []⟩]) ⟨someNe, trivial⟩) ?_ ?_
  · exact ⟨.alloc 0 _ rfl rfl (.inl ⟨rfl, rfl⟩) rfl rfl rfl rfl rfl,
      .norm 3 rfl rfl rfl (fun a_ w_ hn_ hBt hr hR hD hO hS => op_assign rfl),
      trivial⟩
  intro a1 w1 gs1 hn1 hd1 hBt hr hR hP hX hU
  replace hn := hn1; replace hd := hd1.trans hd
  have b2 : BoxV R3 w1 (gs1 0) (.agg #[.bool false, .slice none 0 0, .slice none 0 0]) := (hX 0 _ rfl).2.2.2
  have f2 := (hX 0 _ rfl).1
  have u2 : w.heap.size ≤ gs1 0 := Nat.le_trans HB.size ((hX 0 _ rfl).2.2.1 (by simp))
  replace f0 := (hR 0 rfl).trans f0
  have e3 : a1.eval (.tmp 3) = (.int .i64 0) := hP 1 (by decide)
  have f3 := e3
  replace HB := HB.trans (hBt.below HB.size (UpOld.all (bx := [⟨R3, some 0, 0, 2, .agg #[.bool false, .slice none 0 0, .slice none 0 0], none, []⟩]) ⟨someNe, trivial⟩))
  clear hBt hr hR hP hX hU
  refine wp_seq ?_
  refine wp_seq ?_
  refine region4 [some 10, some 11, some 12] [Eqs (.string s), Eqs (.int .i64 ((s).size : Int)), Eqs (.bool (decide (10240 < ((s).size : Int))))] [] [] (by kernel_rfl) hn rfl (by kernel_rfl) (by kernel_rfl) (by kernel_rfl) (by kernel_rfl) (by kernel_rfl) (by kernel_rfl) ⟨Eqs.mono4 _, Eqs.mono4 _, Eqs.mono4 _, trivial⟩ ok_nil (IsOld.all (bx := []) trivial) (DisOld.all (bx := []) trivial) ?_ ?_
  · exact ⟨.norm 10 rfl rfl rfl (fun a_ w_ hn_ hBt hr hR hD hO hS => op_mv ((hR 0 rfl).trans f0)),
      .norm 11 rfl rfl rfl (fun a_ w_ hn_ hBt hr hR hD hO hS => op_lens (show a_.eval (.tmp 10) = .string s from hD 0 rfl)),
      .norm 12 rfl rfl rfl (fun a_ w_ hn_ hBt hr hR hD hO hS => op_gtrk (show a_.eval (.tmp 11) = .int .i64 ((s).size : Int) from hD 1 rfl)),
      trivial⟩
  intro a2 w2 gs2 hn2 hd2 hBt hr hR hP hX hU
  replace hn := hn2; replace hd := hd2.trans hd
  replace b2 := b2.keep hBt trivial
  replace f0 := (hR 0 rfl).trans f0
  replace f2 := (hR 2 rfl).trans f2
  replace f3 := (hR 3 rfl).trans f3
  have e12 : a2.eval (.tmp 12) = .bool (decide (10240 < ((s).size : Int))) := hP 2 (by decide)
  have f12 := e12
  replace HB := HB.trans (hBt.below HB.size (UpOld.all (bx := []) trivial))
  clear hBt hr hR hP hX hU
  refine wp_cond_split f12 (fun hc12 => ?_) (fun hc12 => ?_)
  · skip
    have hsz := of_decide_eq_true hc12
    refine wp_seq ?_
    refine region4 [some 13, none, some 3] [Eqs (.agg #[.bool false, .slice none 0 0, .slice none 0 0]), (fun _ _ => True), Eqs ((.int .i64 2))] [⟨R3, none, (gs1 0), 2, .agg #[.bool false, .slice none 0 0, .slice none 0 0], some (1, 13, 0), []⟩] [] (by kernel_rfl) hn rfl (by kernel_rfl) (by kernel_rfl) (by kernel_rfl) (by kernel_rfl) (by kernel_rfl) (by kernel_rfl) ⟨Eqs.mono4 _, True.mono4, Eqs.mono4 _, trivial⟩ (ok_cons R3ok ok_nil) (IsOld.all (bx := [⟨R3, none, (gs1 0), 2, .agg #[.bool false, .slice none 0 0, .slice none 0 0], some (1, 13, 0), []⟩]) ⟨fun _ => ⟨f2, b2⟩, trivial⟩) (DisOld.all (bx := [⟨R3, none, (gs1 0), 2, .agg #[.bool false, .slice none 0 0, .slice none 0 0], some (1, 13, 0), []⟩]) ⟨fun _ => trivial, trivial⟩) ?_ ?_
    · exact ⟨.norm 13 rfl rfl rfl (fun a_ w_ hn_ hBt hr hR hD hO hS => op_bR0),
        .store 0 _ _ _ rfl rfl rfl rfl rfl rfl rfl (fun ia h => by cases h) rfl rfl rfl (eqs_cs r3_cs),
        .norm 3 rfl rfl rfl (fun a_ w_ hn_ hBt hr hR hD hO hS => op_assign rfl),
        trivial⟩
    intro a3 w3 gs3 hn3 hd3 hBt hr hR hP hX hU
    replace hn := hn3; replace hd := hd3.trans hd
    have e13 : a3.eval (.tmp 13) = .agg #[.bool false, .slice none 0 0, .slice none 0 0] := hP 0 (by decide)
    have b2 : BoxV R3 w3 ((gs1 0)) (.agg #[.bool false, .slice none 0 0, .slice none 0 0]) := boxv_old ((hX 0 _ rfl).2.1 rfl) (hX 0 _ rfl).2.2.2 e13
    replace f2 : a3.eval (.tmp 2) = _ := (hR 2 rfl).trans f2
    replace f0 := (hR 0 rfl).trans f0
    have e3 : a3.eval (.tmp 3) = (.int .i64 2) := hP 2 (by decide)
    have f3 := e3
    replace HB := HB.trans (hBt.below HB.size (UpOld.all (bx := [⟨R3, none, (gs1 0), 2, .agg #[.bool false, .slice none 0 0, .slice none 0 0], some (1, 13, 0), []⟩]) ⟨fun _ => u2, trivial⟩))
    clear hBt hr hR hP hX hU
    refine wp_ret ?_
    repeat (first | refine then_ret ?_ | refine scope_ret ?_ | refine block_ret ?_)
    exact bodyPost_ret (v := .tuple #[.agg #[.bool false, .slice none 0 0, .slice none 0 0], (.int .i64 2)]) (res_ct rfl f2 (lv_R3 b2) f3) hd ⟨_, rfl, ⟨_, _, rfl, by rw [ra1 hsz]; exact outr_zero0 _, by rw [ra1 hsz]; rfl⟩, HB⟩
  · skip
    have hsz := of_decide_eq_false hc12
    refine wp_skip ?_
    refine wp_seq ?_
    refine region4 [some 15, some 16, some 14, some 17, some 18, some 19, some 4, some 5, some 6] [Eqs (.string s), Tup3 (Eqs (.string (over s))) (Eqs (.string (und s))) (Eqs (.bool (fnd s))), Tup3 (Eqs (.string (over s))) (Eqs (.string (und s))) (Eqs (.bool (fnd s))), Eqs (.string (over s)), Eqs (.string (und s)), Eqs (.bool (fnd s)), Eqs (.string (over s)), Eqs (.string (und s)), Eqs (.bool (fnd s))] [] [] (by kernel_rfl) hn rfl (by kernel_rfl) (by kernel_rfl) (by kernel_rfl) (by kernel_rfl) (by kernel_rfl) (by kernel_rfl) ⟨Eqs.mono4 _, Tup3.mono4 (Eqs.mono4 _) (Eqs.mono4 _) (Eqs.mono4 _), Tup3.mono4 (Eqs.mono4 _) (Eqs.mono4 _) (Eqs.mono4 _), Eqs.mono4 _, Eqs.mono4 _, Eqs.mono4 _, Eqs.mono4 _, Eqs.mono4 _, Eqs.mono4 _, trivial⟩ ok_nil (IsOld.all (bx := []) trivial) (DisOld.all (bx := []) trivial) ?_ ?_
    · exact ⟨.norm 15 rfl rfl rfl (fun a_ w_ hn_ hBt hr hR hD hO hS => op_mv ((hR 0 rfl).trans f0)),
        .norm 16 rfl rfl rfl (fun a_ w_ hn_ hBt hr hR hD hO hS => op_cut (show a_.eval (.tmp 15) = .string s from hD 0 rfl) (hT.below (HB.trans (hBt.below HB.size (UpOld.all (bx := []) trivial)))) (by omega)),
        .norm 14 rfl rfl rfl (fun a_ w_ hn_ hBt hr hR hD hO hS => op_mvp (p := Tup3 (Eqs (.string (over s))) (Eqs (.string (und s))) (Eqs (.bool (fnd s)))) (show Tup3 (Eqs (.string (over s))) (Eqs (.string (und s))) (Eqs (.bool (fnd s))) (a_.eval (.tmp 16)) w_ from hD 1 rfl)),
        .norm 17 rfl rfl rfl (fun a_ w_ hn_ hBt hr hR hD hO hS => op_ex30 (show Tup3 (Eqs (.string (over s))) (Eqs (.string (und s))) (Eqs (.bool (fnd s))) (a_.eval (.tmp 14)) w_ from hD 2 rfl)),
        .norm 18 rfl rfl rfl (fun a_ w_ hn_ hBt hr hR hD hO hS => op_ex31 (show Tup3 (Eqs (.string (over s))) (Eqs (.string (und s))) (Eqs (.bool (fnd s))) (a_.eval (.tmp 14)) w_ from hD 2 rfl)),
        .norm 19 rfl rfl rfl (fun a_ w_ hn_ hBt hr hR hD hO hS => op_ex32 (show Tup3 (Eqs (.string (over s))) (Eqs (.string (und s))) (Eqs (.bool (fnd s))) (a_.eval (.tmp 14)) w_ from hD 2 rfl)),
        .norm 4 rfl rfl rfl (fun a_ w_ hn_ hBt hr hR hD hO hS => op_assign (show a_.eval (.tmp 17) = .string (over s) from hD 3 rfl)),
        .norm 5 rfl rfl rfl (fun a_ w_ hn_ hBt hr hR hD hO hS => op_assign (show a_.eval (.tmp 18) = .string (und s) from hD 4 rfl)),
        .norm 6 rfl rfl rfl (fun a_ w_ hn_ hBt hr hR hD hO hS => op_assign (show a_.eval (.tmp 19) = .bool (fnd s) from hD 5 rfl)),
        trivial⟩
    intro a4 w4 gs4 hn4 hd4 hBt hr hR hP hX hU
    replace hn := hn4; replace hd := hd4.trans hd
    replace b2 := b2.keep hBt trivial
    replace f2 := (hR 2 rfl).trans f2
    replace f3 := (hR 3 rfl).trans f3
    have e4 : a4.eval (.tmp 4) = .string (over s) := hP 6 (by decide)
    have f4 := e4
    have e5 : a4.eval (.tmp 5) = .string (und s) := hP 7 (by decide)
    have f5 := e5
    have e6 : a4.eval (.tmp 6) = .bool (fnd s) := hP 8 (by decide)
    have f6 := e6
    replace HB := HB.trans (hBt.below HB.size (UpOld.all (bx := []) trivial))
    clear hBt hr hR hP hX hU
    refine wp_seq ?_
    refine region4 [some 21, some 22, some 20, some 23, some 24, some 7, none, some 8] [Eqs (.string (over s)), Tup2 (OutW (zOf (over s)) (6000)) (Eqs (.int .i64 (eOf (over s)))), Tup2 (OutW (zOf (over s)) (6000)) (Eqs (.int .i64 (eOf (over s)))), OutW (zOf (over s)) (6000), Eqs (.int .i64 (eOf (over s))), (fun _ _ => True), (fun _ _ => True), Eqs (.int .i64 (eOf (over s)))] [⟨W2, some 5, 0, 7, .agg #[.bool false, .slice none 0 0], some (6, 23, 3), []⟩] [] (by kernel_rfl) hn rfl (by kernel_rfl) (by kernel_rfl) (by kernel_rfl) (by kernel_rfl) (by kernel_rfl) (by kernel_rfl) ⟨Eqs.mono4 _, Tup2.mono4 (OutW.mono4 _ _) (Eqs.mono4 _), Tup2.mono4 (OutW.mono4 _ _) (Eqs.mono4 _), OutW.mono4 _ _, Eqs.mono4 _, True.mono4, True.mono4, Eqs.mono4 _, trivial⟩ (ok_cons W2ok ok_nil) (IsOld.all (bx := [⟨W2, some 5, 0, 7, .agg #[.bool false, .slice none 0 0], some (6, 23, 3), []⟩]) ⟨someNe, trivial⟩) (DisOld.all (bx := [⟨W2, some 5, 0, 7, .agg #[.bool false, .slice none 0 0], some (6, 23, 3), []⟩]) ⟨someNe, trivial⟩) ?_ ?_
    · exact ⟨.norm 21 rfl rfl rfl (fun a_ w_ hn_ hBt hr hR hD hO hS => op_mv ((hR 4 rfl).trans f4)),
        .norm 22 rfl rfl rfl (fun a_ w_ hn_ hBt hr hR hD hO hS => op_wparse (show a_.eval (.tmp 21) = .string (over s) from hD 0 rfl) (hT.below (HB.trans (hBt.below HB.size (UpOld.all (bx := [⟨W2, some 5, 0, 7, .agg #[.bool false, .slice none 0 0], some (6, 23, 3), []⟩]) ⟨someNe, trivial⟩)))).1),
        .norm 20 rfl rfl rfl (fun a_ w_ hn_ hBt hr hR hD hO hS => op_mvp (p := Tup2 (OutW (zOf (over s)) (6000)) (Eqs (.int .i64 (eOf (over s))))) (show Tup2 (OutW (zOf (over s)) (6000)) (Eqs (.int .i64 (eOf (over s)))) (a_.eval (.tmp 22)) w_ from hD 1 rfl)),
        .norm 23 rfl rfl rfl (fun a_ w_ hn_ hBt hr hR hD hO hS => op_ex20 (show Tup2 (OutW (zOf (over s)) (6000)) (Eqs (.int .i64 (eOf (over s)))) (a_.eval (.tmp 20)) w_ from hD 2 rfl)),
        .norm 24 rfl rfl rfl (fun a_ w_ hn_ hBt hr hR hD hO hS => op_ex21 (show Tup2 (OutW (zOf (over s)) (6000)) (Eqs (.int .i64 (eOf (over s)))) (a_.eval (.tmp 20)) w_ from hD 2 rfl)),
        .alloc 0 _ rfl rfl (.inl ⟨rfl, rfl⟩) rfl rfl rfl rfl rfl,
        .store 0 _ _ _ rfl rfl rfl rfl rfl rfl rfl (fun ia h => by cases h; rfl) rfl rfl rfl OutW.cs,
        .norm 8 rfl rfl rfl (fun a_ w_ hn_ hBt hr hR hD hO hS => op_assign (show a_.eval (.tmp 24) = .int .i64 (eOf (over s)) from hD 4 rfl)),
        trivial⟩
    intro a5 w5 gs5 hn5 hd5 hBt hr hR hP hX hU
    replace hn := hn5; replace hd := hd5.trans hd
    have ne2_7 : (gs1 0) ≠ gs5 0 := by have h1 := b2.lt; have h2 := (hX 0 _ rfl).2.2.1 (by simp); omega
    replace b2 := b2.keep hBt ⟨someNe, trivial⟩
    obtain ⟨n_6, a_6, c_6, r_6, e23, G6, l6⟩ : OutW (zOf (over s)) (6000) (a5.eval (.tmp 23)) w5 := hP 3 (by decide)
    have A6 := G6.ag
    have b7 : BoxV W2 w5 (gs5 0) (.agg #[.bool n_6, .slice a_6 r_6.length c_6]) := boxv_of (hX 0 _ rfl).2.2.2 e23
    have f7 := (hX 0 _ rfl).1
    have u7 : w.heap.size ≤ gs5 0 := Nat.le_trans HB.size ((hX 0 _ rfl).2.2.1 (by simp))
    replace f2 := (hR 2 rfl).trans f2
    replace f3 := (hR 3 rfl).trans f3
    replace f5 := (hR 5 rfl).trans f5
    replace f6 := (hR 6 rfl).trans f6
    have e8 : a5.eval (.tmp 8) = .int .i64 (eOf (over s)) := hP 7 (by decide)
    have f8 := e8
    replace HB := HB.trans (hBt.below HB.size (UpOld.all (bx := [⟨W2, some 5, 0, 7, .agg #[.bool false, .slice none 0 0], some (6, 23, 3), []⟩]) ⟨someNe, trivial⟩))
    clear hBt hr hR hP hX hU
    refine wp_seq ?_
    refine wp_seq ?_
    refine region4 [some 25, some 26] [Eqs (.int .i64 (eOf (over s))), Eqs (.bool (!decide ((eOf (over s)) = 0)))] [] [] (by kernel_rfl) hn rfl (by kernel_rfl) (by kernel_rfl) (by kernel_rfl) (by kernel_rfl) (by kernel_rfl) (by kernel_rfl) ⟨Eqs.mono4 _, Eqs.mono4 _, trivial⟩ ok_nil (IsOld.all (bx := []) trivial) (DisOld.all (bx := []) trivial) ?_ ?_
    · exact ⟨.norm 25 rfl rfl rfl (fun a_ w_ hn_ hBt hr hR hD hO hS => op_mv ((hR 8 rfl).trans f8)),
        .norm 26 rfl rfl rfl (fun a_ w_ hn_ hBt hr hR hD hO hS => op_neqkE (show a_.eval (.tmp 25) = .int .i64 (eOf (over s)) from hD 0 rfl)),
        trivial⟩
    intro a7 w7 gs7 hn7 hd7 hBt hr hR hP hX hU
    replace hn := hn7; replace hd := hd7.trans hd
    replace b2 := b2.keep hBt trivial
    replace b7 := b7.keep hBt trivial
    replace f2 := (hR 2 rfl).trans f2
    replace f3 := (hR 3 rfl).trans f3
    replace f5 := (hR 5 rfl).trans f5
    replace f6 := (hR 6 rfl).trans f6
    replace f7 := (hR 7 rfl).trans f7
    replace f8 := (hR 8 rfl).trans f8
    have e26 : a7.eval (.tmp 26) = .bool (!decide ((eOf (over s)) = 0)) := hP 1 (by decide)
    have f26 := e26
    replace G6 := G6.rl hr
    replace A6 := A6.rl hr
    replace HB := HB.trans (hBt.below HB.size (UpOld.all (bx := []) trivial))
    clear hBt hr hR hP hX hU
    refine wp_cond_split f26 (fun hc26 => ?_) (fun hc26 => ?_)
    · skip
      have he0 : eOf (over s) ≠ 0 := by simpa using hc26
      refine wp_seq ?_
      refine region4 [some 27, some 28, none, some 3] [Eqs (.agg #[.bool false, .slice none 0 0, .slice none 0 0]), Eqs (.int .i64 (eOf (over s))), (fun _ _ => True), Eqs (.int .i64 (eOf (over s)))] [⟨R3, none, (gs1 0), 2, .agg #[.bool false, .slice none 0 0, .slice none 0 0], some (2, 27, 0), []⟩] [] (by kernel_rfl) hn rfl (by kernel_rfl) (by kernel_rfl) (by kernel_rfl) (by kernel_rfl) (by kernel_rfl) (by kernel_rfl) ⟨Eqs.mono4 _, Eqs.mono4 _, True.mono4, Eqs.mono4 _, trivial⟩ (ok_cons R3ok ok_nil) (IsOld.all (bx := [⟨R3, none, (gs1 0), 2, .agg #[.bool false, .slice none 0 0, .slice none 0 0], some (2, 27, 0), []⟩]) ⟨fun _ => ⟨f2, b2⟩, trivial⟩) (DisOld.all (bx := [⟨R3, none, (gs1 0), 2, .agg #[.bool false, .slice none 0 0, .slice none 0 0], some (2, 27, 0), []⟩]) ⟨fun _ => trivial, trivial⟩) ?_ ?_
      · exact ⟨.norm 27 rfl rfl rfl (fun a_ w_ hn_ hBt hr hR hD hO hS => op_bR0),
          .norm 28 rfl rfl rfl (fun a_ w_ hn_ hBt hr hR hD hO hS => op_mv ((hR 8 rfl).trans f8)),
          .store 0 _ _ _ rfl rfl rfl rfl rfl rfl rfl (fun ia h => by cases h) rfl rfl rfl (eqs_cs r3_cs),
          .norm 3 rfl rfl rfl (fun a_ w_ hn_ hBt hr hR hD hO hS => op_assign (show a_.eval (.tmp 28) = .int .i64 (eOf (over s)) from hD 1 rfl)),
          trivial⟩
      intro a8 w8 gs8 hn8 hd8 hBt hr hR hP hX hU
      replace hn := hn8; replace hd := hd8.trans hd
      replace b7 := b7.keep hBt ⟨fun _ => ne2_7, trivial⟩
      have e27 : a8.eval (.tmp 27) = .agg #[.bool false, .slice none 0 0, .slice none 0 0] := hP 0 (by decide)
      have b2 : BoxV R3 w8 ((gs1 0)) (.agg #[.bool false, .slice none 0 0, .slice none 0 0]) := boxv_old ((hX 0 _ rfl).2.1 rfl) (hX 0 _ rfl).2.2.2 e27
      replace f2 : a8.eval (.tmp 2) = _ := (hR 2 rfl).trans f2
      replace f5 := (hR 5 rfl).trans f5
      replace f6 := (hR 6 rfl).trans f6
      replace f7 := (hR 7 rfl).trans f7
      replace f8 := (hR 8 rfl).trans f8
      have e3 : a8.eval (.tmp 3) = .int .i64 (eOf (over s)) := hP 3 (by decide)
      have f3 := e3
      replace G6 := G6.rl hr
      replace A6 := A6.rl hr
      replace HB := HB.trans (hBt.below HB.size (UpOld.all (bx := [⟨R3, none, (gs1 0), 2, .agg #[.bool false, .slice none 0 0, .slice none 0 0], some (2, 27, 0), []⟩]) ⟨fun _ => u2, trivial⟩))
      clear hBt hr hR hP hX hU
      refine wp_ret ?_
      repeat (first | refine then_ret ?_ | refine scope_ret ?_ | refine block_ret ?_)
      exact bodyPost_ret (v := .tuple #[.agg #[.bool false, .slice none 0 0, .slice none 0 0], .int .i64 (eOf (over s))]) (res_ct rfl f2 (lv_R3 b2) f3) hd ⟨_, rfl, ⟨_, _, rfl, by rw [ra2 hsz he0]; exact outr_zero0 _, by rw [ra2 hsz he0]; rfl⟩, HB⟩
    · skip
      have he0 : eOf (over s) = 0 := by simpa using hc26
      refine wp_skip ?_
      refine wp_seq ?_
      refine wp_seq ?_
      refine region4 [some 29, some 30] [Eqs (.bool (fnd s)), Eqs (.bool (!(fnd s)))] [] [] (by kernel_rfl) hn rfl (by kernel_rfl) (by kernel_rfl) (by kernel_rfl) (by kernel_rfl) (by kernel_rfl) (by kernel_rfl) ⟨Eqs.mono4 _, Eqs.mono4 _, trivial⟩ ok_nil (IsOld.all (bx := []) trivial) (DisOld.all (bx := []) trivial) ?_ ?_
      · exact ⟨.norm 29 rfl rfl rfl (fun a_ w_ hn_ hBt hr hR hD hO hS => op_mv ((hR 6 rfl).trans f6)),
          .norm 30 rfl rfl rfl (fun a_ w_ hn_ hBt hr hR hD hO hS => op_not (show a_.eval (.tmp 29) = .bool (fnd s) from hD 0 rfl)),
          trivial⟩
      intro a9 w9 gs9 hn9 hd9 hBt hr hR hP hX hU
      replace hn := hn9; replace hd := hd9.trans hd
      replace b2 := b2.keep hBt trivial
      replace b7 := b7.keep hBt trivial
      replace f2 := (hR 2 rfl).trans f2
      replace f3 := (hR 3 rfl).trans f3
      replace f5 := (hR 5 rfl).trans f5
      replace f7 := (hR 7 rfl).trans f7
      replace f8 := (hR 8 rfl).trans f8
      have e30 : a9.eval (.tmp 30) = .bool (!(fnd s)) := hP 1 (by decide)
      have f30 := e30
      replace G6 := G6.rl hr
      replace A6 := A6.rl hr
      replace HB := HB.trans (hBt.below HB.size (UpOld.all (bx := []) trivial))
      clear hBt hr hR hP hX hU
      refine wp_cond_split f30 (fun hc30 => ?_) (fun hc30 => ?_)
      · skip
        have hf0 : fnd s = false := by simpa using hc30
        refine wp_seq ?_
        refine region4 [some 31, some 32, none, some 3] [Eqs (.agg #[.bool n_6, .slice a_6 r_6.length c_6]), OutR (zOf (over s)) (1) ((6000) + 2), (fun _ _ => True), Eqs ((.int .i64 0))] [⟨R3, none, (gs1 0), 2, .agg #[.bool false, .slice none 0 0, .slice none 0 0], some (2, 32, 1), []⟩] [] (by kernel_rfl) hn rfl (by kernel_rfl) (by kernel_rfl) (by kernel_rfl) (by kernel_rfl) (by kernel_rfl) (by kernel_rfl) ⟨Eqs.mono4 _, OutR.mono4 _ _ _, True.mono4, Eqs.mono4 _, trivial⟩ (ok_cons R3ok ok_nil) (IsOld.all (bx := [⟨R3, none, (gs1 0), 2, .agg #[.bool false, .slice none 0 0, .slice none 0 0], some (2, 32, 1), []⟩]) ⟨fun _ => ⟨f2, b2⟩, trivial⟩) (DisOld.all (bx := [⟨R3, none, (gs1 0), 2, .agg #[.bool false, .slice none 0 0, .slice none 0 0], some (2, 32, 1), []⟩]) ⟨fun _ => trivial, trivial⟩) ?_ ?_
        · exact ⟨.norm 31 rfl rfl rfl (fun a_ w_ hn_ hBt hr hR hD hO hS => op_loadv W2ok ((hR 7 rfl).trans f7) (b7.keep hBt ⟨fun _ => ne2_7, trivial⟩)),
            .norm 32 rfl rfl rfl (fun a_ w_ hn_ hBt hr hR hD hO hS => op_from (isw_eq (show a_.eval (.tmp 31) = .agg #[.bool n_6, .slice a_6 r_6.length c_6] from hD 0 rfl) (A6.rl hr) l6) (by omega)),
            .store 0 _ _ _ rfl rfl rfl rfl rfl rfl rfl (fun ia h => by cases h) rfl rfl rfl OutR.cs,
            .norm 3 rfl rfl rfl (fun a_ w_ hn_ hBt hr hR hD hO hS => op_assign rfl),
            trivial⟩
        intro a10 w10 gs10 hn10 hd10 hBt hr hR hP hX hU
        replace hn := hn10; replace hd := hd10.trans hd
        replace b7 := b7.keep hBt ⟨fun _ => ne2_7, trivial⟩
        obtain ⟨n_11, a_11, c_11, r_11, b_11, d_11, s_11, e32, G11, K11, l11, k11⟩ : OutR (zOf (over s)) (1) ((6000) + 2) (a10.eval (.tmp 32)) w10 := hP 1 (by decide)
        have A11 := G11.ag; have S11 := K11.sl; have V11 := K11.val
        have b2 : BoxV R3 w10 ((gs1 0)) (.agg #[.bool n_11, .slice a_11 r_11.length c_11, .slice b_11 s_11.length d_11]) := boxv_old ((hX 0 _ rfl).2.1 rfl) (hX 0 _ rfl).2.2.2 e32
        replace f2 : a10.eval (.tmp 2) = _ := (hR 2 rfl).trans f2
        replace f5 := (hR 5 rfl).trans f5
        replace f7 := (hR 7 rfl).trans f7
        replace f8 := (hR 8 rfl).trans f8
        have e3 : a10.eval (.tmp 3) = (.int .i64 0) := hP 3 (by decide)
        have f3 := e3
        replace G6 := G6.rl hr
        replace A6 := A6.rl hr
        replace HB := HB.trans (hBt.below HB.size (UpOld.all (bx := [⟨R3, none, (gs1 0), 2, .agg #[.bool false, .slice none 0 0, .slice none 0 0], some (2, 32, 1), []⟩]) ⟨fun _ => u2, trivial⟩))
        clear hBt hr hR hP hX hU
        refine wp_ret ?_
        repeat (first | refine then_ret ?_ | refine scope_ret ?_ | refine block_ret ?_)
        exact bodyPost_ret (v := .tuple #[.agg #[.bool n_11, .slice a_11 r_11.length c_11, .slice b_11 s_11.length d_11], (.int .i64 0)]) (res_ct rfl f2 (lv_R3 b2) f3) hd ⟨_, rfl, ⟨_, _, rfl, by rw [ra3 hsz he0 hf0]; exact (outr_eq rfl G11 K11 l11 k11).to rfl rfl (by omega), by rw [ra3 hsz he0 hf0]; rfl⟩, HB⟩
      · skip
        have hf0 : fnd s = true := by simpa using hc30
        refine wp_skip ?_
        refine wp_seq ?_
        refine region4 [some 34, some 35, some 33, some 36, some 37, some 9, some 8] [Eqs (.string (und s)), Tup2 (OutL (xOf (und s)) (6000)) (Eqs (.int .i64 (kOf (und s)))), Tup2 (OutL (xOf (und s)) (6000)) (Eqs (.int .i64 (kOf (und s)))), OutL (xOf (und s)) (6000), Eqs (.int .i64 (kOf (und s))), OutL (xOf (und s)) (6000), Eqs (.int .i64 (kOf (und s)))] [] [] (by kernel_rfl) hn rfl (by kernel_rfl) (by kernel_rfl) (by kernel_rfl) (by kernel_rfl) (by kernel_rfl) (by kernel_rfl) ⟨Eqs.mono4 _, Tup2.mono4 (OutL.mono4 _ _) (Eqs.mono4 _), Tup2.mono4 (OutL.mono4 _ _) (Eqs.mono4 _), OutL.mono4 _ _, Eqs.mono4 _, OutL.mono4 _ _, Eqs.mono4 _, trivial⟩ ok_nil (IsOld.all (bx := []) trivial) (DisOld.all (bx := []) trivial) ?_ ?_
        · exact ⟨.norm 34 rfl rfl rfl (fun a_ w_ hn_ hBt hr hR hD hO hS => op_mv ((hR 5 rfl).trans f5)),
            .norm 35 rfl rfl rfl (fun a_ w_ hn_ hBt hr hR hD hO hS => op_lparse (show a_.eval (.tmp 34) = .string (und s) from hD 0 rfl)),
            .norm 33 rfl rfl rfl (fun a_ w_ hn_ hBt hr hR hD hO hS => op_mvp (p := Tup2 (OutL (xOf (und s)) (6000)) (Eqs (.int .i64 (kOf (und s))))) (show Tup2 (OutL (xOf (und s)) (6000)) (Eqs (.int .i64 (kOf (und s)))) (a_.eval (.tmp 35)) w_ from hD 1 rfl)),
            .norm 36 rfl rfl rfl (fun a_ w_ hn_ hBt hr hR hD hO hS => op_ex20 (show Tup2 (OutL (xOf (und s)) (6000)) (Eqs (.int .i64 (kOf (und s)))) (a_.eval (.tmp 33)) w_ from hD 2 rfl)),
            .norm 37 rfl rfl rfl (fun a_ w_ hn_ hBt hr hR hD hO hS => op_ex21 (show Tup2 (OutL (xOf (und s)) (6000)) (Eqs (.int .i64 (kOf (und s)))) (a_.eval (.tmp 33)) w_ from hD 2 rfl)),
            .norm 9 rfl rfl rfl (fun a_ w_ hn_ hBt hr hR hD hO hS => op_asp (p := OutL (xOf (und s)) (6000)) (show OutL (xOf (und s)) (6000) (a_.eval (.tmp 36)) w_ from hD 3 rfl)),
            .norm 8 rfl rfl rfl (fun a_ w_ hn_ hBt hr hR hD hO hS => op_assign (show a_.eval (.tmp 37) = .int .i64 (kOf (und s)) from hD 4 rfl)),
            trivial⟩
        intro a12 w12 gs12 hn12 hd12 hBt hr hR hP hX hU
        replace hn := hn12; replace hd := hd12.trans hd
        replace b2 := b2.keep hBt trivial
        replace b7 := b7.keep hBt trivial
        replace f2 := (hR 2 rfl).trans f2
        replace f3 := (hR 3 rfl).trans f3
        replace f7 := (hR 7 rfl).trans f7
        obtain ⟨a_13, c_13, r_13, e9, K13, l13⟩ : OutL (xOf (und s)) (6000) (a12.eval (.tmp 9)) w12 := hP 5 (by decide)
        have S13 := K13.sl; have V13 := K13.val
        have f9 := e9
        have e8 : a12.eval (.tmp 8) = .int .i64 (kOf (und s)) := hP 6 (by decide)
        have f8 := e8
        replace G6 := G6.rl hr
        replace A6 := A6.rl hr
        replace HB := HB.trans (hBt.below HB.size (UpOld.all (bx := []) trivial))
        clear hBt hr hR hP hX hU
        refine wp_seq ?_
        refine wp_seq ?_
        refine region4 [some 38, some 39] [Eqs (.int .i64 (kOf (und s))), Eqs (.bool (!decide ((kOf (und s)) = 0)))] [] [] (by kernel_rfl) hn rfl (by kernel_rfl) (by kernel_rfl) (by kernel_rfl) (by kernel_rfl) (by kernel_rfl) (by kernel_rfl) ⟨Eqs.mono4 _, Eqs.mono4 _, trivial⟩ ok_nil (IsOld.all (bx := []) trivial) (DisOld.all (bx := []) trivial) ?_ ?_
        · exact ⟨.norm 38 rfl rfl rfl (fun a_ w_ hn_ hBt hr hR hD hO hS => op_mv ((hR 8 rfl).trans f8)),
            .norm 39 rfl rfl rfl (fun a_ w_ hn_ hBt hr hR hD hO hS => op_neqkE (show a_.eval (.tmp 38) = .int .i64 (kOf (und s)) from hD 0 rfl)),
            trivial⟩
        intro a14 w14 gs14 hn14 hd14 hBt hr hR hP hX hU
        replace hn := hn14; replace hd := hd14.trans hd
        replace b2 := b2.keep hBt trivial
        replace b7 := b7.keep hBt trivial
        replace f2 := (hR 2 rfl).trans f2
        replace f3 := (hR 3 rfl).trans f3
        replace f7 := (hR 7 rfl).trans f7
        replace f8 := (hR 8 rfl).trans f8
        replace f9 := (hR 9 rfl).trans f9
        have e39 : a14.eval (.tmp 39) = .bool (!decide ((kOf (und s)) = 0)) := hP 1 (by decide)
        have f39 := e39
        replace G6 := G6.rl hr
        replace A6 := A6.rl hr
        replace K13 := K13.rl hr
        replace S13 := S13.rl hr
        replace HB := HB.trans (hBt.below HB.size (UpOld.all (bx := []) trivial))
        clear hBt hr hR hP hX hU
        refine wp_cond_split f39 (fun hc39 => ?_) (fun hc39 => ?_)
        · skip
          have hk0 : kOf (und s) ≠ 0 := by simpa using hc39
          refine wp_seq ?_
          refine region4 [some 40, some 41, none, some 3] [Eqs (.agg #[.bool false, .slice none 0 0, .slice none 0 0]), Eqs (.int .i64 (kOf (und s))), (fun _ _ => True), Eqs (.int .i64 (kOf (und s)))] [⟨R3, none, (gs1 0), 2, .agg #[.bool false, .slice none 0 0, .slice none 0 0], some (2, 40, 0), []⟩] [] (by kernel_rfl) hn rfl (by kernel_rfl) (by kernel_rfl) (by kernel_rfl) (by kernel_rfl) (by kernel_rfl) (by kernel_rfl) ⟨Eqs.mono4 _, Eqs.mono4 _, True.mono4, Eqs.mono4 _, trivial⟩ (ok_cons R3ok ok_nil) (IsOld.all (bx := [⟨R3, none, (gs1 0), 2, .agg #[.bool false, .slice none 0 0, .slice none 0 0], some (2, 40, 0), []⟩]) ⟨fun _ => ⟨f2, b2⟩, trivial⟩) (DisOld.all (bx := [⟨R3, none, (gs1 0), 2, .agg #[.bool false, .slice none 0 0, .slice none 0 0], some (2, 40, 0), []⟩]) ⟨fun _ => trivial, trivial⟩) ?_ ?_
          · exact ⟨.norm 40 rfl rfl rfl (fun a_ w_ hn_ hBt hr hR hD hO hS => op_bR0),
              .norm 41 rfl rfl rfl (fun a_ w_ hn_ hBt hr hR hD hO hS => op_mv ((hR 8 rfl).trans f8)),
              .store 0 _ _ _ rfl rfl rfl rfl rfl rfl rfl (fun ia h => by cases h) rfl rfl rfl (eqs_cs r3_cs),
              .norm 3 rfl rfl rfl (fun a_ w_ hn_ hBt hr hR hD hO hS => op_assign (show a_.eval (.tmp 41) = .int .i64 (kOf (und s)) from hD 1 rfl)),
              trivial⟩
          intro a15 w15 gs15 hn15 hd15 hBt hr hR hP hX hU
          replace hn := hn15; replace hd := hd15.trans hd
          replace b7 := b7.keep hBt ⟨fun _ => ne2_7, trivial⟩
          have e40 : a15.eval (.tmp 40) = .agg #[.bool false, .slice none 0 0, .slice none 0 0] := hP 0 (by decide)
          have b2 : BoxV R3 w15 ((gs1 0)) (.agg #[.bool false, .slice none 0 0, .slice none 0 0]) := boxv_old ((hX 0 _ rfl).2.1 rfl) (hX 0 _ rfl).2.2.2 e40
          replace f2 : a15.eval (.tmp 2) = _ := (hR 2 rfl).trans f2
          replace f7 := (hR 7 rfl).trans f7
          replace f9 := (hR 9 rfl).trans f9
          have e3 : a15.eval (.tmp 3) = .int .i64 (kOf (und s)) := hP 3 (by decide)
          have f3 := e3
          replace G6 := G6.rl hr
          replace A6 := A6.rl hr
          replace K13 := K13.rl hr
          replace S13 := S13.rl hr
          replace HB := HB.trans (hBt.below HB.size (UpOld.all (bx := [⟨R3, none, (gs1 0), 2, .agg #[.bool false, .slice none 0 0, .slice none 0 0], some (2, 40, 0), []⟩]) ⟨fun _ => u2, trivial⟩))
          clear hBt hr hR hP hX hU
          refine wp_ret ?_
          repeat (first | refine then_ret ?_ | refine scope_ret ?_ | refine block_ret ?_)
          exact bodyPost_ret (v := .tuple #[.agg #[.bool false, .slice none 0 0, .slice none 0 0], .int .i64 (kOf (und s))]) (res_ct rfl f2 (lv_R3 b2) f3) hd ⟨_, rfl, ⟨_, _, rfl, by rw [ra4 hsz he0 hf0 hk0]; exact outr_zero0 _, by rw [ra4 hsz he0 hf0 hk0]; rfl⟩, HB⟩
        · skip
          have hk0 : kOf (und s) = 0 := by simpa using hc39
          refine wp_skip ?_
          refine wp_seq ?_
          have E_ : Ag w14 false a_13 r_13.length c_13 r_13 (xOf (und s)) := ⟨S13, V13⟩
          by_cases hx0 : xOf (und s) = 0
          · skip
            refine region4 [some 42, some 43, some 44, some 45, some 46, some 47, none, some 3] [Eqs (.agg #[.bool n_6, .slice a_6 r_6.length c_6]), Eqs (.slice a_13 r_13.length c_13), Eqs (.agg #[.bool false, .slice a_13 r_13.length c_13]), Tup2 (Eqs (.agg #[.bool false, .slice none 0 0, .slice none 0 0])) (Eqs (.int .i64 20)), Eqs (.agg #[.bool false, .slice none 0 0, .slice none 0 0]), Eqs (.int .i64 20), (fun _ _ => True), Eqs (.int .i64 20)] [⟨R3, none, (gs1 0), 2, .agg #[.bool false, .slice none 0 0, .slice none 0 0], some (6, 46, 4), []⟩] [] (by kernel_rfl) hn rfl (by kernel_rfl) (by kernel_rfl) (by kernel_rfl) (by kernel_rfl) (by kernel_rfl) (by kernel_rfl) ⟨Eqs.mono4 _, Eqs.mono4 _, Eqs.mono4 _, Tup2.mono4 (Eqs.mono4 _) (Eqs.mono4 _), Eqs.mono4 _, Eqs.mono4 _, True.mono4, Eqs.mono4 _, trivial⟩ (ok_cons R3ok ok_nil) (IsOld.all (bx := [⟨R3, none, (gs1 0), 2, .agg #[.bool false, .slice none 0 0, .slice none 0 0], some (6, 46, 4), []⟩]) ⟨fun _ => ⟨f2, b2⟩, trivial⟩) (DisOld.all (bx := [⟨R3, none, (gs1 0), 2, .agg #[.bool false, .slice none 0 0, .slice none 0 0], some (6, 46, 4), []⟩]) ⟨fun _ => trivial, trivial⟩) ?_ ?_
            · exact ⟨.norm 42 rfl rfl rfl (fun a_ w_ hn_ hBt hr hR hD hO hS => op_loadv W2ok ((hR 7 rfl).trans f7) (b7.keep hBt ⟨fun _ => ne2_7, trivial⟩)),
                .norm 43 rfl rfl rfl (fun a_ w_ hn_ hBt hr hR hD hO hS => op_mv ((hR 9 rfl).trans f9)),
                .norm 44 rfl rfl rfl (fun a_ w_ hn_ hBt hr hR hD hO hS => op_bW1 (show a_.eval (.tmp 43) = .slice a_13 r_13.length c_13 from hD 1 rfl)),
                .norm 45 rfl rfl rfl (fun a_ w_ hn_ hBt hr hR hD hO hS => op_rof0 (isw_eq (show a_.eval (.tmp 42) = .agg #[.bool n_6, .slice a_6 r_6.length c_6] from hD 0 rfl) (A6.rl hr) l6) (isw_eq (show a_.eval (.tmp 44) = .agg #[.bool false, .slice a_13 r_13.length c_13] from hD 2 rfl) (E_.rl hr) l13) (by omega) hx0),
                .norm 46 rfl rfl rfl (fun a_ w_ hn_ hBt hr hR hD hO hS => op_ex20 (show Tup2 (Eqs (.agg #[.bool false, .slice none 0 0, .slice none 0 0])) (Eqs (.int .i64 20)) (a_.eval (.tmp 45)) w_ from hD 3 rfl)),
                .norm 47 rfl rfl rfl (fun a_ w_ hn_ hBt hr hR hD hO hS => op_ex21 (show Tup2 (Eqs (.agg #[.bool false, .slice none 0 0, .slice none 0 0])) (Eqs (.int .i64 20)) (a_.eval (.tmp 45)) w_ from hD 3 rfl)),
                .store 0 _ _ _ rfl rfl rfl rfl rfl rfl rfl (fun ia h => by cases h) rfl rfl rfl (eqs_cs r3_cs),
                .norm 3 rfl rfl rfl (fun a_ w_ hn_ hBt hr hR hD hO hS => op_assign (show a_.eval (.tmp 47) = .int .i64 20 from hD 5 rfl)),
                trivial⟩
            intro a16 w16 gs16 hn16 hd16 hBt hr hR hP hX hU
            replace hn := hn16; replace hd := hd16.trans hd
            have e46 : a16.eval (.tmp 46) = .agg #[.bool false, .slice none 0 0, .slice none 0 0] := hP 4 (by decide)
            have b2 : BoxV R3 w16 ((gs1 0)) (.agg #[.bool false, .slice none 0 0, .slice none 0 0]) := boxv_old ((hX 0 _ rfl).2.1 rfl) (hX 0 _ rfl).2.2.2 e46
            replace f2 : a16.eval (.tmp 2) = _ := (hR 2 rfl).trans f2
            have e3 : a16.eval (.tmp 3) = .int .i64 20 := hP 7 (by decide)
            have f3 := e3
            replace G6 := G6.rl hr
            replace A6 := A6.rl hr
            replace K13 := K13.rl hr
            replace S13 := S13.rl hr
            replace E_ := E_.rl hr
            replace HB := HB.trans (hBt.below HB.size (UpOld.all (bx := [⟨R3, none, (gs1 0), 2, .agg #[.bool false, .slice none 0 0, .slice none 0 0], some (6, 46, 4), []⟩]) ⟨fun _ => u2, trivial⟩))
            clear hBt hr hR hP hX hU
            refine wp_ret ?_
            repeat (first | refine then_ret ?_ | refine scope_ret ?_ | refine block_ret ?_)
            exact bodyPost_ret (v := .tuple #[.agg #[.bool false, .slice none 0 0, .slice none 0 0], .int .i64 20]) (res_ct rfl f2 (lv_R3 b2) f3) hd ⟨_, rfl, ⟨_, _, rfl, by rw [ra5 hsz he0 hf0 hk0 hx0]; exact outr_zero0 _, by rw [ra5 hsz he0 hf0 hk0 hx0]; rfl⟩, HB⟩
          · skip
            refine region4 [some 42, some 43, some 44, some 45, some 46, some 47, none, some 3] [Eqs (.agg #[.bool n_6, .slice a_6 r_6.length c_6]), Eqs (.slice a_13 r_13.length c_13), Eqs (.agg #[.bool false, .slice a_13 r_13.length c_13]), Tup2 (OutR (nm (zOf (over s)) (xOf (und s))) (dn (zOf (over s)) (xOf (und s))) ((6000) + (6000))) (Eqs (.int .i64 0)), OutR (nm (zOf (over s)) (xOf (und s))) (dn (zOf (over s)) (xOf (und s))) ((6000) + (6000)), Eqs (.int .i64 0), (fun _ _ => True), Eqs (.int .i64 0)] [⟨R3, none, (gs1 0), 2, .agg #[.bool false, .slice none 0 0, .slice none 0 0], some (6, 46, 4), []⟩] [] (by kernel_rfl) hn rfl (by kernel_rfl) (by kernel_rfl) (by kernel_rfl) (by kernel_rfl) (by kernel_rfl) (by kernel_rfl) ⟨Eqs.mono4 _, Eqs.mono4 _, Eqs.mono4 _, Tup2.mono4 (OutR.mono4 _ _ _) (Eqs.mono4 _), OutR.mono4 _ _ _, Eqs.mono4 _, True.mono4, Eqs.mono4 _, trivial⟩ (ok_cons R3ok ok_nil) (IsOld.all (bx := [⟨R3, none, (gs1 0), 2, .agg #[.bool false, .slice none 0 0, .slice none 0 0], some (6, 46, 4), []⟩]) ⟨fun _ => ⟨f2, b2⟩, trivial⟩) (DisOld.all (bx := [⟨R3, none, (gs1 0), 2, .agg #[.bool false, .slice none 0 0, .slice none 0 0], some (6, 46, 4), []⟩]) ⟨fun _ => trivial, trivial⟩) ?_ ?_
            · exact ⟨.norm 42 rfl rfl rfl (fun a_ w_ hn_ hBt hr hR hD hO hS => op_loadv W2ok ((hR 7 rfl).trans f7) (b7.keep hBt ⟨fun _ => ne2_7, trivial⟩)),
                .norm 43 rfl rfl rfl (fun a_ w_ hn_ hBt hr hR hD hO hS => op_mv ((hR 9 rfl).trans f9)),
                .norm 44 rfl rfl rfl (fun a_ w_ hn_ hBt hr hR hD hO hS => op_bW1 (show a_.eval (.tmp 43) = .slice a_13 r_13.length c_13 from hD 1 rfl)),
                .norm 45 rfl rfl rfl (fun a_ w_ hn_ hBt hr hR hD hO hS => op_rof (isw_eq (show a_.eval (.tmp 42) = .agg #[.bool n_6, .slice a_6 r_6.length c_6] from hD 0 rfl) (A6.rl hr) l6) (isw_eq (show a_.eval (.tmp 44) = .agg #[.bool false, .slice a_13 r_13.length c_13] from hD 2 rfl) (E_.rl hr) l13) (by omega) hx0),
                .norm 46 rfl rfl rfl (fun a_ w_ hn_ hBt hr hR hD hO hS => op_ex20 (show Tup2 (OutR (nm (zOf (over s)) (xOf (und s))) (dn (zOf (over s)) (xOf (und s))) ((6000) + (6000))) (Eqs (.int .i64 0)) (a_.eval (.tmp 45)) w_ from hD 3 rfl)),
                .norm 47 rfl rfl rfl (fun a_ w_ hn_ hBt hr hR hD hO hS => op_ex21 (show Tup2 (OutR (nm (zOf (over s)) (xOf (und s))) (dn (zOf (over s)) (xOf (und s))) ((6000) + (6000))) (Eqs (.int .i64 0)) (a_.eval (.tmp 45)) w_ from hD 3 rfl)),
                .store 0 _ _ _ rfl rfl rfl rfl rfl rfl rfl (fun ia h => by cases h) rfl rfl rfl OutR.cs,
                .norm 3 rfl rfl rfl (fun a_ w_ hn_ hBt hr hR hD hO hS => op_assign (show a_.eval (.tmp 47) = .int .i64 0 from hD 5 rfl)),
                trivial⟩
            intro a17 w17 gs17 hn17 hd17 hBt hr hR hP hX hU
            replace hn := hn17; replace hd := hd17.trans hd
            obtain ⟨n_18, a_18, c_18, r_18, b_18, d_18, s_18, e46, G18, K18, l18, k18⟩ : OutR (nm (zOf (over s)) (xOf (und s))) (dn (zOf (over s)) (xOf (und s))) ((6000) + (6000)) (a17.eval (.tmp 46)) w17 := hP 4 (by decide)
            have A18 := G18.ag; have S18 := K18.sl; have V18 := K18.val
            have b2 : BoxV R3 w17 ((gs1 0)) (.agg #[.bool n_18, .slice a_18 r_18.length c_18, .slice b_18 s_18.length d_18]) := boxv_old ((hX 0 _ rfl).2.1 rfl) (hX 0 _ rfl).2.2.2 e46
            replace f2 : a17.eval (.tmp 2) = _ := (hR 2 rfl).trans f2
            have e3 : a17.eval (.tmp 3) = .int .i64 0 := hP 7 (by decide)
            have f3 := e3
            replace G6 := G6.rl hr
            replace A6 := A6.rl hr
            replace K13 := K13.rl hr
            replace S13 := S13.rl hr
            replace E_ := E_.rl hr
            replace HB := HB.trans (hBt.below HB.size (UpOld.all (bx := [⟨R3, none, (gs1 0), 2, .agg #[.bool false, .slice none 0 0, .slice none 0 0], some (6, 46, 4), []⟩]) ⟨fun _ => u2, trivial⟩))
            clear hBt hr hR hP hX hU
            refine wp_ret ?_
            repeat (first | refine then_ret ?_ | refine scope_ret ?_ | refine block_ret ?_)
            exact bodyPost_ret (v := .tuple #[.agg #[.bool n_18, .slice a_18 r_18.length c_18, .slice b_18 s_18.length d_18], .int .i64 0]) (res_ct rfl f2 (lv_R3 b2) f3) hd ⟨_, rfl, ⟨_, _, rfl, by rw [ra6 hsz he0 hf0 hk0 hx0]; exact (outr_eq rfl G18 K18 l18 k18).to rfl rfl (by omega), by rw [ra6 hsz he0 hf0 hk0 hx0]; rfl⟩, HB⟩
end Lm
end Go.Proofs.YtdiiankcjgoecaaDoor

namespace Go.Proofs.YtdiiankcjgoecaaDoor
namespace Lm
open Go Go.RowKit
theorem op_bits1x {dst : Option Tmp} {ty : TypeId} {pos : String} {after : Array Edge} {guard : Option (Nat × Bool)} {a : Act} {w : World} {i : Nat} {x : Int} (h : BitsOf x (a.eval (.tmp i)) w) (hx : 0 < x) :
    Does Tryd.prog { dst, op := .binOp .eql 3 (.tmp i) (.const (.int .i64 1)) 3, type := ty, pos, after, guard } a.eval w fun v' w' => Below w.heap.size w w' ∧ Eqs (.bool (decide (x = 1))) v' w' := by
  obtain ⟨k, e, B⟩ := h
  refine (op_eqlk e).mono ?_
  rintro v w' ⟨hb, e'⟩
  refine ⟨hb, ?_⟩
  rw [Eqs, show v = _ from e']
  congr 1
  exact decide_eq_decide.2 (bits_is_one B hx)
set_option maxRecDepth 20000 in
set_option maxHeartbeats 2000000 in
theorem rtext_z (w : World) (L : Nat) (hL : L ≤ 10000) (nr : Bool) (ar : Option Addr) (mr cr : Nat) (rs : List Int) (pr : Int) (Ar : Ag w nr ar mr cr rs pr) (Lr : rs.length ≤ L) (br : Option Addr) (kr dr : Nat) (rt : List Int) (qr : Int) (Sr : Sl w (.slice br kr dr) rt) (Vr : val rt = qr) (Mr : rt.length ≤ L) :
    Calls Tryd.prog 26 #[.agg #[.bool nr, .slice ar mr cr, .slice br kr dr]] w fun e w' => e = .returned (.string (rtxt (nm (tp pr qr) (tq qr)) (dn (tp pr qr) (tq qr)))) ∧ Below w.heap.size w w' := by
  go_enter Tryd.func26, Tryd.ntmps26
  generalize hA : (Act.mk _ _) = aa
  have hn : aa.tmps.size = 21 := by rw [← hA]; rfl
  have hd : aa.defers = [] := by rw [← hA]
  have f0 : aa.eval (.tmp 0) = .agg #[.bool nr, .slice ar mr cr, .slice br kr dr] := by rw [← hA]; rfl
  clear hA
  have HB : Below w.heap.size w w := Below.refl _ _
  have Dr : Ag w false br kr dr rt qr := ⟨Sr, Vr⟩
  have hq0 : 0 < dn (tp pr qr) (tq qr) := dn_pos _ (tq_ne qr)
  refine wp_seq ?_
  refine region4 [some 1, some 2] [(fun _ _ => True), Eqs ((.string ⟨#[]⟩))] [⟨R3, some 0, 0, 1, .agg #[.bool nr, .slice ar mr cr, .slice br kr dr], none, []⟩] [] (by kernel_rfl) hn rfl (by kernel_rfl) (by kernel_rfl) (by kernel_rfl) (by kernel_rfl) (by kernel_rfl) (by kernel_rfl) ⟨True.mono4, Eqs.mono4 _, trivial⟩ (ok_cons R3ok ok_nil) (IsOld.all (bx := [⟨R3, some 0, 0, 1, .agg #[.bool nr, .slice ar mr cr, .slice br kr dr], none, []⟩]) ⟨someNe, trivial⟩) (DisOld.all (bx := [⟨R3, some 0, 0, 1, .agg #[.bool nr, .slice ar mr cr, .slice br kr dr], none, []⟩]) ⟨someNe, trivial⟩) ?_ ?_
  · exact ⟨.alloc 0 _ rfl rfl (.inr ⟨_, rfl, r3_cs, fun a_ hR => (hR 0 rfl).trans f0⟩) rfl rfl rfl rfl rfl,
      .norm 2 rfl rfl rfl (fun a_ w_ hn_ hBt hr hR hD hO hS => op_assign rfl),
      trivial⟩
  intro a1 w1 gs1 hn1 hd1 hBt hr hR hP hX hU
  replace hn := hn1; replace hd := hd1.trans hd
  have b1 : BoxV R3 w1 (gs1 0) (.agg #[.bool nr, .slice ar mr cr, .slice br kr dr]) := (hX 0 _ rfl).2.2.2
  have f1 := (hX 0 _ rfl).1
  have u1 : w.heap.size ≤ gs1 0 := Nat.le_trans HB.size ((hX 0 _ rfl).2.2.1 (by simp))
  have e2 : a1.eval (.tmp 2) = (.string ⟨#[]⟩) := hP 1 (by decide)
  have f2 := e2
  replace Ar := Ar.rl hr
  replace Sr := Sr.rl hr
  replace Dr := Dr.rl hr
  replace HB := HB.trans (hBt.below HB.size (UpOld.all (bx := [⟨R3, some 0, 0, 1, .agg #[.bool nr, .slice ar mr cr, .slice br kr dr], none, []⟩]) ⟨someNe, trivial⟩))
  clear hBt hr hR hP hX hU
  refine wp_seq ?_
  refine region4 [some 5, some 6, some 3, none] [Eqs (.agg #[.bool nr, .slice ar mr cr, .slice br kr dr]), OutR ((nm (tp pr qr) (tq qr))) ((dn (tp pr qr) (tq qr))) (2 * ((L) + 2)), (fun _ _ => True), (fun _ _ => True)] [⟨R3, some 2, 0, 3, .agg #[.bool false, .slice none 0 0, .slice none 0 0], some (3, 6, 1), []⟩] [] (by kernel_rfl) hn rfl (by kernel_rfl) (by kernel_rfl) (by kernel_rfl) (by kernel_rfl) (by kernel_rfl) (by kernel_rfl) ⟨Eqs.mono4 _, OutR.mono4 _ _ _, True.mono4, True.mono4, trivial⟩ (ok_cons R3ok ok_nil) (IsOld.all (bx := [⟨R3, some 2, 0, 3, .agg #[.bool false, .slice none 0 0, .slice none 0 0], some (3, 6, 1), []⟩]) ⟨someNe, trivial⟩) (DisOld.all (bx := [⟨R3, some 2, 0, 3, .agg #[.bool false, .slice none 0 0, .slice none 0 0], some (3, 6, 1), []⟩]) ⟨someNe, trivial⟩) ?_ ?_
  · exact ⟨.norm 5 rfl rfl rfl (fun a_ w_ hn_ hBt hr hR hD hO hS => op_loadv R3ok ((hR 1 rfl).trans f1) (b1.keep hBt ⟨someNe, trivial⟩)),
      .norm 6 rfl rfl rfl (fun a_ w_ hn_ hBt hr hR hD hO hS => op_rtrim (isr_eq (show a_.eval (.tmp 5) = .agg #[.bool nr, .slice ar mr cr, .slice br kr dr] from hD 0 rfl) (Ar.rl hr) (Sr.rl hr) Vr Lr Mr) (by omega)),
      .alloc 0 _ rfl rfl (.inl ⟨rfl, rfl⟩) rfl rfl rfl rfl rfl,
      .store 0 _ _ _ rfl rfl rfl rfl rfl rfl rfl (fun ia h => by cases h; rfl) rfl rfl rfl OutR.cs,
      trivial⟩
  intro a2 w2 gs2 hn2 hd2 hBt hr hR hP hX hU
  replace hn := hn2; replace hd := hd2.trans hd
  obtain ⟨n_3, a_3, c_3, r_3, b_3, d_3, s_3, e6, G3, K3, l3, k3⟩ : OutR ((nm (tp pr qr) (tq qr))) ((dn (tp pr qr) (tq qr))) (2 * ((L) + 2)) (a2.eval (.tmp 6)) w2 := hP 1 (by decide)
  have A3 := G3.ag; have S3 := K3.sl; have V3 := K3.val
  have b3 : BoxV R3 w2 (gs2 0) (.agg #[.bool n_3, .slice a_3 r_3.length c_3, .slice b_3 s_3.length d_3]) := boxv_of (hX 0 _ rfl).2.2.2 e6
  have f3 := (hX 0 _ rfl).1
  have u3 : w.heap.size ≤ gs2 0 := Nat.le_trans HB.size ((hX 0 _ rfl).2.2.1 (by simp))
  replace f2 := (hR 2 rfl).trans f2
  replace Ar := Ar.rl hr
  replace Sr := Sr.rl hr
  replace Dr := Dr.rl hr
  replace HB := HB.trans (hBt.below HB.size (UpOld.all (bx := [⟨R3, some 2, 0, 3, .agg #[.bool false, .slice none 0 0, .slice none 0 0], some (3, 6, 1), []⟩]) ⟨someNe, trivial⟩))
  clear hBt hr hR hP hX hU
  refine wp_seq ?_
  have hsp := wh_txt G3; have hsq := got_txt K3
  have hlp := l3; have hlq := k3
  refine region4 [some 7, some 8, some 9, some 4] [Eqs (.pointer (some ⟨gs2 0, 0, none⟩)), Eqs (.agg #[.bool n_3, .slice a_3 r_3.length c_3]), Eqs (.string (txt (nm (tp pr qr) (tq qr)))), Eqs (.string (txt (nm (tp pr qr) (tq qr))))] [] [] (by kernel_rfl) hn rfl (by kernel_rfl) (by kernel_rfl) (by kernel_rfl) (by kernel_rfl) (by kernel_rfl) (by kernel_rfl) ⟨Eqs.mono4 _, Eqs.mono4 _, Eqs.mono4 _, Eqs.mono4 _, trivial⟩ ok_nil (IsOld.all (bx := []) trivial) (DisOld.all (bx := []) trivial) ?_ ?_
  · exact ⟨.norm 7 rfl rfl rfl (fun a_ w_ hn_ hBt hr hR hD hO hS => op_faR fa_num ((hR 3 rfl).trans f3)),
      .norm 8 rfl rfl rfl (fun a_ w_ hn_ hBt hr hR hD hO hS => op_ldnum (show a_.eval (.tmp 7) = .pointer (some ⟨gs2 0, 0, none⟩) from hD 0 rfl) (b3.keep hBt trivial)),
      .norm 9 rfl rfl rfl (fun a_ w_ hn_ hBt hr hR hD hO hS => op_wtext (isw_eq (show a_.eval (.tmp 8) = .agg #[.bool n_3, .slice a_3 r_3.length c_3] from hD 1 rfl) (A3.rl hr) l3) (by omega)),
      .norm 4 rfl rfl rfl (fun a_ w_ hn_ hBt hr hR hD hO hS => op_assign (show a_.eval (.tmp 9) = .string (txt (nm (tp pr qr) (tq qr))) from hD 2 rfl)),
      trivial⟩
  intro a4 w4 gs4 hn4 hd4 hBt hr hR hP hX hU
  replace hn := hn4; replace hd := hd4.trans hd
  replace b3 := b3.keep hBt trivial
  replace f2 := (hR 2 rfl).trans f2
  replace f3 := (hR 3 rfl).trans f3
  have e4 : a4.eval (.tmp 4) = .string (txt (nm (tp pr qr) (tq qr))) := hP 3 (by decide)
  have f4 := e4
  replace Ar := Ar.rl hr
  replace Sr := Sr.rl hr
  replace Dr := Dr.rl hr
  replace G3 := G3.rl hr
  replace A3 := A3.rl hr
  replace K3 := K3.rl hr
  replace S3 := S3.rl hr
  replace HB := HB.trans (hBt.below HB.size (UpOld.all (bx := []) trivial))
  clear hBt hr hR hP hX hU
  refine wp_seq ?_
  refine wp_seq ?_
  refine region4 [some 10, some 11, some 12, some 13] [Eqs (.pointer (some ⟨gs2 0, 2, none⟩)), Eqs (.slice b_3 s_3.length d_3), BitsOf ((dn (tp pr qr) (tq qr))), Eqs (.bool (decide ((dn (tp pr qr) (tq qr)) = 1)))] [] [] (by kernel_rfl) hn rfl (by kernel_rfl) (by kernel_rfl) (by kernel_rfl) (by kernel_rfl) (by kernel_rfl) (by kernel_rfl) ⟨Eqs.mono4 _, Eqs.mono4 _, BitsOf.mono4 _, Eqs.mono4 _, trivial⟩ ok_nil (IsOld.all (bx := []) trivial) (DisOld.all (bx := []) trivial) ?_ ?_
  · exact ⟨.norm 10 rfl rfl rfl (fun a_ w_ hn_ hBt hr hR hD hO hS => op_faR fa_den ((hR 3 rfl).trans f3)),
      .norm 11 rfl rfl rfl (fun a_ w_ hn_ hBt hr hR hD hO hS => op_ldden (show a_.eval (.tmp 10) = .pointer (some ⟨gs2 0, 2, none⟩) from hD 0 rfl) (b3.keep hBt trivial)),
      .norm 12 rfl rfl rfl (fun a_ w_ hn_ hBt hr hR hD hO hS => op_lbits (isl_eq (show a_.eval (.tmp 11) = .slice b_3 s_3.length d_3 from hD 1 rfl) (S3.rl hr) V3 k3) (by omega)),
      .norm 13 rfl rfl rfl (fun a_ w_ hn_ hBt hr hR hD hO hS => op_bits1x (show BitsOf ((dn (tp pr qr) (tq qr))) (a_.eval (.tmp 12)) w_ from hD 2 rfl) hq0),
      trivial⟩
  intro a5 w5 gs5 hn5 hd5 hBt hr hR hP hX hU
  replace hn := hn5; replace hd := hd5.trans hd
  replace b3 := b3.keep hBt trivial
  replace f2 := (hR 2 rfl).trans f2
  replace f3 := (hR 3 rfl).trans f3
  replace f4 := (hR 4 rfl).trans f4
  have e13 : a5.eval (.tmp 13) = .bool (decide ((dn (tp pr qr) (tq qr)) = 1)) := hP 3 (by decide)
  have f13 := e13
  replace Ar := Ar.rl hr
  replace Sr := Sr.rl hr
  replace Dr := Dr.rl hr
  replace G3 := G3.rl hr
  replace A3 := A3.rl hr
  replace K3 := K3.rl hr
  replace S3 := S3.rl hr
  replace HB := HB.trans (hBt.below HB.size (UpOld.all (bx := []) trivial))
  clear hBt hr hR hP hX hU
  refine wp_cond_split f13 (fun hc13 => ?_) (fun hc13 => ?_)
  · skip
    have hq1 := of_decide_eq_true hc13
    refine wp_seq ?_
    refine region4 [some 14, some 2] [Eqs (.string (txt (nm (tp pr qr) (tq qr)))), Eqs (.string (txt (nm (tp pr qr) (tq qr))))] [] [] (by kernel_rfl) hn rfl (by kernel_rfl) (by kernel_rfl) (by kernel_rfl) (by kernel_rfl) (by kernel_rfl) (by kernel_rfl) ⟨Eqs.mono4 _, Eqs.mono4 _, trivial⟩ ok_nil (IsOld.all (bx := []) trivial) (DisOld.all (bx := []) trivial) ?_ ?_
    · exact ⟨.norm 14 rfl rfl rfl (fun a_ w_ hn_ hBt hr hR hD hO hS => op_mv ((hR 4 rfl).trans f4)),
        .norm 2 rfl rfl rfl (fun a_ w_ hn_ hBt hr hR hD hO hS => op_assign (show a_.eval (.tmp 14) = .string (txt (nm (tp pr qr) (tq qr))) from hD 0 rfl)),
        trivial⟩
    intro a6 w6 gs6 hn6 hd6 hBt hr hR hP hX hU
    replace hn := hn6; replace hd := hd6.trans hd
    replace b3 := b3.keep hBt trivial
    replace f3 := (hR 3 rfl).trans f3
    replace f4 := (hR 4 rfl).trans f4
    have e2 : a6.eval (.tmp 2) = .string (txt (nm (tp pr qr) (tq qr))) := hP 1 (by decide)
    have f2 := e2
    replace Ar := Ar.rl hr
    replace Sr := Sr.rl hr
    replace Dr := Dr.rl hr
    replace G3 := G3.rl hr
    replace A3 := A3.rl hr
    replace K3 := K3.rl hr
    replace S3 := S3.rl hr
    replace HB := HB.trans (hBt.below HB.size (UpOld.all (bx := []) trivial))
    clear hBt hr hR hP hX hU
    refine wp_ret ?_
    repeat (first | refine then_ret ?_ | refine scope_ret ?_ | refine block_ret ?_)
    exact bodyPost_ret (v := .string (txt (nm (tp pr qr) (tq qr)))) (res_t rfl f2) hd ⟨by rw [rtxt1 hq1], HB⟩
  · skip
    have hq1 := of_decide_eq_false hc13
    refine wp_skip ?_
    refine wp_seq ?_
    refine region4 [some 15, some 16, some 17, some 18, some 19, some 20, some 2] [Eqs (.string (txt (nm (tp pr qr) (tq qr)))), Eqs (.string ((txt (nm (tp pr qr) (tq qr))) ++ ⟨#[47]⟩)), Eqs (.pointer (some ⟨gs2 0, 2, none⟩)), Eqs (.slice b_3 s_3.length d_3), Eqs (.string (txt (dn (tp pr qr) (tq qr)))), Eqs (.string (((txt (nm (tp pr qr) (tq qr))) ++ ⟨#[47]⟩) ++ (txt (dn (tp pr qr) (tq qr))))), Eqs (.string (((txt (nm (tp pr qr) (tq qr))) ++ ⟨#[47]⟩) ++ (txt (dn (tp pr qr) (tq qr)))))] [] [] (by kernel_rfl) hn rfl (by kernel_rfl) (by kernel_rfl) (by kernel_rfl) (by kernel_rfl) (by kernel_rfl) (by kernel_rfl) ⟨Eqs.mono4 _, Eqs.mono4 _, Eqs.mono4 _, Eqs.mono4 _, Eqs.mono4 _, Eqs.mono4 _, Eqs.mono4 _, trivial⟩ ok_nil (IsOld.all (bx := []) trivial) (DisOld.all (bx := []) trivial) ?_ ?_
    · exact ⟨.norm 15 rfl rfl rfl (fun a_ w_ hn_ hBt hr hR hD hO hS => op_mv ((hR 4 rfl).trans f4)),
        .norm 16 rfl rfl rfl (fun a_ w_ hn_ hBt hr hR hD hO hS => op_addsk (show a_.eval (.tmp 15) = .string (txt (nm (tp pr qr) (tq qr))) from hD 0 rfl) (by rw [ByteArray.size_append]; have h3_ : (⟨#[47]⟩ : ByteArray).size = 1 := rfl; omega)),
        .norm 17 rfl rfl rfl (fun a_ w_ hn_ hBt hr hR hD hO hS => op_faR fa_den ((hR 3 rfl).trans f3)),
        .norm 18 rfl rfl rfl (fun a_ w_ hn_ hBt hr hR hD hO hS => op_ldden (show a_.eval (.tmp 17) = .pointer (some ⟨gs2 0, 2, none⟩) from hD 2 rfl) (b3.keep hBt trivial)),
        .norm 19 rfl rfl rfl (fun a_ w_ hn_ hBt hr hR hD hO hS => op_ltxt (isl_eq (show a_.eval (.tmp 18) = .slice b_3 s_3.length d_3 from hD 3 rfl) (S3.rl hr) V3 k3) (by omega)),
        .norm 20 rfl rfl rfl (fun a_ w_ hn_ hBt hr hR hD hO hS => op_addst (show a_.eval (.tmp 16) = .string ((txt (nm (tp pr qr) (tq qr))) ++ ⟨#[47]⟩) from hD 1 rfl) (show a_.eval (.tmp 19) = .string (txt (dn (tp pr qr) (tq qr))) from hD 4 rfl) (by rw [ByteArray.size_append, ByteArray.size_append]; have h3_ : (⟨#[47]⟩ : ByteArray).size = 1 := rfl; omega)),
        .norm 2 rfl rfl rfl (fun a_ w_ hn_ hBt hr hR hD hO hS => op_assign (show a_.eval (.tmp 20) = .string (((txt (nm (tp pr qr) (tq qr))) ++ ⟨#[47]⟩) ++ (txt (dn (tp pr qr) (tq qr)))) from hD 5 rfl)),
        trivial⟩
    intro a7 w7 gs7 hn7 hd7 hBt hr hR hP hX hU
    replace hn := hn7; replace hd := hd7.trans hd
    have e2 : a7.eval (.tmp 2) = .string (((txt (nm (tp pr qr) (tq qr))) ++ ⟨#[47]⟩) ++ (txt (dn (tp pr qr) (tq qr)))) := hP 6 (by decide)
    have f2 := e2
    replace Ar := Ar.rl hr
    replace Sr := Sr.rl hr
    replace Dr := Dr.rl hr
    replace G3 := G3.rl hr
    replace A3 := A3.rl hr
    replace K3 := K3.rl hr
    replace S3 := S3.rl hr
    replace HB := HB.trans (hBt.below HB.size (UpOld.all (bx := []) trivial))
    clear hBt hr hR hP hX hU
    refine wp_ret ?_
    repeat (first | refine then_ret ?_ | refine scope_ret ?_ | refine block_ret ?_)
    exact bodyPost_ret (v := .string (((txt (nm (tp pr qr) (tq qr))) ++ ⟨#[47]⟩) ++ (txt (dn (tp pr qr) (tq qr))))) (res_t rfl f2) hd ⟨by rw [rtxt2 hq1], HB⟩
theorem cmpI_eq0x {x y : Int} (h : cmpI x y = 0) : x = y := by
  unfold cmpI at h
  split at h
  · omega
  · split at h <;> omega
set_option maxRecDepth 20000 in
set_option maxHeartbeats 2000000 in
theorem q3text_z (w : World) (L : Nat) (hL : L ≤ 10000) (nr : Bool) (ar : Option Addr) (mr cr : Nat) (rs : List Int) (pr : Int) (Ar : Ag w nr ar mr cr rs pr) (Lr : rs.length ≤ L) (br : Option Addr) (kr dr : Nat) (rt : List Int) (qr : Int) (Sr : Sl w (.slice br kr dr) rt) (Vr : val rt = qr) (Mr : rt.length ≤ L) :
    Calls Tryd.prog 28 #[.agg #[.bool nr, .slice ar mr cr, .slice br kr dr]] w fun e w' => e = .returned (.string (rtxt (nm (tp pr qr) (tq qr)) (dn (tp pr qr) (tq qr)))) ∧ Below w.heap.size w w' := by
  go_enter Tryd.func28, Tryd.ntmps28
  generalize hA : (Act.mk _ _) = aa
  have hn : aa.tmps.size = 22 := by rw [← hA]; rfl
  have hd : aa.defers = [] := by rw [← hA]
  have f0 : aa.eval (.tmp 0) = .agg #[.bool nr, .slice ar mr cr, .slice br kr dr] := by rw [← hA]; rfl
  clear hA
  have HB : Below w.heap.size w w := Below.refl _ _
  have Dr : Ag w false br kr dr rt qr := ⟨Sr, Vr⟩
  refine wp_seq ?_
  refine region4 [some 1, some 2] [(fun _ _ => True), Eqs ((.string ⟨#[]⟩))] [⟨R3, some 0, 0, 1, .agg #[.bool nr, .slice ar mr cr, .slice br kr dr], none, []⟩] [] (by kernel_rfl) hn rfl (by kernel_rfl) (by kernel_rfl) (by kernel_rfl) (by kernel_rfl) (by kernel_rfl) (by kernel_rfl) ⟨True.mono4, Eqs.mono4 _, trivial⟩ (ok_cons R3ok ok_nil) (IsOld.all (bx := [⟨R3, some 0, 0, 1, .agg #[.bool nr, .slice ar mr cr, .slice br kr dr], none, []⟩]) ⟨someNe, trivial⟩) (DisOld.all (bx := [⟨R3, some 0, 0, 1, .agg #[.bool nr, .slice ar mr cr, .slice br kr dr], none, []⟩]) ⟨someNe, trivial⟩) ?_ ?_
  · exact ⟨.alloc 0 _ rfl rfl (.inr ⟨_, rfl, r3_cs, fun a_ hR => (hR 0 rfl).trans f0⟩) rfl rfl rfl rfl rfl,
      .norm 2 rfl rfl rfl (fun a_ w_ hn_ hBt hr hR hD hO hS => op_assign rfl),
      trivial⟩
  intro a1 w1 gs1 hn1 hd1 hBt hr hR hP hX hU
  replace hn := hn1; replace hd := hd1.trans hd
  have b1 : BoxV R3 w1 (gs1 0) (.agg #[.bool nr, .slice ar mr cr, .slice br kr dr]) := (hX 0 _ rfl).2.2.2
  have f1 := (hX 0 _ rfl).1
  have u1 : w.heap.size ≤ gs1 0 := Nat.le_trans HB.size ((hX 0 _ rfl).2.2.1 (by simp))
  have e2 : a1.eval (.tmp 2) = (.string ⟨#[]⟩) := hP 1 (by decide)
  have f2 := e2
  replace Ar := Ar.rl hr
  replace Sr := Sr.rl hr
  replace Dr := Dr.rl hr
  replace HB := HB.trans (hBt.below HB.size (UpOld.all (bx := [⟨R3, some 0, 0, 1, .agg #[.bool nr, .slice ar mr cr, .slice br kr dr], none, []⟩]) ⟨someNe, trivial⟩))
  clear hBt hr hR hP hX hU
  refine wp_seq ?_
  refine region4 [some 5, some 6, some 3, none] [Eqs (.agg #[.bool nr, .slice ar mr cr, .slice br kr dr]), OutQ ((nm (tp pr qr) (tq qr))) ((dn (tp pr qr) (tq qr))) (6 * (L) + 10), (fun _ _ => True), (fun _ _ => True)] [⟨Q4, some 2, 0, 3, .agg #[.bool false, .slice none 0 0, .bool false, .slice none 0 0], some (3, 6, 1), []⟩] [] (by kernel_rfl) hn rfl (by kernel_rfl) (by kernel_rfl) (by kernel_rfl) (by kernel_rfl) (by kernel_rfl) (by kernel_rfl) ⟨Eqs.mono4 _, OutQ.mono4 _ _ _, True.mono4, True.mono4, trivial⟩ (ok_cons Q4ok ok_nil) (IsOld.all (bx := [⟨Q4, some 2, 0, 3, .agg #[.bool false, .slice none 0 0, .bool false, .slice none 0 0], some (3, 6, 1), []⟩]) ⟨someNe, trivial⟩) (DisOld.all (bx := [⟨Q4, some 2, 0, 3, .agg #[.bool false, .slice none 0 0, .bool false, .slice none 0 0], some (3, 6, 1), []⟩]) ⟨someNe, trivial⟩) ?_ ?_
  · exact ⟨.norm 5 rfl rfl rfl (fun a_ w_ hn_ hBt hr hR hD hO hS => op_loadv R3ok ((hR 1 rfl).trans f1) (b1.keep hBt ⟨someNe, trivial⟩)),
      .norm 6 rfl rfl rfl (fun a_ w_ hn_ hBt hr hR hD hO hS => op_qread (isr_eq (show a_.eval (.tmp 5) = .agg #[.bool nr, .slice ar mr cr, .slice br kr dr] from hD 0 rfl) (Ar.rl hr) (Sr.rl hr) Vr Lr Mr) (by omega)),
      .alloc 0 _ rfl rfl (.inl ⟨rfl, rfl⟩) rfl rfl rfl rfl rfl,
      .store 0 _ _ _ rfl rfl rfl rfl rfl rfl rfl (fun ia h => by cases h; rfl) rfl rfl rfl OutQ.cs,
      trivial⟩
  intro a2 w2 gs2 hn2 hd2 hBt hr hR hP hX hU
  replace hn := hn2; replace hd := hd2.trans hd
  obtain ⟨n_3, a_3, c_3, r_3, o_3, b_3, d_3, s_3, e6, G3, K3, l3, k3⟩ : OutQ ((nm (tp pr qr) (tq qr))) ((dn (tp pr qr) (tq qr))) (6 * (L) + 10) (a2.eval (.tmp 6)) w2 := hP 1 (by decide)
  have b3 : BoxV Q4 w2 (gs2 0) (.agg #[.bool n_3, .slice a_3 r_3.length c_3, .bool o_3, .slice b_3 s_3.length d_3]) := boxv_of (hX 0 _ rfl).2.2.2 e6
  have f3 := (hX 0 _ rfl).1
  have u3 : w.heap.size ≤ gs2 0 := Nat.le_trans HB.size ((hX 0 _ rfl).2.2.1 (by simp))
  replace f2 := (hR 2 rfl).trans f2
  replace Ar := Ar.rl hr
  replace Sr := Sr.rl hr
  replace Dr := Dr.rl hr
  replace HB := HB.trans (hBt.below HB.size (UpOld.all (bx := [⟨Q4, some 2, 0, 3, .agg #[.bool false, .slice none 0 0, .bool false, .slice none 0 0], some (3, 6, 1), []⟩]) ⟨someNe, trivial⟩))
  clear hBt hr hR hP hX hU
  refine wp_seq ?_
  have hsp := whn_txt G3; have hsq := whn_txt K3
  have hlp := l3; have hlq := k3
  refine region4 [some 7, some 8, some 9, some 4] [Eqs (.pointer (some ⟨gs2 0, 0, none⟩)), Eqs (.agg #[.bool n_3, .slice a_3 r_3.length c_3]), Eqs (.string (txt (nm (tp pr qr) (tq qr)))), Eqs (.string (txt (nm (tp pr qr) (tq qr))))] [] [] (by kernel_rfl) hn rfl (by kernel_rfl) (by kernel_rfl) (by kernel_rfl) (by kernel_rfl) (by kernel_rfl) (by kernel_rfl) ⟨Eqs.mono4 _, Eqs.mono4 _, Eqs.mono4 _, Eqs.mono4 _, trivial⟩ ok_nil (IsOld.all (bx := []) trivial) (DisOld.all (bx := []) trivial) ?_ ?_
  · exact ⟨.norm 7 rfl rfl rfl (fun a_ w_ hn_ hBt hr hR hD hO hS => op_faQ fa_q0 ((hR 3 rfl).trans f3)),
      .norm 8 rfl rfl rfl (fun a_ w_ hn_ hBt hr hR hD hO hS => op_ldq0 (show a_.eval (.tmp 7) = .pointer (some ⟨gs2 0, 0, none⟩) from hD 0 rfl) (b3.keep hBt trivial)),
      .norm 9 rfl rfl rfl (fun a_ w_ hn_ hBt hr hR hD hO hS => op_ntext (outn_eq (show a_.eval (.tmp 8) = .agg #[.bool n_3, .slice a_3 r_3.length c_3] from hD 1 rfl) (G3.rl hr) l3) (by omega)),
      .norm 4 rfl rfl rfl (fun a_ w_ hn_ hBt hr hR hD hO hS => op_assign (show a_.eval (.tmp 9) = .string (txt (nm (tp pr qr) (tq qr))) from hD 2 rfl)),
      trivial⟩
  intro a4 w4 gs4 hn4 hd4 hBt hr hR hP hX hU
  replace hn := hn4; replace hd := hd4.trans hd
  replace b3 := b3.keep hBt trivial
  replace f2 := (hR 2 rfl).trans f2
  replace f3 := (hR 3 rfl).trans f3
  have e4 : a4.eval (.tmp 4) = .string (txt (nm (tp pr qr) (tq qr))) := hP 3 (by decide)
  have f4 := e4
  replace Ar := Ar.rl hr
  replace Sr := Sr.rl hr
  replace Dr := Dr.rl hr
  replace G3 := G3.rl hr
  replace K3 := K3.rl hr
  replace HB := HB.trans (hBt.below HB.size (UpOld.all (bx := []) trivial))
  clear hBt hr hR hP hX hU
  refine wp_seq ?_
  refine wp_seq ?_
  refine region4 [some 10, some 11, some 12, some 13, some 14] [Eqs (.pointer (some ⟨gs2 0, 2, none⟩)), Eqs (.agg #[.bool o_3, .slice b_3 s_3.length d_3]), OutN (1) (5), Eqs (.int .i64 (cmpI (dn (tp pr qr) (tq qr)) 1)), Eqs (.bool (!decide ((cmpI (dn (tp pr qr) (tq qr)) 1) = 0)))] [] [] (by kernel_rfl) hn rfl (by kernel_rfl) (by kernel_rfl) (by kernel_rfl) (by kernel_rfl) (by kernel_rfl) (by kernel_rfl) ⟨Eqs.mono4 _, Eqs.mono4 _, OutN.mono4 _ _, Eqs.mono4 _, Eqs.mono4 _, trivial⟩ ok_nil (IsOld.all (bx := []) trivial) (DisOld.all (bx := []) trivial) ?_ ?_
  · exact ⟨.norm 10 rfl rfl rfl (fun a_ w_ hn_ hBt hr hR hD hO hS => op_faQ fa_q1 ((hR 3 rfl).trans f3)),
      .norm 11 rfl rfl rfl (fun a_ w_ hn_ hBt hr hR hD hO hS => op_ldq1 (show a_.eval (.tmp 10) = .pointer (some ⟨gs2 0, 2, none⟩) from hD 0 rfl) (b3.keep hBt trivial)),
      .norm 12 rfl rfl rfl (fun a_ w_ hn_ hBt hr hR hD hO hS => op_nint (by omega) (by omega)),
      .norm 13 rfl rfl rfl (fun a_ w_ hn_ hBt hr hR hD hO hS => op_ncmp (outn_eq (show a_.eval (.tmp 11) = .agg #[.bool o_3, .slice b_3 s_3.length d_3] from hD 1 rfl) (K3.rl hr) k3) (show OutN (1) (5) (a_.eval (.tmp 12)) w_ from hD 2 rfl)),
      .norm 14 rfl rfl rfl (fun a_ w_ hn_ hBt hr hR hD hO hS => op_neqk (show a_.eval (.tmp 13) = .int .i64 (cmpI (dn (tp pr qr) (tq qr)) 1) from hD 3 rfl)),
      trivial⟩
  intro a5 w5 gs5 hn5 hd5 hBt hr hR hP hX hU
  replace hn := hn5; replace hd := hd5.trans hd
  replace b3 := b3.keep hBt trivial
  replace f2 := (hR 2 rfl).trans f2
  replace f3 := (hR 3 rfl).trans f3
  replace f4 := (hR 4 rfl).trans f4
  have e14 : a5.eval (.tmp 14) = .bool (!decide ((cmpI (dn (tp pr qr) (tq qr)) 1) = 0)) := hP 4 (by decide)
  have f14 := e14
  replace Ar := Ar.rl hr
  replace Sr := Sr.rl hr
  replace Dr := Dr.rl hr
  replace G3 := G3.rl hr
  replace K3 := K3.rl hr
  replace HB := HB.trans (hBt.below HB.size (UpOld.all (bx := []) trivial))
  clear hBt hr hR hP hX hU
  refine wp_cond_split f14 (fun hc14 => ?_) (fun hc14 => ?_)
  · skip
    have h_ : ¬ cmpI (dn (tp pr qr) (tq qr)) 1 = 0 := by simpa using hc14
    have hq1 : dn (tp pr qr) (tq qr) ≠ 1 := fun e => h_ (by rw [e]; decide)
    refine region4 [some 15, some 16, some 17, some 18, some 19, some 20, some 4] [Eqs (.string (txt (nm (tp pr qr) (tq qr)))), Eqs (.string ((txt (nm (tp pr qr) (tq qr))) ++ ⟨#[47]⟩)), Eqs (.pointer (some ⟨gs2 0, 2, none⟩)), Eqs (.agg #[.bool o_3, .slice b_3 s_3.length d_3]), Eqs (.string (txt (dn (tp pr qr) (tq qr)))), Eqs (.string (((txt (nm (tp pr qr) (tq qr))) ++ ⟨#[47]⟩) ++ (txt (dn (tp pr qr) (tq qr))))), Eqs (.string (((txt (nm (tp pr qr) (tq qr))) ++ ⟨#[47]⟩) ++ (txt (dn (tp pr qr) (tq qr)))))] [] [(6, 0)] (by kernel_rfl) hn rfl (by kernel_rfl) (by kernel_rfl) (by kernel_rfl) (by kernel_rfl) (by kernel_rfl) (by kernel_rfl) ⟨Eqs.mono4 _, Eqs.mono4 _, Eqs.mono4 _, Eqs.mono4 _, Eqs.mono4 _, Eqs.mono4 _, Eqs.mono4 _, trivial⟩ ok_nil (IsOld.all (bx := []) trivial) (DisOld.all (bx := []) trivial) ?_ ?_
    · exact ⟨.norm 15 rfl rfl rfl (fun a_ w_ hn_ hBt hr hR hD hO hS => op_mv ((hS 6 4 rfl rfl).trans f4)),
        .norm 16 rfl rfl rfl (fun a_ w_ hn_ hBt hr hR hD hO hS => op_addsk (show a_.eval (.tmp 15) = .string (txt (nm (tp pr qr) (tq qr))) from hD 0 rfl) (by rw [ByteArray.size_append]; have h3_ : (⟨#[47]⟩ : ByteArray).size = 1 := rfl; omega)),
        .norm 17 rfl rfl rfl (fun a_ w_ hn_ hBt hr hR hD hO hS => op_faQ fa_q1 ((hR 3 rfl).trans f3)),
        .norm 18 rfl rfl rfl (fun a_ w_ hn_ hBt hr hR hD hO hS => op_ldq1 (show a_.eval (.tmp 17) = .pointer (some ⟨gs2 0, 2, none⟩) from hD 2 rfl) (b3.keep hBt trivial)),
        .norm 19 rfl rfl rfl (fun a_ w_ hn_ hBt hr hR hD hO hS => op_ntext (outn_eq (show a_.eval (.tmp 18) = .agg #[.bool o_3, .slice b_3 s_3.length d_3] from hD 3 rfl) (K3.rl hr) k3) (by omega)),
        .norm 20 rfl rfl rfl (fun a_ w_ hn_ hBt hr hR hD hO hS => op_addst (show a_.eval (.tmp 16) = .string ((txt (nm (tp pr qr) (tq qr))) ++ ⟨#[47]⟩) from hD 1 rfl) (show a_.eval (.tmp 19) = .string (txt (dn (tp pr qr) (tq qr))) from hD 4 rfl) (by rw [ByteArray.size_append, ByteArray.size_append]; have h3_ : (⟨#[47]⟩ : ByteArray).size = 1 := rfl; omega)),
        .norm 4 rfl rfl rfl (fun a_ w_ hn_ hBt hr hR hD hO hS => op_assign (show a_.eval (.tmp 20) = .string (((txt (nm (tp pr qr) (tq qr))) ++ ⟨#[47]⟩) ++ (txt (dn (tp pr qr) (tq qr)))) from hD 5 rfl)),
        trivial⟩
    intro a6 w6 gs6 hn6 hd6 hBt hr hR hP hX hU
    replace hn := hn6; replace hd := hd6.trans hd
    replace f2 := (hR 2 rfl).trans f2
    have e4 : a6.eval (.tmp 4) = .string (((txt (nm (tp pr qr) (tq qr))) ++ ⟨#[47]⟩) ++ (txt (dn (tp pr qr) (tq qr)))) := hP 6 (by decide)
    have f4 := e4
    replace Ar := Ar.rl hr
    replace Sr := Sr.rl hr
    replace Dr := Dr.rl hr
    replace G3 := G3.rl hr
    replace K3 := K3.rl hr
    replace HB := HB.trans (hBt.below HB.size (UpOld.all (bx := []) trivial))
    clear hBt hr hR hP hX hU
    refine wp_seq ?_
    refine region4 [some 21, some 2] [Eqs (.string (((txt (nm (tp pr qr) (tq qr))) ++ ⟨#[47]⟩) ++ (txt (dn (tp pr qr) (tq qr))))), Eqs (.string (((txt (nm (tp pr qr) (tq qr))) ++ ⟨#[47]⟩) ++ (txt (dn (tp pr qr) (tq qr)))))] [] [] (by kernel_rfl) hn rfl (by kernel_rfl) (by kernel_rfl) (by kernel_rfl) (by kernel_rfl) (by kernel_rfl) (by kernel_rfl) ⟨Eqs.mono4 _, Eqs.mono4 _, trivial⟩ ok_nil (IsOld.all (bx := []) trivial) (DisOld.all (bx := []) trivial) ?_ ?_
    · exact ⟨.norm 21 rfl rfl rfl (fun a_ w_ hn_ hBt hr hR hD hO hS => op_mv ((hR 4 rfl).trans f4)),
        .norm 2 rfl rfl rfl (fun a_ w_ hn_ hBt hr hR hD hO hS => op_assign (show a_.eval (.tmp 21) = .string (((txt (nm (tp pr qr) (tq qr))) ++ ⟨#[47]⟩) ++ (txt (dn (tp pr qr) (tq qr)))) from hD 0 rfl)),
        trivial⟩
    intro a7 w7 gs7 hn7 hd7 hBt hr hR hP hX hU
    replace hn := hn7; replace hd := hd7.trans hd
    have e2 : a7.eval (.tmp 2) = .string (((txt (nm (tp pr qr) (tq qr))) ++ ⟨#[47]⟩) ++ (txt (dn (tp pr qr) (tq qr)))) := hP 1 (by decide)
    have f2 := e2
    replace Ar := Ar.rl hr
    replace Sr := Sr.rl hr
    replace Dr := Dr.rl hr
    replace G3 := G3.rl hr
    replace K3 := K3.rl hr
    replace HB := HB.trans (hBt.below HB.size (UpOld.all (bx := []) trivial))
    clear hBt hr hR hP hX hU
    refine wp_ret ?_
    repeat (first | refine then_ret ?_ | refine scope_ret ?_ | refine block_ret ?_)
    exact bodyPost_ret (v := .string (((txt (nm (tp pr qr) (tq qr))) ++ ⟨#[47]⟩) ++ (txt (dn (tp pr qr) (tq qr))))) (res_t rfl f2) hd ⟨by rw [rtxt2 hq1], HB⟩
  · skip
    have hq1 : dn (tp pr qr) (tq qr) = 1 := cmpI_eq0x (by simpa using hc14)
    refine wp_skip ?_
    refine wp_seq ?_
    refine region4 [some 21, some 2] [Eqs (.string (txt (nm (tp pr qr) (tq qr)))), Eqs (.string (txt (nm (tp pr qr) (tq qr))))] [] [] (by kernel_rfl) hn rfl (by kernel_rfl) (by kernel_rfl) (by kernel_rfl) (by kernel_rfl) (by kernel_rfl) (by kernel_rfl) ⟨Eqs.mono4 _, Eqs.mono4 _, trivial⟩ ok_nil (IsOld.all (bx := []) trivial) (DisOld.all (bx := []) trivial) ?_ ?_
    · exact ⟨.norm 21 rfl rfl rfl (fun a_ w_ hn_ hBt hr hR hD hO hS => op_mv ((hR 4 rfl).trans f4)),
        .norm 2 rfl rfl rfl (fun a_ w_ hn_ hBt hr hR hD hO hS => op_assign (show a_.eval (.tmp 21) = .string (txt (nm (tp pr qr) (tq qr))) from hD 0 rfl)),
        trivial⟩
    intro a8 w8 gs8 hn8 hd8 hBt hr hR hP hX hU
    replace hn := hn8; replace hd := hd8.trans hd
    have e2 : a8.eval (.tmp 2) = .string (txt (nm (tp pr qr) (tq qr))) := hP 1 (by decide)
    have f2 := e2
    replace Ar := Ar.rl hr
    replace Sr := Sr.rl hr
    replace Dr := Dr.rl hr
    replace G3 := G3.rl hr
    replace K3 := K3.rl hr
    replace HB := HB.trans (hBt.below HB.size (UpOld.all (bx := []) trivial))
    clear hBt hr hR hP hX hU
    refine wp_ret ?_
    repeat (first | refine then_ret ?_ | refine scope_ret ?_ | refine block_ret ?_)
    exact bodyPost_ret (v := .string (txt (nm (tp pr qr) (tq qr)))) (res_t rfl f2) hd ⟨by rw [rtxt1 hq1], HB⟩
end Lm
end Go.Proofs.YtdiiankcjgoecaaDoor

namespace Go.Proofs.YtdiiankcjgoecaaDoor
namespace Lm
open Go Go.RowKit
set_option maxRecDepth 20000 in
set_option maxHeartbeats 2000000 in
theorem q3parse_z (w : World) (s : ByteArray) :
    Calls Tryd.prog 25 #[.string s] w fun e w' => ∃ v, e = .returned v ∧ Tup2 (OutR (rAns s).1 (rAns s).2.1 24000) (Eqs (.int .i64 (rAns s).2.2)) v w' ∧ Below w.heap.size w w' := by
  go_enter Tryd.func25, Tryd.ntmps25
  generalize hA : (Act.mk _ _) = aa
  have hn : aa.tmps.size = 63 := by rw [← hA]; rfl
  have hd : aa.defers = [] := by rw [← hA]
  have f0 : aa.eval (.tmp 0) = .string s := by rw [← hA]; rfl
  clear hA
  have HB : Below w.heap.size w w := Below.refl _ _
  refine wp_seq ?_
  refine region4 [some 2, some 3] [(fun _ _ => True), Eqs ((.int .i64 0))] [⟨R3, some 0, 0, 2, .agg #[.bool false, .slice none 0 0, .slice none 0 0], none, []⟩] [] (by kernel_rfl) hn rfl (by kernel_rfl) (by kernel_rfl) (by kernel_rfl) (by kernel_rfl) (by kernel_rfl) (by kernel_rfl) ⟨True.mono4, Eqs.mono4 _, trivial⟩ (ok_cons R3ok ok_nil) (IsOld.all (bx := [⟨R3, some 0, 0, 2, .agg #[.bool false, .slice none 0 0, .slice none 0 0], none, []⟩]) ⟨someNe, trivial⟩) (DisOld.all (bx := [⟨R3, some 0, 0, 2, .agg #[.bool false, .slice none 0 0, .slice none 0 0], none, []⟩]) ⟨someNe, trivial⟩) ?_ ?_
  · exact ⟨.alloc 0 _ rfl rfl (.inl ⟨rfl, rfl⟩) rfl rfl rfl rfl rfl,
      .norm 3 rfl rfl rfl (fun a_ w_ hn_ hBt hr hR hD hO hS => op_assign rfl),
      trivial⟩
  intro a1 w1 gs1 hn1 hd1 hBt hr hR hP hX hU
  replace hn := hn1; replace hd := hd1.trans hd
  have b2 : BoxV R3 w1 (gs1 0) (.agg #[.bool false, .slice none 0 0, .slice none 0 0]) := (hX 0 _ rfl).2.2.2
  have f2 := (hX 0 _ rfl).1
  have u2 : w.heap.size ≤ gs1 0 := Nat.le_trans HB.size ((hX 0 _ rfl).2.2.1 (by simp))
  replace f0 := (hR 0 rfl).trans f0
  have e3 : a1.eval (.tmp 3) = (.int .i64 0) := hP 1 (by decide)
  have f3 := e3
  replace HB := HB.trans (hBt.below HB.size (UpOld.all (bx := [⟨R3, some 0, 0, 2, .agg #[.bool false, .slice none 0 0, .slice none 0 0], none, []⟩]) ⟨someNe, trivial⟩))
  clear hBt hr hR hP hX hU
  refine wp_seq ?_
  refine wp_seq ?_
  refine region4 [some 8, some 9, some 10] [Eqs (.string s), Eqs (.int .i64 ((s).size : Int)), Eqs (.bool (decide (10240 < ((s).size : Int))))] [] [] (by kernel_rfl) hn rfl (by kernel_rfl) (by kernel_rfl) (by kernel_rfl) (by kernel_rfl) (by kernel_rfl) (by kernel_rfl) ⟨Eqs.mono4 _, Eqs.mono4 _, Eqs.mono4 _, trivial⟩ ok_nil (IsOld.all (bx := []) trivial) (DisOld.all (bx := []) trivial) ?_ ?_
  · exact ⟨.norm 8 rfl rfl rfl (fun a_ w_ hn_ hBt hr hR hD hO hS => op_mv ((hR 0 rfl).trans f0)),
      .norm 9 rfl rfl rfl (fun a_ w_ hn_ hBt hr hR hD hO hS => op_lens (show a_.eval (.tmp 8) = .string s from hD 0 rfl)),
      .norm 10 rfl rfl rfl (fun a_ w_ hn_ hBt hr hR hD hO hS => op_gtrk (show a_.eval (.tmp 9) = .int .i64 ((s).size : Int) from hD 1 rfl)),
      trivial⟩
  intro a2 w2 gs2 hn2 hd2 hBt hr hR hP hX hU
  replace hn := hn2; replace hd := hd2.trans hd
  replace b2 := b2.keep hBt trivial
  replace f0 := (hR 0 rfl).trans f0
  replace f2 := (hR 2 rfl).trans f2
  replace f3 := (hR 3 rfl).trans f3
  have e10 : a2.eval (.tmp 10) = .bool (decide (10240 < ((s).size : Int))) := hP 2 (by decide)
  have f10 := e10
  replace HB := HB.trans (hBt.below HB.size (UpOld.all (bx := []) trivial))
  clear hBt hr hR hP hX hU
  refine wp_cond_split f10 (fun hc10 => ?_) (fun hc10 => ?_)
  · skip
    have hsz := of_decide_eq_true hc10
    refine wp_seq ?_
    refine region4 [some 11, none, some 3] [Eqs (.agg #[.bool false, .slice none 0 0, .slice none 0 0]), (fun _ _ => True), Eqs ((.int .i64 2))] [⟨R3, none, (gs1 0), 2, .agg #[.bool false, .slice none 0 0, .slice none 0 0], some (1, 11, 0), []⟩] [] (by kernel_rfl) hn rfl (by kernel_rfl) (by kernel_rfl) (by kernel_rfl) (by kernel_rfl) (by kernel_rfl) (by kernel_rfl) ⟨Eqs.mono4 _, True.mono4, Eqs.mono4 _, trivial⟩ (ok_cons R3ok ok_nil) (IsOld.all (bx := [⟨R3, none, (gs1 0), 2, .agg #[.bool false, .slice none 0 0, .slice none 0 0], some (1, 11, 0), []⟩]) ⟨fun _ => ⟨f2, b2⟩, trivial⟩) (DisOld.all (bx := [⟨R3, none, (gs1 0), 2, .agg #[.bool false, .slice none 0 0, .slice none 0 0], some (1, 11, 0), []⟩]) ⟨fun _ => trivial, trivial⟩) ?_ ?_
    · exact ⟨.norm 11 rfl rfl rfl (fun a_ w_ hn_ hBt hr hR hD hO hS => op_bR0),
        .store 0 _ _ _ rfl rfl rfl rfl rfl rfl rfl (fun ia h => by cases h) rfl rfl rfl (eqs_cs r3_cs),
        .norm 3 rfl rfl rfl (fun a_ w_ hn_ hBt hr hR hD hO hS => op_assign rfl),
        trivial⟩
    intro a3 w3 gs3 hn3 hd3 hBt hr hR hP hX hU
    replace hn := hn3; replace hd := hd3.trans hd
    have e11 : a3.eval (.tmp 11) = .agg #[.bool false, .slice none 0 0, .slice none 0 0] := hP 0 (by decide)
    have b2 : BoxV R3 w3 ((gs1 0)) (.agg #[.bool false, .slice none 0 0, .slice none 0 0]) := boxv_old ((hX 0 _ rfl).2.1 rfl) (hX 0 _ rfl).2.2.2 e11
    replace f2 : a3.eval (.tmp 2) = _ := (hR 2 rfl).trans f2
    replace f0 := (hR 0 rfl).trans f0
    have e3 : a3.eval (.tmp 3) = (.int .i64 2) := hP 2 (by decide)
    have f3 := e3
    replace HB := HB.trans (hBt.below HB.size (UpOld.all (bx := [⟨R3, none, (gs1 0), 2, .agg #[.bool false, .slice none 0 0, .slice none 0 0], some (1, 11, 0), []⟩]) ⟨fun _ => u2, trivial⟩))
    clear hBt hr hR hP hX hU
    refine wp_ret ?_
    repeat (first | refine then_ret ?_ | refine scope_ret ?_ | refine block_ret ?_)
    exact bodyPost_ret (v := .tuple #[.agg #[.bool false, .slice none 0 0, .slice none 0 0], (.int .i64 2)]) (res_ct rfl f2 (lv_R3 b2) f3) hd ⟨_, rfl, ⟨_, _, rfl, by rw [ra1 hsz]; exact outr_zero0 _, by rw [ra1 hsz]; rfl⟩, HB⟩
  · skip
    have hsz := of_decide_eq_false hc10
    refine wp_skip ?_
    refine wp_seq ?_
    refine region4 [some 4] [Eqs ((.int .i64 0))] [] [] (by kernel_rfl) hn rfl (by kernel_rfl) (by kernel_rfl) (by kernel_rfl) (by kernel_rfl) (by kernel_rfl) (by kernel_rfl) ⟨Eqs.mono4 _, trivial⟩ ok_nil (IsOld.all (bx := []) trivial) (DisOld.all (bx := []) trivial) ?_ ?_
    · exact ⟨.norm 4 rfl rfl rfl (fun a_ w_ hn_ hBt hr hR hD hO hS => op_assign rfl),
        trivial⟩
    intro a4 w4 gs4 hn4 hd4 hBt hr hR hP hX hU
    replace hn := hn4; replace hd := hd4.trans hd
    replace b2 := b2.keep hBt trivial
    replace f0 := (hR 0 rfl).trans f0
    replace f2 := (hR 2 rfl).trans f2
    replace f3 := (hR 3 rfl).trans f3
    have e4 : a4.eval (.tmp 4) = (.int .i64 0) := hP 0 (by decide)
    have f4 := e4
    replace HB := HB.trans (hBt.below HB.size (UpOld.all (bx := []) trivial))
    clear hBt hr hR hP hX hU
    refine wp_seq ?_
    refine wp_block ?_
    refine wp_loop_ghost (fun n a w' => a.tmps.size = 63 ∧ a.defers = [] ∧ a.eval (.tmp 0) = .string s ∧ a.eval (.tmp 2) = .pointer (some ⟨gs1 0, 0, none⟩) ∧ BoxV R3 w' (gs1 0) (.agg #[.bool false, .slice none 0 0, .slice none 0 0]) ∧ Below w.heap.size w w' ∧ ∃ k : Nat, k + n = s.size ∧ a.eval (.tmp 4) = .int .i64 (k : Int) ∧ ∀ i, i < k → ((s.get! i).toNat : Int) ≠ 47) s.size ⟨hn, hd, f0, f2, b2, HB, 0, by omega, f4, fun i h => by omega⟩ ?_
    clear hn hd HB f0 f2 f3 f4 b2
    rintro nL aL wL ⟨hn, hd, f0, f2, b2, HB, kL, hk, f4, hno⟩
    refine wp_seq ?_
    refine wp_seq ?_
    refine region4 [some 12, some 13, some 14, some 15, some 16, some 17, some 18, some 19, some 20, some 21] [Eqs (.int .i64 (kL : Int)), Eqs (.string s), Eqs (.int .i64 ((s).size : Int)), Eqs (.bool (decide ((kL : Int) < ((s).size : Int)))), Eqs (.bool (decide ((kL : Int) < ((s).size : Int)))), IfS ((kL : Int) < ((s).size : Int)) (Eqs (.string s)), IfS ((kL : Int) < ((s).size : Int)) (Eqs (.int .i64 (kL : Int))), IfS ((kL : Int) < ((s).size : Int)) (Eqs (.int .u8 ((s.get! kL).toNat : Int))), IfS ((kL : Int) < ((s).size : Int)) (Eqs (.bool (decide (((s.get! kL).toNat : Int) ≠ 47)))), Eqs (.bool (decide (((kL : Int) < ((s).size : Int)) ∧ (((s.get! kL).toNat : Int) ≠ 47))))] [] [] (by kernel_rfl) hn rfl (by kernel_rfl) (by kernel_rfl) (by kernel_rfl) (by kernel_rfl) (by kernel_rfl) (by kernel_rfl) ⟨Eqs.mono4 _, Eqs.mono4 _, Eqs.mono4 _, Eqs.mono4 _, Eqs.mono4 _, IfS.mono4 (Eqs.mono4 _), IfS.mono4 (Eqs.mono4 _), IfS.mono4 (Eqs.mono4 _), IfS.mono4 (Eqs.mono4 _), Eqs.mono4 _, trivial⟩ ok_nil (IsOld.all (bx := []) trivial) (DisOld.all (bx := []) trivial) ?_ ?_
    · exact ⟨.norm 12 rfl rfl rfl (fun a_ w_ hn_ hBt hr hR hD hO hS => op_mv ((hR 4 rfl).trans f4)),
        .norm 13 rfl rfl rfl (fun a_ w_ hn_ hBt hr hR hD hO hS => op_mv ((hR 0 rfl).trans f0)),
        .norm 14 rfl rfl rfl (fun a_ w_ hn_ hBt hr hR hD hO hS => op_lens (show a_.eval (.tmp 13) = .string s from hD 1 rfl)),
        .norm 15 rfl rfl rfl (fun a_ w_ hn_ hBt hr hR hD hO hS => op_lssi (show a_.eval (.tmp 12) = .int .i64 (kL : Int) from hD 0 rfl) (show a_.eval (.tmp 14) = .int .i64 ((s).size : Int) from hD 2 rfl)),
        .norm 16 rfl rfl rfl (fun a_ w_ hn_ hBt hr hR hD hO hS => op_mv (show a_.eval (.tmp 15) = .bool (decide ((kL : Int) < ((s).size : Int))) from hD 3 rfl)),
        .norm 17 rfl rfl rfl (fun a_ w_ hn_ hBt hr hR hD hO hS => ⟨⟨_, rfl⟩, fun hg_ => (have hP_ : (kL : Int) < ((s).size : Int) := gtrue (show Eqs (.bool (decide ((kL : Int) < ((s).size : Int)))) _ w_ from hD 4 rfl) hg_; (op_mv ((hR 0 rfl).trans f0)).mono (fun _ _ h_ => ⟨h_.1, fun _ => h_.2⟩)), fun hne_ hP_ => absurd (gof (show Eqs (.bool (decide ((kL : Int) < ((s).size : Int)))) _ w_ from hD 4 rfl) hP_) hne_⟩),
        .norm 18 rfl rfl rfl (fun a_ w_ hn_ hBt hr hR hD hO hS => ⟨⟨_, rfl⟩, fun hg_ => (have hP_ : (kL : Int) < ((s).size : Int) := gtrue (show Eqs (.bool (decide ((kL : Int) < ((s).size : Int)))) _ w_ from hD 4 rfl) hg_; (op_mv ((hR 4 rfl).trans f4)).mono (fun _ _ h_ => ⟨h_.1, fun _ => h_.2⟩)), fun hne_ hP_ => absurd (gof (show Eqs (.bool (decide ((kL : Int) < ((s).size : Int)))) _ w_ from hD 4 rfl) hP_) hne_⟩),
        .norm 19 rfl rfl rfl (fun a_ w_ hn_ hBt hr hR hD hO hS => ⟨⟨_, rfl⟩, fun hg_ => (have hP_ : (kL : Int) < ((s).size : Int) := gtrue (show Eqs (.bool (decide ((kL : Int) < ((s).size : Int)))) _ w_ from hD 4 rfl) hg_; (op_idxt (show a_.eval (.tmp 17) = .string s from (show IfS ((kL : Int) < ((s).size : Int)) (Eqs (.string s)) (a_.eval (.tmp 17)) w_ from hD 5 rfl) hP_) (show a_.eval (.tmp 18) = .int .i64 (kL : Int) from (show IfS ((kL : Int) < ((s).size : Int)) (Eqs (.int .i64 (kL : Int))) (a_.eval (.tmp 18)) w_ from hD 6 rfl) hP_) (by omega)).mono (fun _ _ h_ => ⟨h_.1, fun _ => h_.2⟩)), fun hne_ hP_ => absurd (gof (show Eqs (.bool (decide ((kL : Int) < ((s).size : Int)))) _ w_ from hD 4 rfl) hP_) hne_⟩),
        .norm 20 rfl rfl rfl (fun a_ w_ hn_ hBt hr hR hD hO hS => ⟨⟨_, rfl⟩, fun hg_ => (have hP_ : (kL : Int) < ((s).size : Int) := gtrue (show Eqs (.bool (decide ((kL : Int) < ((s).size : Int)))) _ w_ from hD 4 rfl) hg_; (op_neq8d (show a_.eval (.tmp 19) = .int .u8 ((s.get! kL).toNat : Int) from (show IfS ((kL : Int) < ((s).size : Int)) (Eqs (.int .u8 ((s.get! kL).toNat : Int))) (a_.eval (.tmp 19)) w_ from hD 7 rfl) hP_)).mono (fun _ _ h_ => ⟨h_.1, fun _ => h_.2⟩)), fun hne_ hP_ => absurd (gof (show Eqs (.bool (decide ((kL : Int) < ((s).size : Int)))) _ w_ from hD 4 rfl) hP_) hne_⟩),
        .norm 21 rfl rfl rfl (fun a_ w_ hn_ hBt hr hR hD hO hS => op_pickand (show a_.eval (.tmp 16) = .bool (decide ((kL : Int) < ((s).size : Int))) from hD 4 rfl) (fun hP_ => (show a_.eval (.tmp 20) = .bool (decide (((s.get! kL).toNat : Int) ≠ 47)) from (show IfS ((kL : Int) < ((s).size : Int)) (Eqs (.bool (decide (((s.get! kL).toNat : Int) ≠ 47)))) (a_.eval (.tmp 20)) w_ from hD 8 rfl) hP_))),
        trivial⟩
    intro a5 w5 gs5 hn5 hd5 hBt hr hR hP hX hU
    replace hn := hn5; replace hd := hd5.trans hd
    replace b2 := b2.keep hBt trivial
    replace f0 := (hR 0 rfl).trans f0
    replace f2 := (hR 2 rfl).trans f2
    replace f4 := (hR 4 rfl).trans f4
    have e21 : a5.eval (.tmp 21) = .bool (decide (((kL : Int) < ((s).size : Int)) ∧ (((s.get! kL).toNat : Int) ≠ 47))) := hP 9 (by decide)
    have f21 := e21
    replace HB := HB.trans (hBt.below HB.size (UpOld.all (bx := []) trivial))
    clear hBt hr hR hP hX hU
    refine wp_cond_split f21 (fun hc21 => ?_) (fun hc21 => ?_)
    · skip
      have hgo := of_decide_eq_true hc21
      refine wp_skip ?_
      refine wp_block ?_
      refine region4 [some 22, some 23, some 4] [Eqs (.int .i64 (kL : Int)), Eqs (.int .i64 ((kL + 1 : Nat) : Int)), Eqs (.int .i64 ((kL + 1 : Nat) : Int))] [] [(2, 0)] (by kernel_rfl) hn rfl (by kernel_rfl) (by kernel_rfl) (by kernel_rfl) (by kernel_rfl) (by kernel_rfl) (by kernel_rfl) ⟨Eqs.mono4 _, Eqs.mono4 _, Eqs.mono4 _, trivial⟩ ok_nil (IsOld.all (bx := []) trivial) (DisOld.all (bx := []) trivial) ?_ ?_
      · exact ⟨.norm 22 rfl rfl rfl (fun a_ w_ hn_ hBt hr hR hD hO hS => op_mv ((hS 2 4 rfl rfl).trans f4)),
          .norm 23 rfl rfl rfl (fun a_ w_ hn_ hBt hr hR hD hO hS => op_inck0 (show a_.eval (.tmp 22) = .int .i64 (kL : Int) from hD 0 rfl) (by omega)),
          .norm 4 rfl rfl rfl (fun a_ w_ hn_ hBt hr hR hD hO hS => op_assign (show a_.eval (.tmp 23) = .int .i64 ((kL + 1 : Nat) : Int) from hD 1 rfl)),
          trivial⟩
      intro a6 w6 gs6 hn6 hd6 hBt hr hR hP hX hU
      replace hn := hn6; replace hd := hd6.trans hd
      replace b2 := b2.keep hBt trivial
      replace f0 := (hR 0 rfl).trans f0
      replace f2 := (hR 2 rfl).trans f2
      have e4 : a6.eval (.tmp 4) = .int .i64 ((kL + 1 : Nat) : Int) := hP 2 (by decide)
      have f4 := e4
      replace HB := HB.trans (hBt.below HB.size (UpOld.all (bx := []) trivial))
      clear hBt hr hR hP hX hU
      refine block_normal ?_
      exact ⟨nL - 1, by omega, hn, hd, f0, f2, b2, HB, kL + 1, by omega, f4, fun i h_ => by
    by_cases e_ : i = kL
    · rw [e_]; exact hgo.2
    · exact hno i (by omega)⟩
    · skip
      have hgo := of_decide_eq_false hc21
      have hkz : kL ≤ s.size := by omega
      obtain ⟨hov, hfn, hun⟩ := cut_at hno hkz (by
  by_cases h_ : kL < s.size
  · right
    apply Classical.byContradiction
    intro h__
    exact hgo ⟨by omega, h__⟩
  · left; omega)
      refine wp_exit ?_
      repeat (first | refine then_exit ?_ | refine scope_exit ?_ | refine block_pass (by decide) ?_)
      refine block_exit ?_
      refine wp_seq ?_
      refine region4 [some 25, some 26, some 27, some 28, some 24, some 29, some 30, some 5, none, some 6] [Eqs (.string s), Eqs (.int .i64 (kL : Int)), Eqs (.string (over s)), Tup2 (OutN (zOf (over s)) (6000)) (Eqs (.int .i64 (eOf (over s)))), Tup2 (OutN (zOf (over s)) (6000)) (Eqs (.int .i64 (eOf (over s)))), OutN (zOf (over s)) (6000), Eqs (.int .i64 (eOf (over s))), (fun _ _ => True), (fun _ _ => True), Eqs (.int .i64 (eOf (over s)))] [⟨N2, some 7, 0, 5, .agg #[.bool false, .slice none 0 0], some (8, 29, 5), []⟩] [] (by kernel_rfl) hn rfl (by kernel_rfl) (by kernel_rfl) (by kernel_rfl) (by kernel_rfl) (by kernel_rfl) (by kernel_rfl) ⟨Eqs.mono4 _, Eqs.mono4 _, Eqs.mono4 _, Tup2.mono4 (OutN.mono4 _ _) (Eqs.mono4 _), Tup2.mono4 (OutN.mono4 _ _) (Eqs.mono4 _), OutN.mono4 _ _, Eqs.mono4 _, True.mono4, True.mono4, Eqs.mono4 _, trivial⟩ (ok_cons N2ok ok_nil) (IsOld.all (bx := [⟨N2, some 7, 0, 5, .agg #[.bool false, .slice none 0 0], some (8, 29, 5), []⟩]) ⟨someNe, trivial⟩) (DisOld.all (bx := [⟨N2, some 7, 0, 5, .agg #[.bool false, .slice none 0 0], some (8, 29, 5), []⟩]) ⟨someNe, trivial⟩) ?_ ?_
      · exact ⟨.norm 25 rfl rfl rfl (fun a_ w_ hn_ hBt hr hR hD hO hS => op_mv ((hR 0 rfl).trans f0)),
          .norm 26 rfl rfl rfl (fun a_ w_ hn_ hBt hr hR hD hO hS => op_mv ((hR 4 rfl).trans f4)),
          .norm 27 rfl rfl rfl (fun a_ w_ hn_ hBt hr hR hD hO hS => op_slhs (k := kL) (show a_.eval (.tmp 25) = .string s from hD 0 rfl) (show a_.eval (.tmp 26) = .int .i64 (kL : Int) from hD 1 rfl) (by omega) hov),
          .norm 28 rfl rfl rfl (fun a_ w_ hn_ hBt hr hR hD hO hS => op_number (show a_.eval (.tmp 27) = .string (over s) from hD 2 rfl)),
          .norm 24 rfl rfl rfl (fun a_ w_ hn_ hBt hr hR hD hO hS => op_mvp (p := Tup2 (OutN (zOf (over s)) (6000)) (Eqs (.int .i64 (eOf (over s))))) (show Tup2 (OutN (zOf (over s)) (6000)) (Eqs (.int .i64 (eOf (over s)))) (a_.eval (.tmp 28)) w_ from hD 3 rfl)),
          .norm 29 rfl rfl rfl (fun a_ w_ hn_ hBt hr hR hD hO hS => op_ex20 (show Tup2 (OutN (zOf (over s)) (6000)) (Eqs (.int .i64 (eOf (over s)))) (a_.eval (.tmp 24)) w_ from hD 4 rfl)),
          .norm 30 rfl rfl rfl (fun a_ w_ hn_ hBt hr hR hD hO hS => op_ex21 (show Tup2 (OutN (zOf (over s)) (6000)) (Eqs (.int .i64 (eOf (over s)))) (a_.eval (.tmp 24)) w_ from hD 4 rfl)),
          .alloc 0 _ rfl rfl (.inl ⟨rfl, rfl⟩) rfl rfl rfl rfl rfl,
          .store 0 _ _ _ rfl rfl rfl rfl rfl rfl rfl (fun ia h => by cases h; rfl) rfl rfl rfl OutN.cs,
          .norm 6 rfl rfl rfl (fun a_ w_ hn_ hBt hr hR hD hO hS => op_assign (show a_.eval (.tmp 30) = .int .i64 (eOf (over s)) from hD 6 rfl)),
          trivial⟩
      intro a7 w7 gs7 hn7 hd7 hBt hr hR hP hX hU
      replace hn := hn7; replace hd := hd7.trans hd
      have ne2_5 : (gs1 0) ≠ gs7 0 := by have h1 := b2.lt; have h2 := (hX 0 _ rfl).2.2.1 (by simp); omega
      replace b2 := b2.keep hBt ⟨someNe, trivial⟩
      obtain ⟨n_8, a_8, c_8, r_8, e29, G8, l8⟩ : OutN (zOf (over s)) (6000) (a7.eval (.tmp 29)) w7 := hP 5 (by decide)
      have b5 : BoxV N2 w7 (gs7 0) (.agg #[.bool n_8, .slice a_8 r_8.length c_8]) := boxv_of (hX 0 _ rfl).2.2.2 e29
      have f5 := (hX 0 _ rfl).1
      have u5 : w.heap.size ≤ gs7 0 := Nat.le_trans HB.size ((hX 0 _ rfl).2.2.1 (by simp))
      replace f0 := (hR 0 rfl).trans f0
      replace f2 := (hR 2 rfl).trans f2
      replace f4 := (hR 4 rfl).trans f4
      have e6 : a7.eval (.tmp 6) = .int .i64 (eOf (over s)) := hP 9 (by decide)
      have f6 := e6
      replace HB := HB.trans (hBt.below HB.size (UpOld.all (bx := [⟨N2, some 7, 0, 5, .agg #[.bool false, .slice none 0 0], some (8, 29, 5), []⟩]) ⟨someNe, trivial⟩))
      clear hBt hr hR hP hX hU
      refine wp_seq ?_
      refine wp_seq ?_
      refine region4 [some 31, some 32] [Eqs (.int .i64 (eOf (over s))), Eqs (.bool (!decide ((eOf (over s)) = 0)))] [] [] (by kernel_rfl) hn rfl (by kernel_rfl) (by kernel_rfl) (by kernel_rfl) (by kernel_rfl) (by kernel_rfl) (by kernel_rfl) ⟨Eqs.mono4 _, Eqs.mono4 _, trivial⟩ ok_nil (IsOld.all (bx := []) trivial) (DisOld.all (bx := []) trivial) ?_ ?_
      · exact ⟨.norm 31 rfl rfl rfl (fun a_ w_ hn_ hBt hr hR hD hO hS => op_mv ((hR 6 rfl).trans f6)),
          .norm 32 rfl rfl rfl (fun a_ w_ hn_ hBt hr hR hD hO hS => op_neqk (show a_.eval (.tmp 31) = .int .i64 (eOf (over s)) from hD 0 rfl)),
          trivial⟩
      intro a9 w9 gs9 hn9 hd9 hBt hr hR hP hX hU
      replace hn := hn9; replace hd := hd9.trans hd
      replace b2 := b2.keep hBt trivial
      replace b5 := b5.keep hBt trivial
      replace f0 := (hR 0 rfl).trans f0
      replace f2 := (hR 2 rfl).trans f2
      replace f4 := (hR 4 rfl).trans f4
      replace f5 := (hR 5 rfl).trans f5
      replace f6 := (hR 6 rfl).trans f6
      have e32 : a9.eval (.tmp 32) = .bool (!decide ((eOf (over s)) = 0)) := hP 1 (by decide)
      have f32 := e32
      replace G8 := G8.rl hr
      replace HB := HB.trans (hBt.below HB.size (UpOld.all (bx := []) trivial))
      clear hBt hr hR hP hX hU
      refine wp_cond_split f32 (fun hc32 => ?_) (fun hc32 => ?_)
      · skip
        have he0 : eOf (over s) ≠ 0 := by simpa using hc32
        refine wp_seq ?_
        refine region4 [some 33, some 34, none, some 3] [Eqs (.agg #[.bool false, .slice none 0 0, .slice none 0 0]), Eqs (.int .i64 (eOf (over s))), (fun _ _ => True), Eqs (.int .i64 (eOf (over s)))] [⟨R3, none, (gs1 0), 2, .agg #[.bool false, .slice none 0 0, .slice none 0 0], some (2, 33, 0), []⟩] [] (by kernel_rfl) hn rfl (by kernel_rfl) (by kernel_rfl) (by kernel_rfl) (by kernel_rfl) (by kernel_rfl) (by kernel_rfl) ⟨Eqs.mono4 _, Eqs.mono4 _, True.mono4, Eqs.mono4 _, trivial⟩ (ok_cons R3ok ok_nil) (IsOld.all (bx := [⟨R3, none, (gs1 0), 2, .agg #[.bool false, .slice none 0 0, .slice none 0 0], some (2, 33, 0), []⟩]) ⟨fun _ => ⟨f2, b2⟩, trivial⟩) (DisOld.all (bx := [⟨R3, none, (gs1 0), 2, .agg #[.bool false, .slice none 0 0, .slice none 0 0], some (2, 33, 0), []⟩]) ⟨fun _ => trivial, trivial⟩) ?_ ?_
        · exact ⟨.norm 33 rfl rfl rfl (fun a_ w_ hn_ hBt hr hR hD hO hS => op_bR0),
            .norm 34 rfl rfl rfl (fun a_ w_ hn_ hBt hr hR hD hO hS => op_mv ((hR 6 rfl).trans f6)),
            .store 0 _ _ _ rfl rfl rfl rfl rfl rfl rfl (fun ia h => by cases h) rfl rfl rfl (eqs_cs r3_cs),
            .norm 3 rfl rfl rfl (fun a_ w_ hn_ hBt hr hR hD hO hS => op_assign (show a_.eval (.tmp 34) = .int .i64 (eOf (over s)) from hD 1 rfl)),
            trivial⟩
        intro a10 w10 gs10 hn10 hd10 hBt hr hR hP hX hU
        replace hn := hn10; replace hd := hd10.trans hd
        replace b5 := b5.keep hBt ⟨fun _ => ne2_5, trivial⟩
        have e33 : a10.eval (.tmp 33) = .agg #[.bool false, .slice none 0 0, .slice none 0 0] := hP 0 (by decide)
        have b2 : BoxV R3 w10 ((gs1 0)) (.agg #[.bool false, .slice none 0 0, .slice none 0 0]) := boxv_old ((hX 0 _ rfl).2.1 rfl) (hX 0 _ rfl).2.2.2 e33
        replace f2 : a10.eval (.tmp 2) = _ := (hR 2 rfl).trans f2
        replace f0 := (hR 0 rfl).trans f0
        replace f4 := (hR 4 rfl).trans f4
        replace f5 := (hR 5 rfl).trans f5
        replace f6 := (hR 6 rfl).trans f6
        have e3 : a10.eval (.tmp 3) = .int .i64 (eOf (over s)) := hP 3 (by decide)
        have f3 := e3
        replace G8 := G8.rl hr
        replace HB := HB.trans (hBt.below HB.size (UpOld.all (bx := [⟨R3, none, (gs1 0), 2, .agg #[.bool false, .slice none 0 0, .slice none 0 0], some (2, 33, 0), []⟩]) ⟨fun _ => u2, trivial⟩))
        clear hBt hr hR hP hX hU
        refine wp_ret ?_
        repeat (first | refine then_ret ?_ | refine scope_ret ?_ | refine block_ret ?_)
        exact bodyPost_ret (v := .tuple #[.agg #[.bool false, .slice none 0 0, .slice none 0 0], .int .i64 (eOf (over s))]) (res_ct rfl f2 (lv_R3 b2) f3) hd ⟨_, rfl, ⟨_, _, rfl, by rw [ra2 hsz he0]; exact outr_zero0 _, by rw [ra2 hsz he0]; rfl⟩, HB⟩
      · skip
        have he0 : eOf (over s) = 0 := by simpa using hc32
        refine wp_skip ?_
        refine wp_seq ?_
        refine wp_seq ?_
        refine region4 [some 35, some 36, some 37, some 38] [Eqs (.int .i64 (kL : Int)), Eqs (.string s), Eqs (.int .i64 ((s).size : Int)), Eqs (.bool (decide ((kL : Int) = ((s).size : Int))))] [] [] (by kernel_rfl) hn rfl (by kernel_rfl) (by kernel_rfl) (by kernel_rfl) (by kernel_rfl) (by kernel_rfl) (by kernel_rfl) ⟨Eqs.mono4 _, Eqs.mono4 _, Eqs.mono4 _, Eqs.mono4 _, trivial⟩ ok_nil (IsOld.all (bx := []) trivial) (DisOld.all (bx := []) trivial) ?_ ?_
        · exact ⟨.norm 35 rfl rfl rfl (fun a_ w_ hn_ hBt hr hR hD hO hS => op_mv ((hR 4 rfl).trans f4)),
            .norm 36 rfl rfl rfl (fun a_ w_ hn_ hBt hr hR hD hO hS => op_mv ((hR 0 rfl).trans f0)),
            .norm 37 rfl rfl rfl (fun a_ w_ hn_ hBt hr hR hD hO hS => op_lens (show a_.eval (.tmp 36) = .string s from hD 1 rfl)),
            .norm 38 rfl rfl rfl (fun a_ w_ hn_ hBt hr hR hD hO hS => op_eqli (show a_.eval (.tmp 35) = .int .i64 (kL : Int) from hD 0 rfl) (show a_.eval (.tmp 37) = .int .i64 ((s).size : Int) from hD 2 rfl)),
            trivial⟩
        intro a11 w11 gs11 hn11 hd11 hBt hr hR hP hX hU
        replace hn := hn11; replace hd := hd11.trans hd
        replace b2 := b2.keep hBt trivial
        replace b5 := b5.keep hBt trivial
        replace f0 := (hR 0 rfl).trans f0
        replace f2 := (hR 2 rfl).trans f2
        replace f4 := (hR 4 rfl).trans f4
        replace f5 := (hR 5 rfl).trans f5
        replace f6 := (hR 6 rfl).trans f6
        have e38 : a11.eval (.tmp 38) = .bool (decide ((kL : Int) = ((s).size : Int))) := hP 3 (by decide)
        have f38 := e38
        replace G8 := G8.rl hr
        replace HB := HB.trans (hBt.below HB.size (UpOld.all (bx := []) trivial))
        clear hBt hr hR hP hX hU
        refine wp_cond_split f38 (fun hc38 => ?_) (fun hc38 => ?_)
        · skip
          have hke := of_decide_eq_true hc38
          have hf0 : fnd s = false := by rw [hfn]; exact decide_eq_false (by omega)
          refine wp_seq ?_
          refine region4 [some 39, some 40, some 41, some 42, none, some 3] [Eqs (.agg #[.bool n_8, .slice a_8 r_8.length c_8]), OutN (1) (5), OutQ (zOf (over s)) (1) ((6000) + (5)), OutR (zOf (over s)) (1) (2 * ((6000) + (5))), (fun _ _ => True), Eqs ((.int .i64 0))] [⟨R3, none, (gs1 0), 2, .agg #[.bool false, .slice none 0 0, .slice none 0 0], some (4, 42, 3), []⟩] [] (by kernel_rfl) hn rfl (by kernel_rfl) (by kernel_rfl) (by kernel_rfl) (by kernel_rfl) (by kernel_rfl) (by kernel_rfl) ⟨Eqs.mono4 _, OutN.mono4 _ _, OutQ.mono4 _ _ _, OutR.mono4 _ _ _, True.mono4, Eqs.mono4 _, trivial⟩ (ok_cons R3ok ok_nil) (IsOld.all (bx := [⟨R3, none, (gs1 0), 2, .agg #[.bool false, .slice none 0 0, .slice none 0 0], some (4, 42, 3), []⟩]) ⟨fun _ => ⟨f2, b2⟩, trivial⟩) (DisOld.all (bx := [⟨R3, none, (gs1 0), 2, .agg #[.bool false, .slice none 0 0, .slice none 0 0], some (4, 42, 3), []⟩]) ⟨fun _ => trivial, trivial⟩) ?_ ?_
          · exact ⟨.norm 39 rfl rfl rfl (fun a_ w_ hn_ hBt hr hR hD hO hS => op_loadv N2ok ((hR 5 rfl).trans f5) (b5.keep hBt ⟨fun _ => ne2_5, trivial⟩)),
              .norm 40 rfl rfl rfl (fun a_ w_ hn_ hBt hr hR hD hO hS => op_nint (by omega) (by omega)),
              .norm 41 rfl rfl rfl (fun a_ w_ hn_ hBt hr hR hD hO hS => op_bQ (L := (6000) + (5)) ((outn_eq (show a_.eval (.tmp 39) = .agg #[.bool n_8, .slice a_8 r_8.length c_8] from hD 0 rfl) (G8.rl hr) l8).to rfl (by omega)) ((show OutN (1) (5) (a_.eval (.tmp 40)) w_ from hD 1 rfl).to rfl (by omega))),
              .norm 42 rfl rfl rfl (fun a_ w_ hn_ hBt hr hR hD hO hS => op_qtold (show OutQ (zOf (over s)) (1) ((6000) + (5)) (a_.eval (.tmp 41)) w_ from hD 2 rfl) (by omega) (by omega)),
              .store 0 _ _ _ rfl rfl rfl rfl rfl rfl rfl (fun ia h => by cases h) rfl rfl rfl OutR.cs,
              .norm 3 rfl rfl rfl (fun a_ w_ hn_ hBt hr hR hD hO hS => op_assign rfl),
              trivial⟩
          intro a12 w12 gs12 hn12 hd12 hBt hr hR hP hX hU
          replace hn := hn12; replace hd := hd12.trans hd
          replace b5 := b5.keep hBt ⟨fun _ => ne2_5, trivial⟩
          obtain ⟨n_13, a_13, c_13, r_13, b_13, d_13, s_13, e42, G13, K13, l13, k13⟩ : OutR (zOf (over s)) (1) (2 * ((6000) + (5))) (a12.eval (.tmp 42)) w12 := hP 3 (by decide)
          have A13 := G13.ag; have S13 := K13.sl; have V13 := K13.val
          have b2 : BoxV R3 w12 ((gs1 0)) (.agg #[.bool n_13, .slice a_13 r_13.length c_13, .slice b_13 s_13.length d_13]) := boxv_old ((hX 0 _ rfl).2.1 rfl) (hX 0 _ rfl).2.2.2 e42
          replace f2 : a12.eval (.tmp 2) = _ := (hR 2 rfl).trans f2
          replace f0 := (hR 0 rfl).trans f0
          replace f4 := (hR 4 rfl).trans f4
          replace f5 := (hR 5 rfl).trans f5
          replace f6 := (hR 6 rfl).trans f6
          have e3 : a12.eval (.tmp 3) = (.int .i64 0) := hP 5 (by decide)
          have f3 := e3
          replace G8 := G8.rl hr
          replace HB := HB.trans (hBt.below HB.size (UpOld.all (bx := [⟨R3, none, (gs1 0), 2, .agg #[.bool false, .slice none 0 0, .slice none 0 0], some (4, 42, 3), []⟩]) ⟨fun _ => u2, trivial⟩))
          clear hBt hr hR hP hX hU
          refine wp_ret ?_
          repeat (first | refine then_ret ?_ | refine scope_ret ?_ | refine block_ret ?_)
          exact bodyPost_ret (v := .tuple #[.agg #[.bool n_13, .slice a_13 r_13.length c_13, .slice b_13 s_13.length d_13], (.int .i64 0)]) (res_ct rfl f2 (lv_R3 b2) f3) hd ⟨_, rfl, ⟨_, _, rfl, by rw [ra3 hsz he0 hf0]; exact (outr_eq rfl G13 K13 l13 k13).to rfl rfl (by omega), by rw [ra3 hsz he0 hf0]; rfl⟩, HB⟩
        · skip
          have hke := of_decide_eq_false hc38
          have hlk : kL < s.size := by omega
          have hf0 : fnd s = true := by rw [hfn]; exact decide_eq_true hlk
          refine wp_skip ?_
          refine wp_seq ?_
          refine region4 [some 44, some 45, some 46, some 47, some 48, some 43, some 49, some 50, some 7, none, some 6] [Eqs (.string s), Eqs (.int .i64 (kL : Int)), Eqs (.int .i64 ((kL + 1 : Nat) : Int)), Eqs (.string (und s)), Tup2 (OutN (xOf (und s)) (6000)) (Eqs (.int .i64 (kOf (und s)))), Tup2 (OutN (xOf (und s)) (6000)) (Eqs (.int .i64 (kOf (und s)))), OutN (xOf (und s)) (6000), Eqs (.int .i64 (kOf (und s))), (fun _ _ => True), (fun _ _ => True), Eqs (.int .i64 (kOf (und s)))] [⟨N2, some 8, 0, 7, .agg #[.bool false, .slice none 0 0], some (9, 49, 6), []⟩] [] (by kernel_rfl) hn rfl (by kernel_rfl) (by kernel_rfl) (by kernel_rfl) (by kernel_rfl) (by kernel_rfl) (by kernel_rfl) ⟨Eqs.mono4 _, Eqs.mono4 _, Eqs.mono4 _, Eqs.mono4 _, Tup2.mono4 (OutN.mono4 _ _) (Eqs.mono4 _), Tup2.mono4 (OutN.mono4 _ _) (Eqs.mono4 _), OutN.mono4 _ _, Eqs.mono4 _, True.mono4, True.mono4, Eqs.mono4 _, trivial⟩ (ok_cons N2ok ok_nil) (IsOld.all (bx := [⟨N2, some 8, 0, 7, .agg #[.bool false, .slice none 0 0], some (9, 49, 6), []⟩]) ⟨someNe, trivial⟩) (DisOld.all (bx := [⟨N2, some 8, 0, 7, .agg #[.bool false, .slice none 0 0], some (9, 49, 6), []⟩]) ⟨someNe, trivial⟩) ?_ ?_
          · exact ⟨.norm 44 rfl rfl rfl (fun a_ w_ hn_ hBt hr hR hD hO hS => op_mv ((hR 0 rfl).trans f0)),
              .norm 45 rfl rfl rfl (fun a_ w_ hn_ hBt hr hR hD hO hS => op_mv ((hR 4 rfl).trans f4)),
              .norm 46 rfl rfl rfl (fun a_ w_ hn_ hBt hr hR hD hO hS => op_inck0 (show a_.eval (.tmp 45) = .int .i64 (kL : Int) from hD 1 rfl) (by omega)),
              .norm 47 rfl rfl rfl (fun a_ w_ hn_ hBt hr hR hD hO hS => op_sllo (k := kL + 1) (show a_.eval (.tmp 44) = .string s from hD 0 rfl) (show a_.eval (.tmp 46) = .int .i64 ((kL + 1 : Nat) : Int) from hD 2 rfl) (by omega) (hun hlk)),
              .norm 48 rfl rfl rfl (fun a_ w_ hn_ hBt hr hR hD hO hS => op_natural (show a_.eval (.tmp 47) = .string (und s) from hD 3 rfl)),
              .norm 43 rfl rfl rfl (fun a_ w_ hn_ hBt hr hR hD hO hS => op_mvp (p := Tup2 (OutN (xOf (und s)) (6000)) (Eqs (.int .i64 (kOf (und s))))) (show Tup2 (OutN (xOf (und s)) (6000)) (Eqs (.int .i64 (kOf (und s)))) (a_.eval (.tmp 48)) w_ from hD 4 rfl)),
              .norm 49 rfl rfl rfl (fun a_ w_ hn_ hBt hr hR hD hO hS => op_ex20 (show Tup2 (OutN (xOf (und s)) (6000)) (Eqs (.int .i64 (kOf (und s)))) (a_.eval (.tmp 43)) w_ from hD 5 rfl)),
              .norm 50 rfl rfl rfl (fun a_ w_ hn_ hBt hr hR hD hO hS => op_ex21 (show Tup2 (OutN (xOf (und s)) (6000)) (Eqs (.int .i64 (kOf (und s)))) (a_.eval (.tmp 43)) w_ from hD 5 rfl)),
              .alloc 0 _ rfl rfl (.inl ⟨rfl, rfl⟩) rfl rfl rfl rfl rfl,
              .store 0 _ _ _ rfl rfl rfl rfl rfl rfl rfl (fun ia h => by cases h; rfl) rfl rfl rfl OutN.cs,
              .norm 6 rfl rfl rfl (fun a_ w_ hn_ hBt hr hR hD hO hS => op_assign (show a_.eval (.tmp 50) = .int .i64 (kOf (und s)) from hD 7 rfl)),
              trivial⟩
          intro a14 w14 gs14 hn14 hd14 hBt hr hR hP hX hU
          replace hn := hn14; replace hd := hd14.trans hd
          have ne2_7 : (gs1 0) ≠ gs14 0 := by have h1 := b2.lt; have h2 := (hX 0 _ rfl).2.2.1 (by simp); omega
          replace b2 := b2.keep hBt ⟨someNe, trivial⟩
          replace b5 := b5.keep hBt ⟨someNe, trivial⟩
          obtain ⟨n_15, a_15, c_15, r_15, e49, G15, l15⟩ : OutN (xOf (und s)) (6000) (a14.eval (.tmp 49)) w14 := hP 6 (by decide)
          have b7 : BoxV N2 w14 (gs14 0) (.agg #[.bool n_15, .slice a_15 r_15.length c_15]) := boxv_of (hX 0 _ rfl).2.2.2 e49
          have f7 := (hX 0 _ rfl).1
          have u7 : w.heap.size ≤ gs14 0 := Nat.le_trans HB.size ((hX 0 _ rfl).2.2.1 (by simp))
          replace f2 := (hR 2 rfl).trans f2
          replace f5 := (hR 5 rfl).trans f5
          have e6 : a14.eval (.tmp 6) = .int .i64 (kOf (und s)) := hP 10 (by decide)
          have f6 := e6
          replace G8 := G8.rl hr
          replace HB := HB.trans (hBt.below HB.size (UpOld.all (bx := [⟨N2, some 8, 0, 7, .agg #[.bool false, .slice none 0 0], some (9, 49, 6), []⟩]) ⟨someNe, trivial⟩))
          clear hBt hr hR hP hX hU
          refine wp_seq ?_
          refine wp_seq ?_
          refine region4 [some 51, some 52] [Eqs (.int .i64 (kOf (und s))), Eqs (.bool (!decide ((kOf (und s)) = 0)))] [] [] (by kernel_rfl) hn rfl (by kernel_rfl) (by kernel_rfl) (by kernel_rfl) (by kernel_rfl) (by kernel_rfl) (by kernel_rfl) ⟨Eqs.mono4 _, Eqs.mono4 _, trivial⟩ ok_nil (IsOld.all (bx := []) trivial) (DisOld.all (bx := []) trivial) ?_ ?_
          · exact ⟨.norm 51 rfl rfl rfl (fun a_ w_ hn_ hBt hr hR hD hO hS => op_mv ((hR 6 rfl).trans f6)),
              .norm 52 rfl rfl rfl (fun a_ w_ hn_ hBt hr hR hD hO hS => op_neqk (show a_.eval (.tmp 51) = .int .i64 (kOf (und s)) from hD 0 rfl)),
              trivial⟩
          intro a16 w16 gs16 hn16 hd16 hBt hr hR hP hX hU
          replace hn := hn16; replace hd := hd16.trans hd
          replace b2 := b2.keep hBt trivial
          replace b5 := b5.keep hBt trivial
          replace b7 := b7.keep hBt trivial
          replace f2 := (hR 2 rfl).trans f2
          replace f5 := (hR 5 rfl).trans f5
          replace f6 := (hR 6 rfl).trans f6
          replace f7 := (hR 7 rfl).trans f7
          have e52 : a16.eval (.tmp 52) = .bool (!decide ((kOf (und s)) = 0)) := hP 1 (by decide)
          have f52 := e52
          replace G8 := G8.rl hr
          replace G15 := G15.rl hr
          replace HB := HB.trans (hBt.below HB.size (UpOld.all (bx := []) trivial))
          clear hBt hr hR hP hX hU
          refine wp_cond_split f52 (fun hc52 => ?_) (fun hc52 => ?_)
          · skip
            have hk0 : kOf (und s) ≠ 0 := by simpa using hc52
            refine wp_seq ?_
            refine region4 [some 53, some 54, none, some 3] [Eqs (.agg #[.bool false, .slice none 0 0, .slice none 0 0]), Eqs (.int .i64 (kOf (und s))), (fun _ _ => True), Eqs (.int .i64 (kOf (und s)))] [⟨R3, none, (gs1 0), 2, .agg #[.bool false, .slice none 0 0, .slice none 0 0], some (2, 53, 0), []⟩] [] (by kernel_rfl) hn rfl (by kernel_rfl) (by kernel_rfl) (by kernel_rfl) (by kernel_rfl) (by kernel_rfl) (by kernel_rfl) ⟨Eqs.mono4 _, Eqs.mono4 _, True.mono4, Eqs.mono4 _, trivial⟩ (ok_cons R3ok ok_nil) (IsOld.all (bx := [⟨R3, none, (gs1 0), 2, .agg #[.bool false, .slice none 0 0, .slice none 0 0], some (2, 53, 0), []⟩]) ⟨fun _ => ⟨f2, b2⟩, trivial⟩) (DisOld.all (bx := [⟨R3, none, (gs1 0), 2, .agg #[.bool false, .slice none 0 0, .slice none 0 0], some (2, 53, 0), []⟩]) ⟨fun _ => trivial, trivial⟩) ?_ ?_
            · exact ⟨.norm 53 rfl rfl rfl (fun a_ w_ hn_ hBt hr hR hD hO hS => op_bR0),
                .norm 54 rfl rfl rfl (fun a_ w_ hn_ hBt hr hR hD hO hS => op_mv ((hR 6 rfl).trans f6)),
                .store 0 _ _ _ rfl rfl rfl rfl rfl rfl rfl (fun ia h => by cases h) rfl rfl rfl (eqs_cs r3_cs),
                .norm 3 rfl rfl rfl (fun a_ w_ hn_ hBt hr hR hD hO hS => op_assign (show a_.eval (.tmp 54) = .int .i64 (kOf (und s)) from hD 1 rfl)),
                trivial⟩
            intro a17 w17 gs17 hn17 hd17 hBt hr hR hP hX hU
            replace hn := hn17; replace hd := hd17.trans hd
            replace b5 := b5.keep hBt ⟨fun _ => ne2_5, trivial⟩
            replace b7 := b7.keep hBt ⟨fun _ => ne2_7, trivial⟩
            have e53 : a17.eval (.tmp 53) = .agg #[.bool false, .slice none 0 0, .slice none 0 0] := hP 0 (by decide)
            have b2 : BoxV R3 w17 ((gs1 0)) (.agg #[.bool false, .slice none 0 0, .slice none 0 0]) := boxv_old ((hX 0 _ rfl).2.1 rfl) (hX 0 _ rfl).2.2.2 e53
            replace f2 : a17.eval (.tmp 2) = _ := (hR 2 rfl).trans f2
            replace f5 := (hR 5 rfl).trans f5
            replace f7 := (hR 7 rfl).trans f7
            have e3 : a17.eval (.tmp 3) = .int .i64 (kOf (und s)) := hP 3 (by decide)
            have f3 := e3
            replace G8 := G8.rl hr
            replace G15 := G15.rl hr
            replace HB := HB.trans (hBt.below HB.size (UpOld.all (bx := [⟨R3, none, (gs1 0), 2, .agg #[.bool false, .slice none 0 0, .slice none 0 0], some (2, 53, 0), []⟩]) ⟨fun _ => u2, trivial⟩))
            clear hBt hr hR hP hX hU
            refine wp_ret ?_
            repeat (first | refine then_ret ?_ | refine scope_ret ?_ | refine block_ret ?_)
            exact bodyPost_ret (v := .tuple #[.agg #[.bool false, .slice none 0 0, .slice none 0 0], .int .i64 (kOf (und s))]) (res_ct rfl f2 (lv_R3 b2) f3) hd ⟨_, rfl, ⟨_, _, rfl, by rw [ra4 hsz he0 hf0 hk0]; exact outr_zero0 _, by rw [ra4 hsz he0 hf0 hk0]; rfl⟩, HB⟩
          · skip
            have hk0 : kOf (und s) = 0 := by simpa using hc52
            refine wp_skip ?_
            refine wp_seq ?_
            refine wp_seq ?_
            refine region4 [some 55, some 56, some 57] [Eqs (.agg #[.bool n_15, .slice a_15 r_15.length c_15]), Eqs (.int .i64 (Int.sign (xOf (und s)))), Eqs (.bool (decide ((Int.sign (xOf (und s))) = 0)))] [] [] (by kernel_rfl) hn rfl (by kernel_rfl) (by kernel_rfl) (by kernel_rfl) (by kernel_rfl) (by kernel_rfl) (by kernel_rfl) ⟨Eqs.mono4 _, Eqs.mono4 _, Eqs.mono4 _, trivial⟩ ok_nil (IsOld.all (bx := []) trivial) (DisOld.all (bx := []) trivial) ?_ ?_
            · exact ⟨.norm 55 rfl rfl rfl (fun a_ w_ hn_ hBt hr hR hD hO hS => op_loadv N2ok ((hR 7 rfl).trans f7) (b7.keep hBt trivial)),
                .norm 56 rfl rfl rfl (fun a_ w_ hn_ hBt hr hR hD hO hS => op_nsign (outn_eq (show a_.eval (.tmp 55) = .agg #[.bool n_15, .slice a_15 r_15.length c_15] from hD 0 rfl) (G15.rl hr) l15)),
                .norm 57 rfl rfl rfl (fun a_ w_ hn_ hBt hr hR hD hO hS => op_eqlk (show a_.eval (.tmp 56) = .int .i64 (Int.sign (xOf (und s))) from hD 1 rfl)),
                trivial⟩
            intro a18 w18 gs18 hn18 hd18 hBt hr hR hP hX hU
            replace hn := hn18; replace hd := hd18.trans hd
            replace b2 := b2.keep hBt trivial
            replace b5 := b5.keep hBt trivial
            replace b7 := b7.keep hBt trivial
            replace f2 := (hR 2 rfl).trans f2
            replace f5 := (hR 5 rfl).trans f5
            replace f7 := (hR 7 rfl).trans f7
            have e57 : a18.eval (.tmp 57) = .bool (decide ((Int.sign (xOf (und s))) = 0)) := hP 2 (by decide)
            have f57 := e57
            replace G8 := G8.rl hr
            replace G15 := G15.rl hr
            replace HB := HB.trans (hBt.below HB.size (UpOld.all (bx := []) trivial))
            clear hBt hr hR hP hX hU
            refine wp_cond_split f57 (fun hc57 => ?_) (fun hc57 => ?_)
            · skip
              have hx0 : xOf (und s) = 0 := Int.sign_eq_zero_iff_zero.1 (of_decide_eq_true hc57)
              refine wp_seq ?_
              refine region4 [some 58, none, some 3] [Eqs (.agg #[.bool false, .slice none 0 0, .slice none 0 0]), (fun _ _ => True), Eqs ((.int .i64 20))] [⟨R3, none, (gs1 0), 2, .agg #[.bool false, .slice none 0 0, .slice none 0 0], some (1, 58, 0), []⟩] [] (by kernel_rfl) hn rfl (by kernel_rfl) (by kernel_rfl) (by kernel_rfl) (by kernel_rfl) (by kernel_rfl) (by kernel_rfl) ⟨Eqs.mono4 _, True.mono4, Eqs.mono4 _, trivial⟩ (ok_cons R3ok ok_nil) (IsOld.all (bx := [⟨R3, none, (gs1 0), 2, .agg #[.bool false, .slice none 0 0, .slice none 0 0], some (1, 58, 0), []⟩]) ⟨fun _ => ⟨f2, b2⟩, trivial⟩) (DisOld.all (bx := [⟨R3, none, (gs1 0), 2, .agg #[.bool false, .slice none 0 0, .slice none 0 0], some (1, 58, 0), []⟩]) ⟨fun _ => trivial, trivial⟩) ?_ ?_
              · exact ⟨.norm 58 rfl rfl rfl (fun a_ w_ hn_ hBt hr hR hD hO hS => op_bR0),
                  .store 0 _ _ _ rfl rfl rfl rfl rfl rfl rfl (fun ia h => by cases h) rfl rfl rfl (eqs_cs r3_cs),
                  .norm 3 rfl rfl rfl (fun a_ w_ hn_ hBt hr hR hD hO hS => op_assign rfl),
                  trivial⟩
              intro a19 w19 gs19 hn19 hd19 hBt hr hR hP hX hU
              replace hn := hn19; replace hd := hd19.trans hd
              replace b5 := b5.keep hBt ⟨fun _ => ne2_5, trivial⟩
              replace b7 := b7.keep hBt ⟨fun _ => ne2_7, trivial⟩
              have e58 : a19.eval (.tmp 58) = .agg #[.bool false, .slice none 0 0, .slice none 0 0] := hP 0 (by decide)
              have b2 : BoxV R3 w19 ((gs1 0)) (.agg #[.bool false, .slice none 0 0, .slice none 0 0]) := boxv_old ((hX 0 _ rfl).2.1 rfl) (hX 0 _ rfl).2.2.2 e58
              replace f2 : a19.eval (.tmp 2) = _ := (hR 2 rfl).trans f2
              replace f5 := (hR 5 rfl).trans f5
              replace f7 := (hR 7 rfl).trans f7
              have e3 : a19.eval (.tmp 3) = (.int .i64 20) := hP 2 (by decide)
              have f3 := e3
              replace G8 := G8.rl hr
              replace G15 := G15.rl hr
              replace HB := HB.trans (hBt.below HB.size (UpOld.all (bx := [⟨R3, none, (gs1 0), 2, .agg #[.bool false, .slice none 0 0, .slice none 0 0], some (1, 58, 0), []⟩]) ⟨fun _ => u2, trivial⟩))
              clear hBt hr hR hP hX hU
              refine wp_ret ?_
              repeat (first | refine then_ret ?_ | refine scope_ret ?_ | refine block_ret ?_)
              exact bodyPost_ret (v := .tuple #[.agg #[.bool false, .slice none 0 0, .slice none 0 0], (.int .i64 20)]) (res_ct rfl f2 (lv_R3 b2) f3) hd ⟨_, rfl, ⟨_, _, rfl, by rw [ra5 hsz he0 hf0 hk0 hx0]; exact outr_zero0 _, by rw [ra5 hsz he0 hf0 hk0 hx0]; rfl⟩, HB⟩
            · skip
              have hx0 : xOf (und s) ≠ 0 := fun e => of_decide_eq_false hc57 (Int.sign_eq_zero_iff_zero.2 e)
              refine wp_skip ?_
              refine wp_seq ?_
              refine region4 [some 59, some 60, some 61, some 62, none, some 3] [Eqs (.agg #[.bool n_8, .slice a_8 r_8.length c_8]), Eqs (.agg #[.bool n_15, .slice a_15 r_15.length c_15]), OutQ ((nm (zOf (over s)) (xOf (und s)))) ((dn (zOf (over s)) (xOf (und s)))) ((6000) + (6000)), OutR ((nm (zOf (over s)) (xOf (und s)))) ((dn (zOf (over s)) (xOf (und s)))) (2 * ((6000) + (6000))), (fun _ _ => True), Eqs ((.int .i64 0))] [⟨R3, none, (gs1 0), 2, .agg #[.bool false, .slice none 0 0, .slice none 0 0], some (4, 62, 3), []⟩] [] (by kernel_rfl) hn rfl (by kernel_rfl) (by kernel_rfl) (by kernel_rfl) (by kernel_rfl) (by kernel_rfl) (by kernel_rfl) ⟨Eqs.mono4 _, Eqs.mono4 _, OutQ.mono4 _ _ _, OutR.mono4 _ _ _, True.mono4, Eqs.mono4 _, trivial⟩ (ok_cons R3ok ok_nil) (IsOld.all (bx := [⟨R3, none, (gs1 0), 2, .agg #[.bool false, .slice none 0 0, .slice none 0 0], some (4, 62, 3), []⟩]) ⟨fun _ => ⟨f2, b2⟩, trivial⟩) (DisOld.all (bx := [⟨R3, none, (gs1 0), 2, .agg #[.bool false, .slice none 0 0, .slice none 0 0], some (4, 62, 3), []⟩]) ⟨fun _ => trivial, trivial⟩) ?_ ?_
              · exact ⟨.norm 59 rfl rfl rfl (fun a_ w_ hn_ hBt hr hR hD hO hS => op_loadv N2ok ((hR 5 rfl).trans f5) (b5.keep hBt ⟨fun _ => ne2_5, trivial⟩)),
                  .norm 60 rfl rfl rfl (fun a_ w_ hn_ hBt hr hR hD hO hS => op_loadv N2ok ((hR 7 rfl).trans f7) (b7.keep hBt ⟨fun _ => ne2_7, trivial⟩)),
                  .norm 61 rfl rfl rfl (fun a_ w_ hn_ hBt hr hR hD hO hS => op_qmake (outn_eq (show a_.eval (.tmp 59) = .agg #[.bool n_8, .slice a_8 r_8.length c_8] from hD 0 rfl) (G8.rl hr) l8) (outn_eq (show a_.eval (.tmp 60) = .agg #[.bool n_15, .slice a_15 r_15.length c_15] from hD 1 rfl) (G15.rl hr) l15) (by omega) hx0),
                  .norm 62 rfl rfl rfl (fun a_ w_ hn_ hBt hr hR hD hO hS => op_qtold (show OutQ ((nm (zOf (over s)) (xOf (und s)))) ((dn (zOf (over s)) (xOf (und s)))) ((6000) + (6000)) (a_.eval (.tmp 61)) w_ from hD 2 rfl) (by omega) (dn_pos _ hx0)),
                  .store 0 _ _ _ rfl rfl rfl rfl rfl rfl rfl (fun ia h => by cases h) rfl rfl rfl OutR.cs,
                  .norm 3 rfl rfl rfl (fun a_ w_ hn_ hBt hr hR hD hO hS => op_assign rfl),
                  trivial⟩
              intro a20 w20 gs20 hn20 hd20 hBt hr hR hP hX hU
              replace hn := hn20; replace hd := hd20.trans hd
              obtain ⟨n_21, a_21, c_21, r_21, b_21, d_21, s_21, e62, G21, K21, l21, k21⟩ : OutR ((nm (zOf (over s)) (xOf (und s)))) ((dn (zOf (over s)) (xOf (und s)))) (2 * ((6000) + (6000))) (a20.eval (.tmp 62)) w20 := hP 3 (by decide)
              have A21 := G21.ag; have S21 := K21.sl; have V21 := K21.val
              have b2 : BoxV R3 w20 ((gs1 0)) (.agg #[.bool n_21, .slice a_21 r_21.length c_21, .slice b_21 s_21.length d_21]) := boxv_old ((hX 0 _ rfl).2.1 rfl) (hX 0 _ rfl).2.2.2 e62
              replace f2 : a20.eval (.tmp 2) = _ := (hR 2 rfl).trans f2
              have e3 : a20.eval (.tmp 3) = (.int .i64 0) := hP 5 (by decide)
              have f3 := e3
              replace G8 := G8.rl hr
              replace G15 := G15.rl hr
              replace HB := HB.trans (hBt.below HB.size (UpOld.all (bx := [⟨R3, none, (gs1 0), 2, .agg #[.bool false, .slice none 0 0, .slice none 0 0], some (4, 62, 3), []⟩]) ⟨fun _ => u2, trivial⟩))
              clear hBt hr hR hP hX hU
              refine wp_ret ?_
              repeat (first | refine then_ret ?_ | refine scope_ret ?_ | refine block_ret ?_)
              exact bodyPost_ret (v := .tuple #[.agg #[.bool n_21, .slice a_21 r_21.length c_21, .slice b_21 s_21.length d_21], (.int .i64 0)]) (res_ct rfl f2 (lv_R3 b2) f3) hd ⟨_, rfl, ⟨_, _, rfl, by rw [ra6 hsz he0 hf0 hk0 hx0]; exact (outr_eq rfl G21 K21 l21 k21).to rfl rfl (by omega), by rw [ra6 hsz he0 hf0 hk0 hx0]; rfl⟩, HB⟩
section
variable {dst : Option Tmp} {ty : TypeId} {pos : String} {after : Array Edge} {guard : Option (Nat × Bool)} {a : Act} {w : World} {ats : Array TypeId} {i j : Nat} {x p q : Int} {L : Nat}
theorem op_lcopyi (h : IsL x L (a.eval (.tmp i)) w) (hL : L ≤ 1000000) :
    Does Tryd.prog { dst, op := .call { callee := .value (.func 48), args := #[.tmp i], argTypes := ats }, type := ty, pos, after, guard } a.eval w fun v w' => Below w.heap.size w w' ∧ IsL x L v w' := by
  obtain ⟨ao, n, cap, xs, e, S, V, l⟩ := h
  refine (op_lcopyO (K := 0) e S (by omega) (Nat.zero_le _)).mono ?_
  rintro v w' ⟨hb, ao', cap', rfl, ho⟩
  exact ⟨hb, ao', _, cap', xs, rfl, ho.sl, V, l⟩
theorem op_bRi (h1 : IsW p L (a.eval (.tmp i)) w) (h2 : IsL q L (a.eval (.tmp j)) w) : Does Tryd.prog { dst, op := .build 42 #[(0, .tmp i), (1, .tmp j)], type := ty, pos, after, guard } a.eval w fun v' w' => Below w.heap.size w w' ∧ IsR p q L v' w' := by
  obtain ⟨ng, ao, n, cap, xs, e1, A, l1⟩ := h1
  obtain ⟨bo, m, dap, ys, e2, S, V, l2⟩ := h2
  exact (op_bR e1 e2).mono (fun v w' ⟨hb, e⟩ => ⟨hb, isr_eq e (A.below hb) (S.below hb) V l1 l2⟩)
end
set_option maxRecDepth 20000 in
set_option maxHeartbeats 2000000 in
theorem copyr_z (w : World) (L : Nat) (hL : L ≤ 10000) (nr : Bool) (ar : Option Addr) (mr cr : Nat) (rs : List Int) (pr : Int) (Ar : Ag w nr ar mr cr rs pr) (Lr : rs.length ≤ L) (br : Option Addr) (kr dr : Nat) (rt : List Int) (qr : Int) (Sr : Sl w (.slice br kr dr) rt) (Vr : val rt = qr) (Mr : rt.length ≤ L) :
    Calls Tryd.prog 27 #[.agg #[.bool nr, .slice ar mr cr, .slice br kr dr]] w fun e w' => ∃ v, e = .returned v ∧ IsR pr qr L v w' ∧ Below w.heap.size w w' := by
  go_enter Tryd.func27, Tryd.ntmps27
  generalize hA : (Act.mk _ _) = aa
  have hn : aa.tmps.size = 10 := by rw [← hA]; rfl
  have hd : aa.defers = [] := by rw [← hA]
  have f0 : aa.eval (.tmp 0) = .agg #[.bool nr, .slice ar mr cr, .slice br kr dr] := by rw [← hA]; rfl
  clear hA
  have HB : Below w.heap.size w w := Below.refl _ _
  have Dr : Ag w false br kr dr rt qr := ⟨Sr, Vr⟩
  refine wp_seq ?_
  refine region4 [some 1, some 2] [(fun _ _ => True), (fun _ _ => True)] [⟨R3, some 0, 0, 1, .agg #[.bool nr, .slice ar mr cr, .slice br kr dr], none, []⟩, ⟨R3, some 1, 0, 2, .agg #[.bool false, .slice none 0 0, .slice none 0 0], none, []⟩] [] (by kernel_rfl) hn rfl (by kernel_rfl) (by kernel_rfl) (by kernel_rfl) (by kernel_rfl) (by kernel_rfl) (by kernel_rfl) ⟨True.mono4, True.mono4, trivial⟩ (ok_cons R3ok (ok_cons R3ok ok_nil)) (IsOld.all (bx := [⟨R3, some 0, 0, 1, .agg #[.bool nr, .slice ar mr cr, .slice br kr dr], none, []⟩, ⟨R3, some 1, 0, 2, .agg #[.bool false, .slice none 0 0, .slice none 0 0], none, []⟩]) ⟨someNe, someNe, trivial⟩) (DisOld.all (bx := [⟨R3, some 0, 0, 1, .agg #[.bool nr, .slice ar mr cr, .slice br kr dr], none, []⟩, ⟨R3, some 1, 0, 2, .agg #[.bool false, .slice none 0 0, .slice none 0 0], none, []⟩]) ⟨someNe, someNe, trivial⟩) ?_ ?_
  · exact ⟨.alloc 0 _ rfl rfl (.inr ⟨_, rfl, r3_cs, fun a_ hR => (hR 0 rfl).trans f0⟩) rfl rfl rfl rfl rfl,
      .alloc 1 _ rfl rfl (.inl ⟨rfl, rfl⟩) rfl rfl rfl rfl rfl,
      trivial⟩
  intro a1 w1 gs1 hn1 hd1 hBt hr hR hP hX hU
  replace hn := hn1; replace hd := hd1.trans hd
  have ne1_2 : gs1 0 ≠ gs1 1 := hU 0 1 (by simp) (by simp) (by decide)
  have b1 : BoxV R3 w1 (gs1 0) (.agg #[.bool nr, .slice ar mr cr, .slice br kr dr]) := (hX 0 _ rfl).2.2.2
  have f1 := (hX 0 _ rfl).1
  have u1 : w.heap.size ≤ gs1 0 := Nat.le_trans HB.size ((hX 0 _ rfl).2.2.1 (by simp))
  have b2 : BoxV R3 w1 (gs1 1) (.agg #[.bool false, .slice none 0 0, .slice none 0 0]) := (hX 1 _ rfl).2.2.2
  have f2 := (hX 1 _ rfl).1
  have u2 : w.heap.size ≤ gs1 1 := Nat.le_trans HB.size ((hX 1 _ rfl).2.2.1 (by simp))
  replace Ar := Ar.rl hr
  replace Sr := Sr.rl hr
  replace Dr := Dr.rl hr
  replace HB := HB.trans (hBt.below HB.size (UpOld.all (bx := [⟨R3, some 0, 0, 1, .agg #[.bool nr, .slice ar mr cr, .slice br kr dr], none, []⟩, ⟨R3, some 1, 0, 2, .agg #[.bool false, .slice none 0 0, .slice none 0 0], none, []⟩]) ⟨someNe, someNe, trivial⟩))
  clear hBt hr hR hP hX hU
  refine wp_seq ?_
  refine region4 [some 3, some 4, some 5, some 6, some 7, some 8, some 9, none] [Eqs (.pointer (some ⟨gs1 0, 0, none⟩)), Eqs (.agg #[.bool nr, .slice ar mr cr]), IsW (pr) (L), Eqs (.pointer (some ⟨gs1 0, 2, none⟩)), Eqs (.slice br kr dr), IsL (qr) (L), IsR (pr) (qr) (L), (fun _ _ => True)] [⟨R3, none, (gs1 1), 2, .agg #[.bool false, .slice none 0 0, .slice none 0 0], some (7, 9, 6), []⟩] [] (by kernel_rfl) hn rfl (by kernel_rfl) (by kernel_rfl) (by kernel_rfl) (by kernel_rfl) (by kernel_rfl) (by kernel_rfl) ⟨Eqs.mono4 _, Eqs.mono4 _, IsW.mono4 _ _, Eqs.mono4 _, Eqs.mono4 _, IsL.mono4 _ _, IsR.mono4 _ _ _, True.mono4, trivial⟩ (ok_cons R3ok ok_nil) (IsOld.all (bx := [⟨R3, none, (gs1 1), 2, .agg #[.bool false, .slice none 0 0, .slice none 0 0], some (7, 9, 6), []⟩]) ⟨fun _ => ⟨f2, b2⟩, trivial⟩) (DisOld.all (bx := [⟨R3, none, (gs1 1), 2, .agg #[.bool false, .slice none 0 0, .slice none 0 0], some (7, 9, 6), []⟩]) ⟨fun _ => trivial, trivial⟩) ?_ ?_
  · exact ⟨.norm 3 rfl rfl rfl (fun a_ w_ hn_ hBt hr hR hD hO hS => op_faR fa_num ((hR 1 rfl).trans f1)),
      .norm 4 rfl rfl rfl (fun a_ w_ hn_ hBt hr hR hD hO hS => op_ldnum (show a_.eval (.tmp 3) = .pointer (some ⟨gs1 0, 0, none⟩) from hD 0 rfl) (b1.keep hBt ⟨fun _ => ne1_2.symm, trivial⟩)),
      .norm 5 rfl rfl rfl (fun a_ w_ hn_ hBt hr hR hD hO hS => op_copyw (isw_eq (show a_.eval (.tmp 4) = .agg #[.bool nr, .slice ar mr cr] from hD 1 rfl) (Ar.rl hr) Lr) (by omega)),
      .norm 6 rfl rfl rfl (fun a_ w_ hn_ hBt hr hR hD hO hS => op_faR fa_den ((hR 1 rfl).trans f1)),
      .norm 7 rfl rfl rfl (fun a_ w_ hn_ hBt hr hR hD hO hS => op_ldden (show a_.eval (.tmp 6) = .pointer (some ⟨gs1 0, 2, none⟩) from hD 3 rfl) (b1.keep hBt ⟨fun _ => ne1_2.symm, trivial⟩)),
      .norm 8 rfl rfl rfl (fun a_ w_ hn_ hBt hr hR hD hO hS => op_lcopyi (isl_eq (show a_.eval (.tmp 7) = .slice br kr dr from hD 4 rfl) (Sr.rl hr) Vr Mr) (by omega)),
      .norm 9 rfl rfl rfl (fun a_ w_ hn_ hBt hr hR hD hO hS => op_bRi (show IsW (pr) (L) (a_.eval (.tmp 5)) w_ from hD 2 rfl) (show IsL (qr) (L) (a_.eval (.tmp 8)) w_ from hD 5 rfl)),
      .store 0 _ _ _ rfl rfl rfl rfl rfl rfl rfl (fun ia h => by cases h) rfl rfl rfl IsR.cs,
      trivial⟩
  intro a2 w2 gs2 hn2 hd2 hBt hr hR hP hX hU
  replace hn := hn2; replace hd := hd2.trans hd
  obtain ⟨n_3, a_3, m_3, c_3, r_3, b_3, k_3, d_3, s_3, e9, A3, S3, V3, l3, q3⟩ : IsR (pr) (qr) (L) (a2.eval (.tmp 9)) w2 := hP 6 (by decide)
  have b2 : BoxV R3 w2 ((gs1 1)) (.agg #[.bool n_3, .slice a_3 m_3 c_3, .slice b_3 k_3 d_3]) := boxv_old ((hX 0 _ rfl).2.1 rfl) (hX 0 _ rfl).2.2.2 e9
  replace f2 : a2.eval (.tmp 2) = _ := (hR 2 rfl).trans f2
  replace Ar := Ar.rl hr
  replace Sr := Sr.rl hr
  replace Dr := Dr.rl hr
  replace HB := HB.trans (hBt.below HB.size (UpOld.all (bx := [⟨R3, none, (gs1 1), 2, .agg #[.bool false, .slice none 0 0, .slice none 0 0], some (7, 9, 6), []⟩]) ⟨fun _ => u2, trivial⟩))
  clear hBt hr hR hP hX hU
  refine wp_ret ?_
  repeat (first | refine then_ret ?_ | refine scope_ret ?_ | refine block_ret ?_)
  exact bodyPost_ret (v := .agg #[.bool n_3, .slice a_3 m_3 c_3, .slice b_3 k_3 d_3]) (res_c rfl f2 (lv_R3 b2)) hd ⟨_, rfl, isr_eq rfl A3 S3 V3 l3 q3, HB⟩
section
variable {dst : Option Tmp} {ty : TypeId} {pos : String} {after : Array Edge} {guard : Option (Nat × Bool)} {a : Act} {w : World} {ats : Array TypeId} {i j : Nat} {p q : Int} {L : Nat} {s : ByteArray}
theorem has_copyr : Has Tryd.prog 27 := by unfold Has; kernel_rfl
theorem op_copyr (h : IsR p q L (a.eval (.tmp i)) w) (hL : L ≤ 10000) :
    Does Tryd.prog { dst, op := .call { callee := .value (.func 27), args := #[.tmp i], argTypes := ats }, type := ty, pos, after, guard } a.eval w fun v w' => Below w.heap.size w w' ∧ IsR p q L v w' := by
  obtain ⟨ng, ao, n, cap, xs, bo, m, dap, ys, e, A, S, V, l1, l2⟩ := h
  refine does_call has_copyr _ (by simp only [List.map_toArray, List.map_cons, List.map_nil, e]) ((copyr_z w L hL _ _ _ _ _ _ A l1 _ _ _ _ _ S V l2).mono ?_)
  rintro e w' ⟨v, rfl, h1, hb⟩
  exact ⟨_, rfl, hb, h1⟩
theorem has_rtextx : Has Tryd.prog 26 := by unfold Has; kernel_rfl
theorem op_rtext (h : IsR p q L (a.eval (.tmp i)) w) (hL : L ≤ 10000) :
    Does Tryd.prog { dst, op := .call { callee := .value (.func 26), args := #[.tmp i], argTypes := ats }, type := ty, pos, after, guard } a.eval w fun v w' => Below w.heap.size w w' ∧ Eqs (.string (rtxt (nm (tp p q) (tq q)) (dn (tp p q) (tq q)))) v w' := by
  obtain ⟨ng, ao, n, cap, xs, bo, m, dap, ys, e, A, S, V, l1, l2⟩ := h
  refine does_call has_rtextx _ (by simp only [List.map_toArray, List.map_cons, List.map_nil, e]) ((rtext_z w L hL _ _ _ _ _ _ A l1 _ _ _ _ _ S V l2).mono ?_)
  rintro e w' ⟨rfl, hb⟩
  exact ⟨_, rfl, hb, rfl⟩
theorem has_q3text : Has Tryd.prog 28 := by unfold Has; kernel_rfl
theorem op_q3text (h : IsR p q L (a.eval (.tmp i)) w) (hL : L ≤ 10000) :
    Does Tryd.prog { dst, op := .call { callee := .value (.func 28), args := #[.tmp i], argTypes := ats }, type := ty, pos, after, guard } a.eval w fun v w' => Below w.heap.size w w' ∧ Eqs (.string (rtxt (nm (tp p q) (tq q)) (dn (tp p q) (tq q)))) v w' := by
  obtain ⟨ng, ao, n, cap, xs, bo, m, dap, ys, e, A, S, V, l1, l2⟩ := h
  refine does_call has_q3text _ (by simp only [List.map_toArray, List.map_cons, List.map_nil, e]) ((q3text_z w L hL _ _ _ _ _ _ A l1 _ _ _ _ _ S V l2).mono ?_)
  rintro e w' ⟨rfl, hb⟩
  exact ⟨_, rfl, hb, rfl⟩
theorem has_rparse : Has Tryd.prog 24 := by unfold Has; kernel_rfl
theorem op_rparse (h : a.eval (.tmp i) = .string s) (hT : TabsR w) :
    Does Tryd.prog { dst, op := .call { callee := .value (.func 24), args := #[.tmp i], argTypes := ats }, type := ty, pos, after, guard } a.eval w fun v w' => Below w.heap.size w w' ∧ Tup2 (OutR (rAns s).1 (rAns s).2.1 24000) (Eqs (.int .i64 (rAns s).2.2)) v w' := by
  refine does_call has_rparse _ (by simp only [List.map_toArray, List.map_cons, List.map_nil, h]) ((rparse_z w s hT).mono ?_)
  rintro e w' ⟨v, rfl, ht, hb⟩
  exact ⟨_, rfl, hb, ht⟩
theorem has_q3parse : Has Tryd.prog 25 := by unfold Has; kernel_rfl
theorem op_q3parse (h : a.eval (.tmp i) = .string s) :
    Does Tryd.prog { dst, op := .call { callee := .value (.func 25), args := #[.tmp i], argTypes := ats }, type := ty, pos, after, guard } a.eval w fun v w' => Below w.heap.size w w' ∧ Tup2 (OutR (rAns s).1 (rAns s).2.1 24000) (Eqs (.int .i64 (rAns s).2.2)) v w' := by
  refine does_call has_q3parse _ (by simp only [List.map_toArray, List.map_cons, List.map_nil, h]) ((q3parse_z w s).mono ?_)
  rintro e w' ⟨v, rfl, ht, hb⟩
  exact ⟨_, rfl, hb, ht⟩
end
end Lm
end Go.Proofs.YtdiiankcjgoecaaDoor

namespace Go.Proofs.YtdiiankcjgoecaaDoor
namespace Lm
open Go Go.RowKit
set_option maxRecDepth 20000 in
set_option maxHeartbeats 4000000 in
theorem rtexts_law (w : World) (s : ByteArray) (nr : Bool) (ar : Option Addr) (mr cr : Nat) (rs : List Int) (pr : Int) (br : Option Addr) (kr dr : Nat) (rt : List Int) (qr : Int) (hT : TabsR w) (Ar : Ag w nr ar mr cr rs pr) (Sr : Sl w (.slice br kr dr) rt) (Vr : val rt = qr) (gr35 : mr ≤ 35184372088832) (jr35 : kr ≤ 35184372088832) :
    Calls Tryd.prog 5 #[.string s, .agg #[.bool nr, .slice ar mr cr, .slice br kr dr]] w fun e w' => e = .returned (.bool true) ∧ Below w.heap.size w w' := by
  go_enter Tryd.func5, Tryd.ntmps5
  generalize hA : (Act.mk _ _) = aa
  have hn : aa.tmps.size = 41 := by rw [← hA]; rfl
  have hd : aa.defers = [] := by rw [← hA]
  have f0 : aa.eval (.tmp 0) = .string s := by rw [← hA]; rfl
  have f1 : aa.eval (.tmp 1) = .agg #[.bool nr, .slice ar mr cr, .slice br kr dr] := by rw [← hA]; rfl
  clear hA
  have HB : Below w.heap.size w w := Below.refl _ _
  have Dr : Ag w false br kr dr rt qr := ⟨Sr, Vr⟩
  refine wp_seq ?_
  refine region4 [some 3, some 4] [(fun _ _ => True), Eqs ((.bool false))] [⟨R3, some 0, 0, 3, .agg #[.bool nr, .slice ar mr cr, .slice br kr dr], none, []⟩] [] (by kernel_rfl) hn rfl (by kernel_rfl) (by kernel_rfl) (by kernel_rfl) (by kernel_rfl) (by kernel_rfl) (by kernel_rfl) ⟨True.mono4, Eqs.mono4 _, trivial⟩ (ok_cons R3ok ok_nil) (IsOld.all (bx := [⟨R3, some 0, 0, 3, .agg #[.bool nr, .slice ar mr cr, .slice br kr dr], none, []⟩]) ⟨someNe, trivial⟩) (DisOld.all (bx := [⟨R3, some 0, 0, 3, .agg #[.bool nr, .slice ar mr cr, .slice br kr dr], none, []⟩]) ⟨someNe, trivial⟩) ?_ ?_
  · exact ⟨.alloc 0 _ rfl rfl (.inr ⟨_, rfl, r3_cs, fun a_ hR => (hR 1 rfl).trans f1⟩) rfl rfl rfl rfl rfl,
      .norm 4 rfl rfl rfl (fun a_ w_ hn_ hBt hr hR hD hO hS => op_assign rfl),
      trivial⟩
  intro a1 w1 gs1 hn1 hd1 hBt hr hR hP hX hU
  replace hn := hn1; replace hd := hd1.trans hd
  have b3 : BoxV R3 w1 (gs1 0) (.agg #[.bool nr, .slice ar mr cr, .slice br kr dr]) := (hX 0 _ rfl).2.2.2
  have f3 := (hX 0 _ rfl).1
  have u3 : w.heap.size ≤ gs1 0 := Nat.le_trans HB.size ((hX 0 _ rfl).2.2.1 (by simp))
  replace f0 := (hR 0 rfl).trans f0
  have e4 : a1.eval (.tmp 4) = (.bool false) := hP 1 (by decide)
  have f4 := e4
  replace Ar := Ar.rl hr
  replace Sr := Sr.rl hr
  replace Dr := Dr.rl hr
  replace HB := HB.trans (hBt.below HB.size (UpOld.all (bx := [⟨R3, some 0, 0, 3, .agg #[.bool nr, .slice ar mr cr, .slice br kr dr], none, []⟩]) ⟨someNe, trivial⟩))
  clear hBt hr hR hP hX hU
  refine wp_seq ?_
  refine wp_seq ?_
  refine region4 [some 9, some 10] [Eqs (.bool true), Eqs (.bool false)] [] [] (by kernel_rfl) hn rfl (by kernel_rfl) (by kernel_rfl) (by kernel_rfl) (by kernel_rfl) (by kernel_rfl) (by kernel_rfl) ⟨Eqs.mono4 _, Eqs.mono4 _, trivial⟩ ok_nil (IsOld.all (bx := []) trivial) (DisOld.all (bx := []) trivial) ?_ ?_
  · exact ⟨.norm 9 rfl rfl rfl (fun a_ w_ hn_ hBt hr hR hD hO hS => op_rawake),
      .norm 10 rfl rfl rfl (fun a_ w_ hn_ hBt hr hR hD hO hS => op_not (show a_.eval (.tmp 9) = .bool true from hD 0 rfl)),
      trivial⟩
  intro a2 w2 gs2 hn2 hd2 hBt hr hR hP hX hU
  replace hn := hn2; replace hd := hd2.trans hd
  replace b3 := b3.keep hBt trivial
  replace f0 := (hR 0 rfl).trans f0
  replace f3 := (hR 3 rfl).trans f3
  replace f4 := (hR 4 rfl).trans f4
  have e10 : a2.eval (.tmp 10) = .bool false := hP 1 (by decide)
  have f10 := e10
  replace Ar := Ar.rl hr
  replace Sr := Sr.rl hr
  replace Dr := Dr.rl hr
  replace HB := HB.trans (hBt.below HB.size (UpOld.all (bx := []) trivial))
  clear hBt hr hR hP hX hU
  refine wp_cond_false f10 ?_
  refine wp_skip ?_
  refine wp_seq ?_
  refine wp_seq ?_
  refine region4 [some 11, some 12, some 13] [Eqs (.agg #[.bool nr, .slice ar mr cr, .slice br kr dr]), Eqs (.int .i64 (1 + (mr : Int) + (kr : Int))), Eqs (.bool (decide (1500 < (1 + (mr : Int) + (kr : Int)))))] [] [] (by kernel_rfl) hn rfl (by kernel_rfl) (by kernel_rfl) (by kernel_rfl) (by kernel_rfl) (by kernel_rfl) (by kernel_rfl) ⟨Eqs.mono4 _, Eqs.mono4 _, Eqs.mono4 _, trivial⟩ ok_nil (IsOld.all (bx := []) trivial) (DisOld.all (bx := []) trivial) ?_ ?_
  · exact ⟨.norm 11 rfl rfl rfl (fun a_ w_ hn_ hBt hr hR hD hO hS => op_loadv R3ok ((hR 3 rfl).trans f3) (b3.keep hBt trivial)),
      .norm 12 rfl rfl rfl (fun a_ w_ hn_ hBt hr hR hD hO hS => op_rlen (show a_.eval (.tmp 11) = .agg #[.bool nr, .slice ar mr cr, .slice br kr dr] from hD 0 rfl) (by omega) (by omega)),
      .norm 13 rfl rfl rfl (fun a_ w_ hn_ hBt hr hR hD hO hS => op_gtrk (show a_.eval (.tmp 12) = .int .i64 (1 + (mr : Int) + (kr : Int)) from hD 1 rfl)),
      trivial⟩
  intro a3 w3 gs3 hn3 hd3 hBt hr hR hP hX hU
  replace hn := hn3; replace hd := hd3.trans hd
  replace b3 := b3.keep hBt trivial
  replace f0 := (hR 0 rfl).trans f0
  replace f3 := (hR 3 rfl).trans f3
  replace f4 := (hR 4 rfl).trans f4
  have e13 : a3.eval (.tmp 13) = .bool (decide (1500 < (1 + (mr : Int) + (kr : Int)))) := hP 2 (by decide)
  have f13 := e13
  replace Ar := Ar.rl hr
  replace Sr := Sr.rl hr
  replace Dr := Dr.rl hr
  replace HB := HB.trans (hBt.below HB.size (UpOld.all (bx := []) trivial))
  clear hBt hr hR hP hX hU
  refine wp_cond_split f13 (fun hc13 => ?_) (fun hc13 => ?_)
  · skip
    refine wp_seq ?_
    refine region4 [some 4] [Eqs ((.bool true))] [] [] (by kernel_rfl) hn rfl (by kernel_rfl) (by kernel_rfl) (by kernel_rfl) (by kernel_rfl) (by kernel_rfl) (by kernel_rfl) ⟨Eqs.mono4 _, trivial⟩ ok_nil (IsOld.all (bx := []) trivial) (DisOld.all (bx := []) trivial) ?_ ?_
    · exact ⟨.norm 4 rfl rfl rfl (fun a_ w_ hn_ hBt hr hR hD hO hS => op_assign rfl),
        trivial⟩
    intro a4 w4 gs4 hn4 hd4 hBt hr hR hP hX hU
    replace hn := hn4; replace hd := hd4.trans hd
    replace b3 := b3.keep hBt trivial
    replace f0 := (hR 0 rfl).trans f0
    replace f3 := (hR 3 rfl).trans f3
    have e4 : a4.eval (.tmp 4) = (.bool true) := hP 0 (by decide)
    have f4 := e4
    replace Ar := Ar.rl hr
    replace Sr := Sr.rl hr
    replace Dr := Dr.rl hr
    replace HB := HB.trans (hBt.below HB.size (UpOld.all (bx := []) trivial))
    clear hBt hr hR hP hX hU
    refine wp_ret ?_
    repeat (first | refine then_ret ?_ | refine scope_ret ?_ | refine block_ret ?_)
    exact bodyPost_ret (v := .bool true) (res_t rfl f4) hd ⟨rfl, HB⟩
  · skip
    have hlen := of_decide_eq_false hc13
    have or_ := Ar.sl.parts.1; have Lr : rs.length ≤ 1500 := by omega
    have yr_ := Sr.parts.1; have Mr : rt.length ≤ 1500 := by omega
    refine wp_skip ?_
    refine wp_seq ?_
    refine region4 [some 15, some 16, some 14, some 17, some 18, some 5, none, some 6] [Eqs (.string s), Tup2 (OutR ((rAns s).1) ((rAns s).2.1) (24000)) (Eqs (.int .i64 (rAns s).2.2)), Tup2 (OutR ((rAns s).1) ((rAns s).2.1) (24000)) (Eqs (.int .i64 (rAns s).2.2)), OutR ((rAns s).1) ((rAns s).2.1) (24000), Eqs (.int .i64 (rAns s).2.2), (fun _ _ => True), (fun _ _ => True), Eqs (.int .i64 (rAns s).2.2)] [⟨R3, some 5, 0, 5, .agg #[.bool false, .slice none 0 0, .slice none 0 0], some (6, 17, 3), []⟩] [] (by kernel_rfl) hn rfl (by kernel_rfl) (by kernel_rfl) (by kernel_rfl) (by kernel_rfl) (by kernel_rfl) (by kernel_rfl) ⟨Eqs.mono4 _, Tup2.mono4 (OutR.mono4 _ _ _) (Eqs.mono4 _), Tup2.mono4 (OutR.mono4 _ _ _) (Eqs.mono4 _), OutR.mono4 _ _ _, Eqs.mono4 _, True.mono4, True.mono4, Eqs.mono4 _, trivial⟩ (ok_cons R3ok ok_nil) (IsOld.all (bx := [⟨R3, some 5, 0, 5, .agg #[.bool false, .slice none 0 0, .slice none 0 0], some (6, 17, 3), []⟩]) ⟨someNe, trivial⟩) (DisOld.all (bx := [⟨R3, some 5, 0, 5, .agg #[.bool false, .slice none 0 0, .slice none 0 0], some (6, 17, 3), []⟩]) ⟨someNe, trivial⟩) ?_ ?_
    · exact ⟨.norm 15 rfl rfl rfl (fun a_ w_ hn_ hBt hr hR hD hO hS => op_mv ((hR 0 rfl).trans f0)),
        .norm 16 rfl rfl rfl (fun a_ w_ hn_ hBt hr hR hD hO hS => op_rparse (show a_.eval (.tmp 15) = .string s from hD 0 rfl) (hT.below (HB.trans (hBt.below HB.size (UpOld.all (bx := [⟨R3, some 5, 0, 5, .agg #[.bool false, .slice none 0 0, .slice none 0 0], some (6, 17, 3), []⟩]) ⟨someNe, trivial⟩))))),
        .norm 14 rfl rfl rfl (fun a_ w_ hn_ hBt hr hR hD hO hS => op_mvp (p := Tup2 (OutR ((rAns s).1) ((rAns s).2.1) (24000)) (Eqs (.int .i64 (rAns s).2.2))) (show Tup2 (OutR ((rAns s).1) ((rAns s).2.1) (24000)) (Eqs (.int .i64 (rAns s).2.2)) (a_.eval (.tmp 16)) w_ from hD 1 rfl)),
        .norm 17 rfl rfl rfl (fun a_ w_ hn_ hBt hr hR hD hO hS => op_ex20 (show Tup2 (OutR ((rAns s).1) ((rAns s).2.1) (24000)) (Eqs (.int .i64 (rAns s).2.2)) (a_.eval (.tmp 14)) w_ from hD 2 rfl)),
        .norm 18 rfl rfl rfl (fun a_ w_ hn_ hBt hr hR hD hO hS => op_ex21 (show Tup2 (OutR ((rAns s).1) ((rAns s).2.1) (24000)) (Eqs (.int .i64 (rAns s).2.2)) (a_.eval (.tmp 14)) w_ from hD 2 rfl)),
        .alloc 0 _ rfl rfl (.inl ⟨rfl, rfl⟩) rfl rfl rfl rfl rfl,
        .store 0 _ _ _ rfl rfl rfl rfl rfl rfl rfl (fun ia h => by cases h; rfl) rfl rfl rfl OutR.cs,
        .norm 6 rfl rfl rfl (fun a_ w_ hn_ hBt hr hR hD hO hS => op_assign (show a_.eval (.tmp 18) = .int .i64 (rAns s).2.2 from hD 4 rfl)),
        trivial⟩
    intro a5 w5 gs5 hn5 hd5 hBt hr hR hP hX hU
    replace hn := hn5; replace hd := hd5.trans hd
    replace b3 := b3.keep hBt ⟨someNe, trivial⟩
    obtain ⟨n_6, a_6, c_6, r_6, b_6, d_6, s_6, e17, G6, K6, l6, k6⟩ : OutR ((rAns s).1) ((rAns s).2.1) (24000) (a5.eval (.tmp 17)) w5 := hP 3 (by decide)
    have A6 := G6.ag; have S6 := K6.sl; have V6 := K6.val
    have b5 : BoxV R3 w5 (gs5 0) (.agg #[.bool n_6, .slice a_6 r_6.length c_6, .slice b_6 s_6.length d_6]) := boxv_of (hX 0 _ rfl).2.2.2 e17
    have f5 := (hX 0 _ rfl).1
    have u5 : w.heap.size ≤ gs5 0 := Nat.le_trans HB.size ((hX 0 _ rfl).2.2.1 (by simp))
    replace f0 := (hR 0 rfl).trans f0
    replace f3 := (hR 3 rfl).trans f3
    replace f4 := (hR 4 rfl).trans f4
    have e6 : a5.eval (.tmp 6) = .int .i64 (rAns s).2.2 := hP 7 (by decide)
    have f6 := e6
    replace Ar := Ar.rl hr
    replace Sr := Sr.rl hr
    replace Dr := Dr.rl hr
    replace HB := HB.trans (hBt.below HB.size (UpOld.all (bx := [⟨R3, some 5, 0, 5, .agg #[.bool false, .slice none 0 0, .slice none 0 0], some (6, 17, 3), []⟩]) ⟨someNe, trivial⟩))
    clear hBt hr hR hP hX hU
    refine wp_seq ?_
    refine region4 [some 20, some 21, some 19, some 22, some 23, some 7, none, some 8] [Eqs (.string s), Tup2 (OutR ((rAns s).1) ((rAns s).2.1) (24000)) (Eqs (.int .i64 (rAns s).2.2)), Tup2 (OutR ((rAns s).1) ((rAns s).2.1) (24000)) (Eqs (.int .i64 (rAns s).2.2)), OutR ((rAns s).1) ((rAns s).2.1) (24000), Eqs (.int .i64 (rAns s).2.2), (fun _ _ => True), (fun _ _ => True), Eqs (.int .i64 (rAns s).2.2)] [⟨R3, some 5, 0, 7, .agg #[.bool false, .slice none 0 0, .slice none 0 0], some (6, 22, 3), []⟩] [] (by kernel_rfl) hn rfl (by kernel_rfl) (by kernel_rfl) (by kernel_rfl) (by kernel_rfl) (by kernel_rfl) (by kernel_rfl) ⟨Eqs.mono4 _, Tup2.mono4 (OutR.mono4 _ _ _) (Eqs.mono4 _), Tup2.mono4 (OutR.mono4 _ _ _) (Eqs.mono4 _), OutR.mono4 _ _ _, Eqs.mono4 _, True.mono4, True.mono4, Eqs.mono4 _, trivial⟩ (ok_cons R3ok ok_nil) (IsOld.all (bx := [⟨R3, some 5, 0, 7, .agg #[.bool false, .slice none 0 0, .slice none 0 0], some (6, 22, 3), []⟩]) ⟨someNe, trivial⟩) (DisOld.all (bx := [⟨R3, some 5, 0, 7, .agg #[.bool false, .slice none 0 0, .slice none 0 0], some (6, 22, 3), []⟩]) ⟨someNe, trivial⟩) ?_ ?_
    · exact ⟨.norm 20 rfl rfl rfl (fun a_ w_ hn_ hBt hr hR hD hO hS => op_mv ((hR 0 rfl).trans f0)),
        .norm 21 rfl rfl rfl (fun a_ w_ hn_ hBt hr hR hD hO hS => op_q3parse (show a_.eval (.tmp 20) = .string s from hD 0 rfl)),
        .norm 19 rfl rfl rfl (fun a_ w_ hn_ hBt hr hR hD hO hS => op_mvp (p := Tup2 (OutR ((rAns s).1) ((rAns s).2.1) (24000)) (Eqs (.int .i64 (rAns s).2.2))) (show Tup2 (OutR ((rAns s).1) ((rAns s).2.1) (24000)) (Eqs (.int .i64 (rAns s).2.2)) (a_.eval (.tmp 21)) w_ from hD 1 rfl)),
        .norm 22 rfl rfl rfl (fun a_ w_ hn_ hBt hr hR hD hO hS => op_ex20 (show Tup2 (OutR ((rAns s).1) ((rAns s).2.1) (24000)) (Eqs (.int .i64 (rAns s).2.2)) (a_.eval (.tmp 19)) w_ from hD 2 rfl)),
        .norm 23 rfl rfl rfl (fun a_ w_ hn_ hBt hr hR hD hO hS => op_ex21 (show Tup2 (OutR ((rAns s).1) ((rAns s).2.1) (24000)) (Eqs (.int .i64 (rAns s).2.2)) (a_.eval (.tmp 19)) w_ from hD 2 rfl)),
        .alloc 0 _ rfl rfl (.inl ⟨rfl, rfl⟩) rfl rfl rfl rfl rfl,
        .store 0 _ _ _ rfl rfl rfl rfl rfl rfl rfl (fun ia h => by cases h; rfl) rfl rfl rfl OutR.cs,
        .norm 8 rfl rfl rfl (fun a_ w_ hn_ hBt hr hR hD hO hS => op_assign (show a_.eval (.tmp 23) = .int .i64 (rAns s).2.2 from hD 4 rfl)),
        trivial⟩
    intro a7 w7 gs7 hn7 hd7 hBt hr hR hP hX hU
    replace hn := hn7; replace hd := hd7.trans hd
    replace b3 := b3.keep hBt ⟨someNe, trivial⟩
    replace b5 := b5.keep hBt ⟨someNe, trivial⟩
    obtain ⟨n_8, a_8, c_8, r_8, b_8, d_8, s_8, e22, G8, K8, l8, k8⟩ : OutR ((rAns s).1) ((rAns s).2.1) (24000) (a7.eval (.tmp 22)) w7 := hP 3 (by decide)
    have A8 := G8.ag; have S8 := K8.sl; have V8 := K8.val
    have b7 : BoxV R3 w7 (gs7 0) (.agg #[.bool n_8, .slice a_8 r_8.length c_8, .slice b_8 s_8.length d_8]) := boxv_of (hX 0 _ rfl).2.2.2 e22
    have f7 := (hX 0 _ rfl).1
    have u7 : w.heap.size ≤ gs7 0 := Nat.le_trans HB.size ((hX 0 _ rfl).2.2.1 (by simp))
    replace f3 := (hR 3 rfl).trans f3
    replace f4 := (hR 4 rfl).trans f4
    replace f5 := (hR 5 rfl).trans f5
    replace f6 := (hR 6 rfl).trans f6
    have e8 : a7.eval (.tmp 8) = .int .i64 (rAns s).2.2 := hP 7 (by decide)
    have f8 := e8
    replace Ar := Ar.rl hr
    replace Sr := Sr.rl hr
    replace Dr := Dr.rl hr
    replace G6 := G6.rl hr
    replace A6 := A6.rl hr
    replace K6 := K6.rl hr
    replace S6 := S6.rl hr
    replace HB := HB.trans (hBt.below HB.size (UpOld.all (bx := [⟨R3, some 5, 0, 7, .agg #[.bool false, .slice none 0 0, .slice none 0 0], some (6, 22, 3), []⟩]) ⟨someNe, trivial⟩))
    clear hBt hr hR hP hX hU
    refine wp_seq ?_
    refine region4 [some 24, some 25, some 26, some 27, some 28, some 29, some 30, some 31, some 32, some 33, some 34, some 35, some 36, some 37, some 38, some 39, some 40, some 4] [Eqs (.agg #[.bool nr, .slice ar mr cr, .slice br kr dr]), IsR (pr) (qr) (1500), Eqs (.string (rtxt (nm (tp pr qr) (tq qr)) (dn (tp pr qr) (tq qr)))), Eqs (.agg #[.bool nr, .slice ar mr cr, .slice br kr dr]), Eqs (.string (rtxt (nm (tp pr qr) (tq qr)) (dn (tp pr qr) (tq qr)))), Eqs (.bool true), Eqs (.bool true), Eqs (.int .i64 (rAns s).2.2), Eqs (.int .i64 (rAns s).2.2), Eqs (.int .i64 (rAns s).2.2), Eqs (.bool true), Eqs (.bool true), Eqs (.bool true), Eqs (.agg #[.bool n_6, .slice a_6 r_6.length c_6, .slice b_6 s_6.length d_6]), Eqs (.agg #[.bool n_8, .slice a_8 r_8.length c_8, .slice b_8 s_8.length d_8]), Eqs (.bool true), Eqs (.bool true), Eqs (.bool true)] [] [] (by kernel_rfl) hn rfl (by kernel_rfl) (by kernel_rfl) (by kernel_rfl) (by kernel_rfl) (by kernel_rfl) (by kernel_rfl) ⟨Eqs.mono4 _, IsR.mono4 _ _ _, Eqs.mono4 _, Eqs.mono4 _, Eqs.mono4 _, Eqs.mono4 _, Eqs.mono4 _, Eqs.mono4 _, Eqs.mono4 _, Eqs.mono4 _, Eqs.mono4 _, Eqs.mono4 _, Eqs.mono4 _, Eqs.mono4 _, Eqs.mono4 _, Eqs.mono4 _, Eqs.mono4 _, Eqs.mono4 _, trivial⟩ ok_nil (IsOld.all (bx := []) trivial) (DisOld.all (bx := []) trivial) ?_ ?_
    · exact ⟨.norm 24 rfl rfl rfl (fun a_ w_ hn_ hBt hr hR hD hO hS => op_loadv R3ok ((hR 3 rfl).trans f3) (b3.keep hBt trivial)),
        .norm 25 rfl rfl rfl (fun a_ w_ hn_ hBt hr hR hD hO hS => op_copyr (isr_eq (show a_.eval (.tmp 24) = .agg #[.bool nr, .slice ar mr cr, .slice br kr dr] from hD 0 rfl) (Ar.rl hr) (Sr.rl hr) Vr Lr Mr) (by omega)),
        .norm 26 rfl rfl rfl (fun a_ w_ hn_ hBt hr hR hD hO hS => op_rtext (show IsR (pr) (qr) (1500) (a_.eval (.tmp 25)) w_ from hD 1 rfl) (by omega)),
        .norm 27 rfl rfl rfl (fun a_ w_ hn_ hBt hr hR hD hO hS => op_loadv R3ok ((hR 3 rfl).trans f3) (b3.keep hBt trivial)),
        .norm 28 rfl rfl rfl (fun a_ w_ hn_ hBt hr hR hD hO hS => op_q3text (isr_eq (show a_.eval (.tmp 27) = .agg #[.bool nr, .slice ar mr cr, .slice br kr dr] from hD 3 rfl) (Ar.rl hr) (Sr.rl hr) Vr Lr Mr) (by omega)),
        .norm 29 rfl rfl rfl (fun a_ w_ hn_ hBt hr hR hD hO hS => op_eqlst (show a_.eval (.tmp 26) = .string (rtxt (nm (tp pr qr) (tq qr)) (dn (tp pr qr) (tq qr))) from hD 2 rfl) (show a_.eval (.tmp 28) = .string (rtxt (nm (tp pr qr) (tq qr)) (dn (tp pr qr) (tq qr))) from hD 4 rfl)),
        .norm 30 rfl rfl rfl (fun a_ w_ hn_ hBt hr hR hD hO hS => op_mv (show a_.eval (.tmp 29) = .bool true from hD 5 rfl)),
        .norm 31 rfl rfl rfl (fun a_ w_ hn_ hBt hr hR hD hO hS => ⟨⟨_, rfl⟩, fun _ => op_mv ((hR 6 rfl).trans f6), fun hne => absurd (hD 6 rfl) hne⟩),
        .norm 32 rfl rfl rfl (fun a_ w_ hn_ hBt hr hR hD hO hS => ⟨⟨_, rfl⟩, fun _ => op_num0 (show a_.eval (.tmp 31) = .int .i64 (rAns s).2.2 from hD 7 rfl), fun hne => absurd (hD 6 rfl) hne⟩),
        .norm 33 rfl rfl rfl (fun a_ w_ hn_ hBt hr hR hD hO hS => ⟨⟨_, rfl⟩, fun _ => op_mv ((hR 8 rfl).trans f8), fun hne => absurd (hD 6 rfl) hne⟩),
        .norm 34 rfl rfl rfl (fun a_ w_ hn_ hBt hr hR hD hO hS => ⟨⟨_, rfl⟩, fun _ => op_eql (show a_.eval (.tmp 32) = .int .i64 (rAns s).2.2 from hD 8 rfl) (show a_.eval (.tmp 33) = .int .i64 (rAns s).2.2 from hD 9 rfl) rfl, fun hne => absurd (hD 6 rfl) hne⟩),
        .norm 35 rfl rfl rfl (fun a_ w_ hn_ hBt hr hR hD hO hS => op_pickb (show a_.eval (.tmp 30) = .bool true from hD 6 rfl) (show a_.eval (.tmp 34) = .bool true from hD 10 rfl)),
        .norm 36 rfl rfl rfl (fun a_ w_ hn_ hBt hr hR hD hO hS => op_mv (show a_.eval (.tmp 35) = .bool true from hD 11 rfl)),
        .norm 37 rfl rfl rfl (fun a_ w_ hn_ hBt hr hR hD hO hS => ⟨⟨_, rfl⟩, fun _ => op_loadv R3ok ((hR 5 rfl).trans f5) (b5.keep hBt trivial), fun hne => absurd (hD 12 rfl) hne⟩),
        .norm 38 rfl rfl rfl (fun a_ w_ hn_ hBt hr hR hD hO hS => ⟨⟨_, rfl⟩, fun _ => op_loadv R3ok ((hR 7 rfl).trans f7) (b7.keep hBt trivial), fun hne => absurd (hD 12 rfl) hne⟩),
        .norm 39 rfl rfl rfl (fun a_ w_ hn_ hBt hr hR hD hO hS => ⟨⟨_, rfl⟩, fun _ => op_samer (outr_eq (show a_.eval (.tmp 37) = .agg #[.bool n_6, .slice a_6 r_6.length c_6, .slice b_6 s_6.length d_6] from hD 13 rfl) (G6.rl hr) (K6.rl hr) l6 k6) (outr_eq (show a_.eval (.tmp 38) = .agg #[.bool n_8, .slice a_8 r_8.length c_8, .slice b_8 s_8.length d_8] from hD 14 rfl) (G8.rl hr) (K8.rl hr) l8 k8) ⟨rfl, rfl⟩, fun hne => absurd (hD 12 rfl) hne⟩),
        .norm 40 rfl rfl rfl (fun a_ w_ hn_ hBt hr hR hD hO hS => op_pickb (show a_.eval (.tmp 36) = .bool true from hD 12 rfl) (show a_.eval (.tmp 39) = .bool true from hD 15 rfl)),
        .norm 4 rfl rfl rfl (fun a_ w_ hn_ hBt hr hR hD hO hS => op_assign (show a_.eval (.tmp 40) = .bool true from hD 16 rfl)),
        trivial⟩
    intro a9 w9 gs9 hn9 hd9 hBt hr hR hP hX hU
    replace hn := hn9; replace hd := hd9.trans hd
    have e4 : a9.eval (.tmp 4) = .bool true := hP 17 (by decide)
    have f4 := e4
    replace Ar := Ar.rl hr
    replace Sr := Sr.rl hr
    replace Dr := Dr.rl hr
    replace G6 := G6.rl hr
    replace A6 := A6.rl hr
    replace K6 := K6.rl hr
    replace S6 := S6.rl hr
    replace G8 := G8.rl hr
    replace A8 := A8.rl hr
    replace K8 := K8.rl hr
    replace S8 := S8.rl hr
    replace HB := HB.trans (hBt.below HB.size (UpOld.all (bx := []) trivial))
    clear hBt hr hR hP hX hU
    refine wp_ret ?_
    repeat (first | refine then_ret ?_ | refine scope_ret ?_ | refine block_ret ?_)
    exact bodyPost_ret (v := .bool true) (res_t rfl f4) hd ⟨rfl, HB⟩
end Lm
end Go.Proofs.YtdiiankcjgoecaaDoor

