/-
  The given statement on WholeTexts, for every input: the call answers true, and each argument reads behind it as it read before; and its card. Its condition: the two tables of unicode/utf8 are laid as the row lists them; the card ties that to the program's text. Beside it: Single operations on texts, in regions over frames that are not written out. A minus ahead of a text, by its bytes and by its first rune. No program is named here. What the library's utf8.DecodeRuneInString does, at this program. A minus ahead of a text: whole.splitMinus. The number that a text says: whole.Parse; the document's Number and Parse. The document's Number and Parse. Texts of whole numbers: whole.Text, the document's Text. WholeTexts answers true, whatever text and number it is handed.
-/
import Derived.Shelf.Unicode.DecodeSlow
import Derived.Shelf.Unicode.DecodeAny
import Derived.Shelf.Lay
import Derived.Lib.LaidU8
import Derived.Test.YtdiiankcjgoecaaDoorProg
import Derived.Test.YtdiiankcjgoecaaDoorRows
import Derived.Test.YtdiiankcjgoecaaDoorCards
import Derived.Test.YtdiiankcjgoecaaDoorTie
import Derived.ProofKit
import Derived.OpenShut
import Derived.ShutString
import Derived.ChangeOld
import Derived.SizedLaws
import Derived.Lib.SmallJoins
import Derived.Lib.LaidIn
import Derived.Deep.DeepHandedRow
import Derived.Test.YtdiiankcjgoecaaDoorWTlLawZ1
namespace Go.Proofs.YtdiiankcjgoecaaDoor
namespace Lm
open Go Go.RowKit
def IfS (P : Prop) (p : Says) : Says := fun v w => P → p v w
theorem IfS.mono4 {P : Prop} {p : Says} (h : Mono4 p) : Mono4 (IfS P p) := fun v w w' hr h' hP => h v w w' hr (h' hP)
theorem gtrue {P : Prop} [Decidable P] {v : Value} {w : World} (h : Eqs (.bool (decide P)) v w) (hg : v = .bool true) : P := by
  have e : v = .bool (decide P) := h
  rw [hg] at e
  exact of_decide_eq_true (Value.bool.inj e).symm
theorem gof {P : Prop} [Decidable P] {v : Value} {w : World} (h : Eqs (.bool (decide P)) v w) (hP : P) : v = .bool true := by
  have e : v = .bool (decide P) := h
  rw [e, decide_eq_true hP]
section
variable {dst : Option Tmp} {ty : TypeId} {pos : String} {after : Array Edge} {guard : Option (Nat × Bool)} {a : Act} {w : World} {ats : Array TypeId} {i j : Nat}
theorem op_eql32k {u v : Int} (h1 : a.eval (.tmp i) = .int .i32 u) :
    Does Tryd.prog { dst, op := .binOp .eql 21 (.tmp i) (.const (.int .i32 v)) 21, type := ty, pos, after, guard } a.eval w fun v' w' => Below w.heap.size w w' ∧ Eqs (.bool (decide (u = v))) v' w' := by
  refine does_bin (v := .bool (decide (u = v))) ?_ ?_ ⟨Below.refl _ _, rfl⟩
  · rw [h1]; simp [go_sem, Act.eval]
  · rw [h1]; simp [go_sem, Act.eval]; rfl
theorem op_eql32t {u v : Int} (h1 : a.eval (.tmp i) = .int .i32 u) (h : u = v) :
    Does Tryd.prog { dst, op := .binOp .eql 21 (.tmp i) (.const (.int .i32 v)) 21, type := ty, pos, after, guard } a.eval w fun v' w' => Below w.heap.size w w' ∧ Eqs (.bool true) v' w' :=
  (op_eql32k h1).mono fun _ _ ⟨hb, e⟩ => ⟨hb, by rw [Eqs, show _ = _ from e, decide_eq_true h]⟩
theorem op_eql32f {u v : Int} (h1 : a.eval (.tmp i) = .int .i32 u) (h : u ≠ v) :
    Does Tryd.prog { dst, op := .binOp .eql 21 (.tmp i) (.const (.int .i32 v)) 21, type := ty, pos, after, guard } a.eval w fun v' w' => Below w.heap.size w w' ∧ Eqs (.bool false) v' w' :=
  (op_eql32k h1).mono fun _ _ ⟨hb, e⟩ => ⟨hb, by rw [Eqs, show _ = _ from e, decide_eq_false h]⟩
theorem op_eql8k {u v : Int} (h1 : a.eval (.tmp i) = .int .u8 u) :
    Does Tryd.prog { dst, op := .binOp .eql 5 (.tmp i) (.const (.int .u8 v)) 5, type := ty, pos, after, guard } a.eval w fun v' w' => Below w.heap.size w w' ∧ Eqs (.bool (decide (u = v))) v' w' := by
  refine does_bin (v := .bool (decide (u = v))) ?_ ?_ ⟨Below.refl _ _, rfl⟩
  · rw [h1]; simp [go_sem, Act.eval]
  · rw [h1]; simp [go_sem, Act.eval]; rfl
theorem op_lens {s : ByteArray} (h : a.eval (.tmp i) = .string s) : Does Tryd.prog { dst, op := .call { callee := .builtin .len, args := #[.tmp i], argTypes := #[9] }, type := ty, pos, after, guard } a.eval w fun v' w' => Below w.heap.size w w' ∧ Eqs (.int .i64 (s.size : Int)) v' w' := by
  have e : (execOp a.eval { dst, op := .call { callee := .builtin .len, args := #[.tmp i], argTypes := #[9] }, type := ty, pos, after, guard }).run Tryd.prog w = .ok (.value (.int .i64 (s.size : Int))) w := by
    have h' : a.tmps[i]?.getD undef = .string s := by simpa [Act.eval] using h
    simp [go_sem, h']
  refine ⟨?_⟩
  unfold Turns
  rw [e]
  exact ⟨Below.refl _ _, rfl⟩
theorem op_geqk {u v : Int} (h1 : a.eval (.tmp i) = .int .i64 u) :
    Does Tryd.prog { dst, op := .binOp .geq 3 (.tmp i) (.const (.int .i64 v)) 3, type := ty, pos, after, guard } a.eval w fun v' w' => Below w.heap.size w w' ∧ Eqs (.bool (decide (v ≤ u))) v' w' := by
  refine does_bin (v := .bool (decide (v ≤ u))) ?_ ?_ ⟨Below.refl _ _, rfl⟩
  · rw [h1]; simp [go_sem, Act.eval]
  · rw [h1]; simp [go_sem, Act.eval]
theorem op_idxs {s : ByteArray} {k : Nat} {c : Int} (h : a.eval (.tmp i) = .string s) (hc : a.eval (.const (.int .i64 c)) = .int .i64 (k : Int)) (hk : k < s.size) : Does Tryd.prog { dst, op := .index 9 (.tmp i) (.const (.int .i64 c)), type := ty, pos, after, guard } a.eval w fun v' w' => Below w.heap.size w w' ∧ Eqs (.int .u8 ((s.get! k).toNat : Int)) v' w' := by
  have e : (execOp a.eval { dst, op := .index 9 (.tmp i) (.const (.int .i64 c)), type := ty, pos, after, guard }).run Tryd.prog w = .ok (.value (.int .u8 ((s.get! k).toNat : Int))) w := by
    simp only [execOp, h, hc]
    go_simp
    rw [Utf8W.get!_of_lt s k hk]
  refine ⟨?_⟩
  unfold Turns
  rw [e]
  exact ⟨Below.refl _ _, rfl⟩
theorem op_slst {s : ByteArray} {x : Operand} {k : Nat} (h : a.eval (.tmp i) = .string s) (hx : a.eval x = .int .i64 (k : Int)) (hk : k ≤ s.size) : Does Tryd.prog { dst, op := .slice 9 (.tmp i) (some x) none none, type := ty, pos, after, guard } a.eval w fun v' w' => Below w.heap.size w w' ∧ Eqs (.string (s.extract k s.size)) v' w' := by
  have e : (execOp a.eval { dst, op := .slice 9 (.tmp i) (some x) none none, type := ty, pos, after, guard }).run Tryd.prog w = .ok (.value (.string (s.extract k s.size))) w := by
    simp only [execOp, Option.map, h, hx]
    go_simp
  refine ⟨?_⟩
  unfold Turns
  rw [e]
  exact ⟨Below.refl _ _, rfl⟩
theorem op_pickand {P Q : Prop} [Decidable P] [Decidable Q] {c x : Operand} (hc : a.eval c = .bool (decide P)) (hx : P → a.eval x = .bool (decide Q)) :
    Does Tryd.prog { dst, op := .pick c x (.const (.bool false)), type := ty, pos, after, guard } a.eval w fun v' w' => Below w.heap.size w w' ∧ Eqs (.bool (decide (P ∧ Q))) v' w' := by
  refine does_pick (b := decide P) hc ⟨Below.refl _ _, ?_⟩
  show _ = _
  by_cases hP : P
  · simp [hP, hx hP]
  · simp [hP, Act.eval]
theorem op_eqlst {s : ByteArray} (h1 : a.eval (.tmp i) = .string s) (h2 : a.eval (.tmp j) = .string s) :
    Does Tryd.prog { dst, op := .binOp .eql 9 (.tmp i) (.tmp j) 9, type := ty, pos, after, guard } a.eval w fun v' w' => Below w.heap.size w w' ∧ Eqs (.bool true) v' w' := by
  refine does_bin (v := .bool true) ?_ ?_ ⟨Below.refl _ _, rfl⟩
  · rw [h1, h2]; simp [go_sem]
  · rw [h1, h2]; simp [go_sem]
end
end Lm
end Go.Proofs.YtdiiankcjgoecaaDoor

namespace Go.Proofs.YtdiiankcjgoecaaDoor
namespace Lm
open Go Go.RowKit
def msplit (s : ByteArray) : Bool × ByteArray :=
  if 3 ≤ s.size ∧ (s.get! 0).toNat = 226 ∧ (s.get! 1).toNat = 136 ∧ (s.get! 2).toNat = 146 then (true, s.extract 3 s.size)
  else if 0 < s.size ∧ (s.get! 0).toNat = 45 then (true, s.extract 1 s.size)
  else (false, s)
theorem decN (s : ByteArray) (h : 0 < s.size) : Lib.decodeGo s = Lib.decodeN s.size (s.get! 0).toNat (s.get! 1).toNat (s.get! 2).toNat (s.get! 3).toNat := by
  rw [Lib.decodeGo, if_neg (by omega), Lib.decode_at]
  rfl
theorem decN_45 (n b0 b1 b2 b3 : Nat) : (Lib.decodeN n b0 b1 b2 b3).1 = 45 ↔ b0 = 45 := by
  unfold Lib.decodeN
  repeat' split
  all_goals first | (simp only; done) | (simp only; omega)
theorem decN_45w (n b1 b2 b3 : Nat) : Lib.decodeN n 45 b1 b2 b3 = (45, 1) := by simp [Lib.decodeN]
theorem decN_8722 (n b0 b1 b2 b3 : Nat) : (Lib.decodeN n b0 b1 b2 b3).1 = 8722 ↔ 3 ≤ n ∧ b0 = 226 ∧ b1 = 136 ∧ b2 = 146 := by
  unfold Lib.decodeN
  repeat' split
  all_goals (simp only; omega)
theorem decN_8722w {n b3 : Nat} (h : 3 ≤ n) : Lib.decodeN n 226 136 146 b3 = (8722, 3) := by
  unfold Lib.decodeN
  rw [if_neg (by omega), if_neg (by omega), if_pos (by omega), if_pos (by omega)]
theorem dec_45 (s : ByteArray) : (Lib.decodeGo s).1 = 45 ↔ 0 < s.size ∧ (s.get! 0).toNat = 45 := by
  by_cases h : 0 < s.size
  · rw [decN s h, decN_45]; simp [h]
  · rw [Lib.decodeGo, if_pos (by omega)]; simp [h]
theorem dec_8722 (s : ByteArray) : (Lib.decodeGo s).1 = 8722 ↔ 3 ≤ s.size ∧ (s.get! 0).toNat = 226 ∧ (s.get! 1).toNat = 136 ∧ (s.get! 2).toNat = 146 := by
  by_cases h : 0 < s.size
  · rw [decN s h, decN_8722]
  · rw [Lib.decodeGo, if_pos (by omega)]
    constructor
    · intro h; simp at h
    · intro h; omega
theorem msplit_ways (s : ByteArray) : ((Lib.decodeGo s = (8722, 3) ∧ 3 ≤ s.size ∧ (s.get! 0).toNat = 226 ∧ (s.get! 1).toNat = 136 ∧ (s.get! 2).toNat = 146) ∧ msplit s = (true, s.extract 3 s.size)) ∨
    ((Lib.decodeGo s = (45, 1) ∧ 0 < s.size ∧ (s.get! 0).toNat = 45) ∧ msplit s = (true, s.extract 1 s.size)) ∨
    (((Lib.decodeGo s).1 ≠ 45 ∧ (Lib.decodeGo s).1 ≠ 8722 ∧ ¬ (3 ≤ s.size ∧ (s.get! 0).toNat = 226 ∧ (s.get! 1).toNat = 136 ∧ (s.get! 2).toNat = 146) ∧ ¬ (0 < s.size ∧ (s.get! 0).toNat = 45)) ∧ msplit s = (false, s)) := by
  by_cases h1 : 3 ≤ s.size ∧ (s.get! 0).toNat = 226 ∧ (s.get! 1).toNat = 136 ∧ (s.get! 2).toNat = 146
  · refine .inl ⟨⟨?_, h1⟩, by rw [msplit, if_pos h1]⟩
    rw [decN s (by omega), h1.2.1, h1.2.2.1, h1.2.2.2]
    exact decN_8722w h1.1
  · by_cases h2 : 0 < s.size ∧ (s.get! 0).toNat = 45
    · refine .inr (.inl ⟨⟨?_, h2⟩, by rw [msplit, if_neg h1, if_pos h2]⟩)
      rw [decN s h2.1, h2.2]
      exact decN_45w _ _ _ _
    · exact .inr (.inr ⟨⟨fun e => h2 ((dec_45 s).1 e), fun e => h1 ((dec_8722 s).1 e), h1, h2⟩, by rw [msplit, if_neg h1, if_neg h2]⟩)
end Lm
end Go.Proofs.YtdiiankcjgoecaaDoor

namespace Go.Proofs
open Go.Shelf
shelf_lay Lays.n197 Nm 197 at Tryd as Tryd.lays197
namespace YtdiiankcjgoecaaDoor
namespace Lm
open Go Go.RowKit
def Tabs (w : World) : Prop := Lib.Utf8Tabs (Tryd.lays197_ren.g 3) (Tryd.lays197_ren.g 4) w
theorem Tabs.below {w w' : World} (h : Tabs w) (hb : Below w.heap.size w w') : Tabs w' := Utf8Tabs_below h hb
theorem decode_any (w : World) (s : ByteArray) (hT : Tabs w) :
    Calls Tryd.prog 83 #[.string s] w fun e w' => e = .returned (.tuple #[.int .i32 (Lib.decodeGo s).1, .int .i64 (Lib.decodeGo s).2]) ∧ Below w.heap.size w w' := Any.utf8_DecodeRuneInString Tryd.lays197 s w hT
end Lm
end YtdiiankcjgoecaaDoor
end Go.Proofs

namespace Go.Proofs.YtdiiankcjgoecaaDoor
namespace Lm
open Go Go.RowKit
section
variable {dst : Option Tmp} {ty : TypeId} {pos : String} {after : Array Edge} {guard : Option (Nat × Bool)} {a : Act} {w : World} {ats : Array TypeId} {i j : Nat}
theorem has_decode : Has Tryd.prog 83 := by unfold Has; kernel_rfl
theorem op_decode {s : ByteArray} {R : Int} {K : Nat} (h : a.eval (.tmp i) = .string s) (hT : Tabs w) (hd : (((Lib.decodeGo s).1 : Nat) : Int) = R ∧ (Lib.decodeGo s).2 = K) :
    Does Tryd.prog { dst, op := .call { callee := .value (.func 83), args := #[.tmp i], argTypes := ats }, type := ty, pos, after, guard } a.eval w fun v w' => Below w.heap.size w w' ∧ Tup2 (Eqs (.int .i32 R)) (Eqs (.int .i64 (K : Int))) v w' := by
  refine does_call has_decode _ (by simp only [List.map_toArray, List.map_cons, List.map_nil, h]) ((decode_any w s hT).mono ?_)
  rintro e w' ⟨rfl, hb⟩
  obtain ⟨rfl, rfl⟩ := hd
  exact ⟨_, rfl, hb, _, _, rfl, rfl, rfl⟩
end
set_option maxRecDepth 20000 in
set_option maxHeartbeats 1000000 in
theorem split_z (w : World) (s : ByteArray) (hT : Tabs w) :
    Calls Tryd.prog 42 #[.string s] w fun e w' => e = .returned (.tuple #[.bool (msplit s).1, .string (msplit s).2]) ∧ Below w.heap.size w w' := by
  rcases msplit_ways s with ⟨⟨hd0, h3⟩, hm⟩ | ⟨⟨hd0, h3⟩, hm⟩ | ⟨⟨hn1', hn2', _, _⟩, hm⟩
  · skip
    go_enter Tryd.func42, Tryd.ntmps42
    generalize hA : (Act.mk _ _) = aa
    have hn : aa.tmps.size = 19 := by rw [← hA]; rfl
    have hd : aa.defers = [] := by rw [← hA]
    have f0 : aa.eval (.tmp 0) = .string s := by rw [← hA]; rfl
    clear hA
    have HB : Below w.heap.size w w := Below.refl _ _
    refine wp_seq ?_
    refine region4 [some 2, some 3] [Eqs ((.bool false)), Eqs ((.string ⟨#[]⟩))] [] [] (by kernel_rfl) hn rfl (by kernel_rfl) (by kernel_rfl) (by kernel_rfl) (by kernel_rfl) (by kernel_rfl) (by kernel_rfl) ⟨Eqs.mono4 _, Eqs.mono4 _, trivial⟩ ok_nil (IsOld.all (bx := []) trivial) (DisOld.all (bx := []) trivial) ?_ ?_
    · exact ⟨.norm 2 rfl rfl rfl (fun a_ w_ hn_ hBt hr hR hD hO hS => op_assign rfl),
        .norm 3 rfl rfl rfl (fun a_ w_ hn_ hBt hr hR hD hO hS => op_assign rfl),
        trivial⟩
    intro a1 w1 gs1 hn1 hd1 hBt hr hR hP hX hU
    replace hn := hn1; replace hd := hd1.trans hd
    replace f0 := (hR 0 rfl).trans f0
    have e2 : a1.eval (.tmp 2) = (.bool false) := hP 0 (by decide)
    have f2 := e2
    have e3 : a1.eval (.tmp 3) = (.string ⟨#[]⟩) := hP 1 (by decide)
    have f3 := e3
    replace HB := HB.trans (hBt.below HB.size (UpOld.all (bx := []) trivial))
    clear hBt hr hR hP hX hU
    refine wp_seq ?_
    refine region4 [some 7, some 8, some 6, some 9, some 10, some 4, some 5] [Eqs (.string s), Tup2 (Eqs (.int .i32 8722)) (Eqs (.int .i64 (3 : Int))), Tup2 (Eqs (.int .i32 8722)) (Eqs (.int .i64 (3 : Int))), Eqs (.int .i32 8722), Eqs (.int .i64 (3 : Int)), Eqs (.int .i32 8722), Eqs (.int .i64 (3 : Int))] [] [] (by kernel_rfl) hn rfl (by kernel_rfl) (by kernel_rfl) (by kernel_rfl) (by kernel_rfl) (by kernel_rfl) (by kernel_rfl) ⟨Eqs.mono4 _, Tup2.mono4 (Eqs.mono4 _) (Eqs.mono4 _), Tup2.mono4 (Eqs.mono4 _) (Eqs.mono4 _), Eqs.mono4 _, Eqs.mono4 _, Eqs.mono4 _, Eqs.mono4 _, trivial⟩ ok_nil (IsOld.all (bx := []) trivial) (DisOld.all (bx := []) trivial) ?_ ?_
    · exact ⟨.norm 7 rfl rfl rfl (fun a_ w_ hn_ hBt hr hR hD hO hS => op_mv ((hR 0 rfl).trans f0)),
        .norm 8 rfl rfl rfl (fun a_ w_ hn_ hBt hr hR hD hO hS => op_decode (show a_.eval (.tmp 7) = .string s from hD 0 rfl) (hT.below (HB.trans (hBt.below HB.size (UpOld.all (bx := []) trivial)))) ⟨by rw [hd0]; rfl, by rw [hd0]⟩),
        .norm 6 rfl rfl rfl (fun a_ w_ hn_ hBt hr hR hD hO hS => op_mvp (p := Tup2 (Eqs (.int .i32 8722)) (Eqs (.int .i64 (3 : Int)))) (show Tup2 (Eqs (.int .i32 8722)) (Eqs (.int .i64 (3 : Int))) (a_.eval (.tmp 8)) w_ from hD 1 rfl)),
        .norm 9 rfl rfl rfl (fun a_ w_ hn_ hBt hr hR hD hO hS => op_ex20 (show Tup2 (Eqs (.int .i32 8722)) (Eqs (.int .i64 (3 : Int))) (a_.eval (.tmp 6)) w_ from hD 2 rfl)),
        .norm 10 rfl rfl rfl (fun a_ w_ hn_ hBt hr hR hD hO hS => op_ex21 (show Tup2 (Eqs (.int .i32 8722)) (Eqs (.int .i64 (3 : Int))) (a_.eval (.tmp 6)) w_ from hD 2 rfl)),
        .norm 4 rfl rfl rfl (fun a_ w_ hn_ hBt hr hR hD hO hS => op_assign (show a_.eval (.tmp 9) = .int .i32 8722 from hD 3 rfl)),
        .norm 5 rfl rfl rfl (fun a_ w_ hn_ hBt hr hR hD hO hS => op_assign (show a_.eval (.tmp 10) = .int .i64 (3 : Int) from hD 4 rfl)),
        trivial⟩
    intro a2 w2 gs2 hn2 hd2 hBt hr hR hP hX hU
    replace hn := hn2; replace hd := hd2.trans hd
    replace f0 := (hR 0 rfl).trans f0
    replace f2 := (hR 2 rfl).trans f2
    replace f3 := (hR 3 rfl).trans f3
    have e4 : a2.eval (.tmp 4) = .int .i32 8722 := hP 5 (by decide)
    have f4 := e4
    have e5 : a2.eval (.tmp 5) = .int .i64 (3 : Int) := hP 6 (by decide)
    have f5 := e5
    replace HB := HB.trans (hBt.below HB.size (UpOld.all (bx := []) trivial))
    clear hBt hr hR hP hX hU
    refine wp_seq ?_
    refine wp_seq ?_
    refine region4 [some 11] [Eqs (.int .i32 8722)] [] [] (by kernel_rfl) hn rfl (by kernel_rfl) (by kernel_rfl) (by kernel_rfl) (by kernel_rfl) (by kernel_rfl) (by kernel_rfl) ⟨Eqs.mono4 _, trivial⟩ ok_nil (IsOld.all (bx := []) trivial) (DisOld.all (bx := []) trivial) ?_ ?_
    · exact ⟨.norm 11 rfl rfl rfl (fun a_ w_ hn_ hBt hr hR hD hO hS => op_mv ((hR 4 rfl).trans f4)),
        trivial⟩
    intro a3 w3 gs3 hn3 hd3 hBt hr hR hP hX hU
    replace hn := hn3; replace hd := hd3.trans hd
    replace f0 := (hR 0 rfl).trans f0
    replace f2 := (hR 2 rfl).trans f2
    replace f3 := (hR 3 rfl).trans f3
    replace f5 := (hR 5 rfl).trans f5
    have e11 : a3.eval (.tmp 11) = .int .i32 8722 := hP 0 (by decide)
    have f11 := e11
    replace HB := HB.trans (hBt.below HB.size (UpOld.all (bx := []) trivial))
    clear hBt hr hR hP hX hU
    refine wp_block ?_
    refine wp_seq ?_
    refine wp_seq ?_
    refine region4 [some 13, some 12] [Eqs (.bool false), Eqs (.bool false)] [] [] (by kernel_rfl) hn rfl (by kernel_rfl) (by kernel_rfl) (by kernel_rfl) (by kernel_rfl) (by kernel_rfl) (by kernel_rfl) ⟨Eqs.mono4 _, Eqs.mono4 _, trivial⟩ ok_nil (IsOld.all (bx := []) trivial) (DisOld.all (bx := []) trivial) ?_ ?_
    · exact ⟨.norm 13 rfl rfl rfl (fun a_ w_ hn_ hBt hr hR hD hO hS => op_eql32f ((hR 11 rfl).trans f11) (by decide)),
        .norm 12 rfl rfl rfl (fun a_ w_ hn_ hBt hr hR hD hO hS => op_assign (show a_.eval (.tmp 13) = .bool false from hD 0 rfl)),
        trivial⟩
    intro a4 w4 gs4 hn4 hd4 hBt hr hR hP hX hU
    replace hn := hn4; replace hd := hd4.trans hd
    replace f0 := (hR 0 rfl).trans f0
    replace f2 := (hR 2 rfl).trans f2
    replace f3 := (hR 3 rfl).trans f3
    replace f5 := (hR 5 rfl).trans f5
    replace f11 := (hR 11 rfl).trans f11
    have e12 : a4.eval (.tmp 12) = .bool false := hP 1 (by decide)
    have f12 := e12
    replace HB := HB.trans (hBt.below HB.size (UpOld.all (bx := []) trivial))
    clear hBt hr hR hP hX hU
    refine wp_cond_false f12 ?_
    refine region4 [some 14, some 12] [Eqs (.bool true), Eqs (.bool true)] [] [] (by kernel_rfl) hn rfl (by kernel_rfl) (by kernel_rfl) (by kernel_rfl) (by kernel_rfl) (by kernel_rfl) (by kernel_rfl) ⟨Eqs.mono4 _, Eqs.mono4 _, trivial⟩ ok_nil (IsOld.all (bx := []) trivial) (DisOld.all (bx := []) trivial) ?_ ?_
    · exact ⟨.norm 14 rfl rfl rfl (fun a_ w_ hn_ hBt hr hR hD hO hS => op_eql32t ((hR 11 rfl).trans f11) rfl),
        .norm 12 rfl rfl rfl (fun a_ w_ hn_ hBt hr hR hD hO hS => op_assign (show a_.eval (.tmp 14) = .bool true from hD 0 rfl)),
        trivial⟩
    intro a5 w5 gs5 hn5 hd5 hBt hr hR hP hX hU
    replace hn := hn5; replace hd := hd5.trans hd
    replace f0 := (hR 0 rfl).trans f0
    replace f2 := (hR 2 rfl).trans f2
    replace f3 := (hR 3 rfl).trans f3
    replace f5 := (hR 5 rfl).trans f5
    have e12 : a5.eval (.tmp 12) = .bool true := hP 1 (by decide)
    have f12 := e12
    replace HB := HB.trans (hBt.below HB.size (UpOld.all (bx := []) trivial))
    clear hBt hr hR hP hX hU
    refine wp_cond_true f12 ?_
    refine wp_seq ?_
    refine region4 [some 15, some 16, some 17, some 2, some 3] [Eqs (.string s), Eqs (.int .i64 (3 : Int)), Eqs (.string ((s).extract 3 (s).size)), Eqs ((.bool true)), Eqs (.string ((s).extract 3 (s).size))] [] [] (by kernel_rfl) hn rfl (by kernel_rfl) (by kernel_rfl) (by kernel_rfl) (by kernel_rfl) (by kernel_rfl) (by kernel_rfl) ⟨Eqs.mono4 _, Eqs.mono4 _, Eqs.mono4 _, Eqs.mono4 _, Eqs.mono4 _, trivial⟩ ok_nil (IsOld.all (bx := []) trivial) (DisOld.all (bx := []) trivial) ?_ ?_
    · exact ⟨.norm 15 rfl rfl rfl (fun a_ w_ hn_ hBt hr hR hD hO hS => op_mv ((hR 0 rfl).trans f0)),
        .norm 16 rfl rfl rfl (fun a_ w_ hn_ hBt hr hR hD hO hS => op_mv ((hR 5 rfl).trans f5)),
        .norm 17 rfl rfl rfl (fun a_ w_ hn_ hBt hr hR hD hO hS => op_slst (k := 3) (show a_.eval (.tmp 15) = .string s from hD 0 rfl) (show a_.eval (.tmp 16) = .int .i64 (3 : Int) from hD 1 rfl) (by omega)),
        .norm 2 rfl rfl rfl (fun a_ w_ hn_ hBt hr hR hD hO hS => op_assign rfl),
        .norm 3 rfl rfl rfl (fun a_ w_ hn_ hBt hr hR hD hO hS => op_assign (show a_.eval (.tmp 17) = .string ((s).extract 3 (s).size) from hD 2 rfl)),
        trivial⟩
    intro a6 w6 gs6 hn6 hd6 hBt hr hR hP hX hU
    replace hn := hn6; replace hd := hd6.trans hd
    replace f0 := (hR 0 rfl).trans f0
    have e2 : a6.eval (.tmp 2) = (.bool true) := hP 3 (by decide)
    have f2 := e2
    have e3 : a6.eval (.tmp 3) = .string ((s).extract 3 (s).size) := hP 4 (by decide)
    have f3 := e3
    replace HB := HB.trans (hBt.below HB.size (UpOld.all (bx := []) trivial))
    clear hBt hr hR hP hX hU
    refine wp_ret ?_
    repeat (first | refine then_ret ?_ | refine scope_ret ?_ | refine block_ret ?_)
    exact bodyPost_ret (v := .tuple #[.bool true, .string ((s).extract 3 (s).size)]) (res_tt2 rfl f2 f3) hd ⟨by rw [hm], HB⟩
  · skip
    go_enter Tryd.func42, Tryd.ntmps42
    generalize hA : (Act.mk _ _) = aa
    have hn : aa.tmps.size = 19 := by rw [← hA]; rfl
    have hd : aa.defers = [] := by rw [← hA]
    have f0 : aa.eval (.tmp 0) = .string s := by rw [← hA]; rfl
    clear hA
    have HB : Below w.heap.size w w := Below.refl _ _
    refine wp_seq ?_
    refine region4 [some 2, some 3] [Eqs ((.bool false)), Eqs ((.string ⟨#[]⟩))] [] [] (by kernel_rfl) hn rfl (by kernel_rfl) (by kernel_rfl) (by kernel_rfl) (by kernel_rfl) (by kernel_rfl) (by kernel_rfl) ⟨Eqs.mono4 _, Eqs.mono4 _, trivial⟩ ok_nil (IsOld.all (bx := []) trivial) (DisOld.all (bx := []) trivial) ?_ ?_
    · exact ⟨.norm 2 rfl rfl rfl (fun a_ w_ hn_ hBt hr hR hD hO hS => op_assign rfl),
        .norm 3 rfl rfl rfl (fun a_ w_ hn_ hBt hr hR hD hO hS => op_assign rfl),
        trivial⟩
    intro a1 w1 gs1 hn1 hd1 hBt hr hR hP hX hU
    replace hn := hn1; replace hd := hd1.trans hd
    replace f0 := (hR 0 rfl).trans f0
    have e2 : a1.eval (.tmp 2) = (.bool false) := hP 0 (by decide)
    have f2 := e2
    have e3 : a1.eval (.tmp 3) = (.string ⟨#[]⟩) := hP 1 (by decide)
    have f3 := e3
    replace HB := HB.trans (hBt.below HB.size (UpOld.all (bx := []) trivial))
    clear hBt hr hR hP hX hU
    refine wp_seq ?_
    refine region4 [some 7, some 8, some 6, some 9, some 10, some 4, some 5] [Eqs (.string s), Tup2 (Eqs (.int .i32 45)) (Eqs (.int .i64 (1 : Int))), Tup2 (Eqs (.int .i32 45)) (Eqs (.int .i64 (1 : Int))), Eqs (.int .i32 45), Eqs (.int .i64 (1 : Int)), Eqs (.int .i32 45), Eqs (.int .i64 (1 : Int))] [] [] (by kernel_rfl) hn rfl (by kernel_rfl) (by kernel_rfl) (by kernel_rfl) (by kernel_rfl) (by kernel_rfl) (by kernel_rfl) ⟨Eqs.mono4 _, Tup2.mono4 (Eqs.mono4 _) (Eqs.mono4 _), Tup2.mono4 (Eqs.mono4 _) (Eqs.mono4 _), Eqs.mono4 _, Eqs.mono4 _, Eqs.mono4 _, Eqs.mono4 _, trivial⟩ ok_nil (IsOld.all (bx := []) trivial) (DisOld.all (bx := []) trivial) ?_ ?_
    · exact ⟨.norm 7 rfl rfl rfl (fun a_ w_ hn_ hBt hr hR hD hO hS => op_mv ((hR 0 rfl).trans f0)),
        .norm 8 rfl rfl rfl (fun a_ w_ hn_ hBt hr hR hD hO hS => op_decode (show a_.eval (.tmp 7) = .string s from hD 0 rfl) (hT.below (HB.trans (hBt.below HB.size (UpOld.all (bx := []) trivial)))) ⟨by rw [hd0]; rfl, by rw [hd0]⟩),
        .norm 6 rfl rfl rfl (fun a_ w_ hn_ hBt hr hR hD hO hS => op_mvp (p := Tup2 (Eqs (.int .i32 45)) (Eqs (.int .i64 (1 : Int)))) (show Tup2 (Eqs (.int .i32 45)) (Eqs (.int .i64 (1 : Int))) (a_.eval (.tmp 8)) w_ from hD 1 rfl)),
        .norm 9 rfl rfl rfl (fun a_ w_ hn_ hBt hr hR hD hO hS => op_ex20 (show Tup2 (Eqs (.int .i32 45)) (Eqs (.int .i64 (1 : Int))) (a_.eval (.tmp 6)) w_ from hD 2 rfl)),
        .norm 10 rfl rfl rfl (fun a_ w_ hn_ hBt hr hR hD hO hS => op_ex21 (show Tup2 (Eqs (.int .i32 45)) (Eqs (.int .i64 (1 : Int))) (a_.eval (.tmp 6)) w_ from hD 2 rfl)),
        .norm 4 rfl rfl rfl (fun a_ w_ hn_ hBt hr hR hD hO hS => op_assign (show a_.eval (.tmp 9) = .int .i32 45 from hD 3 rfl)),
        .norm 5 rfl rfl rfl (fun a_ w_ hn_ hBt hr hR hD hO hS => op_assign (show a_.eval (.tmp 10) = .int .i64 (1 : Int) from hD 4 rfl)),
        trivial⟩
    intro a2 w2 gs2 hn2 hd2 hBt hr hR hP hX hU
    replace hn := hn2; replace hd := hd2.trans hd
    replace f0 := (hR 0 rfl).trans f0
    replace f2 := (hR 2 rfl).trans f2
    replace f3 := (hR 3 rfl).trans f3
    have e4 : a2.eval (.tmp 4) = .int .i32 45 := hP 5 (by decide)
    have f4 := e4
    have e5 : a2.eval (.tmp 5) = .int .i64 (1 : Int) := hP 6 (by decide)
    have f5 := e5
    replace HB := HB.trans (hBt.below HB.size (UpOld.all (bx := []) trivial))
    clear hBt hr hR hP hX hU
    refine wp_seq ?_
    refine wp_seq ?_
    refine region4 [some 11] [Eqs (.int .i32 45)] [] [] (by kernel_rfl) hn rfl (by kernel_rfl) (by kernel_rfl) (by kernel_rfl) (by kernel_rfl) (by kernel_rfl) (by kernel_rfl) ⟨Eqs.mono4 _, trivial⟩ ok_nil (IsOld.all (bx := []) trivial) (DisOld.all (bx := []) trivial) ?_ ?_
    · exact ⟨.norm 11 rfl rfl rfl (fun a_ w_ hn_ hBt hr hR hD hO hS => op_mv ((hR 4 rfl).trans f4)),
        trivial⟩
    intro a3 w3 gs3 hn3 hd3 hBt hr hR hP hX hU
    replace hn := hn3; replace hd := hd3.trans hd
    replace f0 := (hR 0 rfl).trans f0
    replace f2 := (hR 2 rfl).trans f2
    replace f3 := (hR 3 rfl).trans f3
    replace f5 := (hR 5 rfl).trans f5
    have e11 : a3.eval (.tmp 11) = .int .i32 45 := hP 0 (by decide)
    have f11 := e11
    replace HB := HB.trans (hBt.below HB.size (UpOld.all (bx := []) trivial))
    clear hBt hr hR hP hX hU
    refine wp_block ?_
    refine wp_seq ?_
    refine wp_seq ?_
    refine region4 [some 13, some 12] [Eqs (.bool true), Eqs (.bool true)] [] [] (by kernel_rfl) hn rfl (by kernel_rfl) (by kernel_rfl) (by kernel_rfl) (by kernel_rfl) (by kernel_rfl) (by kernel_rfl) ⟨Eqs.mono4 _, Eqs.mono4 _, trivial⟩ ok_nil (IsOld.all (bx := []) trivial) (DisOld.all (bx := []) trivial) ?_ ?_
    · exact ⟨.norm 13 rfl rfl rfl (fun a_ w_ hn_ hBt hr hR hD hO hS => op_eql32t ((hR 11 rfl).trans f11) rfl),
        .norm 12 rfl rfl rfl (fun a_ w_ hn_ hBt hr hR hD hO hS => op_assign (show a_.eval (.tmp 13) = .bool true from hD 0 rfl)),
        trivial⟩
    intro a4 w4 gs4 hn4 hd4 hBt hr hR hP hX hU
    replace hn := hn4; replace hd := hd4.trans hd
    replace f0 := (hR 0 rfl).trans f0
    replace f2 := (hR 2 rfl).trans f2
    replace f3 := (hR 3 rfl).trans f3
    replace f5 := (hR 5 rfl).trans f5
    replace f11 := (hR 11 rfl).trans f11
    have e12 : a4.eval (.tmp 12) = .bool true := hP 1 (by decide)
    have f12 := e12
    replace HB := HB.trans (hBt.below HB.size (UpOld.all (bx := []) trivial))
    clear hBt hr hR hP hX hU
    refine wp_cond_true f12 ?_
    refine wp_skip ?_
    refine wp_cond_true f12 ?_
    refine wp_seq ?_
    refine region4 [some 15, some 16, some 17, some 2, some 3] [Eqs (.string s), Eqs (.int .i64 (1 : Int)), Eqs (.string ((s).extract 1 (s).size)), Eqs ((.bool true)), Eqs (.string ((s).extract 1 (s).size))] [] [] (by kernel_rfl) hn rfl (by kernel_rfl) (by kernel_rfl) (by kernel_rfl) (by kernel_rfl) (by kernel_rfl) (by kernel_rfl) ⟨Eqs.mono4 _, Eqs.mono4 _, Eqs.mono4 _, Eqs.mono4 _, Eqs.mono4 _, trivial⟩ ok_nil (IsOld.all (bx := []) trivial) (DisOld.all (bx := []) trivial) ?_ ?_
    · exact ⟨.norm 15 rfl rfl rfl (fun a_ w_ hn_ hBt hr hR hD hO hS => op_mv ((hR 0 rfl).trans f0)),
        .norm 16 rfl rfl rfl (fun a_ w_ hn_ hBt hr hR hD hO hS => op_mv ((hR 5 rfl).trans f5)),
        .norm 17 rfl rfl rfl (fun a_ w_ hn_ hBt hr hR hD hO hS => op_slst (k := 1) (show a_.eval (.tmp 15) = .string s from hD 0 rfl) (show a_.eval (.tmp 16) = .int .i64 (1 : Int) from hD 1 rfl) (by omega)),
        .norm 2 rfl rfl rfl (fun a_ w_ hn_ hBt hr hR hD hO hS => op_assign rfl),
        .norm 3 rfl rfl rfl (fun a_ w_ hn_ hBt hr hR hD hO hS => op_assign (show a_.eval (.tmp 17) = .string ((s).extract 1 (s).size) from hD 2 rfl)),
        trivial⟩
    intro a5 w5 gs5 hn5 hd5 hBt hr hR hP hX hU
    replace hn := hn5; replace hd := hd5.trans hd
    replace f0 := (hR 0 rfl).trans f0
    have e2 : a5.eval (.tmp 2) = (.bool true) := hP 3 (by decide)
    have f2 := e2
    have e3 : a5.eval (.tmp 3) = .string ((s).extract 1 (s).size) := hP 4 (by decide)
    have f3 := e3
    replace HB := HB.trans (hBt.below HB.size (UpOld.all (bx := []) trivial))
    clear hBt hr hR hP hX hU
    refine wp_ret ?_
    repeat (first | refine then_ret ?_ | refine scope_ret ?_ | refine block_ret ?_)
    exact bodyPost_ret (v := .tuple #[.bool true, .string ((s).extract 1 (s).size)]) (res_tt2 rfl f2 f3) hd ⟨by rw [hm], HB⟩
  · have hne1 : (((Lib.decodeGo s).1 : Nat) : Int) ≠ 45 := by omega
    have hne2 : (((Lib.decodeGo s).1 : Nat) : Int) ≠ 8722 := by omega
    go_enter Tryd.func42, Tryd.ntmps42
    generalize hA : (Act.mk _ _) = aa
    have hn : aa.tmps.size = 19 := by rw [← hA]; rfl
    have hd : aa.defers = [] := by rw [← hA]
    have f0 : aa.eval (.tmp 0) = .string s := by rw [← hA]; rfl
    clear hA
    have HB : Below w.heap.size w w := Below.refl _ _
    refine wp_seq ?_
    refine region4 [some 2, some 3] [Eqs ((.bool false)), Eqs ((.string ⟨#[]⟩))] [] [] (by kernel_rfl) hn rfl (by kernel_rfl) (by kernel_rfl) (by kernel_rfl) (by kernel_rfl) (by kernel_rfl) (by kernel_rfl) ⟨Eqs.mono4 _, Eqs.mono4 _, trivial⟩ ok_nil (IsOld.all (bx := []) trivial) (DisOld.all (bx := []) trivial) ?_ ?_
    · exact ⟨.norm 2 rfl rfl rfl (fun a_ w_ hn_ hBt hr hR hD hO hS => op_assign rfl),
        .norm 3 rfl rfl rfl (fun a_ w_ hn_ hBt hr hR hD hO hS => op_assign rfl),
        trivial⟩
    intro a1 w1 gs1 hn1 hd1 hBt hr hR hP hX hU
    replace hn := hn1; replace hd := hd1.trans hd
    replace f0 := (hR 0 rfl).trans f0
    have e2 : a1.eval (.tmp 2) = (.bool false) := hP 0 (by decide)
    have f2 := e2
    have e3 : a1.eval (.tmp 3) = (.string ⟨#[]⟩) := hP 1 (by decide)
    have f3 := e3
    replace HB := HB.trans (hBt.below HB.size (UpOld.all (bx := []) trivial))
    clear hBt hr hR hP hX hU
    refine wp_seq ?_
    refine region4 [some 7, some 8, some 6, some 9, some 10, some 4, some 5] [Eqs (.string s), Tup2 (Eqs (.int .i32 (((Lib.decodeGo s).1 : Nat) : Int))) (Eqs (.int .i64 ((Lib.decodeGo s).2 : Int))), Tup2 (Eqs (.int .i32 (((Lib.decodeGo s).1 : Nat) : Int))) (Eqs (.int .i64 ((Lib.decodeGo s).2 : Int))), Eqs (.int .i32 (((Lib.decodeGo s).1 : Nat) : Int)), Eqs (.int .i64 ((Lib.decodeGo s).2 : Int)), Eqs (.int .i32 (((Lib.decodeGo s).1 : Nat) : Int)), Eqs (.int .i64 ((Lib.decodeGo s).2 : Int))] [] [] (by kernel_rfl) hn rfl (by kernel_rfl) (by kernel_rfl) (by kernel_rfl) (by kernel_rfl) (by kernel_rfl) (by kernel_rfl) ⟨Eqs.mono4 _, Tup2.mono4 (Eqs.mono4 _) (Eqs.mono4 _), Tup2.mono4 (Eqs.mono4 _) (Eqs.mono4 _), Eqs.mono4 _, Eqs.mono4 _, Eqs.mono4 _, Eqs.mono4 _, trivial⟩ ok_nil (IsOld.all (bx := []) trivial) (DisOld.all (bx := []) trivial) ?_ ?_
    · exact ⟨.norm 7 rfl rfl rfl (fun a_ w_ hn_ hBt hr hR hD hO hS => op_mv ((hR 0 rfl).trans f0)),
        .norm 8 rfl rfl rfl (fun a_ w_ hn_ hBt hr hR hD hO hS => op_decode (show a_.eval (.tmp 7) = .string s from hD 0 rfl) (hT.below (HB.trans (hBt.below HB.size (UpOld.all (bx := []) trivial)))) ⟨rfl, rfl⟩),
        .norm 6 rfl rfl rfl (fun a_ w_ hn_ hBt hr hR hD hO hS => op_mvp (p := Tup2 (Eqs (.int .i32 (((Lib.decodeGo s).1 : Nat) : Int))) (Eqs (.int .i64 ((Lib.decodeGo s).2 : Int)))) (show Tup2 (Eqs (.int .i32 (((Lib.decodeGo s).1 : Nat) : Int))) (Eqs (.int .i64 ((Lib.decodeGo s).2 : Int))) (a_.eval (.tmp 8)) w_ from hD 1 rfl)),
        .norm 9 rfl rfl rfl (fun a_ w_ hn_ hBt hr hR hD hO hS => op_ex20 (show Tup2 (Eqs (.int .i32 (((Lib.decodeGo s).1 : Nat) : Int))) (Eqs (.int .i64 ((Lib.decodeGo s).2 : Int))) (a_.eval (.tmp 6)) w_ from hD 2 rfl)),
        .norm 10 rfl rfl rfl (fun a_ w_ hn_ hBt hr hR hD hO hS => op_ex21 (show Tup2 (Eqs (.int .i32 (((Lib.decodeGo s).1 : Nat) : Int))) (Eqs (.int .i64 ((Lib.decodeGo s).2 : Int))) (a_.eval (.tmp 6)) w_ from hD 2 rfl)),
        .norm 4 rfl rfl rfl (fun a_ w_ hn_ hBt hr hR hD hO hS => op_assign (show a_.eval (.tmp 9) = .int .i32 (((Lib.decodeGo s).1 : Nat) : Int) from hD 3 rfl)),
        .norm 5 rfl rfl rfl (fun a_ w_ hn_ hBt hr hR hD hO hS => op_assign (show a_.eval (.tmp 10) = .int .i64 ((Lib.decodeGo s).2 : Int) from hD 4 rfl)),
        trivial⟩
    intro a2 w2 gs2 hn2 hd2 hBt hr hR hP hX hU
    replace hn := hn2; replace hd := hd2.trans hd
    replace f0 := (hR 0 rfl).trans f0
    replace f2 := (hR 2 rfl).trans f2
    replace f3 := (hR 3 rfl).trans f3
    have e4 : a2.eval (.tmp 4) = .int .i32 (((Lib.decodeGo s).1 : Nat) : Int) := hP 5 (by decide)
    have f4 := e4
    have e5 : a2.eval (.tmp 5) = .int .i64 ((Lib.decodeGo s).2 : Int) := hP 6 (by decide)
    have f5 := e5
    replace HB := HB.trans (hBt.below HB.size (UpOld.all (bx := []) trivial))
    clear hBt hr hR hP hX hU
    refine wp_seq ?_
    refine wp_seq ?_
    refine region4 [some 11] [Eqs (.int .i32 (((Lib.decodeGo s).1 : Nat) : Int))] [] [] (by kernel_rfl) hn rfl (by kernel_rfl) (by kernel_rfl) (by kernel_rfl) (by kernel_rfl) (by kernel_rfl) (by kernel_rfl) ⟨Eqs.mono4 _, trivial⟩ ok_nil (IsOld.all (bx := []) trivial) (DisOld.all (bx := []) trivial) ?_ ?_
    · exact ⟨.norm 11 rfl rfl rfl (fun a_ w_ hn_ hBt hr hR hD hO hS => op_mv ((hR 4 rfl).trans f4)),
        trivial⟩
    intro a3 w3 gs3 hn3 hd3 hBt hr hR hP hX hU
    replace hn := hn3; replace hd := hd3.trans hd
    replace f0 := (hR 0 rfl).trans f0
    replace f2 := (hR 2 rfl).trans f2
    replace f3 := (hR 3 rfl).trans f3
    replace f5 := (hR 5 rfl).trans f5
    have e11 : a3.eval (.tmp 11) = .int .i32 (((Lib.decodeGo s).1 : Nat) : Int) := hP 0 (by decide)
    have f11 := e11
    replace HB := HB.trans (hBt.below HB.size (UpOld.all (bx := []) trivial))
    clear hBt hr hR hP hX hU
    refine wp_block ?_
    refine wp_seq ?_
    refine wp_seq ?_
    refine region4 [some 13, some 12] [Eqs (.bool false), Eqs (.bool false)] [] [] (by kernel_rfl) hn rfl (by kernel_rfl) (by kernel_rfl) (by kernel_rfl) (by kernel_rfl) (by kernel_rfl) (by kernel_rfl) ⟨Eqs.mono4 _, Eqs.mono4 _, trivial⟩ ok_nil (IsOld.all (bx := []) trivial) (DisOld.all (bx := []) trivial) ?_ ?_
    · exact ⟨.norm 13 rfl rfl rfl (fun a_ w_ hn_ hBt hr hR hD hO hS => op_eql32f ((hR 11 rfl).trans f11) hne1),
        .norm 12 rfl rfl rfl (fun a_ w_ hn_ hBt hr hR hD hO hS => op_assign (show a_.eval (.tmp 13) = .bool false from hD 0 rfl)),
        trivial⟩
    intro a4 w4 gs4 hn4 hd4 hBt hr hR hP hX hU
    replace hn := hn4; replace hd := hd4.trans hd
    replace f0 := (hR 0 rfl).trans f0
    replace f2 := (hR 2 rfl).trans f2
    replace f3 := (hR 3 rfl).trans f3
    replace f5 := (hR 5 rfl).trans f5
    replace f11 := (hR 11 rfl).trans f11
    have e12 : a4.eval (.tmp 12) = .bool false := hP 1 (by decide)
    have f12 := e12
    replace HB := HB.trans (hBt.below HB.size (UpOld.all (bx := []) trivial))
    clear hBt hr hR hP hX hU
    refine wp_cond_false f12 ?_
    refine region4 [some 14, some 12] [Eqs (.bool false), Eqs (.bool false)] [] [] (by kernel_rfl) hn rfl (by kernel_rfl) (by kernel_rfl) (by kernel_rfl) (by kernel_rfl) (by kernel_rfl) (by kernel_rfl) ⟨Eqs.mono4 _, Eqs.mono4 _, trivial⟩ ok_nil (IsOld.all (bx := []) trivial) (DisOld.all (bx := []) trivial) ?_ ?_
    · exact ⟨.norm 14 rfl rfl rfl (fun a_ w_ hn_ hBt hr hR hD hO hS => op_eql32f ((hR 11 rfl).trans f11) hne2),
        .norm 12 rfl rfl rfl (fun a_ w_ hn_ hBt hr hR hD hO hS => op_assign (show a_.eval (.tmp 14) = .bool false from hD 0 rfl)),
        trivial⟩
    intro a5 w5 gs5 hn5 hd5 hBt hr hR hP hX hU
    replace hn := hn5; replace hd := hd5.trans hd
    replace f0 := (hR 0 rfl).trans f0
    replace f2 := (hR 2 rfl).trans f2
    replace f3 := (hR 3 rfl).trans f3
    replace f5 := (hR 5 rfl).trans f5
    have e12 : a5.eval (.tmp 12) = .bool false := hP 1 (by decide)
    have f12 := e12
    replace HB := HB.trans (hBt.below HB.size (UpOld.all (bx := []) trivial))
    clear hBt hr hR hP hX hU
    refine wp_cond_false f12 ?_
    refine wp_skip ?_
    refine block_normal ?_
    refine wp_seq ?_
    refine region4 [some 18, some 2, some 3] [Eqs (.string s), Eqs ((.bool false)), Eqs (.string s)] [] [] (by kernel_rfl) hn rfl (by kernel_rfl) (by kernel_rfl) (by kernel_rfl) (by kernel_rfl) (by kernel_rfl) (by kernel_rfl) ⟨Eqs.mono4 _, Eqs.mono4 _, Eqs.mono4 _, trivial⟩ ok_nil (IsOld.all (bx := []) trivial) (DisOld.all (bx := []) trivial) ?_ ?_
    · exact ⟨.norm 18 rfl rfl rfl (fun a_ w_ hn_ hBt hr hR hD hO hS => op_mv ((hR 0 rfl).trans f0)),
        .norm 2 rfl rfl rfl (fun a_ w_ hn_ hBt hr hR hD hO hS => op_assign rfl),
        .norm 3 rfl rfl rfl (fun a_ w_ hn_ hBt hr hR hD hO hS => op_assign (show a_.eval (.tmp 18) = .string s from hD 0 rfl)),
        trivial⟩
    intro a6 w6 gs6 hn6 hd6 hBt hr hR hP hX hU
    replace hn := hn6; replace hd := hd6.trans hd
    have e2 : a6.eval (.tmp 2) = (.bool false) := hP 1 (by decide)
    have f2 := e2
    have e3 : a6.eval (.tmp 3) = .string s := hP 2 (by decide)
    have f3 := e3
    replace HB := HB.trans (hBt.below HB.size (UpOld.all (bx := []) trivial))
    clear hBt hr hR hP hX hU
    refine wp_ret ?_
    repeat (first | refine then_ret ?_ | refine scope_ret ?_ | refine block_ret ?_)
    exact bodyPost_ret (v := .tuple #[.bool false, .string s]) (res_tt2 rfl f2 f3) hd ⟨by rw [hm], HB⟩
end Lm
end Go.Proofs.YtdiiankcjgoecaaDoor

namespace Go.Proofs.YtdiiankcjgoecaaDoor
namespace Lm
open Go Go.RowKit
open Dm (Err Fine)
open Classical in
noncomputable def kOf (r : ByteArray) : Int := if 5120 < r.size then 2 else if 1 ≤ r.size ∧ Dig (bytesOf r) then 0 else 10
open Classical in
noncomputable def xOf (r : ByteArray) : Int := if Fine r then dval (bytesOf r) else 0
theorem of_err {r : ByteArray} {k : Int} (h : Err r k) : k = kOf r ∧ xOf r = 0 ∧ kOf r ≠ 0 := by
  have hf : ¬ Fine r := fun hf => Dm.err_fine h hf
  have h1 : k = kOf r := by
    rcases h with ⟨rfl, h2⟩ | ⟨rfl, h2, h3⟩
    · rw [kOf, if_pos h2]
    · rw [kOf, if_neg (by omega), if_neg h3]
  refine ⟨h1, by rw [xOf, if_neg hf], ?_⟩
  rw [← h1]
  rcases h with ⟨h1, _⟩ | ⟨h1, _⟩ <;> omega
theorem of_fine {r : ByteArray} (h : Fine r) : kOf r = 0 ∧ xOf r = dval (bytesOf r) := by
  refine ⟨?_, by rw [xOf, if_pos h]⟩
  rw [kOf, if_neg (by have := h.2.1; omega), if_pos ⟨h.1, h.2.2⟩]
theorem p10_le_pw (n : Nat) : p10 n ≤ pw n := by
  induction n with
  | zero => simp [p10, pw]
  | succ n ih =>
    simp only [p10, pw]
    have := pw_pos n
    omega
noncomputable def zOf (s : ByteArray) : Int := sg (msplit s).1 (xOf (msplit s).2)
noncomputable def eOf (s : ByteArray) : Int := kOf (msplit s).2
section
variable {dst : Option Tmp} {ty : TypeId} {pos : String} {after : Array Edge} {guard : Option (Nat × Bool)} {a : Act} {w : World} {ats : Array TypeId} {i j : Nat}
theorem has_split : Has Tryd.prog 42 := by unfold Has; kernel_rfl
theorem op_split {s : ByteArray} (h : a.eval (.tmp i) = .string s) (hT : Tabs w) :
    Does Tryd.prog { dst, op := .call { callee := .value (.func 42), args := #[.tmp i], argTypes := ats }, type := ty, pos, after, guard } a.eval w fun v w' => Below w.heap.size w w' ∧ Tup2 (Eqs (.bool (msplit s).1)) (Eqs (.string (msplit s).2)) v w' := by
  refine does_call has_split _ (by simp only [List.map_toArray, List.map_cons, List.map_nil, h]) ((split_z w s hT).mono ?_)
  rintro e w' ⟨rfl, hb⟩
  exact ⟨_, rfl, hb, _, _, rfl, rfl, rfl⟩
theorem has_lparse : Has Tryd.prog 43 := by unfold Has; kernel_rfl
theorem op_lparse {s : ByteArray} (h : a.eval (.tmp i) = .string s) :
    Does Tryd.prog { dst, op := .call { callee := .value (.func 43), args := #[.tmp i], argTypes := ats }, type := ty, pos, after, guard } a.eval w fun v w' => Below w.heap.size w w' ∧ Tup2 (OutL (xOf s) 6000) (Eqs (.int .i64 (kOf s))) v w' := by
  refine does_call has_lparse _ (by simp only [List.map_toArray, List.map_cons, List.map_nil, h]) ((parse_e w s).mono ?_)
  rintro e w' ⟨⟨k, hk, rfl⟩ | ⟨hf, v, rfl, rs, ho, hc, hv⟩, hb⟩
  · obtain ⟨h1, h2, _⟩ := of_err hk
    refine ⟨_, rfl, hb, _, _, rfl, ?_, by rw [h1]; rfl⟩
    rw [h2]
    exact ⟨none, 0, [], rfl, ⟨sl_nil w', canon_nil, rfl⟩, by simp⟩
  · obtain ⟨h1, h2⟩ := of_fine hf
    refine ⟨_, rfl, hb, _, _, rfl, ?_, by rw [h1]; rfl⟩
    rw [h2]
    obtain ⟨ao, cap, rfl, _⟩ := id ho
    refine ⟨ao, cap, rs, rfl, ⟨ho.sl, hc, hv⟩, ?_⟩
    have h3 := (dval_bounds hf.2.2).2
    rw [bytesOf_length] at h3
    have h4 := canon_len hc (m := s.size) (by rw [hv]; have := p10_le_pw s.size; omega)
    have := hf.2.1
    omega
theorem has_natural : Has Tryd.prog 61 := by unfold Has; kernel_rfl
theorem op_natural {s : ByteArray} (h : a.eval (.tmp i) = .string s) :
    Does Tryd.prog { dst, op := .call { callee := .value (.func 61), args := #[.tmp i], argTypes := ats }, type := ty, pos, after, guard } a.eval w fun v w' => Below w.heap.size w w' ∧ Tup2 (OutN (xOf s) 6000) (Eqs (.int .i64 (kOf s))) v w' := by
  refine does_call has_natural _ (by simp only [List.map_toArray, List.map_cons, List.map_nil, h]) ((Dm.natural_any w s).mono ?_)
  rintro e w' ⟨k, ao, cap, D, x, rfl, hG, hl, hx, hb⟩
  obtain ⟨rfl, rfl, h0⟩ : k = kOf s ∧ x = xOf s ∧ 0 ≤ x := by
    rcases hx with ⟨h1, h2⟩ | ⟨h1, h2, h3⟩
    · obtain ⟨g1, g2, _⟩ := of_err h1
      exact ⟨g1, by rw [g2, h2], by omega⟩
    · obtain ⟨g1, g2⟩ := of_fine h1
      exact ⟨by rw [g1, h2], by rw [g2, h3], by rw [h3]; exact (dval_bounds h1.2.2).1⟩
  refine ⟨_, rfl, hb, _, _, rfl, ⟨false, ao, cap, D, rfl, ⟨?_, ?_⟩, hl⟩, rfl⟩
  · rwa [Int.natAbs_of_nonneg h0]
  · exact (decide_eq_false (by omega)).symm
theorem has_signed : Has Tryd.prog 44 := by unfold Has; kernel_rfl
theorem op_signed0 {b : Bool} {x : Int} {L : Nat} (h1 : a.eval (.tmp i) = .bool b) (h2 : OutL x L (a.eval (.tmp j)) w) (hL : L ≤ 1000000) :
    Does Tryd.prog { dst, op := .call { callee := .value (.func 44), args := #[.tmp i, .tmp j], argTypes := ats }, type := ty, pos, after, guard } a.eval w fun v w' => Below w.heap.size w w' ∧ OutW (sg b x) L v w' := by
  obtain ⟨ao, cap, rs, e, G, l⟩ := h2
  refine does_call has_signed _ (by simp only [List.map_toArray, List.map_cons, List.map_nil, h1, e]) ((signed_g w b ao cap rs x G (by omega)).mono ?_)
  rintro e w' ⟨ng, rfl, hW, hb⟩
  exact ⟨_, rfl, hb, ng, ao, cap, rs, rfl, hW, l⟩
theorem op_neqkE {u v : Int} (h1 : a.eval (.tmp i) = .int .i64 u) :
    Does Tryd.prog { dst, op := .binOp .neq 27 (.tmp i) (.const (.int .i64 v)) 27, type := ty, pos, after, guard } a.eval w fun v' w' => Below w.heap.size w w' ∧ Eqs (.bool (!decide (u = v))) v' w' := by
  refine does_bin (v := .bool (!decide (u = v))) ?_ ?_ ⟨Below.refl _ _, rfl⟩
  · rw [h1]; simp [go_sem, Act.eval]
  · rw [h1]; simp [go_sem, Act.eval]; rfl
end
theorem xOf_zero {r : ByteArray} {b : Bool} (h : kOf r ≠ 0) : sg b (xOf r) = 0 := by
  have hf : ¬ Fine r := fun hf => h (of_fine hf).1
  rw [xOf, if_neg hf]
  cases b <;> rfl
theorem outw_zero (w : World) {L : Nat} : OutW 0 L (.agg #[.bool false, .slice none 0 0]) w := ⟨false, none, 0, [], rfl, ⟨⟨sl_nil w, canon_nil, rfl⟩, rfl⟩, by simp⟩
set_option maxRecDepth 20000 in
set_option maxHeartbeats 1000000 in
theorem wparse_z (w : World) (s : ByteArray) (hT : Tabs w) :
    Calls Tryd.prog 11 #[.string s] w fun e w' => ∃ v, e = .returned v ∧ Tup2 (OutW (zOf s) 6000) (Eqs (.int .i64 (eOf s))) v w' ∧ Below w.heap.size w w' := by
  go_enter Tryd.func11, Tryd.ntmps11
  generalize hA : (Act.mk _ _) = aa
  have hn : aa.tmps.size = 25 := by rw [← hA]; rfl
  have hd : aa.defers = [] := by rw [← hA]
  have f0 : aa.eval (.tmp 0) = .string s := by rw [← hA]; rfl
  clear hA
  have HB : Below w.heap.size w w := Below.refl _ _
  refine wp_seq ?_
  refine region4 [some 2, some 3] [(fun _ _ => True), Eqs ((.int .i64 0))] [⟨W2, some 0, 0, 2, .agg #[.bool false, .slice none 0 0], none, []⟩] [] (by kernel_rfl) hn rfl (by kernel_rfl) (by kernel_rfl) (by kernel_rfl) (by kernel_rfl) (by kernel_rfl) (by kernel_rfl) ⟨True.mono4, Eqs.mono4 _, trivial⟩ (ok_cons W2ok ok_nil) (IsOld.all (bx := [⟨W2, some 0, 0, 2, .agg #[.bool false, .slice none 0 0], none, []⟩]) ⟨someNe, trivial⟩) (DisOld.all (bx := [⟨W2, some 0, 0, 2, .agg #[.bool false, .slice none 0 0], none, []⟩]) ⟨someNe, trivial⟩) ?_ ?_
  · exact ⟨.alloc 0 _ rfl rfl (.inl ⟨rfl, rfl⟩) rfl rfl rfl rfl rfl,
      .norm 3 rfl rfl rfl (fun a_ w_ hn_ hBt hr hR hD hO hS => op_assign rfl),
      trivial⟩
  intro a1 w1 gs1 hn1 hd1 hBt hr hR hP hX hU
  replace hn := hn1; replace hd := hd1.trans hd
  have b2 : BoxV W2 w1 (gs1 0) (.agg #[.bool false, .slice none 0 0]) := (hX 0 _ rfl).2.2.2
  have f2 := (hX 0 _ rfl).1
  have u2 : w.heap.size ≤ gs1 0 := Nat.le_trans HB.size ((hX 0 _ rfl).2.2.1 (by simp))
  replace f0 := (hR 0 rfl).trans f0
  have e3 : a1.eval (.tmp 3) = (.int .i64 0) := hP 1 (by decide)
  have f3 := e3
  replace HB := HB.trans (hBt.below HB.size (UpOld.all (bx := [⟨W2, some 0, 0, 2, .agg #[.bool false, .slice none 0 0], none, []⟩]) ⟨someNe, trivial⟩))
  clear hBt hr hR hP hX hU
  refine wp_seq ?_
  refine region4 [some 9, some 10, some 8, some 11, some 12, some 4, some 5] [Eqs (.string s), Tup2 (Eqs (.bool (msplit s).1)) (Eqs (.string (msplit s).2)), Tup2 (Eqs (.bool (msplit s).1)) (Eqs (.string (msplit s).2)), Eqs (.bool (msplit s).1), Eqs (.string (msplit s).2), Eqs (.bool (msplit s).1), Eqs (.string (msplit s).2)] [] [] (by kernel_rfl) hn rfl (by kernel_rfl) (by kernel_rfl) (by kernel_rfl) (by kernel_rfl) (by kernel_rfl) (by kernel_rfl) ⟨Eqs.mono4 _, Tup2.mono4 (Eqs.mono4 _) (Eqs.mono4 _), Tup2.mono4 (Eqs.mono4 _) (Eqs.mono4 _), Eqs.mono4 _, Eqs.mono4 _, Eqs.mono4 _, Eqs.mono4 _, trivial⟩ ok_nil (IsOld.all (bx := []) trivial) (DisOld.all (bx := []) trivial) ?_ ?_
  · exact ⟨.norm 9 rfl rfl rfl (fun a_ w_ hn_ hBt hr hR hD hO hS => op_mv ((hR 0 rfl).trans f0)),
      .norm 10 rfl rfl rfl (fun a_ w_ hn_ hBt hr hR hD hO hS => op_split (show a_.eval (.tmp 9) = .string s from hD 0 rfl) (hT.below (HB.trans (hBt.below HB.size (UpOld.all (bx := []) trivial))))),
      .norm 8 rfl rfl rfl (fun a_ w_ hn_ hBt hr hR hD hO hS => op_mvp (p := Tup2 (Eqs (.bool (msplit s).1)) (Eqs (.string (msplit s).2))) (show Tup2 (Eqs (.bool (msplit s).1)) (Eqs (.string (msplit s).2)) (a_.eval (.tmp 10)) w_ from hD 1 rfl)),
      .norm 11 rfl rfl rfl (fun a_ w_ hn_ hBt hr hR hD hO hS => op_ex20 (show Tup2 (Eqs (.bool (msplit s).1)) (Eqs (.string (msplit s).2)) (a_.eval (.tmp 8)) w_ from hD 2 rfl)),
      .norm 12 rfl rfl rfl (fun a_ w_ hn_ hBt hr hR hD hO hS => op_ex21 (show Tup2 (Eqs (.bool (msplit s).1)) (Eqs (.string (msplit s).2)) (a_.eval (.tmp 8)) w_ from hD 2 rfl)),
      .norm 4 rfl rfl rfl (fun a_ w_ hn_ hBt hr hR hD hO hS => op_assign (show a_.eval (.tmp 11) = .bool (msplit s).1 from hD 3 rfl)),
      .norm 5 rfl rfl rfl (fun a_ w_ hn_ hBt hr hR hD hO hS => op_assign (show a_.eval (.tmp 12) = .string (msplit s).2 from hD 4 rfl)),
      trivial⟩
  intro a2 w2 gs2 hn2 hd2 hBt hr hR hP hX hU
  replace hn := hn2; replace hd := hd2.trans hd
  replace b2 := b2.keep hBt trivial
  replace f2 := (hR 2 rfl).trans f2
  replace f3 := (hR 3 rfl).trans f3
  have e4 : a2.eval (.tmp 4) = .bool (msplit s).1 := hP 5 (by decide)
  have f4 := e4
  have e5 : a2.eval (.tmp 5) = .string (msplit s).2 := hP 6 (by decide)
  have f5 := e5
  replace HB := HB.trans (hBt.below HB.size (UpOld.all (bx := []) trivial))
  clear hBt hr hR hP hX hU
  refine wp_seq ?_
  refine region4 [some 14, some 15, some 13, some 16, some 17, some 6, some 7] [Eqs (.string (msplit s).2), Tup2 (OutL (xOf (msplit s).2) (6000)) (Eqs (.int .i64 (kOf (msplit s).2))), Tup2 (OutL (xOf (msplit s).2) (6000)) (Eqs (.int .i64 (kOf (msplit s).2))), OutL (xOf (msplit s).2) (6000), Eqs (.int .i64 (kOf (msplit s).2)), OutL (xOf (msplit s).2) (6000), Eqs (.int .i64 (kOf (msplit s).2))] [] [] (by kernel_rfl) hn rfl (by kernel_rfl) (by kernel_rfl) (by kernel_rfl) (by kernel_rfl) (by kernel_rfl) (by kernel_rfl) ⟨Eqs.mono4 _, Tup2.mono4 (OutL.mono4 _ _) (Eqs.mono4 _), Tup2.mono4 (OutL.mono4 _ _) (Eqs.mono4 _), OutL.mono4 _ _, Eqs.mono4 _, OutL.mono4 _ _, Eqs.mono4 _, trivial⟩ ok_nil (IsOld.all (bx := []) trivial) (DisOld.all (bx := []) trivial) ?_ ?_
  · exact ⟨.norm 14 rfl rfl rfl (fun a_ w_ hn_ hBt hr hR hD hO hS => op_mv ((hR 5 rfl).trans f5)),
      .norm 15 rfl rfl rfl (fun a_ w_ hn_ hBt hr hR hD hO hS => op_lparse (show a_.eval (.tmp 14) = .string (msplit s).2 from hD 0 rfl)),
      .norm 13 rfl rfl rfl (fun a_ w_ hn_ hBt hr hR hD hO hS => op_mvp (p := Tup2 (OutL (xOf (msplit s).2) (6000)) (Eqs (.int .i64 (kOf (msplit s).2)))) (show Tup2 (OutL (xOf (msplit s).2) (6000)) (Eqs (.int .i64 (kOf (msplit s).2))) (a_.eval (.tmp 15)) w_ from hD 1 rfl)),
      .norm 16 rfl rfl rfl (fun a_ w_ hn_ hBt hr hR hD hO hS => op_ex20 (show Tup2 (OutL (xOf (msplit s).2) (6000)) (Eqs (.int .i64 (kOf (msplit s).2))) (a_.eval (.tmp 13)) w_ from hD 2 rfl)),
      .norm 17 rfl rfl rfl (fun a_ w_ hn_ hBt hr hR hD hO hS => op_ex21 (show Tup2 (OutL (xOf (msplit s).2) (6000)) (Eqs (.int .i64 (kOf (msplit s).2))) (a_.eval (.tmp 13)) w_ from hD 2 rfl)),
      .norm 6 rfl rfl rfl (fun a_ w_ hn_ hBt hr hR hD hO hS => op_asp (p := OutL (xOf (msplit s).2) (6000)) (show OutL (xOf (msplit s).2) (6000) (a_.eval (.tmp 16)) w_ from hD 3 rfl)),
      .norm 7 rfl rfl rfl (fun a_ w_ hn_ hBt hr hR hD hO hS => op_assign (show a_.eval (.tmp 17) = .int .i64 (kOf (msplit s).2) from hD 4 rfl)),
      trivial⟩
  intro a3 w3 gs3 hn3 hd3 hBt hr hR hP hX hU
  replace hn := hn3; replace hd := hd3.trans hd
  replace b2 := b2.keep hBt trivial
  replace f2 := (hR 2 rfl).trans f2
  replace f3 := (hR 3 rfl).trans f3
  replace f4 := (hR 4 rfl).trans f4
  obtain ⟨a_4, c_4, r_4, e6, K4, l4⟩ : OutL (xOf (msplit s).2) (6000) (a3.eval (.tmp 6)) w3 := hP 5 (by decide)
  have S4 := K4.sl; have V4 := K4.val
  have f6 := e6
  have e7 : a3.eval (.tmp 7) = .int .i64 (kOf (msplit s).2) := hP 6 (by decide)
  have f7 := e7
  replace HB := HB.trans (hBt.below HB.size (UpOld.all (bx := []) trivial))
  clear hBt hr hR hP hX hU
  refine wp_seq ?_
  refine wp_seq ?_
  refine region4 [some 18, some 19] [Eqs (.int .i64 (kOf (msplit s).2)), Eqs (.bool (!decide ((kOf (msplit s).2) = 0)))] [] [] (by kernel_rfl) hn rfl (by kernel_rfl) (by kernel_rfl) (by kernel_rfl) (by kernel_rfl) (by kernel_rfl) (by kernel_rfl) ⟨Eqs.mono4 _, Eqs.mono4 _, trivial⟩ ok_nil (IsOld.all (bx := []) trivial) (DisOld.all (bx := []) trivial) ?_ ?_
  · exact ⟨.norm 18 rfl rfl rfl (fun a_ w_ hn_ hBt hr hR hD hO hS => op_mv ((hR 7 rfl).trans f7)),
      .norm 19 rfl rfl rfl (fun a_ w_ hn_ hBt hr hR hD hO hS => op_neqkE (show a_.eval (.tmp 18) = .int .i64 (kOf (msplit s).2) from hD 0 rfl)),
      trivial⟩
  intro a5 w5 gs5 hn5 hd5 hBt hr hR hP hX hU
  replace hn := hn5; replace hd := hd5.trans hd
  replace b2 := b2.keep hBt trivial
  replace f2 := (hR 2 rfl).trans f2
  replace f3 := (hR 3 rfl).trans f3
  replace f4 := (hR 4 rfl).trans f4
  replace f6 := (hR 6 rfl).trans f6
  replace f7 := (hR 7 rfl).trans f7
  have e19 : a5.eval (.tmp 19) = .bool (!decide ((kOf (msplit s).2) = 0)) := hP 1 (by decide)
  have f19 := e19
  replace K4 := K4.rl hr
  replace S4 := S4.rl hr
  replace HB := HB.trans (hBt.below HB.size (UpOld.all (bx := []) trivial))
  clear hBt hr hR hP hX hU
  refine wp_cond_split f19 (fun hc19 => ?_) (fun hc19 => ?_)
  · skip
    have hk0 : kOf (msplit s).2 ≠ 0 := by simpa using hc19
    refine wp_seq ?_
    refine region4 [some 20, some 21, none, some 3] [Eqs (.agg #[.bool false, .slice none 0 0]), Eqs (.int .i64 (kOf (msplit s).2)), (fun _ _ => True), Eqs (.int .i64 (kOf (msplit s).2))] [⟨W2, none, (gs1 0), 2, .agg #[.bool false, .slice none 0 0], some (2, 20, 0), []⟩] [] (by kernel_rfl) hn rfl (by kernel_rfl) (by kernel_rfl) (by kernel_rfl) (by kernel_rfl) (by kernel_rfl) (by kernel_rfl) ⟨Eqs.mono4 _, Eqs.mono4 _, True.mono4, Eqs.mono4 _, trivial⟩ (ok_cons W2ok ok_nil) (IsOld.all (bx := [⟨W2, none, (gs1 0), 2, .agg #[.bool false, .slice none 0 0], some (2, 20, 0), []⟩]) ⟨fun _ => ⟨f2, b2⟩, trivial⟩) (DisOld.all (bx := [⟨W2, none, (gs1 0), 2, .agg #[.bool false, .slice none 0 0], some (2, 20, 0), []⟩]) ⟨fun _ => trivial, trivial⟩) ?_ ?_
    · exact ⟨.norm 20 rfl rfl rfl (fun a_ w_ hn_ hBt hr hR hD hO hS => op_bW0),
        .norm 21 rfl rfl rfl (fun a_ w_ hn_ hBt hr hR hD hO hS => op_mv ((hR 7 rfl).trans f7)),
        .store 0 _ _ _ rfl rfl rfl rfl rfl rfl rfl (fun ia h => by cases h) rfl rfl rfl (eqs_cs w2_cs),
        .norm 3 rfl rfl rfl (fun a_ w_ hn_ hBt hr hR hD hO hS => op_assign (show a_.eval (.tmp 21) = .int .i64 (kOf (msplit s).2) from hD 1 rfl)),
        trivial⟩
    intro a6 w6 gs6 hn6 hd6 hBt hr hR hP hX hU
    replace hn := hn6; replace hd := hd6.trans hd
    have e20 : a6.eval (.tmp 20) = .agg #[.bool false, .slice none 0 0] := hP 0 (by decide)
    have b2 : BoxV W2 w6 ((gs1 0)) (.agg #[.bool false, .slice none 0 0]) := boxv_old ((hX 0 _ rfl).2.1 rfl) (hX 0 _ rfl).2.2.2 e20
    replace f2 : a6.eval (.tmp 2) = _ := (hR 2 rfl).trans f2
    replace f4 := (hR 4 rfl).trans f4
    replace f6 := (hR 6 rfl).trans f6
    have e3 : a6.eval (.tmp 3) = .int .i64 (kOf (msplit s).2) := hP 3 (by decide)
    have f3 := e3
    replace K4 := K4.rl hr
    replace S4 := S4.rl hr
    replace HB := HB.trans (hBt.below HB.size (UpOld.all (bx := [⟨W2, none, (gs1 0), 2, .agg #[.bool false, .slice none 0 0], some (2, 20, 0), []⟩]) ⟨fun _ => u2, trivial⟩))
    clear hBt hr hR hP hX hU
    refine wp_ret ?_
    repeat (first | refine then_ret ?_ | refine scope_ret ?_ | refine block_ret ?_)
    exact bodyPost_ret (v := .tuple #[.agg #[.bool false, .slice none 0 0], .int .i64 (kOf (msplit s).2)]) (res_ct rfl f2 (lv_W2 b2) f3) hd ⟨_, rfl, ⟨_, _, rfl, by rw [zOf, xOf_zero hk0]; exact outw_zero _, rfl⟩, HB⟩
  · skip
    have hk0 : kOf (msplit s).2 = 0 := by simpa using hc19
    refine wp_skip ?_
    refine wp_seq ?_
    refine region4 [some 22, some 23, some 24, none, some 3] [Eqs (.bool (msplit s).1), Eqs (.slice a_4 r_4.length c_4), OutW (sg ((msplit s).1) (xOf (msplit s).2)) (6000), (fun _ _ => True), Eqs ((.int .i64 0))] [⟨W2, none, (gs1 0), 2, .agg #[.bool false, .slice none 0 0], some (3, 24, 2), []⟩] [] (by kernel_rfl) hn rfl (by kernel_rfl) (by kernel_rfl) (by kernel_rfl) (by kernel_rfl) (by kernel_rfl) (by kernel_rfl) ⟨Eqs.mono4 _, Eqs.mono4 _, OutW.mono4 _ _, True.mono4, Eqs.mono4 _, trivial⟩ (ok_cons W2ok ok_nil) (IsOld.all (bx := [⟨W2, none, (gs1 0), 2, .agg #[.bool false, .slice none 0 0], some (3, 24, 2), []⟩]) ⟨fun _ => ⟨f2, b2⟩, trivial⟩) (DisOld.all (bx := [⟨W2, none, (gs1 0), 2, .agg #[.bool false, .slice none 0 0], some (3, 24, 2), []⟩]) ⟨fun _ => trivial, trivial⟩) ?_ ?_
    · exact ⟨.norm 22 rfl rfl rfl (fun a_ w_ hn_ hBt hr hR hD hO hS => op_mv ((hR 4 rfl).trans f4)),
        .norm 23 rfl rfl rfl (fun a_ w_ hn_ hBt hr hR hD hO hS => op_mv ((hR 6 rfl).trans f6)),
        .norm 24 rfl rfl rfl (fun a_ w_ hn_ hBt hr hR hD hO hS => op_signed0 (show a_.eval (.tmp 22) = .bool (msplit s).1 from hD 0 rfl) (outl_eq (show a_.eval (.tmp 23) = .slice a_4 r_4.length c_4 from hD 1 rfl) (K4.rl hr) l4) (by omega)),
        .store 0 _ _ _ rfl rfl rfl rfl rfl rfl rfl (fun ia h => by cases h) rfl rfl rfl OutW.cs,
        .norm 3 rfl rfl rfl (fun a_ w_ hn_ hBt hr hR hD hO hS => op_assign rfl),
        trivial⟩
    intro a7 w7 gs7 hn7 hd7 hBt hr hR hP hX hU
    replace hn := hn7; replace hd := hd7.trans hd
    obtain ⟨n_8, a_8, c_8, r_8, e24, G8, l8⟩ : OutW (sg ((msplit s).1) (xOf (msplit s).2)) (6000) (a7.eval (.tmp 24)) w7 := hP 2 (by decide)
    have A8 := G8.ag
    have b2 : BoxV W2 w7 ((gs1 0)) (.agg #[.bool n_8, .slice a_8 r_8.length c_8]) := boxv_old ((hX 0 _ rfl).2.1 rfl) (hX 0 _ rfl).2.2.2 e24
    replace f2 : a7.eval (.tmp 2) = _ := (hR 2 rfl).trans f2
    have e3 : a7.eval (.tmp 3) = (.int .i64 0) := hP 4 (by decide)
    have f3 := e3
    replace K4 := K4.rl hr
    replace S4 := S4.rl hr
    replace HB := HB.trans (hBt.below HB.size (UpOld.all (bx := [⟨W2, none, (gs1 0), 2, .agg #[.bool false, .slice none 0 0], some (3, 24, 2), []⟩]) ⟨fun _ => u2, trivial⟩))
    clear hBt hr hR hP hX hU
    refine wp_ret ?_
    repeat (first | refine then_ret ?_ | refine scope_ret ?_ | refine block_ret ?_)
    exact bodyPost_ret (v := .tuple #[.agg #[.bool n_8, .slice a_8 r_8.length c_8], (.int .i64 0)]) (res_ct rfl f2 (lv_W2 b2) f3) hd ⟨_, rfl, ⟨_, _, rfl, outw_eq rfl G8 l8, by rw [eOf, hk0]; rfl⟩, HB⟩
end Lm
end Go.Proofs.YtdiiankcjgoecaaDoor

namespace Go.Proofs.YtdiiankcjgoecaaDoor
namespace Lm
open Go Go.RowKit
open Dm (Err Fine)
theorem ms1 {s : ByteArray} (_h : (((3 ≤ (s.size : Int)) ∧ (((s.get! 0).toNat : Int) = 226)) ∧ (((s.get! 1).toNat : Int) = 136)) ∧ (((s.get! 2).toNat : Int) = 146)) : msplit s = (true, s.extract 3 s.size) := by
  rw [msplit, if_pos (by omega)]
theorem ms2 {s : ByteArray} (_h : ¬ ((((3 ≤ (s.size : Int)) ∧ (((s.get! 0).toNat : Int) = 226)) ∧ (((s.get! 1).toNat : Int) = 136)) ∧ (((s.get! 2).toNat : Int) = 146))) (_h' : (0 < (s.size : Int)) ∧ (((s.get! 0).toNat : Int) = 45)) : msplit s = (true, s.extract 1 s.size) := by
  rw [msplit, if_neg (by omega), if_pos (by omega)]
theorem ms3 {s : ByteArray} (_h : ¬ ((((3 ≤ (s.size : Int)) ∧ (((s.get! 0).toNat : Int) = 226)) ∧ (((s.get! 1).toNat : Int) = 136)) ∧ (((s.get! 2).toNat : Int) = 146))) (_h' : ¬ ((0 < (s.size : Int)) ∧ (((s.get! 0).toNat : Int) = 45))) : msplit s = (false, s) := by
  rw [msplit, if_neg (by omega), if_neg (by omega)]
set_option maxRecDepth 20000 in
set_option maxHeartbeats 1000000 in
theorem number_z (w : World) (s : ByteArray) :
    Calls Tryd.prog 45 #[.string s] w fun e w' => ∃ v, e = .returned v ∧ Tup2 (OutN (zOf s) 6000) (Eqs (.int .i64 (eOf s))) v w' ∧ Below w.heap.size w w' := by
  go_enter Tryd.func45, Tryd.ntmps45
  generalize hA : (Act.mk _ _) = aa
  have hn : aa.tmps.size = 47 := by rw [← hA]; rfl
  have hd : aa.defers = [] := by rw [← hA]
  have f0 : aa.eval (.tmp 0) = .string s := by rw [← hA]; rfl
  clear hA
  have HB : Below w.heap.size w w := Below.refl _ _
  refine wp_seq ?_
  refine region4 [some 2, some 3] [(fun _ _ => True), Eqs ((.int .i64 0))] [⟨N2, some 0, 0, 2, .agg #[.bool false, .slice none 0 0], none, []⟩] [] (by kernel_rfl) hn rfl (by kernel_rfl) (by kernel_rfl) (by kernel_rfl) (by kernel_rfl) (by kernel_rfl) (by kernel_rfl) ⟨True.mono4, Eqs.mono4 _, trivial⟩ (ok_cons N2ok ok_nil) (IsOld.all (bx := [⟨N2, some 0, 0, 2, .agg #[.bool false, .slice none 0 0], none, []⟩]) ⟨someNe, trivial⟩) (DisOld.all (bx := [⟨N2, some 0, 0, 2, .agg #[.bool false, .slice none 0 0], none, []⟩]) ⟨someNe, trivial⟩) ?_ ?_
  · exact ⟨.alloc 0 _ rfl rfl (.inl ⟨rfl, rfl⟩) rfl rfl rfl rfl rfl,
      .norm 3 rfl rfl rfl (fun a_ w_ hn_ hBt hr hR hD hO hS => op_assign rfl),
      trivial⟩
  intro a1 w1 gs1 hn1 hd1 hBt hr hR hP hX hU
  replace hn := hn1; replace hd := hd1.trans hd
  have b2 : BoxV N2 w1 (gs1 0) (.agg #[.bool false, .slice none 0 0]) := (hX 0 _ rfl).2.2.2
  have f2 := (hX 0 _ rfl).1
  have u2 : w.heap.size ≤ gs1 0 := Nat.le_trans HB.size ((hX 0 _ rfl).2.2.1 (by simp))
  replace f0 := (hR 0 rfl).trans f0
  have e3 : a1.eval (.tmp 3) = (.int .i64 0) := hP 1 (by decide)
  have f3 := e3
  replace HB := HB.trans (hBt.below HB.size (UpOld.all (bx := [⟨N2, some 0, 0, 2, .agg #[.bool false, .slice none 0 0], none, []⟩]) ⟨someNe, trivial⟩))
  clear hBt hr hR hP hX hU
  refine wp_seq ?_
  refine region4 [some 4] [Eqs ((.bool false))] [] [] (by kernel_rfl) hn rfl (by kernel_rfl) (by kernel_rfl) (by kernel_rfl) (by kernel_rfl) (by kernel_rfl) (by kernel_rfl) ⟨Eqs.mono4 _, trivial⟩ ok_nil (IsOld.all (bx := []) trivial) (DisOld.all (bx := []) trivial) ?_ ?_
  · exact ⟨.norm 4 rfl rfl rfl (fun a_ w_ hn_ hBt hr hR hD hO hS => op_assign rfl),
      trivial⟩
  intro a2 w2 gs2 hn2 hd2 hBt hr hR hP hX hU
  replace hn := hn2; replace hd := hd2.trans hd
  replace b2 := b2.keep hBt trivial
  replace f0 := (hR 0 rfl).trans f0
  replace f2 := (hR 2 rfl).trans f2
  replace f3 := (hR 3 rfl).trans f3
  have e4 : a2.eval (.tmp 4) = (.bool false) := hP 0 (by decide)
  have f4 := e4
  replace HB := HB.trans (hBt.below HB.size (UpOld.all (bx := []) trivial))
  clear hBt hr hR hP hX hU
  refine wp_seq ?_
  refine wp_seq ?_
  refine region4 [some 7, some 8, some 9, some 10, some 11, some 12, some 13, some 14, some 15, some 16, some 17, some 18, some 19, some 20, some 21, some 22, some 23, some 24] [Eqs (.string s), Eqs (.int .i64 ((s).size : Int)), Eqs (.bool (decide (3 ≤ ((s).size : Int)))), Eqs (.bool (decide (3 ≤ ((s).size : Int)))), IfS (3 ≤ ((s).size : Int)) (Eqs (.string s)), IfS (3 ≤ ((s).size : Int)) (Eqs (.int .u8 (((s).get! 0).toNat : Int))), IfS (3 ≤ ((s).size : Int)) (Eqs (.bool (decide ((((s).get! 0).toNat : Int) = 226)))), Eqs (.bool (decide ((3 ≤ ((s).size : Int)) ∧ ((((s).get! 0).toNat : Int) = 226)))), Eqs (.bool (decide ((3 ≤ ((s).size : Int)) ∧ ((((s).get! 0).toNat : Int) = 226)))), IfS ((3 ≤ ((s).size : Int)) ∧ ((((s).get! 0).toNat : Int) = 226)) (Eqs (.string s)), IfS ((3 ≤ ((s).size : Int)) ∧ ((((s).get! 0).toNat : Int) = 226)) (Eqs (.int .u8 (((s).get! 1).toNat : Int))), IfS ((3 ≤ ((s).size : Int)) ∧ ((((s).get! 0).toNat : Int) = 226)) (Eqs (.bool (decide ((((s).get! 1).toNat : Int) = 136)))), Eqs (.bool (decide (((3 ≤ ((s).size : Int)) ∧ ((((s).get! 0).toNat : Int) = 226)) ∧ ((((s).get! 1).toNat : Int) = 136)))), Eqs (.bool (decide (((3 ≤ ((s).size : Int)) ∧ ((((s).get! 0).toNat : Int) = 226)) ∧ ((((s).get! 1).toNat : Int) = 136)))), IfS (((3 ≤ ((s).size : Int)) ∧ ((((s).get! 0).toNat : Int) = 226)) ∧ ((((s).get! 1).toNat : Int) = 136)) (Eqs (.string s)), IfS (((3 ≤ ((s).size : Int)) ∧ ((((s).get! 0).toNat : Int) = 226)) ∧ ((((s).get! 1).toNat : Int) = 136)) (Eqs (.int .u8 (((s).get! 2).toNat : Int))), IfS (((3 ≤ ((s).size : Int)) ∧ ((((s).get! 0).toNat : Int) = 226)) ∧ ((((s).get! 1).toNat : Int) = 136)) (Eqs (.bool (decide ((((s).get! 2).toNat : Int) = 146)))), Eqs (.bool (decide ((((3 ≤ ((s).size : Int)) ∧ ((((s).get! 0).toNat : Int) = 226)) ∧ ((((s).get! 1).toNat : Int) = 136)) ∧ ((((s).get! 2).toNat : Int) = 146))))] [] [] (by kernel_rfl) hn rfl (by kernel_rfl) (by kernel_rfl) (by kernel_rfl) (by kernel_rfl) (by kernel_rfl) (by kernel_rfl) ⟨Eqs.mono4 _, Eqs.mono4 _, Eqs.mono4 _, Eqs.mono4 _, IfS.mono4 (Eqs.mono4 _), IfS.mono4 (Eqs.mono4 _), IfS.mono4 (Eqs.mono4 _), Eqs.mono4 _, Eqs.mono4 _, IfS.mono4 (Eqs.mono4 _), IfS.mono4 (Eqs.mono4 _), IfS.mono4 (Eqs.mono4 _), Eqs.mono4 _, Eqs.mono4 _, IfS.mono4 (Eqs.mono4 _), IfS.mono4 (Eqs.mono4 _), IfS.mono4 (Eqs.mono4 _), Eqs.mono4 _, trivial⟩ ok_nil (IsOld.all (bx := []) trivial) (DisOld.all (bx := []) trivial) ?_ ?_
  · exact ⟨.norm 7 rfl rfl rfl (fun a_ w_ hn_ hBt hr hR hD hO hS => op_mv ((hR 0 rfl).trans f0)),
      .norm 8 rfl rfl rfl (fun a_ w_ hn_ hBt hr hR hD hO hS => op_lens (show a_.eval (.tmp 7) = .string s from hD 0 rfl)),
      .norm 9 rfl rfl rfl (fun a_ w_ hn_ hBt hr hR hD hO hS => op_geqk (show a_.eval (.tmp 8) = .int .i64 ((s).size : Int) from hD 1 rfl)),
      .norm 10 rfl rfl rfl (fun a_ w_ hn_ hBt hr hR hD hO hS => op_mv (show a_.eval (.tmp 9) = .bool (decide (3 ≤ ((s).size : Int))) from hD 2 rfl)),
      .norm 11 rfl rfl rfl (fun a_ w_ hn_ hBt hr hR hD hO hS => ⟨⟨_, rfl⟩, fun hg_ => (have hP_ : 3 ≤ ((s).size : Int) := gtrue (show Eqs (.bool (decide (3 ≤ ((s).size : Int)))) _ w_ from hD 3 rfl) hg_; (op_mv ((hR 0 rfl).trans f0)).mono (fun _ _ h_ => ⟨h_.1, fun _ => h_.2⟩)), fun hne_ hP_ => absurd (gof (show Eqs (.bool (decide (3 ≤ ((s).size : Int)))) _ w_ from hD 3 rfl) hP_) hne_⟩),
      .norm 12 rfl rfl rfl (fun a_ w_ hn_ hBt hr hR hD hO hS => ⟨⟨_, rfl⟩, fun hg_ => (have hP_ : 3 ≤ ((s).size : Int) := gtrue (show Eqs (.bool (decide (3 ≤ ((s).size : Int)))) _ w_ from hD 3 rfl) hg_; (op_idxs (k := 0) (show a_.eval (.tmp 11) = .string s from (show IfS (3 ≤ ((s).size : Int)) (Eqs (.string s)) (a_.eval (.tmp 11)) w_ from hD 4 rfl) hP_) rfl (by omega)).mono (fun _ _ h_ => ⟨h_.1, fun _ => h_.2⟩)), fun hne_ hP_ => absurd (gof (show Eqs (.bool (decide (3 ≤ ((s).size : Int)))) _ w_ from hD 3 rfl) hP_) hne_⟩),
      .norm 13 rfl rfl rfl (fun a_ w_ hn_ hBt hr hR hD hO hS => ⟨⟨_, rfl⟩, fun hg_ => (have hP_ : 3 ≤ ((s).size : Int) := gtrue (show Eqs (.bool (decide (3 ≤ ((s).size : Int)))) _ w_ from hD 3 rfl) hg_; (op_eql8k (show a_.eval (.tmp 12) = .int .u8 (((s).get! 0).toNat : Int) from (show IfS (3 ≤ ((s).size : Int)) (Eqs (.int .u8 (((s).get! 0).toNat : Int))) (a_.eval (.tmp 12)) w_ from hD 5 rfl) hP_)).mono (fun _ _ h_ => ⟨h_.1, fun _ => h_.2⟩)), fun hne_ hP_ => absurd (gof (show Eqs (.bool (decide (3 ≤ ((s).size : Int)))) _ w_ from hD 3 rfl) hP_) hne_⟩),
      .norm 14 rfl rfl rfl (fun a_ w_ hn_ hBt hr hR hD hO hS => op_pickand (show a_.eval (.tmp 10) = .bool (decide (3 ≤ ((s).size : Int))) from hD 3 rfl) (fun hP_ => (show a_.eval (.tmp 13) = .bool (decide ((((s).get! 0).toNat : Int) = 226)) from (show IfS (3 ≤ ((s).size : Int)) (Eqs (.bool (decide ((((s).get! 0).toNat : Int) = 226)))) (a_.eval (.tmp 13)) w_ from hD 6 rfl) hP_))),
      .norm 15 rfl rfl rfl (fun a_ w_ hn_ hBt hr hR hD hO hS => op_mv (show a_.eval (.tmp 14) = .bool (decide ((3 ≤ ((s).size : Int)) ∧ ((((s).get! 0).toNat : Int) = 226))) from hD 7 rfl)),
      .norm 16 rfl rfl rfl (fun a_ w_ hn_ hBt hr hR hD hO hS => ⟨⟨_, rfl⟩, fun hg_ => (have hP_ : (3 ≤ ((s).size : Int)) ∧ ((((s).get! 0).toNat : Int) = 226) := gtrue (show Eqs (.bool (decide ((3 ≤ ((s).size : Int)) ∧ ((((s).get! 0).toNat : Int) = 226)))) _ w_ from hD 8 rfl) hg_; (op_mv ((hR 0 rfl).trans f0)).mono (fun _ _ h_ => ⟨h_.1, fun _ => h_.2⟩)), fun hne_ hP_ => absurd (gof (show Eqs (.bool (decide ((3 ≤ ((s).size : Int)) ∧ ((((s).get! 0).toNat : Int) = 226)))) _ w_ from hD 8 rfl) hP_) hne_⟩),
      .norm 17 rfl rfl rfl (fun a_ w_ hn_ hBt hr hR hD hO hS => ⟨⟨_, rfl⟩, fun hg_ => (have hP_ : (3 ≤ ((s).size : Int)) ∧ ((((s).get! 0).toNat : Int) = 226) := gtrue (show Eqs (.bool (decide ((3 ≤ ((s).size : Int)) ∧ ((((s).get! 0).toNat : Int) = 226)))) _ w_ from hD 8 rfl) hg_; (op_idxs (k := 1) (show a_.eval (.tmp 16) = .string s from (show IfS ((3 ≤ ((s).size : Int)) ∧ ((((s).get! 0).toNat : Int) = 226)) (Eqs (.string s)) (a_.eval (.tmp 16)) w_ from hD 9 rfl) hP_) rfl (by omega)).mono (fun _ _ h_ => ⟨h_.1, fun _ => h_.2⟩)), fun hne_ hP_ => absurd (gof (show Eqs (.bool (decide ((3 ≤ ((s).size : Int)) ∧ ((((s).get! 0).toNat : Int) = 226)))) _ w_ from hD 8 rfl) hP_) hne_⟩),
      .norm 18 rfl rfl rfl (fun a_ w_ hn_ hBt hr hR hD hO hS => ⟨⟨_, rfl⟩, fun hg_ => (have hP_ : (3 ≤ ((s).size : Int)) ∧ ((((s).get! 0).toNat : Int) = 226) := gtrue (show Eqs (.bool (decide ((3 ≤ ((s).size : Int)) ∧ ((((s).get! 0).toNat : Int) = 226)))) _ w_ from hD 8 rfl) hg_; (op_eql8k (show a_.eval (.tmp 17) = .int .u8 (((s).get! 1).toNat : Int) from (show IfS ((3 ≤ ((s).size : Int)) ∧ ((((s).get! 0).toNat : Int) = 226)) (Eqs (.int .u8 (((s).get! 1).toNat : Int))) (a_.eval (.tmp 17)) w_ from hD 10 rfl) hP_)).mono (fun _ _ h_ => ⟨h_.1, fun _ => h_.2⟩)), fun hne_ hP_ => absurd (gof (show Eqs (.bool (decide ((3 ≤ ((s).size : Int)) ∧ ((((s).get! 0).toNat : Int) = 226)))) _ w_ from hD 8 rfl) hP_) hne_⟩),
      .norm 19 rfl rfl rfl (fun a_ w_ hn_ hBt hr hR hD hO hS => op_pickand (show a_.eval (.tmp 15) = .bool (decide ((3 ≤ ((s).size : Int)) ∧ ((((s).get! 0).toNat : Int) = 226))) from hD 8 rfl) (fun hP_ => (show a_.eval (.tmp 18) = .bool (decide ((((s).get! 1).toNat : Int) = 136)) from (show IfS ((3 ≤ ((s).size : Int)) ∧ ((((s).get! 0).toNat : Int) = 226)) (Eqs (.bool (decide ((((s).get! 1).toNat : Int) = 136)))) (a_.eval (.tmp 18)) w_ from hD 11 rfl) hP_))),
      .norm 20 rfl rfl rfl (fun a_ w_ hn_ hBt hr hR hD hO hS => op_mv (show a_.eval (.tmp 19) = .bool (decide (((3 ≤ ((s).size : Int)) ∧ ((((s).get! 0).toNat : Int) = 226)) ∧ ((((s).get! 1).toNat : Int) = 136))) from hD 12 rfl)),
      .norm 21 rfl rfl rfl (fun a_ w_ hn_ hBt hr hR hD hO hS => ⟨⟨_, rfl⟩, fun hg_ => (have hP_ : ((3 ≤ ((s).size : Int)) ∧ ((((s).get! 0).toNat : Int) = 226)) ∧ ((((s).get! 1).toNat : Int) = 136) := gtrue (show Eqs (.bool (decide (((3 ≤ ((s).size : Int)) ∧ ((((s).get! 0).toNat : Int) = 226)) ∧ ((((s).get! 1).toNat : Int) = 136)))) _ w_ from hD 13 rfl) hg_; (op_mv ((hR 0 rfl).trans f0)).mono (fun _ _ h_ => ⟨h_.1, fun _ => h_.2⟩)), fun hne_ hP_ => absurd (gof (show Eqs (.bool (decide (((3 ≤ ((s).size : Int)) ∧ ((((s).get! 0).toNat : Int) = 226)) ∧ ((((s).get! 1).toNat : Int) = 136)))) _ w_ from hD 13 rfl) hP_) hne_⟩),
      .norm 22 rfl rfl rfl (fun a_ w_ hn_ hBt hr hR hD hO hS => ⟨⟨_, rfl⟩, fun hg_ => (have hP_ : ((3 ≤ ((s).size : Int)) ∧ ((((s).get! 0).toNat : Int) = 226)) ∧ ((((s).get! 1).toNat : Int) = 136) := gtrue (show Eqs (.bool (decide (((3 ≤ ((s).size : Int)) ∧ ((((s).get! 0).toNat : Int) = 226)) ∧ ((((s).get! 1).toNat : Int) = 136)))) _ w_ from hD 13 rfl) hg_; (op_idxs (k := 2) (show a_.eval (.tmp 21) = .string s from (show IfS (((3 ≤ ((s).size : Int)) ∧ ((((s).get! 0).toNat : Int) = 226)) ∧ ((((s).get! 1).toNat : Int) = 136)) (Eqs (.string s)) (a_.eval (.tmp 21)) w_ from hD 14 rfl) hP_) rfl (by omega)).mono (fun _ _ h_ => ⟨h_.1, fun _ => h_.2⟩)), fun hne_ hP_ => absurd (gof (show Eqs (.bool (decide (((3 ≤ ((s).size : Int)) ∧ ((((s).get! 0).toNat : Int) = 226)) ∧ ((((s).get! 1).toNat : Int) = 136)))) _ w_ from hD 13 rfl) hP_) hne_⟩),
      .norm 23 rfl rfl rfl (fun a_ w_ hn_ hBt hr hR hD hO hS => ⟨⟨_, rfl⟩, fun hg_ => (have hP_ : ((3 ≤ ((s).size : Int)) ∧ ((((s).get! 0).toNat : Int) = 226)) ∧ ((((s).get! 1).toNat : Int) = 136) := gtrue (show Eqs (.bool (decide (((3 ≤ ((s).size : Int)) ∧ ((((s).get! 0).toNat : Int) = 226)) ∧ ((((s).get! 1).toNat : Int) = 136)))) _ w_ from hD 13 rfl) hg_; (op_eql8k (show a_.eval (.tmp 22) = .int .u8 (((s).get! 2).toNat : Int) from (show IfS (((3 ≤ ((s).size : Int)) ∧ ((((s).get! 0).toNat : Int) = 226)) ∧ ((((s).get! 1).toNat : Int) = 136)) (Eqs (.int .u8 (((s).get! 2).toNat : Int))) (a_.eval (.tmp 22)) w_ from hD 15 rfl) hP_)).mono (fun _ _ h_ => ⟨h_.1, fun _ => h_.2⟩)), fun hne_ hP_ => absurd (gof (show Eqs (.bool (decide (((3 ≤ ((s).size : Int)) ∧ ((((s).get! 0).toNat : Int) = 226)) ∧ ((((s).get! 1).toNat : Int) = 136)))) _ w_ from hD 13 rfl) hP_) hne_⟩),
      .norm 24 rfl rfl rfl (fun a_ w_ hn_ hBt hr hR hD hO hS => op_pickand (show a_.eval (.tmp 20) = .bool (decide (((3 ≤ ((s).size : Int)) ∧ ((((s).get! 0).toNat : Int) = 226)) ∧ ((((s).get! 1).toNat : Int) = 136))) from hD 13 rfl) (fun hP_ => (show a_.eval (.tmp 23) = .bool (decide ((((s).get! 2).toNat : Int) = 146)) from (show IfS (((3 ≤ ((s).size : Int)) ∧ ((((s).get! 0).toNat : Int) = 226)) ∧ ((((s).get! 1).toNat : Int) = 136)) (Eqs (.bool (decide ((((s).get! 2).toNat : Int) = 146)))) (a_.eval (.tmp 23)) w_ from hD 16 rfl) hP_))),
      trivial⟩
  intro a3 w3 gs3 hn3 hd3 hBt hr hR hP hX hU
  replace hn := hn3; replace hd := hd3.trans hd
  replace b2 := b2.keep hBt trivial
  replace f0 := (hR 0 rfl).trans f0
  replace f2 := (hR 2 rfl).trans f2
  replace f3 := (hR 3 rfl).trans f3
  replace f4 := (hR 4 rfl).trans f4
  have e24 : a3.eval (.tmp 24) = .bool (decide ((((3 ≤ ((s).size : Int)) ∧ ((((s).get! 0).toNat : Int) = 226)) ∧ ((((s).get! 1).toNat : Int) = 136)) ∧ ((((s).get! 2).toNat : Int) = 146))) := hP 17 (by decide)
  have f24 := e24
  replace HB := HB.trans (hBt.below HB.size (UpOld.all (bx := []) trivial))
  clear hBt hr hR hP hX hU
  refine wp_cond_split f24 (fun hc24 => ?_) (fun hc24 => ?_)
  · skip
    have hms := ms1 (of_decide_eq_true hc24)
    have hb24 := of_decide_eq_true hc24
    refine wp_seq ?_
    refine region4 [some 4] [Eqs ((.bool true))] [] [] (by kernel_rfl) hn rfl (by kernel_rfl) (by kernel_rfl) (by kernel_rfl) (by kernel_rfl) (by kernel_rfl) (by kernel_rfl) ⟨Eqs.mono4 _, trivial⟩ ok_nil (IsOld.all (bx := []) trivial) (DisOld.all (bx := []) trivial) ?_ ?_
    · exact ⟨.norm 4 rfl rfl rfl (fun a_ w_ hn_ hBt hr hR hD hO hS => op_assign rfl),
        trivial⟩
    intro a4 w4 gs4 hn4 hd4 hBt hr hR hP hX hU
    replace hn := hn4; replace hd := hd4.trans hd
    replace b2 := b2.keep hBt trivial
    replace f0 := (hR 0 rfl).trans f0
    replace f2 := (hR 2 rfl).trans f2
    replace f3 := (hR 3 rfl).trans f3
    have e4 : a4.eval (.tmp 4) = (.bool true) := hP 0 (by decide)
    have f4 := e4
    replace HB := HB.trans (hBt.below HB.size (UpOld.all (bx := []) trivial))
    clear hBt hr hR hP hX hU
    refine region4 [some 25, some 26, some 0] [Eqs (.string s), Eqs (.string ((s).extract 3 (s).size)), Eqs (.string ((s).extract 3 (s).size))] [] [(2, 0)] (by kernel_rfl) hn rfl (by kernel_rfl) (by kernel_rfl) (by kernel_rfl) (by kernel_rfl) (by kernel_rfl) (by kernel_rfl) ⟨Eqs.mono4 _, Eqs.mono4 _, Eqs.mono4 _, trivial⟩ ok_nil (IsOld.all (bx := []) trivial) (DisOld.all (bx := []) trivial) ?_ ?_
    · exact ⟨.norm 25 rfl rfl rfl (fun a_ w_ hn_ hBt hr hR hD hO hS => op_mv ((hS 2 0 rfl rfl).trans f0)),
        .norm 26 rfl rfl rfl (fun a_ w_ hn_ hBt hr hR hD hO hS => op_slst (k := 3) (show a_.eval (.tmp 25) = .string s from hD 0 rfl) rfl (by omega)),
        .norm 0 rfl rfl rfl (fun a_ w_ hn_ hBt hr hR hD hO hS => op_assign (show a_.eval (.tmp 26) = .string ((s).extract 3 (s).size) from hD 1 rfl)),
        trivial⟩
    intro a5 w5 gs5 hn5 hd5 hBt hr hR hP hX hU
    replace hn := hn5; replace hd := hd5.trans hd
    replace b2 := b2.keep hBt trivial
    replace f2 := (hR 2 rfl).trans f2
    replace f3 := (hR 3 rfl).trans f3
    replace f4 := (hR 4 rfl).trans f4
    have e0 : a5.eval (.tmp 0) = .string ((s).extract 3 (s).size) := hP 2 (by decide)
    have f0 := e0
    replace HB := HB.trans (hBt.below HB.size (UpOld.all (bx := []) trivial))
    clear hBt hr hR hP hX hU
    refine wp_seq ?_
    refine region4 [some 38, some 39, some 37, some 40, some 41, some 5, none, some 6] [Eqs (.string ((s).extract 3 (s).size)), Tup2 (OutN (xOf ((s).extract 3 (s).size)) (6000)) (Eqs (.int .i64 (kOf ((s).extract 3 (s).size)))), Tup2 (OutN (xOf ((s).extract 3 (s).size)) (6000)) (Eqs (.int .i64 (kOf ((s).extract 3 (s).size)))), OutN (xOf ((s).extract 3 (s).size)) (6000), Eqs (.int .i64 (kOf ((s).extract 3 (s).size))), (fun _ _ => True), (fun _ _ => True), Eqs (.int .i64 (kOf ((s).extract 3 (s).size)))] [⟨N2, some 5, 0, 5, .agg #[.bool false, .slice none 0 0], some (6, 40, 3), []⟩] [] (by kernel_rfl) hn rfl (by kernel_rfl) (by kernel_rfl) (by kernel_rfl) (by kernel_rfl) (by kernel_rfl) (by kernel_rfl) ⟨Eqs.mono4 _, Tup2.mono4 (OutN.mono4 _ _) (Eqs.mono4 _), Tup2.mono4 (OutN.mono4 _ _) (Eqs.mono4 _), OutN.mono4 _ _, Eqs.mono4 _, True.mono4, True.mono4, Eqs.mono4 _, trivial⟩ (ok_cons N2ok ok_nil) (IsOld.all (bx := [⟨N2, some 5, 0, 5, .agg #[.bool false, .slice none 0 0], some (6, 40, 3), []⟩]) ⟨someNe, trivial⟩) (DisOld.all (bx := [⟨N2, some 5, 0, 5, .agg #[.bool false, .slice none 0 0], some (6, 40, 3), []⟩]) ⟨someNe, trivial⟩) ?_ ?_
    · exact ⟨.norm 38 rfl rfl rfl (fun a_ w_ hn_ hBt hr hR hD hO hS => op_mv ((hR 0 rfl).trans f0)),
        .norm 39 rfl rfl rfl (fun a_ w_ hn_ hBt hr hR hD hO hS => op_natural (show a_.eval (.tmp 38) = .string ((s).extract 3 (s).size) from hD 0 rfl)),
        .norm 37 rfl rfl rfl (fun a_ w_ hn_ hBt hr hR hD hO hS => op_mvp (p := Tup2 (OutN (xOf ((s).extract 3 (s).size)) (6000)) (Eqs (.int .i64 (kOf ((s).extract 3 (s).size))))) (show Tup2 (OutN (xOf ((s).extract 3 (s).size)) (6000)) (Eqs (.int .i64 (kOf ((s).extract 3 (s).size)))) (a_.eval (.tmp 39)) w_ from hD 1 rfl)),
        .norm 40 rfl rfl rfl (fun a_ w_ hn_ hBt hr hR hD hO hS => op_ex20 (show Tup2 (OutN (xOf ((s).extract 3 (s).size)) (6000)) (Eqs (.int .i64 (kOf ((s).extract 3 (s).size)))) (a_.eval (.tmp 37)) w_ from hD 2 rfl)),
        .norm 41 rfl rfl rfl (fun a_ w_ hn_ hBt hr hR hD hO hS => op_ex21 (show Tup2 (OutN (xOf ((s).extract 3 (s).size)) (6000)) (Eqs (.int .i64 (kOf ((s).extract 3 (s).size)))) (a_.eval (.tmp 37)) w_ from hD 2 rfl)),
        .alloc 0 _ rfl rfl (.inl ⟨rfl, rfl⟩) rfl rfl rfl rfl rfl,
        .store 0 _ _ _ rfl rfl rfl rfl rfl rfl rfl (fun ia h => by cases h; rfl) rfl rfl rfl OutN.cs,
        .norm 6 rfl rfl rfl (fun a_ w_ hn_ hBt hr hR hD hO hS => op_assign (show a_.eval (.tmp 41) = .int .i64 (kOf ((s).extract 3 (s).size)) from hD 4 rfl)),
        trivial⟩
    intro a6 w6 gs6 hn6 hd6 hBt hr hR hP hX hU
    replace hn := hn6; replace hd := hd6.trans hd
    have ne2_5 : (gs1 0) ≠ gs6 0 := by have h1 := b2.lt; have h2 := (hX 0 _ rfl).2.2.1 (by simp); omega
    replace b2 := b2.keep hBt ⟨someNe, trivial⟩
    obtain ⟨n_7, a_7, c_7, r_7, e40, G7, l7⟩ : OutN (xOf ((s).extract 3 (s).size)) (6000) (a6.eval (.tmp 40)) w6 := hP 3 (by decide)
    have b5 : BoxV N2 w6 (gs6 0) (.agg #[.bool n_7, .slice a_7 r_7.length c_7]) := boxv_of (hX 0 _ rfl).2.2.2 e40
    have f5 := (hX 0 _ rfl).1
    have u5 : w.heap.size ≤ gs6 0 := Nat.le_trans HB.size ((hX 0 _ rfl).2.2.1 (by simp))
    replace f2 := (hR 2 rfl).trans f2
    replace f3 := (hR 3 rfl).trans f3
    replace f4 := (hR 4 rfl).trans f4
    have e6 : a6.eval (.tmp 6) = .int .i64 (kOf ((s).extract 3 (s).size)) := hP 7 (by decide)
    have f6 := e6
    replace HB := HB.trans (hBt.below HB.size (UpOld.all (bx := [⟨N2, some 5, 0, 5, .agg #[.bool false, .slice none 0 0], some (6, 40, 3), []⟩]) ⟨someNe, trivial⟩))
    clear hBt hr hR hP hX hU
    refine wp_seq ?_
    refine wp_seq ?_
    refine region4 [some 42] [Eqs ((.bool true))] [] [] (by kernel_rfl) hn rfl (by kernel_rfl) (by kernel_rfl) (by kernel_rfl) (by kernel_rfl) (by kernel_rfl) (by kernel_rfl) ⟨Eqs.mono4 _, trivial⟩ ok_nil (IsOld.all (bx := []) trivial) (DisOld.all (bx := []) trivial) ?_ ?_
    · exact ⟨.norm 42 rfl rfl rfl (fun a_ w_ hn_ hBt hr hR hD hO hS => op_mv ((hR 4 rfl).trans f4)),
        trivial⟩
    intro a8 w8 gs8 hn8 hd8 hBt hr hR hP hX hU
    replace hn := hn8; replace hd := hd8.trans hd
    replace b2 := b2.keep hBt trivial
    replace b5 := b5.keep hBt trivial
    replace f2 := (hR 2 rfl).trans f2
    replace f3 := (hR 3 rfl).trans f3
    replace f5 := (hR 5 rfl).trans f5
    replace f6 := (hR 6 rfl).trans f6
    have e42 : a8.eval (.tmp 42) = (.bool true) := hP 0 (by decide)
    have f42 := e42
    replace G7 := G7.rl hr
    replace HB := HB.trans (hBt.below HB.size (UpOld.all (bx := []) trivial))
    clear hBt hr hR hP hX hU
    refine wp_cond_true f42 ?_
    refine region4 [some 43, some 44, none] [Eqs (.agg #[.bool n_7, .slice a_7 r_7.length c_7]), OutN ((-xOf ((s).extract 3 (s).size))) (6000), (fun _ _ => True)] [⟨N2, none, (gs6 0), 5, .agg #[.bool n_7, .slice a_7 r_7.length c_7], some (2, 44, 1), [0]⟩] [] (by kernel_rfl) hn rfl (by kernel_rfl) (by kernel_rfl) (by kernel_rfl) (by kernel_rfl) (by kernel_rfl) (by kernel_rfl) ⟨Eqs.mono4 _, OutN.mono4 _ _, True.mono4, trivial⟩ (ok_cons N2ok ok_nil) (IsOld.all (bx := [⟨N2, none, (gs6 0), 5, .agg #[.bool n_7, .slice a_7 r_7.length c_7], some (2, 44, 1), [0]⟩]) ⟨fun _ => ⟨f5, b5⟩, trivial⟩) (DisOld.all (bx := [⟨N2, none, (gs6 0), 5, .agg #[.bool n_7, .slice a_7 r_7.length c_7], some (2, 44, 1), [0]⟩]) ⟨fun _ => trivial, trivial⟩) ?_ ?_
    · exact ⟨.norm 43 rfl rfl rfl (fun a_ w_ hn_ hBt hr hR hD hO hS => op_loadv N2ok ((hR 5 rfl).trans f5) (hO 0 _ rfl rfl rfl)),
        .norm 44 rfl rfl rfl (fun a_ w_ hn_ hBt hr hR hD hO hS => op_nminus (outn_eq (show a_.eval (.tmp 43) = .agg #[.bool n_7, .slice a_7 r_7.length c_7] from hD 0 rfl) (G7.rl hr) l7) (by omega)),
        .store 0 _ _ _ rfl rfl rfl rfl rfl rfl rfl (fun ia h => by cases h) rfl rfl rfl OutN.cs,
        trivial⟩
    intro a9 w9 gs9 hn9 hd9 hBt hr hR hP hX hU
    replace hn := hn9; replace hd := hd9.trans hd
    replace b2 := b2.keep hBt ⟨fun _ => ne2_5.symm, trivial⟩
    obtain ⟨n_10, a_10, c_10, r_10, e44, G10, l10⟩ : OutN ((-xOf ((s).extract 3 (s).size))) (6000) (a9.eval (.tmp 44)) w9 := hP 1 (by decide)
    have b5 : BoxV N2 w9 ((gs6 0)) (.agg #[.bool n_10, .slice a_10 r_10.length c_10]) := boxv_old ((hX 0 _ rfl).2.1 rfl) (hX 0 _ rfl).2.2.2 e44
    replace f5 : a9.eval (.tmp 5) = _ := (hR 5 rfl).trans f5
    replace f2 := (hR 2 rfl).trans f2
    replace f3 := (hR 3 rfl).trans f3
    replace f6 := (hR 6 rfl).trans f6
    replace G7 := G7.rl hr
    replace HB := HB.trans (hBt.below HB.size (UpOld.all (bx := [⟨N2, none, (gs6 0), 5, .agg #[.bool n_7, .slice a_7 r_7.length c_7], some (2, 44, 1), [0]⟩]) ⟨fun _ => u5, trivial⟩))
    clear hBt hr hR hP hX hU
    refine wp_seq ?_
    refine region4 [some 45, some 46, none, some 3] [Eqs (.agg #[.bool n_10, .slice a_10 r_10.length c_10]), Eqs (.int .i64 (kOf ((s).extract 3 (s).size))), (fun _ _ => True), Eqs (.int .i64 (kOf ((s).extract 3 (s).size)))] [⟨N2, none, (gs1 0), 2, .agg #[.bool false, .slice none 0 0], some (2, 45, 0), []⟩] [] (by kernel_rfl) hn rfl (by kernel_rfl) (by kernel_rfl) (by kernel_rfl) (by kernel_rfl) (by kernel_rfl) (by kernel_rfl) ⟨Eqs.mono4 _, Eqs.mono4 _, True.mono4, Eqs.mono4 _, trivial⟩ (ok_cons N2ok ok_nil) (IsOld.all (bx := [⟨N2, none, (gs1 0), 2, .agg #[.bool false, .slice none 0 0], some (2, 45, 0), []⟩]) ⟨fun _ => ⟨f2, b2⟩, trivial⟩) (DisOld.all (bx := [⟨N2, none, (gs1 0), 2, .agg #[.bool false, .slice none 0 0], some (2, 45, 0), []⟩]) ⟨fun _ => trivial, trivial⟩) ?_ ?_
    · exact ⟨.norm 45 rfl rfl rfl (fun a_ w_ hn_ hBt hr hR hD hO hS => op_loadv N2ok ((hR 5 rfl).trans f5) (b5.keep hBt ⟨fun _ => ne2_5, trivial⟩)),
        .norm 46 rfl rfl rfl (fun a_ w_ hn_ hBt hr hR hD hO hS => op_mv ((hR 6 rfl).trans f6)),
        .store 0 _ _ _ rfl rfl rfl rfl rfl rfl rfl (fun ia h => by cases h) rfl rfl rfl (eqs_cs n2_cs),
        .norm 3 rfl rfl rfl (fun a_ w_ hn_ hBt hr hR hD hO hS => op_assign (show a_.eval (.tmp 46) = .int .i64 (kOf ((s).extract 3 (s).size)) from hD 1 rfl)),
        trivial⟩
    intro a11 w11 gs11 hn11 hd11 hBt hr hR hP hX hU
    replace hn := hn11; replace hd := hd11.trans hd
    have e45 : a11.eval (.tmp 45) = .agg #[.bool n_10, .slice a_10 r_10.length c_10] := hP 0 (by decide)
    have b2 : BoxV N2 w11 ((gs1 0)) (.agg #[.bool n_10, .slice a_10 r_10.length c_10]) := boxv_old ((hX 0 _ rfl).2.1 rfl) (hX 0 _ rfl).2.2.2 e45
    replace f2 : a11.eval (.tmp 2) = _ := (hR 2 rfl).trans f2
    have e3 : a11.eval (.tmp 3) = .int .i64 (kOf ((s).extract 3 (s).size)) := hP 3 (by decide)
    have f3 := e3
    replace G7 := G7.rl hr
    replace G10 := G10.rl hr
    replace HB := HB.trans (hBt.below HB.size (UpOld.all (bx := [⟨N2, none, (gs1 0), 2, .agg #[.bool false, .slice none 0 0], some (2, 45, 0), []⟩]) ⟨fun _ => u2, trivial⟩))
    clear hBt hr hR hP hX hU
    refine wp_ret ?_
    repeat (first | refine then_ret ?_ | refine scope_ret ?_ | refine block_ret ?_)
    exact bodyPost_ret (v := .tuple #[.agg #[.bool n_10, .slice a_10 r_10.length c_10], .int .i64 (kOf ((s).extract 3 (s).size))]) (res_ct rfl f2 (lv_N2 b2) f3) hd ⟨_, rfl, ⟨_, _, rfl, by rw [zOf, hms]; exact outn_eq rfl G10 l10, by rw [eOf, hms]; rfl⟩, HB⟩
  · skip
    have hb24 := of_decide_eq_false hc24
    refine wp_seq ?_
    refine region4 [some 27, some 28, some 29, some 30, some 31, some 32, some 33, some 34] [Eqs (.string s), Eqs (.int .i64 ((s).size : Int)), Eqs (.bool (decide (0 < ((s).size : Int)))), Eqs (.bool (decide (0 < ((s).size : Int)))), IfS (0 < ((s).size : Int)) (Eqs (.string s)), IfS (0 < ((s).size : Int)) (Eqs (.int .u8 (((s).get! 0).toNat : Int))), IfS (0 < ((s).size : Int)) (Eqs (.bool (decide ((((s).get! 0).toNat : Int) = 45)))), Eqs (.bool (decide ((0 < ((s).size : Int)) ∧ ((((s).get! 0).toNat : Int) = 45))))] [] [] (by kernel_rfl) hn rfl (by kernel_rfl) (by kernel_rfl) (by kernel_rfl) (by kernel_rfl) (by kernel_rfl) (by kernel_rfl) ⟨Eqs.mono4 _, Eqs.mono4 _, Eqs.mono4 _, Eqs.mono4 _, IfS.mono4 (Eqs.mono4 _), IfS.mono4 (Eqs.mono4 _), IfS.mono4 (Eqs.mono4 _), Eqs.mono4 _, trivial⟩ ok_nil (IsOld.all (bx := []) trivial) (DisOld.all (bx := []) trivial) ?_ ?_
    · exact ⟨.norm 27 rfl rfl rfl (fun a_ w_ hn_ hBt hr hR hD hO hS => op_mv ((hR 0 rfl).trans f0)),
        .norm 28 rfl rfl rfl (fun a_ w_ hn_ hBt hr hR hD hO hS => op_lens (show a_.eval (.tmp 27) = .string s from hD 0 rfl)),
        .norm 29 rfl rfl rfl (fun a_ w_ hn_ hBt hr hR hD hO hS => op_gtrk (show a_.eval (.tmp 28) = .int .i64 ((s).size : Int) from hD 1 rfl)),
        .norm 30 rfl rfl rfl (fun a_ w_ hn_ hBt hr hR hD hO hS => op_mv (show a_.eval (.tmp 29) = .bool (decide (0 < ((s).size : Int))) from hD 2 rfl)),
        .norm 31 rfl rfl rfl (fun a_ w_ hn_ hBt hr hR hD hO hS => ⟨⟨_, rfl⟩, fun hg_ => (have hP_ : 0 < ((s).size : Int) := gtrue (show Eqs (.bool (decide (0 < ((s).size : Int)))) _ w_ from hD 3 rfl) hg_; (op_mv ((hR 0 rfl).trans f0)).mono (fun _ _ h_ => ⟨h_.1, fun _ => h_.2⟩)), fun hne_ hP_ => absurd (gof (show Eqs (.bool (decide (0 < ((s).size : Int)))) _ w_ from hD 3 rfl) hP_) hne_⟩),
        .norm 32 rfl rfl rfl (fun a_ w_ hn_ hBt hr hR hD hO hS => ⟨⟨_, rfl⟩, fun hg_ => (have hP_ : 0 < ((s).size : Int) := gtrue (show Eqs (.bool (decide (0 < ((s).size : Int)))) _ w_ from hD 3 rfl) hg_; (op_idxs (k := 0) (show a_.eval (.tmp 31) = .string s from (show IfS (0 < ((s).size : Int)) (Eqs (.string s)) (a_.eval (.tmp 31)) w_ from hD 4 rfl) hP_) rfl (by omega)).mono (fun _ _ h_ => ⟨h_.1, fun _ => h_.2⟩)), fun hne_ hP_ => absurd (gof (show Eqs (.bool (decide (0 < ((s).size : Int)))) _ w_ from hD 3 rfl) hP_) hne_⟩),
        .norm 33 rfl rfl rfl (fun a_ w_ hn_ hBt hr hR hD hO hS => ⟨⟨_, rfl⟩, fun hg_ => (have hP_ : 0 < ((s).size : Int) := gtrue (show Eqs (.bool (decide (0 < ((s).size : Int)))) _ w_ from hD 3 rfl) hg_; (op_eql8k (show a_.eval (.tmp 32) = .int .u8 (((s).get! 0).toNat : Int) from (show IfS (0 < ((s).size : Int)) (Eqs (.int .u8 (((s).get! 0).toNat : Int))) (a_.eval (.tmp 32)) w_ from hD 5 rfl) hP_)).mono (fun _ _ h_ => ⟨h_.1, fun _ => h_.2⟩)), fun hne_ hP_ => absurd (gof (show Eqs (.bool (decide (0 < ((s).size : Int)))) _ w_ from hD 3 rfl) hP_) hne_⟩),
        .norm 34 rfl rfl rfl (fun a_ w_ hn_ hBt hr hR hD hO hS => op_pickand (show a_.eval (.tmp 30) = .bool (decide (0 < ((s).size : Int))) from hD 3 rfl) (fun hP_ => (show a_.eval (.tmp 33) = .bool (decide ((((s).get! 0).toNat : Int) = 45)) from (show IfS (0 < ((s).size : Int)) (Eqs (.bool (decide ((((s).get! 0).toNat : Int) = 45)))) (a_.eval (.tmp 33)) w_ from hD 6 rfl) hP_))),
        trivial⟩
    intro a12 w12 gs12 hn12 hd12 hBt hr hR hP hX hU
    replace hn := hn12; replace hd := hd12.trans hd
    replace b2 := b2.keep hBt trivial
    replace f0 := (hR 0 rfl).trans f0
    replace f2 := (hR 2 rfl).trans f2
    replace f3 := (hR 3 rfl).trans f3
    replace f4 := (hR 4 rfl).trans f4
    have e34 : a12.eval (.tmp 34) = .bool (decide ((0 < ((s).size : Int)) ∧ ((((s).get! 0).toNat : Int) = 45))) := hP 7 (by decide)
    have f34 := e34
    replace HB := HB.trans (hBt.below HB.size (UpOld.all (bx := []) trivial))
    clear hBt hr hR hP hX hU
    refine wp_cond_split f34 (fun hc34 => ?_) (fun hc34 => ?_)
    · skip
      have hms := ms2 hb24 (of_decide_eq_true hc34)
      have hb34 := of_decide_eq_true hc34
      refine wp_seq ?_
      refine region4 [some 4] [Eqs ((.bool true))] [] [] (by kernel_rfl) hn rfl (by kernel_rfl) (by kernel_rfl) (by kernel_rfl) (by kernel_rfl) (by kernel_rfl) (by kernel_rfl) ⟨Eqs.mono4 _, trivial⟩ ok_nil (IsOld.all (bx := []) trivial) (DisOld.all (bx := []) trivial) ?_ ?_
      · exact ⟨.norm 4 rfl rfl rfl (fun a_ w_ hn_ hBt hr hR hD hO hS => op_assign rfl),
          trivial⟩
      intro a13 w13 gs13 hn13 hd13 hBt hr hR hP hX hU
      replace hn := hn13; replace hd := hd13.trans hd
      replace b2 := b2.keep hBt trivial
      replace f0 := (hR 0 rfl).trans f0
      replace f2 := (hR 2 rfl).trans f2
      replace f3 := (hR 3 rfl).trans f3
      have e4 : a13.eval (.tmp 4) = (.bool true) := hP 0 (by decide)
      have f4 := e4
      replace HB := HB.trans (hBt.below HB.size (UpOld.all (bx := []) trivial))
      clear hBt hr hR hP hX hU
      refine region4 [some 35, some 36, some 0] [Eqs (.string s), Eqs (.string ((s).extract 1 (s).size)), Eqs (.string ((s).extract 1 (s).size))] [] [(2, 0)] (by kernel_rfl) hn rfl (by kernel_rfl) (by kernel_rfl) (by kernel_rfl) (by kernel_rfl) (by kernel_rfl) (by kernel_rfl) ⟨Eqs.mono4 _, Eqs.mono4 _, Eqs.mono4 _, trivial⟩ ok_nil (IsOld.all (bx := []) trivial) (DisOld.all (bx := []) trivial) ?_ ?_
      · exact ⟨.norm 35 rfl rfl rfl (fun a_ w_ hn_ hBt hr hR hD hO hS => op_mv ((hS 2 0 rfl rfl).trans f0)),
          .norm 36 rfl rfl rfl (fun a_ w_ hn_ hBt hr hR hD hO hS => op_slst (k := 1) (show a_.eval (.tmp 35) = .string s from hD 0 rfl) rfl (by omega)),
          .norm 0 rfl rfl rfl (fun a_ w_ hn_ hBt hr hR hD hO hS => op_assign (show a_.eval (.tmp 36) = .string ((s).extract 1 (s).size) from hD 1 rfl)),
          trivial⟩
      intro a14 w14 gs14 hn14 hd14 hBt hr hR hP hX hU
      replace hn := hn14; replace hd := hd14.trans hd
      replace b2 := b2.keep hBt trivial
      replace f2 := (hR 2 rfl).trans f2
      replace f3 := (hR 3 rfl).trans f3
      replace f4 := (hR 4 rfl).trans f4
      have e0 : a14.eval (.tmp 0) = .string ((s).extract 1 (s).size) := hP 2 (by decide)
      have f0 := e0
      replace HB := HB.trans (hBt.below HB.size (UpOld.all (bx := []) trivial))
      clear hBt hr hR hP hX hU
      refine wp_seq ?_
      refine region4 [some 38, some 39, some 37, some 40, some 41, some 5, none, some 6] [Eqs (.string ((s).extract 1 (s).size)), Tup2 (OutN (xOf ((s).extract 1 (s).size)) (6000)) (Eqs (.int .i64 (kOf ((s).extract 1 (s).size)))), Tup2 (OutN (xOf ((s).extract 1 (s).size)) (6000)) (Eqs (.int .i64 (kOf ((s).extract 1 (s).size)))), OutN (xOf ((s).extract 1 (s).size)) (6000), Eqs (.int .i64 (kOf ((s).extract 1 (s).size))), (fun _ _ => True), (fun _ _ => True), Eqs (.int .i64 (kOf ((s).extract 1 (s).size)))] [⟨N2, some 5, 0, 5, .agg #[.bool false, .slice none 0 0], some (6, 40, 3), []⟩] [] (by kernel_rfl) hn rfl (by kernel_rfl) (by kernel_rfl) (by kernel_rfl) (by kernel_rfl) (by kernel_rfl) (by kernel_rfl) ⟨Eqs.mono4 _, Tup2.mono4 (OutN.mono4 _ _) (Eqs.mono4 _), Tup2.mono4 (OutN.mono4 _ _) (Eqs.mono4 _), OutN.mono4 _ _, Eqs.mono4 _, True.mono4, True.mono4, Eqs.mono4 _, trivial⟩ (ok_cons N2ok ok_nil) (IsOld.all (bx := [⟨N2, some 5, 0, 5, .agg #[.bool false, .slice none 0 0], some (6, 40, 3), []⟩]) ⟨someNe, trivial⟩) (DisOld.all (bx := [⟨N2, some 5, 0, 5, .agg #[.bool false, .slice none 0 0], some (6, 40, 3), []⟩]) ⟨someNe, trivial⟩) ?_ ?_
      · exact ⟨.norm 38 rfl rfl rfl (fun a_ w_ hn_ hBt hr hR hD hO hS => op_mv ((hR 0 rfl).trans f0)),
          .norm 39 rfl rfl rfl (fun a_ w_ hn_ hBt hr hR hD hO hS => op_natural (show a_.eval (.tmp 38) = .string ((s).extract 1 (s).size) from hD 0 rfl)),
          .norm 37 rfl rfl rfl (fun a_ w_ hn_ hBt hr hR hD hO hS => op_mvp (p := Tup2 (OutN (xOf ((s).extract 1 (s).size)) (6000)) (Eqs (.int .i64 (kOf ((s).extract 1 (s).size))))) (show Tup2 (OutN (xOf ((s).extract 1 (s).size)) (6000)) (Eqs (.int .i64 (kOf ((s).extract 1 (s).size)))) (a_.eval (.tmp 39)) w_ from hD 1 rfl)),
          .norm 40 rfl rfl rfl (fun a_ w_ hn_ hBt hr hR hD hO hS => op_ex20 (show Tup2 (OutN (xOf ((s).extract 1 (s).size)) (6000)) (Eqs (.int .i64 (kOf ((s).extract 1 (s).size)))) (a_.eval (.tmp 37)) w_ from hD 2 rfl)),
          .norm 41 rfl rfl rfl (fun a_ w_ hn_ hBt hr hR hD hO hS => op_ex21 (show Tup2 (OutN (xOf ((s).extract 1 (s).size)) (6000)) (Eqs (.int .i64 (kOf ((s).extract 1 (s).size)))) (a_.eval (.tmp 37)) w_ from hD 2 rfl)),
          .alloc 0 _ rfl rfl (.inl ⟨rfl, rfl⟩) rfl rfl rfl rfl rfl,
          .store 0 _ _ _ rfl rfl rfl rfl rfl rfl rfl (fun ia h => by cases h; rfl) rfl rfl rfl OutN.cs,
          .norm 6 rfl rfl rfl (fun a_ w_ hn_ hBt hr hR hD hO hS => op_assign (show a_.eval (.tmp 41) = .int .i64 (kOf ((s).extract 1 (s).size)) from hD 4 rfl)),
          trivial⟩
      intro a15 w15 gs15 hn15 hd15 hBt hr hR hP hX hU
      replace hn := hn15; replace hd := hd15.trans hd
      have ne2_5 : (gs1 0) ≠ gs15 0 := by have h1 := b2.lt; have h2 := (hX 0 _ rfl).2.2.1 (by simp); omega
      replace b2 := b2.keep hBt ⟨someNe, trivial⟩
      obtain ⟨n_16, a_16, c_16, r_16, e40, G16, l16⟩ : OutN (xOf ((s).extract 1 (s).size)) (6000) (a15.eval (.tmp 40)) w15 := hP 3 (by decide)
      have b5 : BoxV N2 w15 (gs15 0) (.agg #[.bool n_16, .slice a_16 r_16.length c_16]) := boxv_of (hX 0 _ rfl).2.2.2 e40
      have f5 := (hX 0 _ rfl).1
      have u5 : w.heap.size ≤ gs15 0 := Nat.le_trans HB.size ((hX 0 _ rfl).2.2.1 (by simp))
      replace f2 := (hR 2 rfl).trans f2
      replace f3 := (hR 3 rfl).trans f3
      replace f4 := (hR 4 rfl).trans f4
      have e6 : a15.eval (.tmp 6) = .int .i64 (kOf ((s).extract 1 (s).size)) := hP 7 (by decide)
      have f6 := e6
      replace HB := HB.trans (hBt.below HB.size (UpOld.all (bx := [⟨N2, some 5, 0, 5, .agg #[.bool false, .slice none 0 0], some (6, 40, 3), []⟩]) ⟨someNe, trivial⟩))
      clear hBt hr hR hP hX hU
      refine wp_seq ?_
      refine wp_seq ?_
      refine region4 [some 42] [Eqs ((.bool true))] [] [] (by kernel_rfl) hn rfl (by kernel_rfl) (by kernel_rfl) (by kernel_rfl) (by kernel_rfl) (by kernel_rfl) (by kernel_rfl) ⟨Eqs.mono4 _, trivial⟩ ok_nil (IsOld.all (bx := []) trivial) (DisOld.all (bx := []) trivial) ?_ ?_
      · exact ⟨.norm 42 rfl rfl rfl (fun a_ w_ hn_ hBt hr hR hD hO hS => op_mv ((hR 4 rfl).trans f4)),
          trivial⟩
      intro a17 w17 gs17 hn17 hd17 hBt hr hR hP hX hU
      replace hn := hn17; replace hd := hd17.trans hd
      replace b2 := b2.keep hBt trivial
      replace b5 := b5.keep hBt trivial
      replace f2 := (hR 2 rfl).trans f2
      replace f3 := (hR 3 rfl).trans f3
      replace f5 := (hR 5 rfl).trans f5
      replace f6 := (hR 6 rfl).trans f6
      have e42 : a17.eval (.tmp 42) = (.bool true) := hP 0 (by decide)
      have f42 := e42
      replace G16 := G16.rl hr
      replace HB := HB.trans (hBt.below HB.size (UpOld.all (bx := []) trivial))
      clear hBt hr hR hP hX hU
      refine wp_cond_true f42 ?_
      refine region4 [some 43, some 44, none] [Eqs (.agg #[.bool n_16, .slice a_16 r_16.length c_16]), OutN ((-xOf ((s).extract 1 (s).size))) (6000), (fun _ _ => True)] [⟨N2, none, (gs15 0), 5, .agg #[.bool n_16, .slice a_16 r_16.length c_16], some (2, 44, 1), [0]⟩] [] (by kernel_rfl) hn rfl (by kernel_rfl) (by kernel_rfl) (by kernel_rfl) (by kernel_rfl) (by kernel_rfl) (by kernel_rfl) ⟨Eqs.mono4 _, OutN.mono4 _ _, True.mono4, trivial⟩ (ok_cons N2ok ok_nil) (IsOld.all (bx := [⟨N2, none, (gs15 0), 5, .agg #[.bool n_16, .slice a_16 r_16.length c_16], some (2, 44, 1), [0]⟩]) ⟨fun _ => ⟨f5, b5⟩, trivial⟩) (DisOld.all (bx := [⟨N2, none, (gs15 0), 5, .agg #[.bool n_16, .slice a_16 r_16.length c_16], some (2, 44, 1), [0]⟩]) ⟨fun _ => trivial, trivial⟩) ?_ ?_
      · exact ⟨.norm 43 rfl rfl rfl (fun a_ w_ hn_ hBt hr hR hD hO hS => op_loadv N2ok ((hR 5 rfl).trans f5) (hO 0 _ rfl rfl rfl)),
          .norm 44 rfl rfl rfl (fun a_ w_ hn_ hBt hr hR hD hO hS => op_nminus (outn_eq (show a_.eval (.tmp 43) = .agg #[.bool n_16, .slice a_16 r_16.length c_16] from hD 0 rfl) (G16.rl hr) l16) (by omega)),
          .store 0 _ _ _ rfl rfl rfl rfl rfl rfl rfl (fun ia h => by cases h) rfl rfl rfl OutN.cs,
          trivial⟩
      intro a18 w18 gs18 hn18 hd18 hBt hr hR hP hX hU
      replace hn := hn18; replace hd := hd18.trans hd
      replace b2 := b2.keep hBt ⟨fun _ => ne2_5.symm, trivial⟩
      obtain ⟨n_19, a_19, c_19, r_19, e44, G19, l19⟩ : OutN ((-xOf ((s).extract 1 (s).size))) (6000) (a18.eval (.tmp 44)) w18 := hP 1 (by decide)
      have b5 : BoxV N2 w18 ((gs15 0)) (.agg #[.bool n_19, .slice a_19 r_19.length c_19]) := boxv_old ((hX 0 _ rfl).2.1 rfl) (hX 0 _ rfl).2.2.2 e44
      replace f5 : a18.eval (.tmp 5) = _ := (hR 5 rfl).trans f5
      replace f2 := (hR 2 rfl).trans f2
      replace f3 := (hR 3 rfl).trans f3
      replace f6 := (hR 6 rfl).trans f6
      replace G16 := G16.rl hr
      replace HB := HB.trans (hBt.below HB.size (UpOld.all (bx := [⟨N2, none, (gs15 0), 5, .agg #[.bool n_16, .slice a_16 r_16.length c_16], some (2, 44, 1), [0]⟩]) ⟨fun _ => u5, trivial⟩))
      clear hBt hr hR hP hX hU
      refine wp_seq ?_
      refine region4 [some 45, some 46, none, some 3] [Eqs (.agg #[.bool n_19, .slice a_19 r_19.length c_19]), Eqs (.int .i64 (kOf ((s).extract 1 (s).size))), (fun _ _ => True), Eqs (.int .i64 (kOf ((s).extract 1 (s).size)))] [⟨N2, none, (gs1 0), 2, .agg #[.bool false, .slice none 0 0], some (2, 45, 0), []⟩] [] (by kernel_rfl) hn rfl (by kernel_rfl) (by kernel_rfl) (by kernel_rfl) (by kernel_rfl) (by kernel_rfl) (by kernel_rfl) ⟨Eqs.mono4 _, Eqs.mono4 _, True.mono4, Eqs.mono4 _, trivial⟩ (ok_cons N2ok ok_nil) (IsOld.all (bx := [⟨N2, none, (gs1 0), 2, .agg #[.bool false, .slice none 0 0], some (2, 45, 0), []⟩]) ⟨fun _ => ⟨f2, b2⟩, trivial⟩) (DisOld.all (bx := [⟨N2, none, (gs1 0), 2, .agg #[.bool false, .slice none 0 0], some (2, 45, 0), []⟩]) ⟨fun _ => trivial, trivial⟩) ?_ ?_
      · exact ⟨.norm 45 rfl rfl rfl (fun a_ w_ hn_ hBt hr hR hD hO hS => op_loadv N2ok ((hR 5 rfl).trans f5) (b5.keep hBt ⟨fun _ => ne2_5, trivial⟩)),
          .norm 46 rfl rfl rfl (fun a_ w_ hn_ hBt hr hR hD hO hS => op_mv ((hR 6 rfl).trans f6)),
          .store 0 _ _ _ rfl rfl rfl rfl rfl rfl rfl (fun ia h => by cases h) rfl rfl rfl (eqs_cs n2_cs),
          .norm 3 rfl rfl rfl (fun a_ w_ hn_ hBt hr hR hD hO hS => op_assign (show a_.eval (.tmp 46) = .int .i64 (kOf ((s).extract 1 (s).size)) from hD 1 rfl)),
          trivial⟩
      intro a20 w20 gs20 hn20 hd20 hBt hr hR hP hX hU
      replace hn := hn20; replace hd := hd20.trans hd
      have e45 : a20.eval (.tmp 45) = .agg #[.bool n_19, .slice a_19 r_19.length c_19] := hP 0 (by decide)
      have b2 : BoxV N2 w20 ((gs1 0)) (.agg #[.bool n_19, .slice a_19 r_19.length c_19]) := boxv_old ((hX 0 _ rfl).2.1 rfl) (hX 0 _ rfl).2.2.2 e45
      replace f2 : a20.eval (.tmp 2) = _ := (hR 2 rfl).trans f2
      have e3 : a20.eval (.tmp 3) = .int .i64 (kOf ((s).extract 1 (s).size)) := hP 3 (by decide)
      have f3 := e3
      replace G16 := G16.rl hr
      replace G19 := G19.rl hr
      replace HB := HB.trans (hBt.below HB.size (UpOld.all (bx := [⟨N2, none, (gs1 0), 2, .agg #[.bool false, .slice none 0 0], some (2, 45, 0), []⟩]) ⟨fun _ => u2, trivial⟩))
      clear hBt hr hR hP hX hU
      refine wp_ret ?_
      repeat (first | refine then_ret ?_ | refine scope_ret ?_ | refine block_ret ?_)
      exact bodyPost_ret (v := .tuple #[.agg #[.bool n_19, .slice a_19 r_19.length c_19], .int .i64 (kOf ((s).extract 1 (s).size))]) (res_ct rfl f2 (lv_N2 b2) f3) hd ⟨_, rfl, ⟨_, _, rfl, by rw [zOf, hms]; exact outn_eq rfl G19 l19, by rw [eOf, hms]; rfl⟩, HB⟩
    · skip
      have hms := ms3 hb24 (of_decide_eq_false hc34)
      refine wp_skip ?_
      refine wp_seq ?_
      refine region4 [some 38, some 39, some 37, some 40, some 41, some 5, none, some 6] [Eqs (.string s), Tup2 (OutN (xOf s) (6000)) (Eqs (.int .i64 (kOf s))), Tup2 (OutN (xOf s) (6000)) (Eqs (.int .i64 (kOf s))), OutN (xOf s) (6000), Eqs (.int .i64 (kOf s)), (fun _ _ => True), (fun _ _ => True), Eqs (.int .i64 (kOf s))] [⟨N2, some 5, 0, 5, .agg #[.bool false, .slice none 0 0], some (6, 40, 3), []⟩] [] (by kernel_rfl) hn rfl (by kernel_rfl) (by kernel_rfl) (by kernel_rfl) (by kernel_rfl) (by kernel_rfl) (by kernel_rfl) ⟨Eqs.mono4 _, Tup2.mono4 (OutN.mono4 _ _) (Eqs.mono4 _), Tup2.mono4 (OutN.mono4 _ _) (Eqs.mono4 _), OutN.mono4 _ _, Eqs.mono4 _, True.mono4, True.mono4, Eqs.mono4 _, trivial⟩ (ok_cons N2ok ok_nil) (IsOld.all (bx := [⟨N2, some 5, 0, 5, .agg #[.bool false, .slice none 0 0], some (6, 40, 3), []⟩]) ⟨someNe, trivial⟩) (DisOld.all (bx := [⟨N2, some 5, 0, 5, .agg #[.bool false, .slice none 0 0], some (6, 40, 3), []⟩]) ⟨someNe, trivial⟩) ?_ ?_
      · exact ⟨.norm 38 rfl rfl rfl (fun a_ w_ hn_ hBt hr hR hD hO hS => op_mv ((hR 0 rfl).trans f0)),
          .norm 39 rfl rfl rfl (fun a_ w_ hn_ hBt hr hR hD hO hS => op_natural (show a_.eval (.tmp 38) = .string s from hD 0 rfl)),
          .norm 37 rfl rfl rfl (fun a_ w_ hn_ hBt hr hR hD hO hS => op_mvp (p := Tup2 (OutN (xOf s) (6000)) (Eqs (.int .i64 (kOf s)))) (show Tup2 (OutN (xOf s) (6000)) (Eqs (.int .i64 (kOf s))) (a_.eval (.tmp 39)) w_ from hD 1 rfl)),
          .norm 40 rfl rfl rfl (fun a_ w_ hn_ hBt hr hR hD hO hS => op_ex20 (show Tup2 (OutN (xOf s) (6000)) (Eqs (.int .i64 (kOf s))) (a_.eval (.tmp 37)) w_ from hD 2 rfl)),
          .norm 41 rfl rfl rfl (fun a_ w_ hn_ hBt hr hR hD hO hS => op_ex21 (show Tup2 (OutN (xOf s) (6000)) (Eqs (.int .i64 (kOf s))) (a_.eval (.tmp 37)) w_ from hD 2 rfl)),
          .alloc 0 _ rfl rfl (.inl ⟨rfl, rfl⟩) rfl rfl rfl rfl rfl,
          .store 0 _ _ _ rfl rfl rfl rfl rfl rfl rfl (fun ia h => by cases h; rfl) rfl rfl rfl OutN.cs,
          .norm 6 rfl rfl rfl (fun a_ w_ hn_ hBt hr hR hD hO hS => op_assign (show a_.eval (.tmp 41) = .int .i64 (kOf s) from hD 4 rfl)),
          trivial⟩
      intro a21 w21 gs21 hn21 hd21 hBt hr hR hP hX hU
      replace hn := hn21; replace hd := hd21.trans hd
      have ne2_5 : (gs1 0) ≠ gs21 0 := by have h1 := b2.lt; have h2 := (hX 0 _ rfl).2.2.1 (by simp); omega
      replace b2 := b2.keep hBt ⟨someNe, trivial⟩
      obtain ⟨n_22, a_22, c_22, r_22, e40, G22, l22⟩ : OutN (xOf s) (6000) (a21.eval (.tmp 40)) w21 := hP 3 (by decide)
      have b5 : BoxV N2 w21 (gs21 0) (.agg #[.bool n_22, .slice a_22 r_22.length c_22]) := boxv_of (hX 0 _ rfl).2.2.2 e40
      have f5 := (hX 0 _ rfl).1
      have u5 : w.heap.size ≤ gs21 0 := Nat.le_trans HB.size ((hX 0 _ rfl).2.2.1 (by simp))
      replace f2 := (hR 2 rfl).trans f2
      replace f3 := (hR 3 rfl).trans f3
      replace f4 := (hR 4 rfl).trans f4
      have e6 : a21.eval (.tmp 6) = .int .i64 (kOf s) := hP 7 (by decide)
      have f6 := e6
      replace HB := HB.trans (hBt.below HB.size (UpOld.all (bx := [⟨N2, some 5, 0, 5, .agg #[.bool false, .slice none 0 0], some (6, 40, 3), []⟩]) ⟨someNe, trivial⟩))
      clear hBt hr hR hP hX hU
      refine wp_seq ?_
      refine wp_seq ?_
      refine region4 [some 42] [Eqs ((.bool false))] [] [] (by kernel_rfl) hn rfl (by kernel_rfl) (by kernel_rfl) (by kernel_rfl) (by kernel_rfl) (by kernel_rfl) (by kernel_rfl) ⟨Eqs.mono4 _, trivial⟩ ok_nil (IsOld.all (bx := []) trivial) (DisOld.all (bx := []) trivial) ?_ ?_
      · exact ⟨.norm 42 rfl rfl rfl (fun a_ w_ hn_ hBt hr hR hD hO hS => op_mv ((hR 4 rfl).trans f4)),
          trivial⟩
      intro a23 w23 gs23 hn23 hd23 hBt hr hR hP hX hU
      replace hn := hn23; replace hd := hd23.trans hd
      replace b2 := b2.keep hBt trivial
      replace b5 := b5.keep hBt trivial
      replace f2 := (hR 2 rfl).trans f2
      replace f3 := (hR 3 rfl).trans f3
      replace f5 := (hR 5 rfl).trans f5
      replace f6 := (hR 6 rfl).trans f6
      have e42 : a23.eval (.tmp 42) = (.bool false) := hP 0 (by decide)
      have f42 := e42
      replace G22 := G22.rl hr
      replace HB := HB.trans (hBt.below HB.size (UpOld.all (bx := []) trivial))
      clear hBt hr hR hP hX hU
      refine wp_cond_false f42 ?_
      refine wp_skip ?_
      refine wp_seq ?_
      refine region4 [some 45, some 46, none, some 3] [Eqs (.agg #[.bool n_22, .slice a_22 r_22.length c_22]), Eqs (.int .i64 (kOf s)), (fun _ _ => True), Eqs (.int .i64 (kOf s))] [⟨N2, none, (gs1 0), 2, .agg #[.bool false, .slice none 0 0], some (2, 45, 0), []⟩] [] (by kernel_rfl) hn rfl (by kernel_rfl) (by kernel_rfl) (by kernel_rfl) (by kernel_rfl) (by kernel_rfl) (by kernel_rfl) ⟨Eqs.mono4 _, Eqs.mono4 _, True.mono4, Eqs.mono4 _, trivial⟩ (ok_cons N2ok ok_nil) (IsOld.all (bx := [⟨N2, none, (gs1 0), 2, .agg #[.bool false, .slice none 0 0], some (2, 45, 0), []⟩]) ⟨fun _ => ⟨f2, b2⟩, trivial⟩) (DisOld.all (bx := [⟨N2, none, (gs1 0), 2, .agg #[.bool false, .slice none 0 0], some (2, 45, 0), []⟩]) ⟨fun _ => trivial, trivial⟩) ?_ ?_
      · exact ⟨.norm 45 rfl rfl rfl (fun a_ w_ hn_ hBt hr hR hD hO hS => op_loadv N2ok ((hR 5 rfl).trans f5) (b5.keep hBt ⟨fun _ => ne2_5, trivial⟩)),
          .norm 46 rfl rfl rfl (fun a_ w_ hn_ hBt hr hR hD hO hS => op_mv ((hR 6 rfl).trans f6)),
          .store 0 _ _ _ rfl rfl rfl rfl rfl rfl rfl (fun ia h => by cases h) rfl rfl rfl (eqs_cs n2_cs),
          .norm 3 rfl rfl rfl (fun a_ w_ hn_ hBt hr hR hD hO hS => op_assign (show a_.eval (.tmp 46) = .int .i64 (kOf s) from hD 1 rfl)),
          trivial⟩
      intro a24 w24 gs24 hn24 hd24 hBt hr hR hP hX hU
      replace hn := hn24; replace hd := hd24.trans hd
      have e45 : a24.eval (.tmp 45) = .agg #[.bool n_22, .slice a_22 r_22.length c_22] := hP 0 (by decide)
      have b2 : BoxV N2 w24 ((gs1 0)) (.agg #[.bool n_22, .slice a_22 r_22.length c_22]) := boxv_old ((hX 0 _ rfl).2.1 rfl) (hX 0 _ rfl).2.2.2 e45
      replace f2 : a24.eval (.tmp 2) = _ := (hR 2 rfl).trans f2
      have e3 : a24.eval (.tmp 3) = .int .i64 (kOf s) := hP 3 (by decide)
      have f3 := e3
      replace G22 := G22.rl hr
      replace HB := HB.trans (hBt.below HB.size (UpOld.all (bx := [⟨N2, none, (gs1 0), 2, .agg #[.bool false, .slice none 0 0], some (2, 45, 0), []⟩]) ⟨fun _ => u2, trivial⟩))
      clear hBt hr hR hP hX hU
      refine wp_ret ?_
      repeat (first | refine then_ret ?_ | refine scope_ret ?_ | refine block_ret ?_)
      exact bodyPost_ret (v := .tuple #[.agg #[.bool n_22, .slice a_22 r_22.length c_22], .int .i64 (kOf s)]) (res_ct rfl f2 (lv_N2 b2) f3) hd ⟨_, rfl, ⟨_, _, rfl, by rw [zOf, hms]; exact outn_eq rfl G22 l22, by rw [eOf, hms]; rfl⟩, HB⟩
section
variable {dst : Option Tmp} {ty : TypeId} {pos : String} {after : Array Edge} {guard : Option (Nat × Bool)} {a : Act} {w : World} {ats : Array TypeId} {i j : Nat}
theorem has_number : Has Tryd.prog 45 := by unfold Has; kernel_rfl
theorem op_number {s : ByteArray} (h : a.eval (.tmp i) = .string s) :
    Does Tryd.prog { dst, op := .call { callee := .value (.func 45), args := #[.tmp i], argTypes := ats }, type := ty, pos, after, guard } a.eval w fun v w' => Below w.heap.size w w' ∧ Tup2 (OutN (zOf s) 6000) (Eqs (.int .i64 (eOf s))) v w' := by
  refine does_call has_number _ (by simp only [List.map_toArray, List.map_cons, List.map_nil, h]) ((number_z w s).mono ?_)
  rintro e w' ⟨v, rfl, ht, hb⟩
  exact ⟨_, rfl, hb, ht⟩
end
set_option maxRecDepth 20000 in
set_option maxHeartbeats 1000000 in
theorem r2parse_z (w : World) (s : ByteArray) :
    Calls Tryd.prog 12 #[.string s] w fun e w' => ∃ v, e = .returned v ∧ Tup2 (OutW (zOf s) 6000) (Eqs (.int .i64 (eOf s))) v w' ∧ Below w.heap.size w w' := by
  go_enter Tryd.func12, Tryd.ntmps12
  generalize hA : (Act.mk _ _) = aa
  have hn : aa.tmps.size = 17 := by rw [← hA]; rfl
  have hd : aa.defers = [] := by rw [← hA]
  have f0 : aa.eval (.tmp 0) = .string s := by rw [← hA]; rfl
  clear hA
  have HB : Below w.heap.size w w := Below.refl _ _
  refine wp_seq ?_
  refine region4 [some 2, some 3] [(fun _ _ => True), Eqs ((.int .i64 0))] [⟨W2, some 0, 0, 2, .agg #[.bool false, .slice none 0 0], none, []⟩] [] (by kernel_rfl) hn rfl (by kernel_rfl) (by kernel_rfl) (by kernel_rfl) (by kernel_rfl) (by kernel_rfl) (by kernel_rfl) ⟨True.mono4, Eqs.mono4 _, trivial⟩ (ok_cons W2ok ok_nil) (IsOld.all (bx := [⟨W2, some 0, 0, 2, .agg #[.bool false, .slice none 0 0], none, []⟩]) ⟨someNe, trivial⟩) (DisOld.all (bx := [⟨W2, some 0, 0, 2, .agg #[.bool false, .slice none 0 0], none, []⟩]) ⟨someNe, trivial⟩) ?_ ?_
  · exact ⟨.alloc 0 _ rfl rfl (.inl ⟨rfl, rfl⟩) rfl rfl rfl rfl rfl,
      .norm 3 rfl rfl rfl (fun a_ w_ hn_ hBt hr hR hD hO hS => op_assign rfl),
      trivial⟩
  intro a1 w1 gs1 hn1 hd1 hBt hr hR hP hX hU
  replace hn := hn1; replace hd := hd1.trans hd
  have b2 : BoxV W2 w1 (gs1 0) (.agg #[.bool false, .slice none 0 0]) := (hX 0 _ rfl).2.2.2
  have f2 := (hX 0 _ rfl).1
  have u2 : w.heap.size ≤ gs1 0 := Nat.le_trans HB.size ((hX 0 _ rfl).2.2.1 (by simp))
  replace f0 := (hR 0 rfl).trans f0
  have e3 : a1.eval (.tmp 3) = (.int .i64 0) := hP 1 (by decide)
  have f3 := e3
  replace HB := HB.trans (hBt.below HB.size (UpOld.all (bx := [⟨W2, some 0, 0, 2, .agg #[.bool false, .slice none 0 0], none, []⟩]) ⟨someNe, trivial⟩))
  clear hBt hr hR hP hX hU
  refine wp_seq ?_
  refine region4 [some 7, some 8, some 6, some 9, some 10, some 4, none, some 5] [Eqs (.string s), Tup2 (OutN (zOf s) (6000)) (Eqs (.int .i64 (eOf s))), Tup2 (OutN (zOf s) (6000)) (Eqs (.int .i64 (eOf s))), OutN (zOf s) (6000), Eqs (.int .i64 (eOf s)), (fun _ _ => True), (fun _ _ => True), Eqs (.int .i64 (eOf s))] [⟨N2, some 5, 0, 4, .agg #[.bool false, .slice none 0 0], some (6, 9, 3), []⟩] [] (by kernel_rfl) hn rfl (by kernel_rfl) (by kernel_rfl) (by kernel_rfl) (by kernel_rfl) (by kernel_rfl) (by kernel_rfl) ⟨Eqs.mono4 _, Tup2.mono4 (OutN.mono4 _ _) (Eqs.mono4 _), Tup2.mono4 (OutN.mono4 _ _) (Eqs.mono4 _), OutN.mono4 _ _, Eqs.mono4 _, True.mono4, True.mono4, Eqs.mono4 _, trivial⟩ (ok_cons N2ok ok_nil) (IsOld.all (bx := [⟨N2, some 5, 0, 4, .agg #[.bool false, .slice none 0 0], some (6, 9, 3), []⟩]) ⟨someNe, trivial⟩) (DisOld.all (bx := [⟨N2, some 5, 0, 4, .agg #[.bool false, .slice none 0 0], some (6, 9, 3), []⟩]) ⟨someNe, trivial⟩) ?_ ?_
  · exact ⟨.norm 7 rfl rfl rfl (fun a_ w_ hn_ hBt hr hR hD hO hS => op_mv ((hR 0 rfl).trans f0)),
      .norm 8 rfl rfl rfl (fun a_ w_ hn_ hBt hr hR hD hO hS => op_number (show a_.eval (.tmp 7) = .string s from hD 0 rfl)),
      .norm 6 rfl rfl rfl (fun a_ w_ hn_ hBt hr hR hD hO hS => op_mvp (p := Tup2 (OutN (zOf s) (6000)) (Eqs (.int .i64 (eOf s)))) (show Tup2 (OutN (zOf s) (6000)) (Eqs (.int .i64 (eOf s))) (a_.eval (.tmp 8)) w_ from hD 1 rfl)),
      .norm 9 rfl rfl rfl (fun a_ w_ hn_ hBt hr hR hD hO hS => op_ex20 (show Tup2 (OutN (zOf s) (6000)) (Eqs (.int .i64 (eOf s))) (a_.eval (.tmp 6)) w_ from hD 2 rfl)),
      .norm 10 rfl rfl rfl (fun a_ w_ hn_ hBt hr hR hD hO hS => op_ex21 (show Tup2 (OutN (zOf s) (6000)) (Eqs (.int .i64 (eOf s))) (a_.eval (.tmp 6)) w_ from hD 2 rfl)),
      .alloc 0 _ rfl rfl (.inl ⟨rfl, rfl⟩) rfl rfl rfl rfl rfl,
      .store 0 _ _ _ rfl rfl rfl rfl rfl rfl rfl (fun ia h => by cases h; rfl) rfl rfl rfl OutN.cs,
      .norm 5 rfl rfl rfl (fun a_ w_ hn_ hBt hr hR hD hO hS => op_assign (show a_.eval (.tmp 10) = .int .i64 (eOf s) from hD 4 rfl)),
      trivial⟩
  intro a2 w2 gs2 hn2 hd2 hBt hr hR hP hX hU
  replace hn := hn2; replace hd := hd2.trans hd
  have ne2_4 : (gs1 0) ≠ gs2 0 := by have h1 := b2.lt; have h2 := (hX 0 _ rfl).2.2.1 (by simp); omega
  replace b2 := b2.keep hBt ⟨someNe, trivial⟩
  obtain ⟨n_3, a_3, c_3, r_3, e9, G3, l3⟩ : OutN (zOf s) (6000) (a2.eval (.tmp 9)) w2 := hP 3 (by decide)
  have b4 : BoxV N2 w2 (gs2 0) (.agg #[.bool n_3, .slice a_3 r_3.length c_3]) := boxv_of (hX 0 _ rfl).2.2.2 e9
  have f4 := (hX 0 _ rfl).1
  have u4 : w.heap.size ≤ gs2 0 := Nat.le_trans HB.size ((hX 0 _ rfl).2.2.1 (by simp))
  replace f2 := (hR 2 rfl).trans f2
  replace f3 := (hR 3 rfl).trans f3
  have e5 : a2.eval (.tmp 5) = .int .i64 (eOf s) := hP 7 (by decide)
  have f5 := e5
  replace HB := HB.trans (hBt.below HB.size (UpOld.all (bx := [⟨N2, some 5, 0, 4, .agg #[.bool false, .slice none 0 0], some (6, 9, 3), []⟩]) ⟨someNe, trivial⟩))
  clear hBt hr hR hP hX hU
  refine wp_seq ?_
  refine wp_seq ?_
  refine region4 [some 11, some 12] [Eqs (.int .i64 (eOf s)), Eqs (.bool (!decide ((eOf s) = 0)))] [] [] (by kernel_rfl) hn rfl (by kernel_rfl) (by kernel_rfl) (by kernel_rfl) (by kernel_rfl) (by kernel_rfl) (by kernel_rfl) ⟨Eqs.mono4 _, Eqs.mono4 _, trivial⟩ ok_nil (IsOld.all (bx := []) trivial) (DisOld.all (bx := []) trivial) ?_ ?_
  · exact ⟨.norm 11 rfl rfl rfl (fun a_ w_ hn_ hBt hr hR hD hO hS => op_mv ((hR 5 rfl).trans f5)),
      .norm 12 rfl rfl rfl (fun a_ w_ hn_ hBt hr hR hD hO hS => op_neqk (show a_.eval (.tmp 11) = .int .i64 (eOf s) from hD 0 rfl)),
      trivial⟩
  intro a4 w4 gs4 hn4 hd4 hBt hr hR hP hX hU
  replace hn := hn4; replace hd := hd4.trans hd
  replace b2 := b2.keep hBt trivial
  replace b4 := b4.keep hBt trivial
  replace f2 := (hR 2 rfl).trans f2
  replace f3 := (hR 3 rfl).trans f3
  replace f4 := (hR 4 rfl).trans f4
  replace f5 := (hR 5 rfl).trans f5
  have e12 : a4.eval (.tmp 12) = .bool (!decide ((eOf s) = 0)) := hP 1 (by decide)
  have f12 := e12
  replace G3 := G3.rl hr
  replace HB := HB.trans (hBt.below HB.size (UpOld.all (bx := []) trivial))
  clear hBt hr hR hP hX hU
  refine wp_cond_split f12 (fun hc12 => ?_) (fun hc12 => ?_)
  · skip
    have hk1 : eOf s ≠ 0 := by simpa using hc12
    have hk0 : kOf (msplit s).2 ≠ 0 := hk1
    refine wp_seq ?_
    refine region4 [some 13, some 14, none, some 3] [Eqs (.agg #[.bool false, .slice none 0 0]), Eqs (.int .i64 (eOf s)), (fun _ _ => True), Eqs (.int .i64 (eOf s))] [⟨W2, none, (gs1 0), 2, .agg #[.bool false, .slice none 0 0], some (2, 13, 0), []⟩] [] (by kernel_rfl) hn rfl (by kernel_rfl) (by kernel_rfl) (by kernel_rfl) (by kernel_rfl) (by kernel_rfl) (by kernel_rfl) ⟨Eqs.mono4 _, Eqs.mono4 _, True.mono4, Eqs.mono4 _, trivial⟩ (ok_cons W2ok ok_nil) (IsOld.all (bx := [⟨W2, none, (gs1 0), 2, .agg #[.bool false, .slice none 0 0], some (2, 13, 0), []⟩]) ⟨fun _ => ⟨f2, b2⟩, trivial⟩) (DisOld.all (bx := [⟨W2, none, (gs1 0), 2, .agg #[.bool false, .slice none 0 0], some (2, 13, 0), []⟩]) ⟨fun _ => trivial, trivial⟩) ?_ ?_
    · exact ⟨.norm 13 rfl rfl rfl (fun a_ w_ hn_ hBt hr hR hD hO hS => op_bW0),
        .norm 14 rfl rfl rfl (fun a_ w_ hn_ hBt hr hR hD hO hS => op_mv ((hR 5 rfl).trans f5)),
        .store 0 _ _ _ rfl rfl rfl rfl rfl rfl rfl (fun ia h => by cases h) rfl rfl rfl (eqs_cs w2_cs),
        .norm 3 rfl rfl rfl (fun a_ w_ hn_ hBt hr hR hD hO hS => op_assign (show a_.eval (.tmp 14) = .int .i64 (eOf s) from hD 1 rfl)),
        trivial⟩
    intro a5 w5 gs5 hn5 hd5 hBt hr hR hP hX hU
    replace hn := hn5; replace hd := hd5.trans hd
    replace b4 := b4.keep hBt ⟨fun _ => ne2_4, trivial⟩
    have e13 : a5.eval (.tmp 13) = .agg #[.bool false, .slice none 0 0] := hP 0 (by decide)
    have b2 : BoxV W2 w5 ((gs1 0)) (.agg #[.bool false, .slice none 0 0]) := boxv_old ((hX 0 _ rfl).2.1 rfl) (hX 0 _ rfl).2.2.2 e13
    replace f2 : a5.eval (.tmp 2) = _ := (hR 2 rfl).trans f2
    replace f4 := (hR 4 rfl).trans f4
    have e3 : a5.eval (.tmp 3) = .int .i64 (eOf s) := hP 3 (by decide)
    have f3 := e3
    replace G3 := G3.rl hr
    replace HB := HB.trans (hBt.below HB.size (UpOld.all (bx := [⟨W2, none, (gs1 0), 2, .agg #[.bool false, .slice none 0 0], some (2, 13, 0), []⟩]) ⟨fun _ => u2, trivial⟩))
    clear hBt hr hR hP hX hU
    refine wp_ret ?_
    repeat (first | refine then_ret ?_ | refine scope_ret ?_ | refine block_ret ?_)
    exact bodyPost_ret (v := .tuple #[.agg #[.bool false, .slice none 0 0], .int .i64 (eOf s)]) (res_ct rfl f2 (lv_W2 b2) f3) hd ⟨_, rfl, ⟨_, _, rfl, by rw [zOf, xOf_zero hk0]; exact outw_zero _, rfl⟩, HB⟩
  · skip
    have hk0 : eOf s = 0 := by simpa using hc12
    refine wp_skip ?_
    refine wp_seq ?_
    refine region4 [some 15, some 16, none, some 3] [Eqs (.agg #[.bool n_3, .slice a_3 r_3.length c_3]), OutW (zOf s) (6000), (fun _ _ => True), Eqs ((.int .i64 0))] [⟨W2, none, (gs1 0), 2, .agg #[.bool false, .slice none 0 0], some (2, 16, 1), []⟩] [] (by kernel_rfl) hn rfl (by kernel_rfl) (by kernel_rfl) (by kernel_rfl) (by kernel_rfl) (by kernel_rfl) (by kernel_rfl) ⟨Eqs.mono4 _, OutW.mono4 _ _, True.mono4, Eqs.mono4 _, trivial⟩ (ok_cons W2ok ok_nil) (IsOld.all (bx := [⟨W2, none, (gs1 0), 2, .agg #[.bool false, .slice none 0 0], some (2, 16, 1), []⟩]) ⟨fun _ => ⟨f2, b2⟩, trivial⟩) (DisOld.all (bx := [⟨W2, none, (gs1 0), 2, .agg #[.bool false, .slice none 0 0], some (2, 16, 1), []⟩]) ⟨fun _ => trivial, trivial⟩) ?_ ?_
    · exact ⟨.norm 15 rfl rfl rfl (fun a_ w_ hn_ hBt hr hR hD hO hS => op_loadv N2ok ((hR 4 rfl).trans f4) (b4.keep hBt ⟨fun _ => ne2_4, trivial⟩)),
        .norm 16 rfl rfl rfl (fun a_ w_ hn_ hBt hr hR hD hO hS => op_ntold (outn_eq (show a_.eval (.tmp 15) = .agg #[.bool n_3, .slice a_3 r_3.length c_3] from hD 0 rfl) (G3.rl hr) l3) (by omega)),
        .store 0 _ _ _ rfl rfl rfl rfl rfl rfl rfl (fun ia h => by cases h) rfl rfl rfl OutW.cs,
        .norm 3 rfl rfl rfl (fun a_ w_ hn_ hBt hr hR hD hO hS => op_assign rfl),
        trivial⟩
    intro a6 w6 gs6 hn6 hd6 hBt hr hR hP hX hU
    replace hn := hn6; replace hd := hd6.trans hd
    obtain ⟨n_7, a_7, c_7, r_7, e16, G7, l7⟩ : OutW (zOf s) (6000) (a6.eval (.tmp 16)) w6 := hP 1 (by decide)
    have A7 := G7.ag
    have b2 : BoxV W2 w6 ((gs1 0)) (.agg #[.bool n_7, .slice a_7 r_7.length c_7]) := boxv_old ((hX 0 _ rfl).2.1 rfl) (hX 0 _ rfl).2.2.2 e16
    replace f2 : a6.eval (.tmp 2) = _ := (hR 2 rfl).trans f2
    have e3 : a6.eval (.tmp 3) = (.int .i64 0) := hP 3 (by decide)
    have f3 := e3
    replace G3 := G3.rl hr
    replace HB := HB.trans (hBt.below HB.size (UpOld.all (bx := [⟨W2, none, (gs1 0), 2, .agg #[.bool false, .slice none 0 0], some (2, 16, 1), []⟩]) ⟨fun _ => u2, trivial⟩))
    clear hBt hr hR hP hX hU
    refine wp_ret ?_
    repeat (first | refine then_ret ?_ | refine scope_ret ?_ | refine block_ret ?_)
    exact bodyPost_ret (v := .tuple #[.agg #[.bool n_7, .slice a_7 r_7.length c_7], (.int .i64 0)]) (res_ct rfl f2 (lv_W2 b2) f3) hd ⟨_, rfl, ⟨_, _, rfl, outw_eq rfl G7 l7, by rw [hk0]; rfl⟩, HB⟩
end Lm
end Go.Proofs.YtdiiankcjgoecaaDoor

namespace Go.Proofs.YtdiiankcjgoecaaDoor
namespace Lm
open Go Go.RowKit
noncomputable def dig (x : Int) : List Int := @Classical.epsilon (List Int) ⟨[]⟩ fun ds => IsDec ds x
theorem dig_eq {ds : List Int} {x : Int} (h : IsDec ds x) : ds = dig x := isDec_one h (@Classical.epsilon_spec (List Int) (fun ds => IsDec ds x) ⟨ds, h⟩)
noncomputable def txt (z : Int) : ByteArray := if z < 0 then strOfNums (45 :: dig (z.natAbs : Int)) else strOfNums (dig (z.natAbs : Int))
theorem sg_abs {b : Bool} {x z : Int} (hx : 0 ≤ x) (h : sg b x = z) : x = (z.natAbs : Int) := by
  subst h
  cases b <;> simp [sg] <;> omega
section
variable {dst : Option Tmp} {ty : TypeId} {pos : String} {after : Array Edge} {guard : Option (Nat × Bool)} {a : Act} {w : World} {ats : Array TypeId} {i j : Nat} {z : Int} {L : Nat}
theorem has_wtext0 : Has Tryd.prog 13 := by unfold Has; kernel_rfl
theorem op_wtext (h : IsW z L (a.eval (.tmp i)) w) (hL : L ≤ 1000000) :
    Does Tryd.prog { dst, op := .call { callee := .value (.func 13), args := #[.tmp i], argTypes := ats }, type := ty, pos, after, guard } a.eval w fun v w' => Below w.heap.size w w' ∧ Eqs (.string (txt z)) v w' := by
  obtain ⟨ng, ao, n, cap, zs, e, A, l⟩ := h
  have hx := sg_abs (val_bounds A.sl.parts.2.2.2).1 A.worth
  by_cases hz : z < 0
  · refine does_call has_wtext0 _ (by simp only [List.map_toArray, List.map_cons, List.map_nil, e]) ((wtext_neg w ng ao n cap zs A.sl (by omega) (by rw [A.worth]; exact hz)).mono ?_)
    rintro e w' ⟨ds, rfl, hd, hb⟩
    refine ⟨_, rfl, hb, ?_⟩
    rw [hx] at hd
    rw [txt, if_pos hz, ← dig_eq hd]
    rfl
  · refine does_call has_wtext0 _ (by simp only [List.map_toArray, List.map_cons, List.map_nil, e]) ((wtext_pos w ng ao n cap zs A.sl (by omega) (by rw [A.worth]; exact hz)).mono ?_)
    rintro e w' ⟨ds, rfl, hd, hb⟩
    refine ⟨_, rfl, hb, ?_⟩
    rw [hx] at hd
    rw [txt, if_neg hz, ← dig_eq hd]
    rfl
theorem has_ntext : Has Tryd.prog 49 := by unfold Has; kernel_rfl
theorem op_ntext (h : OutN z L (a.eval (.tmp i)) w) (hL : L ≤ 100000) :
    Does Tryd.prog { dst, op := .call { callee := .value (.func 49), args := #[.tmp i], argTypes := ats }, type := ty, pos, after, guard } a.eval w fun v w' => Below w.heap.size w w' ∧ Eqs (.string (txt z)) v w' := by
  obtain ⟨ng, ao, cap, rs, e, ⟨G, hs⟩, l⟩ := h
  subst hs
  by_cases hz : z < 0
  · have h0 : 0 < rs.length := by
      apply Nat.pos_of_ne_zero
      intro h
      have hv := G.2.2
      rw [List.eq_nil_of_length_eq_zero h] at hv
      simp only [Dm.val] at hv
      omega
    rw [decide_eq_true hz] at e
    refine does_call has_ntext _ (by simp only [List.map_toArray, List.map_cons, List.map_nil, e]) ((Dm.rtext_minus w ao cap rs _ G (by omega) h0).mono ?_)
    rintro e w' ⟨ds, rfl, hd, hb⟩
    refine ⟨_, rfl, hb, ?_⟩
    rw [txt, if_pos hz, ← dig_eq hd]
    rfl
  · rw [decide_eq_false hz] at e
    by_cases h0 : 0 < rs.length
    · refine does_call has_ntext _ (by simp only [List.map_toArray, List.map_cons, List.map_nil, e]) ((Dm.rtext_pos w ao cap rs _ G (by omega) h0).mono ?_)
      rintro e w' ⟨ds, rfl, hd, hb⟩
      refine ⟨_, rfl, hb, ?_⟩
      rw [txt, if_neg hz, ← dig_eq hd]
      rfl
    · obtain rfl : rs = [] := List.eq_nil_of_length_eq_zero (by omega)
      have hv := G.2.2
      simp only [Dm.val] at hv
      refine does_call has_ntext _ (by simp only [List.map_toArray, List.map_cons, List.map_nil, e, List.length_nil]) ((Dm.rtext_zero w ao cap).mono ?_)
      rintro e w' ⟨ds, rfl, hd, hb⟩
      refine ⟨_, rfl, hb, ?_⟩
      rw [txt, if_neg hz, ← hv, ← dig_eq hd]
      rfl
end
set_option maxRecDepth 20000 in
set_option maxHeartbeats 1000000 in
theorem r2text_z (w : World) (L : Nat) (hL : L ≤ 30000) (nx : Bool) (ax : Option Addr) (mx cx : Nat) (xs : List Int) (zx : Int) (Ax : Ag w nx ax mx cx xs zx) (Lx : xs.length ≤ L) :
    Calls Tryd.prog 15 #[.agg #[.bool nx, .slice ax mx cx]] w fun e w' => e = .returned (.string (txt zx)) ∧ Below w.heap.size w w' := by
  go_enter Tryd.func15, Tryd.ntmps15
  generalize hA : (Act.mk _ _) = aa
  have hn : aa.tmps.size = 6 := by rw [← hA]; rfl
  have hd : aa.defers = [] := by rw [← hA]
  have f0 : aa.eval (.tmp 0) = .agg #[.bool nx, .slice ax mx cx] := by rw [← hA]; rfl
  clear hA
  have HB : Below w.heap.size w w := Below.refl _ _
  refine wp_seq ?_
  refine region4 [some 1, some 2] [(fun _ _ => True), Eqs ((.string ⟨#[]⟩))] [⟨W2, some 0, 0, 1, .agg #[.bool nx, .slice ax mx cx], none, []⟩] [] (by kernel_rfl) hn rfl (by kernel_rfl) (by kernel_rfl) (by kernel_rfl) (by kernel_rfl) (by kernel_rfl) (by kernel_rfl) ⟨True.mono4, Eqs.mono4 _, trivial⟩ (ok_cons W2ok ok_nil) (IsOld.all (bx := [⟨W2, some 0, 0, 1, .agg #[.bool nx, .slice ax mx cx], none, []⟩]) ⟨someNe, trivial⟩) (DisOld.all (bx := [⟨W2, some 0, 0, 1, .agg #[.bool nx, .slice ax mx cx], none, []⟩]) ⟨someNe, trivial⟩) ?_ ?_
  · exact ⟨.alloc 0 _ rfl rfl (.inr ⟨_, rfl, w2_cs, fun a_ hR => (hR 0 rfl).trans f0⟩) rfl rfl rfl rfl rfl,
      .norm 2 rfl rfl rfl (fun a_ w_ hn_ hBt hr hR hD hO hS => op_assign rfl),
      trivial⟩
  intro a1 w1 gs1 hn1 hd1 hBt hr hR hP hX hU
  replace hn := hn1; replace hd := hd1.trans hd
  have b1 : BoxV W2 w1 (gs1 0) (.agg #[.bool nx, .slice ax mx cx]) := (hX 0 _ rfl).2.2.2
  have f1 := (hX 0 _ rfl).1
  have u1 : w.heap.size ≤ gs1 0 := Nat.le_trans HB.size ((hX 0 _ rfl).2.2.1 (by simp))
  have e2 : a1.eval (.tmp 2) = (.string ⟨#[]⟩) := hP 1 (by decide)
  have f2 := e2
  replace Ax := Ax.rl hr
  replace HB := HB.trans (hBt.below HB.size (UpOld.all (bx := [⟨W2, some 0, 0, 1, .agg #[.bool nx, .slice ax mx cx], none, []⟩]) ⟨someNe, trivial⟩))
  clear hBt hr hR hP hX hU
  refine wp_seq ?_
  refine region4 [some 3, some 4, some 5, some 2] [Eqs (.agg #[.bool nx, .slice ax mx cx]), OutN (zx) (3 * (L)), Eqs (.string (txt zx)), Eqs (.string (txt zx))] [] [] (by kernel_rfl) hn rfl (by kernel_rfl) (by kernel_rfl) (by kernel_rfl) (by kernel_rfl) (by kernel_rfl) (by kernel_rfl) ⟨Eqs.mono4 _, OutN.mono4 _ _, Eqs.mono4 _, Eqs.mono4 _, trivial⟩ ok_nil (IsOld.all (bx := []) trivial) (DisOld.all (bx := []) trivial) ?_ ?_
  · exact ⟨.norm 3 rfl rfl rfl (fun a_ w_ hn_ hBt hr hR hD hO hS => op_loadv W2ok ((hR 1 rfl).trans f1) (b1.keep hBt trivial)),
      .norm 4 rfl rfl rfl (fun a_ w_ hn_ hBt hr hR hD hO hS => op_nof (L := L) (isw_eq (show a_.eval (.tmp 3) = .agg #[.bool nx, .slice ax mx cx] from hD 0 rfl) (Ax.rl hr) Lx) (by omega)),
      .norm 5 rfl rfl rfl (fun a_ w_ hn_ hBt hr hR hD hO hS => op_ntext (show OutN (zx) (3 * (L)) (a_.eval (.tmp 4)) w_ from hD 1 rfl) (by omega)),
      .norm 2 rfl rfl rfl (fun a_ w_ hn_ hBt hr hR hD hO hS => op_assign (show a_.eval (.tmp 5) = .string (txt zx) from hD 2 rfl)),
      trivial⟩
  intro a2 w2 gs2 hn2 hd2 hBt hr hR hP hX hU
  replace hn := hn2; replace hd := hd2.trans hd
  have e2 : a2.eval (.tmp 2) = .string (txt zx) := hP 3 (by decide)
  have f2 := e2
  replace Ax := Ax.rl hr
  replace HB := HB.trans (hBt.below HB.size (UpOld.all (bx := []) trivial))
  clear hBt hr hR hP hX hU
  refine wp_ret ?_
  repeat (first | refine then_ret ?_ | refine scope_ret ?_ | refine block_ret ?_)
  exact bodyPost_ret (v := .string (txt zx)) (res_t rfl f2) hd ⟨rfl, HB⟩
section
variable {dst : Option Tmp} {ty : TypeId} {pos : String} {after : Array Edge} {guard : Option (Nat × Bool)} {a : Act} {w : World} {ats : Array TypeId} {i j : Nat} {z : Int} {L : Nat}
theorem has_r2text : Has Tryd.prog 15 := by unfold Has; kernel_rfl
theorem op_r2text (h : IsW z L (a.eval (.tmp i)) w) (hL : L ≤ 30000) :
    Does Tryd.prog { dst, op := .call { callee := .value (.func 15), args := #[.tmp i], argTypes := ats }, type := ty, pos, after, guard } a.eval w fun v w' => Below w.heap.size w w' ∧ Eqs (.string (txt z)) v w' := by
  obtain ⟨ng, ao, n, cap, zs, e, A, l⟩ := h
  refine does_call has_r2text _ (by simp only [List.map_toArray, List.map_cons, List.map_nil, e]) ((r2text_z w L hL _ _ _ _ _ _ A l).mono ?_)
  rintro e w' ⟨rfl, hb⟩
  exact ⟨_, rfl, hb, rfl⟩
theorem num_w (w : World) (u : Int) : Calls Tryd.prog 16 #[.int .i64 u] w fun e w' => e = .returned (.int .i64 u) ∧ w' = w := by
  go_enter Tryd.func16, Tryd.ntmps16
  go_wp2
  go_ret
  exact ⟨rfl, rfl⟩
theorem has_num0 : Has Tryd.prog 16 := by unfold Has; kernel_rfl
theorem op_num0 {u : Int} (h : a.eval (.tmp i) = .int .i64 u) :
    Does Tryd.prog { dst, op := .call { callee := .value (.func 16), args := #[.tmp i], argTypes := ats }, type := ty, pos, after, guard } a.eval w fun v w' => Below w.heap.size w w' ∧ Eqs (.int .i64 u) v w' := by
  refine does_call has_num0 _ (by simp only [List.map_toArray, List.map_cons, List.map_nil, h]) ((num_w w u).mono ?_)
  rintro e w' ⟨rfl, rfl⟩
  exact ⟨_, rfl, Below.refl _ _, rfl⟩
theorem has_wparse : Has Tryd.prog 11 := by unfold Has; kernel_rfl
theorem op_wparse {s : ByteArray} (h : a.eval (.tmp i) = .string s) (hT : Tabs w) :
    Does Tryd.prog { dst, op := .call { callee := .value (.func 11), args := #[.tmp i], argTypes := ats }, type := ty, pos, after, guard } a.eval w fun v w' => Below w.heap.size w w' ∧ Tup2 (OutW (zOf s) 6000) (Eqs (.int .i64 (eOf s))) v w' := by
  refine does_call has_wparse _ (by simp only [List.map_toArray, List.map_cons, List.map_nil, h]) ((wparse_z w s hT).mono ?_)
  rintro e w' ⟨v, rfl, ht, hb⟩
  exact ⟨_, rfl, hb, ht⟩
theorem has_r2parse : Has Tryd.prog 12 := by unfold Has; kernel_rfl
theorem op_r2parse {s : ByteArray} (h : a.eval (.tmp i) = .string s) :
    Does Tryd.prog { dst, op := .call { callee := .value (.func 12), args := #[.tmp i], argTypes := ats }, type := ty, pos, after, guard } a.eval w fun v w' => Below w.heap.size w w' ∧ Tup2 (OutW (zOf s) 6000) (Eqs (.int .i64 (eOf s))) v w' := by
  refine does_call has_r2parse _ (by simp only [List.map_toArray, List.map_cons, List.map_nil, h]) ((r2parse_z w s).mono ?_)
  rintro e w' ⟨v, rfl, ht, hb⟩
  exact ⟨_, rfl, hb, ht⟩
theorem has_wawakeD : Has Tryd.prog 9 := by unfold Has; kernel_rfl
theorem op_wawakeD : Does Tryd.prog { dst, op := .call { callee := .value (.func 9), args := #[], argTypes := ats }, type := ty, pos, after, guard } a.eval w fun v w' => Below w.heap.size w w' ∧ Eqs (.bool true) v w' := by
  refine does_call has_wawakeD #[] (by simp) ((wawake_any w).mono ?_)
  rintro e w' ⟨rfl, hb⟩
  exact ⟨_, rfl, hb, rfl⟩
end
end Lm
end Go.Proofs.YtdiiankcjgoecaaDoor

namespace Go.Proofs.YtdiiankcjgoecaaDoor
namespace Lm
open Go Go.RowKit
set_option maxRecDepth 20000 in
set_option maxHeartbeats 4000000 in
theorem wtexts_law (w : World) (s : ByteArray) (nx : Bool) (ax : Option Addr) (mx cx : Nat) (xs : List Int) (zx : Int) (hT : Tabs w) (Ax : Ag w nx ax mx cx xs zx) (gx : mx ≤ 35184372088832) :
    Calls Tryd.prog 3 #[.string s, .agg #[.bool nx, .slice ax mx cx]] w fun e w' => e = .returned (.bool true) ∧ Below w.heap.size w w' := by
  go_enter Tryd.func3, Tryd.ntmps3
  generalize hA : (Act.mk _ _) = aa
  have hn : aa.tmps.size = 41 := by rw [← hA]; rfl
  have hd : aa.defers = [] := by rw [← hA]
  have f0 : aa.eval (.tmp 0) = .string s := by rw [← hA]; rfl
  have f1 : aa.eval (.tmp 1) = .agg #[.bool nx, .slice ax mx cx] := by rw [← hA]; rfl
  clear hA
  have HB : Below w.heap.size w w := Below.refl _ _
  have Ax0 := Ax
  refine wp_seq ?_
  refine region4 [some 3, some 4] [(fun _ _ => True), Eqs ((.bool false))] [⟨W2, some 0, 0, 3, .agg #[.bool nx, .slice ax mx cx], none, []⟩] [] (by kernel_rfl) hn rfl (by kernel_rfl) (by kernel_rfl) (by kernel_rfl) (by kernel_rfl) (by kernel_rfl) (by kernel_rfl) ⟨True.mono4, Eqs.mono4 _, trivial⟩ (ok_cons W2ok ok_nil) (IsOld.all (bx := [⟨W2, some 0, 0, 3, .agg #[.bool nx, .slice ax mx cx], none, []⟩]) ⟨someNe, trivial⟩) (DisOld.all (bx := [⟨W2, some 0, 0, 3, .agg #[.bool nx, .slice ax mx cx], none, []⟩]) ⟨someNe, trivial⟩) ?_ ?_
  · exact ⟨.alloc 0 _ rfl rfl (.inr ⟨_, rfl, w2_cs, fun a_ hR => (hR 1 rfl).trans f1⟩) rfl rfl rfl rfl rfl,
      .norm 4 rfl rfl rfl (fun a_ w_ hn_ hBt hr hR hD hO hS => op_assign rfl),
      trivial⟩
  intro a1 w1 gs1 hn1 hd1 hBt hr hR hP hX hU
  replace hn := hn1; replace hd := hd1.trans hd
  have b3 : BoxV W2 w1 (gs1 0) (.agg #[.bool nx, .slice ax mx cx]) := (hX 0 _ rfl).2.2.2
  have f3 := (hX 0 _ rfl).1
  have u3 : w.heap.size ≤ gs1 0 := Nat.le_trans HB.size ((hX 0 _ rfl).2.2.1 (by simp))
  replace f0 := (hR 0 rfl).trans f0
  have e4 : a1.eval (.tmp 4) = (.bool false) := hP 1 (by decide)
  have f4 := e4
  replace Ax := Ax.rl hr
  replace HB := HB.trans (hBt.below HB.size (UpOld.all (bx := [⟨W2, some 0, 0, 3, .agg #[.bool nx, .slice ax mx cx], none, []⟩]) ⟨someNe, trivial⟩))
  clear hBt hr hR hP hX hU
  refine wp_seq ?_
  refine wp_seq ?_
  refine region4 [some 9, some 10] [Eqs (.bool true), Eqs (.bool false)] [] [] (by kernel_rfl) hn rfl (by kernel_rfl) (by kernel_rfl) (by kernel_rfl) (by kernel_rfl) (by kernel_rfl) (by kernel_rfl) ⟨Eqs.mono4 _, Eqs.mono4 _, trivial⟩ ok_nil (IsOld.all (bx := []) trivial) (DisOld.all (bx := []) trivial) ?_ ?_
  · exact ⟨.norm 9 rfl rfl rfl (fun a_ w_ hn_ hBt hr hR hD hO hS => op_wawakeD),
      .norm 10 rfl rfl rfl (fun a_ w_ hn_ hBt hr hR hD hO hS => op_not (show a_.eval (.tmp 9) = .bool true from hD 0 rfl)),
      trivial⟩
  intro a2 w2 gs2 hn2 hd2 hBt hr hR hP hX hU
  replace hn := hn2; replace hd := hd2.trans hd
  replace b3 := b3.keep hBt trivial
  replace f0 := (hR 0 rfl).trans f0
  replace f3 := (hR 3 rfl).trans f3
  replace f4 := (hR 4 rfl).trans f4
  have e10 : a2.eval (.tmp 10) = .bool false := hP 1 (by decide)
  have f10 := e10
  replace Ax := Ax.rl hr
  replace HB := HB.trans (hBt.below HB.size (UpOld.all (bx := []) trivial))
  clear hBt hr hR hP hX hU
  refine wp_cond_false f10 ?_
  refine wp_skip ?_
  refine wp_seq ?_
  refine wp_seq ?_
  refine region4 [some 11, some 12, some 13] [Eqs (.agg #[.bool nx, .slice ax mx cx]), Eqs (.int .i64 (1 + (mx : Int))), Eqs (.bool (decide (1500 < (1 + (mx : Int)))))] [] [] (by kernel_rfl) hn rfl (by kernel_rfl) (by kernel_rfl) (by kernel_rfl) (by kernel_rfl) (by kernel_rfl) (by kernel_rfl) ⟨Eqs.mono4 _, Eqs.mono4 _, Eqs.mono4 _, trivial⟩ ok_nil (IsOld.all (bx := []) trivial) (DisOld.all (bx := []) trivial) ?_ ?_
  · exact ⟨.norm 11 rfl rfl rfl (fun a_ w_ hn_ hBt hr hR hD hO hS => op_loadv W2ok ((hR 3 rfl).trans f3) (b3.keep hBt trivial)),
      .norm 12 rfl rfl rfl (fun a_ w_ hn_ hBt hr hR hD hO hS => op_lenw (show a_.eval (.tmp 11) = .agg #[.bool nx, .slice ax mx cx] from hD 0 rfl) (by omega)),
      .norm 13 rfl rfl rfl (fun a_ w_ hn_ hBt hr hR hD hO hS => op_gtrk (show a_.eval (.tmp 12) = .int .i64 (1 + (mx : Int)) from hD 1 rfl)),
      trivial⟩
  intro a3 w3 gs3 hn3 hd3 hBt hr hR hP hX hU
  replace hn := hn3; replace hd := hd3.trans hd
  replace b3 := b3.keep hBt trivial
  replace f0 := (hR 0 rfl).trans f0
  replace f3 := (hR 3 rfl).trans f3
  replace f4 := (hR 4 rfl).trans f4
  have e13 : a3.eval (.tmp 13) = .bool (decide (1500 < (1 + (mx : Int)))) := hP 2 (by decide)
  have f13 := e13
  replace Ax := Ax.rl hr
  replace HB := HB.trans (hBt.below HB.size (UpOld.all (bx := []) trivial))
  clear hBt hr hR hP hX hU
  refine wp_cond_split f13 (fun hc13 => ?_) (fun hc13 => ?_)
  · skip
    refine wp_seq ?_
    refine region4 [some 4] [Eqs ((.bool true))] [] [] (by kernel_rfl) hn rfl (by kernel_rfl) (by kernel_rfl) (by kernel_rfl) (by kernel_rfl) (by kernel_rfl) (by kernel_rfl) ⟨Eqs.mono4 _, trivial⟩ ok_nil (IsOld.all (bx := []) trivial) (DisOld.all (bx := []) trivial) ?_ ?_
    · exact ⟨.norm 4 rfl rfl rfl (fun a_ w_ hn_ hBt hr hR hD hO hS => op_assign rfl),
        trivial⟩
    intro a4 w4 gs4 hn4 hd4 hBt hr hR hP hX hU
    replace hn := hn4; replace hd := hd4.trans hd
    replace b3 := b3.keep hBt trivial
    replace f0 := (hR 0 rfl).trans f0
    replace f3 := (hR 3 rfl).trans f3
    have e4 : a4.eval (.tmp 4) = (.bool true) := hP 0 (by decide)
    have f4 := e4
    replace Ax := Ax.rl hr
    replace HB := HB.trans (hBt.below HB.size (UpOld.all (bx := []) trivial))
    clear hBt hr hR hP hX hU
    refine wp_ret ?_
    repeat (first | refine then_ret ?_ | refine scope_ret ?_ | refine block_ret ?_)
    exact bodyPost_ret (v := .bool true) (res_t rfl f4) hd ⟨rfl, HB⟩
  · skip
    have hlen := of_decide_eq_false hc13
    have ox := Ax.sl.parts.1; have Lx : xs.length ≤ 1500 := by omega
    refine wp_skip ?_
    refine wp_seq ?_
    refine region4 [some 15, some 16, some 14, some 17, some 18, some 5, none, some 6] [Eqs (.string s), Tup2 (OutW (zOf s) (6000)) (Eqs (.int .i64 (eOf s))), Tup2 (OutW (zOf s) (6000)) (Eqs (.int .i64 (eOf s))), OutW (zOf s) (6000), Eqs (.int .i64 (eOf s)), (fun _ _ => True), (fun _ _ => True), Eqs (.int .i64 (eOf s))] [⟨W2, some 5, 0, 5, .agg #[.bool false, .slice none 0 0], some (6, 17, 3), []⟩] [] (by kernel_rfl) hn rfl (by kernel_rfl) (by kernel_rfl) (by kernel_rfl) (by kernel_rfl) (by kernel_rfl) (by kernel_rfl) ⟨Eqs.mono4 _, Tup2.mono4 (OutW.mono4 _ _) (Eqs.mono4 _), Tup2.mono4 (OutW.mono4 _ _) (Eqs.mono4 _), OutW.mono4 _ _, Eqs.mono4 _, True.mono4, True.mono4, Eqs.mono4 _, trivial⟩ (ok_cons W2ok ok_nil) (IsOld.all (bx := [⟨W2, some 5, 0, 5, .agg #[.bool false, .slice none 0 0], some (6, 17, 3), []⟩]) ⟨someNe, trivial⟩) (DisOld.all (bx := [⟨W2, some 5, 0, 5, .agg #[.bool false, .slice none 0 0], some (6, 17, 3), []⟩]) ⟨someNe, trivial⟩) ?_ ?_
    · exact ⟨.norm 15 rfl rfl rfl (fun a_ w_ hn_ hBt hr hR hD hO hS => op_mv ((hR 0 rfl).trans f0)),
        .norm 16 rfl rfl rfl (fun a_ w_ hn_ hBt hr hR hD hO hS => op_wparse (show a_.eval (.tmp 15) = .string s from hD 0 rfl) (hT.below (HB.trans (hBt.below HB.size (UpOld.all (bx := [⟨W2, some 5, 0, 5, .agg #[.bool false, .slice none 0 0], some (6, 17, 3), []⟩]) ⟨someNe, trivial⟩))))),
        .norm 14 rfl rfl rfl (fun a_ w_ hn_ hBt hr hR hD hO hS => op_mvp (p := Tup2 (OutW (zOf s) (6000)) (Eqs (.int .i64 (eOf s)))) (show Tup2 (OutW (zOf s) (6000)) (Eqs (.int .i64 (eOf s))) (a_.eval (.tmp 16)) w_ from hD 1 rfl)),
        .norm 17 rfl rfl rfl (fun a_ w_ hn_ hBt hr hR hD hO hS => op_ex20 (show Tup2 (OutW (zOf s) (6000)) (Eqs (.int .i64 (eOf s))) (a_.eval (.tmp 14)) w_ from hD 2 rfl)),
        .norm 18 rfl rfl rfl (fun a_ w_ hn_ hBt hr hR hD hO hS => op_ex21 (show Tup2 (OutW (zOf s) (6000)) (Eqs (.int .i64 (eOf s))) (a_.eval (.tmp 14)) w_ from hD 2 rfl)),
        .alloc 0 _ rfl rfl (.inl ⟨rfl, rfl⟩) rfl rfl rfl rfl rfl,
        .store 0 _ _ _ rfl rfl rfl rfl rfl rfl rfl (fun ia h => by cases h; rfl) rfl rfl rfl OutW.cs,
        .norm 6 rfl rfl rfl (fun a_ w_ hn_ hBt hr hR hD hO hS => op_assign (show a_.eval (.tmp 18) = .int .i64 (eOf s) from hD 4 rfl)),
        trivial⟩
    intro a5 w5 gs5 hn5 hd5 hBt hr hR hP hX hU
    replace hn := hn5; replace hd := hd5.trans hd
    replace b3 := b3.keep hBt ⟨someNe, trivial⟩
    obtain ⟨n_6, a_6, c_6, r_6, e17, G6, l6⟩ : OutW (zOf s) (6000) (a5.eval (.tmp 17)) w5 := hP 3 (by decide)
    have A6 := G6.ag
    have b5 : BoxV W2 w5 (gs5 0) (.agg #[.bool n_6, .slice a_6 r_6.length c_6]) := boxv_of (hX 0 _ rfl).2.2.2 e17
    have f5 := (hX 0 _ rfl).1
    have u5 : w.heap.size ≤ gs5 0 := Nat.le_trans HB.size ((hX 0 _ rfl).2.2.1 (by simp))
    replace f0 := (hR 0 rfl).trans f0
    replace f3 := (hR 3 rfl).trans f3
    replace f4 := (hR 4 rfl).trans f4
    have e6 : a5.eval (.tmp 6) = .int .i64 (eOf s) := hP 7 (by decide)
    have f6 := e6
    replace Ax := Ax.rl hr
    replace HB := HB.trans (hBt.below HB.size (UpOld.all (bx := [⟨W2, some 5, 0, 5, .agg #[.bool false, .slice none 0 0], some (6, 17, 3), []⟩]) ⟨someNe, trivial⟩))
    clear hBt hr hR hP hX hU
    refine wp_seq ?_
    refine region4 [some 20, some 21, some 19, some 22, some 23, some 7, none, some 8] [Eqs (.string s), Tup2 (OutW (zOf s) (6000)) (Eqs (.int .i64 (eOf s))), Tup2 (OutW (zOf s) (6000)) (Eqs (.int .i64 (eOf s))), OutW (zOf s) (6000), Eqs (.int .i64 (eOf s)), (fun _ _ => True), (fun _ _ => True), Eqs (.int .i64 (eOf s))] [⟨W2, some 5, 0, 7, .agg #[.bool false, .slice none 0 0], some (6, 22, 3), []⟩] [] (by kernel_rfl) hn rfl (by kernel_rfl) (by kernel_rfl) (by kernel_rfl) (by kernel_rfl) (by kernel_rfl) (by kernel_rfl) ⟨Eqs.mono4 _, Tup2.mono4 (OutW.mono4 _ _) (Eqs.mono4 _), Tup2.mono4 (OutW.mono4 _ _) (Eqs.mono4 _), OutW.mono4 _ _, Eqs.mono4 _, True.mono4, True.mono4, Eqs.mono4 _, trivial⟩ (ok_cons W2ok ok_nil) (IsOld.all (bx := [⟨W2, some 5, 0, 7, .agg #[.bool false, .slice none 0 0], some (6, 22, 3), []⟩]) ⟨someNe, trivial⟩) (DisOld.all (bx := [⟨W2, some 5, 0, 7, .agg #[.bool false, .slice none 0 0], some (6, 22, 3), []⟩]) ⟨someNe, trivial⟩) ?_ ?_
    · exact ⟨.norm 20 rfl rfl rfl (fun a_ w_ hn_ hBt hr hR hD hO hS => op_mv ((hR 0 rfl).trans f0)),
        .norm 21 rfl rfl rfl (fun a_ w_ hn_ hBt hr hR hD hO hS => op_r2parse (show a_.eval (.tmp 20) = .string s from hD 0 rfl)),
        .norm 19 rfl rfl rfl (fun a_ w_ hn_ hBt hr hR hD hO hS => op_mvp (p := Tup2 (OutW (zOf s) (6000)) (Eqs (.int .i64 (eOf s)))) (show Tup2 (OutW (zOf s) (6000)) (Eqs (.int .i64 (eOf s))) (a_.eval (.tmp 21)) w_ from hD 1 rfl)),
        .norm 22 rfl rfl rfl (fun a_ w_ hn_ hBt hr hR hD hO hS => op_ex20 (show Tup2 (OutW (zOf s) (6000)) (Eqs (.int .i64 (eOf s))) (a_.eval (.tmp 19)) w_ from hD 2 rfl)),
        .norm 23 rfl rfl rfl (fun a_ w_ hn_ hBt hr hR hD hO hS => op_ex21 (show Tup2 (OutW (zOf s) (6000)) (Eqs (.int .i64 (eOf s))) (a_.eval (.tmp 19)) w_ from hD 2 rfl)),
        .alloc 0 _ rfl rfl (.inl ⟨rfl, rfl⟩) rfl rfl rfl rfl rfl,
        .store 0 _ _ _ rfl rfl rfl rfl rfl rfl rfl (fun ia h => by cases h; rfl) rfl rfl rfl OutW.cs,
        .norm 8 rfl rfl rfl (fun a_ w_ hn_ hBt hr hR hD hO hS => op_assign (show a_.eval (.tmp 23) = .int .i64 (eOf s) from hD 4 rfl)),
        trivial⟩
    intro a7 w7 gs7 hn7 hd7 hBt hr hR hP hX hU
    replace hn := hn7; replace hd := hd7.trans hd
    replace b3 := b3.keep hBt ⟨someNe, trivial⟩
    replace b5 := b5.keep hBt ⟨someNe, trivial⟩
    obtain ⟨n_8, a_8, c_8, r_8, e22, G8, l8⟩ : OutW (zOf s) (6000) (a7.eval (.tmp 22)) w7 := hP 3 (by decide)
    have A8 := G8.ag
    have b7 : BoxV W2 w7 (gs7 0) (.agg #[.bool n_8, .slice a_8 r_8.length c_8]) := boxv_of (hX 0 _ rfl).2.2.2 e22
    have f7 := (hX 0 _ rfl).1
    have u7 : w.heap.size ≤ gs7 0 := Nat.le_trans HB.size ((hX 0 _ rfl).2.2.1 (by simp))
    replace f3 := (hR 3 rfl).trans f3
    replace f4 := (hR 4 rfl).trans f4
    replace f5 := (hR 5 rfl).trans f5
    replace f6 := (hR 6 rfl).trans f6
    have e8 : a7.eval (.tmp 8) = .int .i64 (eOf s) := hP 7 (by decide)
    have f8 := e8
    replace Ax := Ax.rl hr
    replace G6 := G6.rl hr
    replace A6 := A6.rl hr
    replace HB := HB.trans (hBt.below HB.size (UpOld.all (bx := [⟨W2, some 5, 0, 7, .agg #[.bool false, .slice none 0 0], some (6, 22, 3), []⟩]) ⟨someNe, trivial⟩))
    clear hBt hr hR hP hX hU
    refine wp_seq ?_
    refine region4 [some 24, some 25, some 26, some 27, some 28, some 29, some 30, some 31, some 32, some 33, some 34, some 35, some 36, some 37, some 38, some 39, some 40, some 4] [Eqs (.agg #[.bool nx, .slice ax mx cx]), IsW (sg nx (val xs)) (1500), Eqs (.string (txt zx)), Eqs (.agg #[.bool nx, .slice ax mx cx]), Eqs (.string (txt zx)), Eqs (.bool true), Eqs (.bool true), Eqs (.int .i64 (eOf s)), Eqs (.int .i64 (eOf s)), Eqs (.int .i64 (eOf s)), Eqs (.bool true), Eqs (.bool true), Eqs (.bool true), Eqs (.agg #[.bool n_6, .slice a_6 r_6.length c_6]), Eqs (.agg #[.bool n_8, .slice a_8 r_8.length c_8]), Eqs (.bool true), Eqs (.bool true), Eqs (.bool true)] [] [] (by kernel_rfl) hn rfl (by kernel_rfl) (by kernel_rfl) (by kernel_rfl) (by kernel_rfl) (by kernel_rfl) (by kernel_rfl) ⟨Eqs.mono4 _, IsW.mono4 _ _, Eqs.mono4 _, Eqs.mono4 _, Eqs.mono4 _, Eqs.mono4 _, Eqs.mono4 _, Eqs.mono4 _, Eqs.mono4 _, Eqs.mono4 _, Eqs.mono4 _, Eqs.mono4 _, Eqs.mono4 _, Eqs.mono4 _, Eqs.mono4 _, Eqs.mono4 _, Eqs.mono4 _, Eqs.mono4 _, trivial⟩ ok_nil (IsOld.all (bx := []) trivial) (DisOld.all (bx := []) trivial) ?_ ?_
    · exact ⟨.norm 24 rfl rfl rfl (fun a_ w_ hn_ hBt hr hR hD hO hS => op_loadv W2ok ((hR 3 rfl).trans f3) (b3.keep hBt trivial)),
        .norm 25 rfl rfl rfl (fun a_ w_ hn_ hBt hr hR hD hO hS => (op_copywO (K := 0) (show a_.eval (.tmp 24) = .agg #[.bool nx, .slice ax mx cx] from hD 0 rfl) (Ax.sl.rl hr) (by omega) (Nat.zero_le _)).mono (fun _ _ h_ => ⟨h_.1, h_.2.is Lx⟩)),
        .norm 26 rfl rfl rfl (fun a_ w_ hn_ hBt hr hR hD hO hS => op_wtext ((show IsW (sg nx (val xs)) (1500) (a_.eval (.tmp 25)) w_ from hD 1 rfl).to Ax0.worth (Nat.le_refl _)) (by omega)),
        .norm 27 rfl rfl rfl (fun a_ w_ hn_ hBt hr hR hD hO hS => op_loadv W2ok ((hR 3 rfl).trans f3) (b3.keep hBt trivial)),
        .norm 28 rfl rfl rfl (fun a_ w_ hn_ hBt hr hR hD hO hS => op_r2text (isw_eq (show a_.eval (.tmp 27) = .agg #[.bool nx, .slice ax mx cx] from hD 3 rfl) (Ax.rl hr) Lx) (by omega)),
        .norm 29 rfl rfl rfl (fun a_ w_ hn_ hBt hr hR hD hO hS => op_eqlst (show a_.eval (.tmp 26) = .string (txt zx) from hD 2 rfl) (show a_.eval (.tmp 28) = .string (txt zx) from hD 4 rfl)),
        .norm 30 rfl rfl rfl (fun a_ w_ hn_ hBt hr hR hD hO hS => op_mv (show a_.eval (.tmp 29) = .bool true from hD 5 rfl)),
        .norm 31 rfl rfl rfl (fun a_ w_ hn_ hBt hr hR hD hO hS => ⟨⟨_, rfl⟩, fun _ => op_mv ((hR 6 rfl).trans f6), fun hne => absurd (hD 6 rfl) hne⟩),
        .norm 32 rfl rfl rfl (fun a_ w_ hn_ hBt hr hR hD hO hS => ⟨⟨_, rfl⟩, fun _ => op_num0 (show a_.eval (.tmp 31) = .int .i64 (eOf s) from hD 7 rfl), fun hne => absurd (hD 6 rfl) hne⟩),
        .norm 33 rfl rfl rfl (fun a_ w_ hn_ hBt hr hR hD hO hS => ⟨⟨_, rfl⟩, fun _ => op_mv ((hR 8 rfl).trans f8), fun hne => absurd (hD 6 rfl) hne⟩),
        .norm 34 rfl rfl rfl (fun a_ w_ hn_ hBt hr hR hD hO hS => ⟨⟨_, rfl⟩, fun _ => op_eql (show a_.eval (.tmp 32) = .int .i64 (eOf s) from hD 8 rfl) (show a_.eval (.tmp 33) = .int .i64 (eOf s) from hD 9 rfl) rfl, fun hne => absurd (hD 6 rfl) hne⟩),
        .norm 35 rfl rfl rfl (fun a_ w_ hn_ hBt hr hR hD hO hS => op_pickb (show a_.eval (.tmp 30) = .bool true from hD 6 rfl) (show a_.eval (.tmp 34) = .bool true from hD 10 rfl)),
        .norm 36 rfl rfl rfl (fun a_ w_ hn_ hBt hr hR hD hO hS => op_mv (show a_.eval (.tmp 35) = .bool true from hD 11 rfl)),
        .norm 37 rfl rfl rfl (fun a_ w_ hn_ hBt hr hR hD hO hS => ⟨⟨_, rfl⟩, fun _ => op_loadv W2ok ((hR 5 rfl).trans f5) (b5.keep hBt trivial), fun hne => absurd (hD 12 rfl) hne⟩),
        .norm 38 rfl rfl rfl (fun a_ w_ hn_ hBt hr hR hD hO hS => ⟨⟨_, rfl⟩, fun _ => op_loadv W2ok ((hR 7 rfl).trans f7) (b7.keep hBt trivial), fun hne => absurd (hD 12 rfl) hne⟩),
        .norm 39 rfl rfl rfl (fun a_ w_ hn_ hBt hr hR hD hO hS => ⟨⟨_, rfl⟩, fun _ => op_same (outw_eq (show a_.eval (.tmp 37) = .agg #[.bool n_6, .slice a_6 r_6.length c_6] from hD 13 rfl) (G6.rl hr) l6) (outw_eq (show a_.eval (.tmp 38) = .agg #[.bool n_8, .slice a_8 r_8.length c_8] from hD 14 rfl) (G8.rl hr) l8) rfl, fun hne => absurd (hD 12 rfl) hne⟩),
        .norm 40 rfl rfl rfl (fun a_ w_ hn_ hBt hr hR hD hO hS => op_pickb (show a_.eval (.tmp 36) = .bool true from hD 12 rfl) (show a_.eval (.tmp 39) = .bool true from hD 15 rfl)),
        .norm 4 rfl rfl rfl (fun a_ w_ hn_ hBt hr hR hD hO hS => op_assign (show a_.eval (.tmp 40) = .bool true from hD 16 rfl)),
        trivial⟩
    intro a9 w9 gs9 hn9 hd9 hBt hr hR hP hX hU
    replace hn := hn9; replace hd := hd9.trans hd
    have e4 : a9.eval (.tmp 4) = .bool true := hP 17 (by decide)
    have f4 := e4
    replace Ax := Ax.rl hr
    replace G6 := G6.rl hr
    replace A6 := A6.rl hr
    replace G8 := G8.rl hr
    replace A8 := A8.rl hr
    replace HB := HB.trans (hBt.below HB.size (UpOld.all (bx := []) trivial))
    clear hBt hr hR hP hX hU
    refine wp_ret ?_
    repeat (first | refine then_ret ?_ | refine scope_ret ?_ | refine block_ret ?_)
    exact bodyPost_ret (v := .bool true) (res_t rfl f4) hd ⟨rfl, HB⟩
end Lm
end Go.Proofs.YtdiiankcjgoecaaDoor

namespace Go.Proofs.YtdiiankcjgoecaaDoor
namespace wholeTextsLaw
open Go.ChangeShapes Go.WideShapes Go.ChangeAt Go.RowKit
open Go.ChangeMaps (open_string shut_string)
theorem own : ownKnob Tryd.prog.godebug = none := by kernel_rfl
theorem laidOut : laidOutB Tryd.prog = true := by kernel_rfl
theorem bytes4 : Tryd.prog.bytesOf 124 = 4 := by kernel_rfl
theorem sl_of {w : World} {x : Addr} {l c : Nat} {zs : List Int} (hl : l ≤ c) (hm : c ≤ maxLen) (hz : zs.length = c) (hcell : ∀ i, i < zs.length → w.cell? (x.add i) = some (.int .u32 (zs.getD i 0))) (hwz : ∀ n ∈ zs, (Lit.int .u32 n).wf = true) : Lm.Sl w (.slice (some x) l c) (zs.take l) := by
  have hll : (zs.take l).length = l := by rw [List.length_take]; omega
  refine ⟨some x, c, by rw [hll], by omega, hm, fun n hn => ?_, ?_⟩
  · have := bounds_u32 (hwz n (List.mem_of_mem_take hn))
    omega
  · by_cases h0 : l = 0
    · exact .inl (List.eq_nil_of_length_eq_zero (by omega))
    · obtain ⟨b, off, spot⟩ := x
      have h1 := hcell 0 (by omega)
      have hspot : spot = none := by simpa [Addr.add] using World.cell?_spot h1
      subst hspot
      refine .inr ⟨b, off, rfl, fun i hi => ?_⟩
      have h2 := hcell i (by omega)
      rw [Lm.getD_take _ _ _ (by omega)]
      have e : (⟨b, off, none⟩ : Addr).add i = ⟨b, off + i, none⟩ := by
        by_cases hi0 : i = 0
        · subst hi0; simp [Addr.add]
        · simp [Addr.add, hi0]
      rwa [e] at h2
noncomputable def laidWorld (os : Os) : World :=
  let w0 := World.holding Tryd.prog os ⟨#[], #[], []⟩
  let put (h : Array Obj) (g : Nat) (cs : Array Value) : Array Obj := h.modify g fun
    | .cells _ t frozen => .cells cs t frozen
    | o => o
  let h1 := put w0.heap (Tryd.lays197_ren.g 3) (Lib.firstTab.map fun z => Value.int .u8 z).toArray
  let h2 := put h1 (Tryd.lays197_ren.g 4) ((List.range 16).flatMap fun i => [Value.int .u8 (Lib.accLo i), Value.int .u8 (Lib.accHi i)]).toArray
  { w0 with heap := h2 }
theorem laid_met (os : Os) : laidMet Tryd.prog Rows.wholeTextsRow.laid ((laidWorld os).forCall (fun _ _ => 0) ⟨#[], #[.string ⟨#[]⟩, .agg #[.bool false, .slice none 0 0]], []⟩).memory :=
  laidMet_of_run' 8 (by kernel_rfl) (by kernel_rfl)
theorem tabs {W : World} (h : laidMet Tryd.prog Rows.wholeTextsRow.laid W) : Lm.Tabs W :=
  utf8Tabs_of_reads (ρ := Tryd.lays197_ren) { Tryd.lays197 with } ⟨by kernel_rfl, by kernel_rfl, by kernel_rfl, by kernel_rfl, by kernel_rfl, by kernel_rfl, by kernel_rfl⟩
    (Lib.laidMet.reads h (show ("unicode/utf8.first", Lib.firstData) ∈ Rows.wholeTextsRow.laid from by
      rw [show Lib.firstData = Rows.laid_unicode_utf8_first from by kernel_rfl]
      exact .tail _ (.head _)))
    (Lib.laidMet.reads h (show ("unicode/utf8.acceptRanges", Lib.acceptData) ∈ Rows.wholeTextsRow.laid from by
      rw [show Lib.acceptData = Rows.laid_unicode_utf8_acceptRanges from by kernel_rfl]
      exact .head _))
theorem reads (os : Os) {H : Type} (enc : TypeId × Value → H) : ∃ places, DataW.whole enc Tryd.prog ((laidWorld os).forCall (fun _ _ => 0) ⟨#[], #[.string ⟨#[]⟩, .agg #[.bool false, .slice none 0 0]], []⟩).memory Tryd.f3.params.toList Rows.wholeTextsSpec.vars false (#[.string ⟨#[]⟩, .agg #[.bool false, .slice none 0 0]] : Array Value).toList 8 = some ([.lit (.string []), .agg [.lit (.bool false), .nil]], [], places) :=
  ⟨[], by kernel_rfl⟩
set_option linter.unusedVariables false in
set_option maxRecDepth 100000 in
theorem lifted (os : Os) (started : os.Started) (H : Type) (enc : TypeId × Value → H) (F : Stop.Interp) :
    ReturnsInHanded {} Tryd.checked os 3 .any ((OpenSpec.ofChange Rows.wholeTextsSpec).preRow enc Tryd.prog Tryd.f3 Rows.wholeTextsRow.domain false Rows.wholeTextsRow.laid) (((OpenSpec.ofChange Rows.wholeTextsSpec).at F).post enc Tryd.prog Tryd.f3 false true false false) := by
  obtain ⟨places, hx⟩ := reads os enc
  refine returnsInHanded_of_row (C := Tryd.checked) (s := (OpenSpec.ofChange Rows.wholeTextsSpec)) own started (by kernel_rfl) Tryd.func3
    (witness_row_at (enc := enc) (C := Tryd.checked) false (laidWorld os) #[.string ⟨#[]⟩, .agg #[.bool false, .slice none 0 0]] rfl (by kernel_rfl) (by kernel_rfl) (by kernel_rfl)
      (OpenSpec.preRow_of_cond 8 hx (by kernel_rfl) (fun k hk => by cases hk) (by kernel_rfl) (laid_met os))) ?_
  intro W base args ds gs before hval0 hW hcnd0 hcond hsz0 hL hj2 hj3
  have hTabs : Lm.Tabs W := tabs hL
  have hval : ∀ (j : Nat) t v, Tryd.f3.params[j]? = some t → args[j]? = some v → Value.okWide Tryd.prog W .any base t v := hval0
  have hW' := hW
  obtain ⟨p, q, hA0, hV, rfl, hfz, hnd⟩ := hW
  have hA : DataW.TrodAll enc Tryd.prog W 0 (fun _ => true) true Tryd.f3.params.toList args.toList ds p := hA0
  have hsz : (DataW.weightsEach Tryd.prog (Tryd.f3.params.toList ++ Rows.wholeTextsSpec.plain.varTypes Tryd.prog) (ds ++ gs)).all (· ≤ reachBytes) = true := hsz0
  rw [Tryd.params3] at hA hval hsz
  obtain ⟨v0, vs0, d0, ds0, p0, q0, hargs, rfl, rfl, h0, r0⟩ := trodAll_cons hA
  obtain ⟨v1, vs1, d1, ds1, p1, q1, rfl, rfl, rfl, h1, r1⟩ := trodAll_cons r0
  obtain ⟨rfl, rfl, rfl⟩ := trodAll_nil r1
  obtain rfl : args = #[v0, v1] := by cases args; simp_all
  obtain ⟨rfl, rfl⟩ := trodVars_none hV
  obtain ⟨a0, rfl, rfl, rfl, w0⟩ := open_string Tryd.underlying9 (hval 0 9 v0 rfl rfl) h0
  have k1 := h1
  have lt1 : ∀ x ∈ p1, x.block < W.heap.size := by obtain ⟨m, hm⟩ := k1; exact DataW.trod_lt m _ _ _ hm
  obtain ⟨g1, a1, len1, cap1, z1, hv1, w1, b1⟩ : ∃ ng ao n cap zs, v1 = .agg #[.bool ng, .slice ao n cap] ∧ Lm.Sl W (.slice ao n cap) zs ∧ n ≤ 35184372088832 := by
    obtain ⟨x0, x1, y0, y1, m, hv, hd, _, t0, t1⟩ := Go.Joins.open_agg2 Tryd.underlying24 (by kernel_rfl) (by kernel_rfl) (hval 1 24 v1 rfl rfl) h1
    obtain ⟨b, hb0, _⟩ := DataW.trod_bool Tryd.underlying4 t0
    obtain rfl : x0 = .bool b := by simpa using hb0
    rcases open_ints Tryd.underlying22 Tryd.underlying124 (by kernel_rfl) t1 with ⟨hcs, _⟩ | ⟨x, l, c, zs, hcs, _, hl, hm, hz, hx, hcell, hwz⟩
    · obtain rfl : x1 = .slice none 0 0 := by simpa using hcs
      exact ⟨b, none, 0, 0, [], hv, ⟨none, 0, rfl, Nat.le_refl _, by simp [maxLen], Lm.limb_nil, .inl rfl⟩, by omega⟩
    · obtain rfl : x1 = .slice (some x) l c := by simpa using hcs
      have hz' : zs.length = c := by simpa using hz
      have hx1 : y1.1 = .slice (lits .u32 (zs.take l)) (lits .u32 (zs.drop l)) := congrArg Prod.fst hx
      refine ⟨b, some x, l, c, _, hv, sl_of hl hm hz' hcell hwz, ?_⟩
      have hs := List.all_eq_true.1 hsz _ (DataW.weights_mem_each (j := 1) (t := 24) rfl (congrArg some hd) (((lits .u32 (zs.take l) : List (DataW H)).length + (lits .u32 (zs.drop l) : List (DataW H)).length) * Tryd.prog.bytesOf 124) (by rw [hx1]; simp [DataW.weights, DataW.weightsEach, Tryd.underlying24, Tryd.underlying22]))
      rw [bytes4] at hs
      simp only [lits, List.length_map, List.length_take, List.length_drop, reachBytes, decide_eq_true_eq] at hs
      omega
  subst hv1
  clear hA0 hval0
  refine (Lm.wtexts_law W a0 g1 a1 len1 cap1 z1 _ hTabs ⟨w1, rfl⟩ b1).mono fun e W' ⟨he, bel⟩ => ?_
  subst he
  exact ⟨_, rfl, _, _, _, [], _, [], hW', trodAll_mk1 (shut_bool Tryd.underlying4 _), (trodAll_cons_mk (shut_string Tryd.underlying9 w0) (trodAll_cons_mk (Below.trod laidOut (by kernel_rfl) (of_decide_eq_true (by kernel_rfl)) k1 bel lt1) trodAll_mk0)), rfl, bel.frame _, fun h => by cases h⟩
theorem said : Rows.WholeTextsSaid :=
  OpenClaim.holds_of_cond 3 Tryd.f3 rfl rfl rfl rfl rfl rfl rfl ⟨rfl, rfl, rfl, rfl, rfl⟩ rfl rfl rfl rfl rfl (by kernel_rfl) Tryd.func3 (by kernel_rfl)
    (of_decide_eq_true (by kernel_rfl)) (by unfold Func.isWrapper; first | (rw [if_pos (by decide +kernel)]; kernel_rfl) | (rw [if_neg (by decide +kernel)]; exact ⟨rfl, rfl⟩))
    (fun os started H enc _ F => by rw [OpenClaim.pre_eq_preRow]; exact lifted os started H enc F)
theorem plain (f : FuncId) (fn : Func) (hf : Tryd.pinned.checked.prog.funcNamed "rafter/rafterlaw02.WholeTexts" = some f) (hfn : Tryd.pinned.checked.prog.funcs[f]? = some fn) :
    false = Tryd.pinned.checked.prog.looks [] ∧ ∀ (j : Nat) t, fn.params[j]? = some t → Tryd.pinned.checked.prog.wantsStandIn t = false := by
  obtain rfl : f = 3 := Option.some.inj ((show Tryd.prog.funcNamed "rafter/rafterlaw02.WholeTexts" = some 3 by kernel_rfl).symm.trans hf) |>.symm
  obtain rfl : fn = Tryd.f3 := (Option.some.inj (Tryd.func3.symm.trans hfn)).symm
  refine ⟨by kernel_rfl, fun j t ht => ?_⟩
  rw [Tryd.params3] at ht
  have hm := Array.mem_of_getElem? ht
  simp at hm
  rcases hm with rfl | rfl
  · exact (show Tryd.prog.wantsStandIn 9 = false by kernel_rfl)
  · exact (show Tryd.prog.wantsStandIn 24 = false by kernel_rfl)
theorem card : Rows.WholeTextsCardSaid :=
  Claim7.holds_tied_plain_at .later [] _ _ _ _ said (fun _ h => by cases h) (by kernel_rfl) (fun _ h => by cases h) wholeTexts_row_tie rfl ⟨rfl, rfl⟩ (by kernel_rfl) rfl plain (by kernel_rfl)
end wholeTextsLaw
theorem wholeTexts_card : Rows.WholeTextsCardSaid := wholeTextsLaw.card
#print axioms wholeTexts_card
end Go.Proofs.YtdiiankcjgoecaaDoor

