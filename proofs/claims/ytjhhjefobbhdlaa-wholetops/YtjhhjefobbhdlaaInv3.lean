/-
  What single operations come to, over a frame that is not written out.
-/
import Derived.Test.YtjhhjefobbhdlaaInv2
import Derived.Test.YtjhhjefobbhdlaaWG
import Derived.Test.YtjhhjefobbhdlaaWD
namespace Go.Proofs.Ytjhhjefobbhdlaa
namespace Lm
open Go Go.RowKit

/-- A function that has a body of its own. -/
def Has (P : Program) (f : FuncId) : Prop := (match P.funcs[f]? with | some fn => !(fn.name == "runtime.NumGoroutine") && fn.body.isSome | none => false) = true

theorem Has.enter {P : Program} {f : FuncId} (h : Has P f) (args : Array Value) (w : World) : (callFunc f args).run P w = .ok (.enter f args) w := by
  unfold Has at h
  cases hf : P.funcs[f]? with
  | none => rw [hf] at h; simp at h
  | some fn =>
    rw [hf] at h
    simp only [Bool.and_eq_true, Bool.not_eq_true', beq_eq_false_iff_ne] at h
    obtain ⟨h1, h2⟩ := h
    have h3 : fn.body ≠ none := by intro hb; rw [hb] at h2; simp at h2
    simp [callFunc, hf, h1, h3]

theorem does_call {P : Program} {dst : Option Tmp} {f : FuncId} {xs : Array Operand} {ats : Array TypeId} {ty : TypeId} {pos : String} {after : Array Edge} {guard : Option (Nat × Bool)} {a : Act} {w : World} {R : Value → World → Prop} (hf : Has P f) (args : Array Value) (hx : xs.map a.eval = args) (h : Calls P f args w fun e w' => ∃ v, e = .returned v ∧ R v w') :
    Does P { dst, op := .call { callee := .value (.func f), args := xs, argTypes := ats }, type := ty, pos, after, guard } a.eval w R := by
  have e : execOp a.eval { dst, op := .call { callee := .value (.func f), args := xs, argTypes := ats }, type := ty, pos, after, guard } = callFunc f (#[] ++ xs.map a.eval ++ #[]) := rfl
  refine ⟨?_⟩
  unfold Turns
  rw [e, hf.enter]
  simpa [hx] using h

section
variable {P : Program} {dst : Option Tmp} {ty : TypeId} {pos : String} {after : Array Edge} {guard : Option (Nat × Bool)} {a : Act} {w : World} {R : Value → World → Prop}

theorem does_move {x : Operand} (h : R (a.eval x) w) : Does P { dst, op := .move x, type := ty, pos, after, guard } a.eval w R := ⟨h⟩
theorem does_assign {x : Operand} (h : R (a.eval x) w) : Does P { dst, op := .assign x, type := ty, pos, after, guard } a.eval w R := ⟨h⟩
theorem does_pick {c x y : Operand} {b : Bool} (hc : a.eval c = .bool b) (h : R (if b then a.eval x else a.eval y) w) : Does P { dst, op := .pick c x y, type := ty, pos, after, guard } a.eval w R := by
  refine ⟨?_⟩
  unfold Turns
  simp only [execOp, hc]
  cases b <;> simpa [asBool] using h
theorem does_bin {op : BinOp} {t t' : TypeId} {x y : Operand} {v : Value} (hg : (eqGuard op t x y (a.eval x) (a.eval y)).run P w = .ok () w) (hb : (binOp op t (a.eval x) (a.eval y)).run P w = .ok v w) (h : R v w) : Does P { dst, op := .binOp op t x y t', type := ty, pos, after, guard } a.eval w R := by
  refine ⟨?_⟩
  unfold Turns
  simp only [execOp]
  simp [hg, hb, h]
theorem does_un {op : UnOp} {t : TypeId} {x : Operand} {v : Value} (hb : (Op.unary op (a.eval x)).run P w = .ok v w) (h : R v w) : Does P { dst, op := .unOp op t x, type := ty, pos, after, guard } a.eval w R := by
  refine ⟨?_⟩
  unfold Turns
  simp only [execOp]
  simp [hb, h]
theorem does_load {t : TypeId} {x : Operand} {v : Value} (hb : (Instr.loadAt t (a.eval x)).run P w = .ok v w) (h : R v w) : Does P { dst, op := .load t x, type := ty, pos, after, guard } a.eval w R := by
  refine ⟨?_⟩
  unfold Turns
  simp only [execOp]
  simp [hb, h]
theorem does_build {t : TypeId} {ps : Array (Nat × Operand)} {v : Value} (hb : (Instr.build t (ps.map fun (i, x) => (i, a.eval x))).run P w = .ok v w) (h : R v w) : Does P { dst, op := .build t ps, type := ty, pos, after, guard } a.eval w R := by
  refine ⟨?_⟩
  unfold Turns
  simp only [execOp]
  simp [hb, h]
theorem does_buildSlice {t : TypeId} {n : Nat} {ps : Array (Nat × Operand)} {v : Value} {w' : World} (hb : (Instr.buildSlice t n (ps.map fun (i, x) => (i, a.eval x))).run P w = .ok v w') (h : R v w') : Does P { dst, op := .buildSlice t n ps, type := ty, pos, after, guard } a.eval w R := by
  refine ⟨?_⟩
  unfold Turns
  simp only [execOp]
  simp [hb, h]
theorem does_box {t : TypeId} {x : Operand} {v : Value} {w' : World} (hb : (Instr.box t (a.eval x)).run P w = .ok v w') (h : R v w') : Does P { dst, op := .box t x, type := ty, pos, after, guard } a.eval w R := by
  refine ⟨?_⟩
  unfold Turns
  simp only [execOp]
  simp [hb, h]
theorem does_extract {x : Operand} {i : Nat} {v : Value} (hb : (Instr.extract (a.eval x) i).run P w = .ok v w) (h : R v w) : Does P { dst, op := .extract x i, type := ty, pos, after, guard } a.eval w R := by
  refine ⟨?_⟩
  unfold Turns
  simp only [execOp]
  simp [hb, h]
end

theorem wrap64 {x : Int} (h1 : -9223372036854775808 ≤ x) (h2 : x ≤ 9223372036854775807) : IntKind.i64.wrap x = x := by
  simp [IntKind.wrap, IntKind.bits, IntKind.signed]
  omega

/-- A value that is known. -/
def Eqs (x : Value) : Says := fun v _ => v = x
/-- A number, as it is handed in. -/
def IsW (z : Int) (L : Nat) : Says := fun v w => ∃ ng ao n cap xs, v = .agg #[.bool ng, .slice ao n cap] ∧ Ag w ng ao n cap xs z ∧ xs.length ≤ L
/-- A number, as it is answered. -/
def OutW (z : Int) (L : Nat) : Says := fun v w => ∃ ng ao cap rs, v = .agg #[.bool ng, .slice ao rs.length cap] ∧ Wh w ng ao cap rs z ∧ rs.length ≤ L

theorem OutW.is {z : Int} {L : Nat} {v : Value} {w : World} : OutW z L v w → IsW z L v w := fun ⟨ng, ao, cap, rs, e, h, l⟩ => ⟨ng, ao, rs.length, cap, rs, e, h.ag, l⟩
theorem Eqs.mono (x : Value) : Mono (Eqs x) := fun _ _ _ _ h => h
theorem IsW.mono (z : Int) (L : Nat) : Mono (IsW z L) := fun _ _ _ hb ⟨ng, ao, n, cap, xs, e, h, l⟩ => ⟨ng, ao, n, cap, xs, e, h.below hb, l⟩
theorem OutW.mono (z : Int) (L : Nat) : Mono (OutW z L) := fun _ _ _ hb ⟨ng, ao, cap, rs, e, h, l⟩ => ⟨ng, ao, cap, rs, e, h.below hb, l⟩
theorem OutW.to {z z' : Int} {L L' : Nat} {v : Value} {w : World} (h : OutW z L v w) (e : z = z') (hl : L ≤ L') : OutW z' L' v w := by
  obtain ⟨ng, ao, cap, rs, e', h, l⟩ := h
  exact ⟨ng, ao, cap, rs, e', e ▸ h, Nat.le_trans l hl⟩

theorem load_whole {w : World} {g : Nat} {ng : Bool} {v : Value} (hb : Box w g ng v) : (Instr.loadAt 24 (.pointer (some ⟨g, 0, none⟩))).run Try.prog w = .ok (.agg #[.bool ng, v]) w := by
  obtain ⟨b1, b2, b3, b4⟩ := hb.facts
  go_simp

section
variable {dst : Option Tmp} {ty : TypeId} {pos : String} {after : Array Edge} {guard : Option (Nat × Bool)} {a : Act} {w : World} {ats : Array TypeId} {i j : Nat} {x y : Int} {L L1 L2 : Nat}

theorem op_load_is {k : Nat} {g n cap : Nat} {ng : Bool} {ao : Option Addr} {xs : List Int} (hp : a.eval (.tmp k) = .pointer (some ⟨g, 0, none⟩)) (hb : Box w g ng (.slice ao n cap)) (hA : Ag w ng ao n cap xs x) (hl : xs.length ≤ L) :
    Does Try.prog { dst, op := .load 24 (.tmp k), type := ty, pos, after, guard } a.eval w fun v w' => Below w.heap.size w w' ∧ IsW x L v w' :=
  does_load (by rw [hp]; exact load_whole hb) ⟨Below.refl _ _, _, _, _, _, _, rfl, hA, hl⟩
theorem op_load_out {k : Nat} {g cap : Nat} {ng : Bool} {ao : Option Addr} {rs : List Int} (hp : a.eval (.tmp k) = .pointer (some ⟨g, 0, none⟩)) (hb : Box w g ng (.slice ao rs.length cap)) (hA : Wh w ng ao cap rs x) (hl : rs.length ≤ L) :
    Does Try.prog { dst, op := .load 24 (.tmp k), type := ty, pos, after, guard } a.eval w fun v w' => Below w.heap.size w w' ∧ OutW x L v w' :=
  does_load (by rw [hp]; exact load_whole hb) ⟨Below.refl _ _, _, _, _, _, rfl, hA, hl⟩

theorem op_true {x : Operand} (h : a.eval x = .bool true) : Does Try.prog { dst, op := .move x, type := ty, pos, after, guard } a.eval w fun v w' => Below w.heap.size w w' ∧ Eqs (.bool true) v w' := does_move ⟨Below.refl _ _, h⟩
theorem op_assign {x : Operand} {v : Value} (h : a.eval x = v) : Does Try.prog { dst, op := .assign x, type := ty, pos, after, guard } a.eval w fun v' w' => Below w.heap.size w w' ∧ Eqs v v' w' := does_assign ⟨Below.refl _ _, h⟩
theorem op_pick {c x y : Operand} (hc : a.eval c = .bool true) (h : a.eval x = .bool true) : Does Try.prog { dst, op := .pick c x y, type := ty, pos, after, guard } a.eval w fun v w' => Below w.heap.size w w' ∧ Eqs (.bool true) v w' := does_pick hc ⟨Below.refl _ _, h⟩

theorem has_same : Has Try.prog 18 := by unfold Has; kernel_rfl
theorem has_add : Has Try.prog 26 := by unfold Has; kernel_rfl
theorem has_sub : Has Try.prog 27 := by unfold Has; kernel_rfl
theorem has_mul : Has Try.prog 28 := by unfold Has; kernel_rfl
theorem has_neg : Has Try.prog 29 := by unfold Has; kernel_rfl
theorem has_sign : Has Try.prog 13 := by unfold Has; kernel_rfl
theorem has_of : Has Try.prog 20 := by unfold Has; kernel_rfl
theorem op_add (hx : IsW x L1 (a.eval (.tmp i)) w) (hy : IsW y L2 (a.eval (.tmp j)) w) (h1 : L1 ≤ 400000) (h2 : L2 ≤ 400000) :
    Does Try.prog { dst, op := .call { callee := .value (.func 26), args := #[.tmp i, .tmp j], argTypes := ats }, type := ty, pos, after, guard } a.eval w fun v w' => Below w.heap.size w w' ∧ OutW (x + y) (L1 + L2 + 1) v w' := by
  obtain ⟨n1, a1, m1, c1, xs, e1, A1, l1⟩ := hx
  obtain ⟨n2, a2, m2, c2, ys, e2, A2, l2⟩ := hy
  refine does_call has_add _ (by simp only [List.map_toArray, List.map_cons, List.map_nil, e1, e2]) ((add_z _ _ _ _ _ _ _ A1 _ _ _ _ _ _ A2 (by omega) (by omega)).mono ?_)
  rintro e w' ⟨ng, ao, cap, rs, rfl, G, l, hb⟩
  exact ⟨_, rfl, hb, _, _, _, _, rfl, G, by omega⟩
theorem op_sub (hx : IsW x L1 (a.eval (.tmp i)) w) (hy : IsW y L2 (a.eval (.tmp j)) w) (h1 : L1 ≤ 400000) (h2 : L2 ≤ 400000) :
    Does Try.prog { dst, op := .call { callee := .value (.func 27), args := #[.tmp i, .tmp j], argTypes := ats }, type := ty, pos, after, guard } a.eval w fun v w' => Below w.heap.size w w' ∧ OutW (x - y) (L1 + L2 + 1) v w' := by
  obtain ⟨n1, a1, m1, c1, xs, e1, A1, l1⟩ := hx
  obtain ⟨n2, a2, m2, c2, ys, e2, A2, l2⟩ := hy
  refine does_call has_sub _ (by simp only [List.map_toArray, List.map_cons, List.map_nil, e1, e2]) ((sub_z _ _ _ _ _ _ _ A1 _ _ _ _ _ _ A2 (by omega) (by omega)).mono ?_)
  rintro e w' ⟨ng, ao, cap, rs, rfl, G, l, hb⟩
  exact ⟨_, rfl, hb, _, _, _, _, rfl, G, by omega⟩
theorem op_mul (hx : IsW x L1 (a.eval (.tmp i)) w) (hy : IsW y L2 (a.eval (.tmp j)) w) (h1 : L1 ≤ 400000) (h2 : L2 ≤ 400000) :
    Does Try.prog { dst, op := .call { callee := .value (.func 28), args := #[.tmp i, .tmp j], argTypes := ats }, type := ty, pos, after, guard } a.eval w fun v w' => Below w.heap.size w w' ∧ OutW (x * y) (L1 + L2) v w' := by
  obtain ⟨n1, a1, m1, c1, xs, e1, A1, l1⟩ := hx
  obtain ⟨n2, a2, m2, c2, ys, e2, A2, l2⟩ := hy
  refine does_call has_mul _ (by simp only [List.map_toArray, List.map_cons, List.map_nil, e1, e2]) ((mul_z _ _ _ _ _ _ _ A1 _ _ _ _ _ _ A2 (by omega) (by omega)).mono ?_)
  rintro e w' ⟨ng, ao, cap, rs, rfl, G, l, hb⟩
  exact ⟨_, rfl, hb, _, _, _, _, rfl, G, by omega⟩
theorem op_neg (hx : IsW x L1 (a.eval (.tmp i)) w) (h1 : L1 ≤ 400000) :
    Does Try.prog { dst, op := .call { callee := .value (.func 29), args := #[.tmp i], argTypes := ats }, type := ty, pos, after, guard } a.eval w fun v w' => Below w.heap.size w w' ∧ OutW (-x) L1 v w' := by
  obtain ⟨n1, a1, m1, c1, xs, e1, A1, l1⟩ := hx
  refine does_call has_neg _ (by simp only [List.map_toArray, List.map_cons, List.map_nil, e1]) ((neg_z _ _ _ _ _ _ _ A1 (by omega)).mono ?_)
  rintro e w' ⟨ng, ao, cap, rs, rfl, G, l, hb⟩
  exact ⟨_, rfl, hb, _, _, _, _, rfl, G, by omega⟩
theorem op_sign (hx : IsW x L1 (a.eval (.tmp i)) w) (h1 : L1 ≤ 400000) :
    Does Try.prog { dst, op := .call { callee := .value (.func 13), args := #[.tmp i], argTypes := ats }, type := ty, pos, after, guard } a.eval w fun v w' => Below w.heap.size w w' ∧ Eqs (.int .i64 (Int.sign x)) v w' := by
  obtain ⟨n1, a1, m1, c1, xs, e1, A1, l1⟩ := hx
  refine does_call has_sign _ (by simp only [List.map_toArray, List.map_cons, List.map_nil, e1]) ((sign_z _ _ _ _ _ _ _ A1 (by omega) _ rfl).mono ?_)
  rintro e w' ⟨rfl, hb⟩
  exact ⟨_, rfl, hb, rfl⟩
theorem op_same (hx : OutW x L1 (a.eval (.tmp i)) w) (hy : OutW y L2 (a.eval (.tmp j)) w) (h : x = y) :
    Does Try.prog { dst, op := .call { callee := .value (.func 18), args := #[.tmp i, .tmp j], argTypes := ats }, type := ty, pos, after, guard } a.eval w fun v w' => Below w.heap.size w w' ∧ Eqs (.bool true) v w' := by
  obtain ⟨n1, a1, c1, xs, e1, A1, l1⟩ := hx
  obtain ⟨n2, a2, c2, ys, e2, A2, l2⟩ := hy
  refine does_call has_same _ (by simp only [List.map_toArray, List.map_cons, List.map_nil, e1, e2]) ((same_z _ _ _ _ _ _ _ _ _ _ _ A1 A2 true (decide_eq_true h)).mono ?_)
  rintro e w' ⟨rfl, hb⟩
  exact ⟨_, rfl, hb, rfl⟩
theorem op_of {v : Int} (h1 : -9223372036854775808 ≤ v) (h2 : v ≤ 9223372036854775807) :
    Does Try.prog { dst, op := .call { callee := .value (.func 20), args := #[.const (.int .i64 v)], argTypes := ats }, type := ty, pos, after, guard } a.eval w fun v' w' => Below w.heap.size w w' ∧ OutW v 2 v' w' := by
  refine does_call has_of _ (by simp only [List.map_toArray, List.map_cons, List.map_nil, Act.eval]) ((wof_g _ v h1 h2).mono ?_)
  rintro e w' ⟨ng, ao, cap, rs, rfl, G, l, hb⟩
  exact ⟨_, rfl, hb, _, _, _, _, rfl, G, by omega⟩
theorem build_zero : (Instr.build 24 #[]).run Try.prog w = .ok (.agg #[.bool false, .slice none 0 0]) w := by
  go_simp
theorem op_zero : Does Try.prog { dst, op := .build 24 #[], type := ty, pos, after, guard } a.eval w fun v w' => Below w.heap.size w w' ∧ OutW 0 0 v w' := by
  have h : OutW 0 0 (.agg #[.bool false, .slice none 0 0]) w := ⟨false, none, 0, [], rfl, ⟨⟨sl_nil w, canon_nil, rfl⟩, rfl⟩, Nat.le_refl _⟩
  have e : (execOp a.eval { dst, op := .build 24 #[], type := ty, pos, after, guard }).run Try.prog w = .ok (.value (.agg #[.bool false, .slice none 0 0])) w := by
    simp only [execOp, List.map_toArray, List.map_nil]
    simp [build_zero (w := w)]
  refine ⟨?_⟩
  unfold Turns
  rw [e]
  exact ⟨Below.refl _ _, h⟩
theorem op_eql {u v : Int} (h1 : a.eval (.tmp i) = .int .i64 u) (h2 : a.eval (.tmp j) = .int .i64 v) (h : u = v) :
    Does Try.prog { dst, op := .binOp .eql 3 (.tmp i) (.tmp j) 3, type := ty, pos, after, guard } a.eval w fun v w' => Below w.heap.size w w' ∧ Eqs (.bool true) v w' := by
  refine does_bin (v := .bool true) ?_ ?_ ⟨Below.refl _ _, rfl⟩
  · rw [h1, h2]; simp [go_sem]
  · rw [h1, h2]; simp [go_sem, h]
theorem op_times {u v : Int} (h1 : a.eval (.tmp i) = .int .i64 u) (h2 : a.eval (.tmp j) = .int .i64 v) :
    Does Try.prog { dst, op := .binOp .mul 3 (.tmp i) (.tmp j) 3, type := ty, pos, after, guard } a.eval w fun v' w' => Below w.heap.size w w' ∧ Eqs (.int .i64 (IntKind.i64.wrap (u * v))) v' w' := by
  refine does_bin (v := .int .i64 (IntKind.i64.wrap (u * v))) ?_ ?_ ⟨Below.refl _ _, rfl⟩
  · rw [h1, h2]; simp [go_sem]
  · rw [h1, h2]; simp [go_sem]
end

end Lm
end Go.Proofs.Ytjhhjefobbhdlaa
