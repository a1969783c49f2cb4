/-
  Tuples, lists of limbs, fractions: what single operations on them come to, over a frame that is not written out.
-/
import Derived.Test.YtjhhjefobbhdlaaInv5
import Derived.Scope
namespace Go.Proofs.Ytjhhjefobbhdlaa
namespace Lm
open Go Go.RowKit

/-- Two answers, three answers. -/
def Tup2 (p q : Says) : Says := fun v w => ∃ x y, v = .tuple #[x, y] ∧ p x w ∧ q y w
def Tup3 (p q r : Says) : Says := fun v w => ∃ x y z, v = .tuple #[x, y, z] ∧ p x w ∧ q y w ∧ r z w
theorem Tup2.mono4 {p q : Says} (hp : Mono4 p) (hq : Mono4 q) : Mono4 (Tup2 p q) := fun _ _ _ hr ⟨x, y, e, h1, h2⟩ => ⟨x, y, e, hp _ _ _ hr h1, hq _ _ _ hr h2⟩
theorem Tup3.mono4 {p q r : Says} (hp : Mono4 p) (hq : Mono4 q) (hr : Mono4 r) : Mono4 (Tup3 p q r) := fun _ _ _ h ⟨x, y, z, e, h1, h2, h3⟩ => ⟨x, y, z, e, hp _ _ _ h h1, hq _ _ _ h h2, hr _ _ _ h h3⟩

/-- A list of limbs, as it is handed in; as it is answered. -/
def IsL (x : Int) (L : Nat) : Says := fun v w => ∃ ao n cap xs, v = .slice ao n cap ∧ Sl w (.slice ao n cap) xs ∧ val xs = x ∧ xs.length ≤ L
def OutL (x : Int) (L : Nat) : Says := fun v w => ∃ ao cap rs, v = .slice ao rs.length cap ∧ Got w ao cap rs x ∧ rs.length ≤ L
theorem IsL.mono4 (x : Int) (L : Nat) : Mono4 (IsL x L) := fun _ _ _ hr ⟨ao, n, cap, xs, e, h, v, l⟩ => ⟨ao, n, cap, xs, e, h.rl hr, v, l⟩
theorem OutL.mono4 (x : Int) (L : Nat) : Mono4 (OutL x L) := fun _ _ _ hr ⟨ao, cap, rs, e, h, l⟩ => ⟨ao, cap, rs, e, h.rl hr, l⟩
theorem OutL.is {x : Int} {L : Nat} {v : Value} {w : World} : OutL x L v w → IsL x L v w := fun ⟨ao, cap, rs, e, h, l⟩ => ⟨ao, rs.length, cap, rs, e, h.1, h.2.2, l⟩

/-- What is known of a value that is written out. -/
theorem isw_eq {v : Value} {w : World} {ng : Bool} {ao : Option Addr} {n c : Nat} {xs : List Int} {z : Int} {L : Nat} (h : v = .agg #[.bool ng, .slice ao n c]) (hA : Ag w ng ao n c xs z) (hl : xs.length ≤ L) : IsW z L v w := ⟨_, _, _, _, _, h, hA, hl⟩
theorem outw_eq {v : Value} {w : World} {ng : Bool} {ao : Option Addr} {c : Nat} {rs : List Int} {z : Int} {L : Nat} (h : v = .agg #[.bool ng, .slice ao rs.length c]) (hA : Wh w ng ao c rs z) (hl : rs.length ≤ L) : OutW z L v w := ⟨_, _, _, _, h, hA, hl⟩
theorem isl_eq {v : Value} {w : World} {ao : Option Addr} {n c : Nat} {xs : List Int} {z : Int} {L : Nat} (h : v = .slice ao n c) (hA : Sl w (.slice ao n c) xs) (hz : val xs = z) (hl : xs.length ≤ L) : IsL z L v w := ⟨_, _, _, _, h, hA, hz, hl⟩
theorem outl_eq {v : Value} {w : World} {ao : Option Addr} {c : Nat} {rs : List Int} {z : Int} {L : Nat} (h : v = .slice ao rs.length c) (hA : Got w ao c rs z) (hl : rs.length ≤ L) : OutL z L v w := ⟨_, _, _, h, hA, hl⟩
theorem someNe {α : Type} {x : α} {p : Prop} (h : some x = none) : p := by cases h
theorem boxv_old {τ : BoxTy} {w : World} {g g0 : Nat} {x v : Value} (hg : g = g0) (h : BoxV τ w g x) (e : x = v) : BoxV τ w g0 v := by
  subst hg e
  exact h
theorem then_ret {next : Act → World → Prop} {Q : Exit → Act → World → Prop} {a : Act} {w : World} (h : Q .ret a w) : Exit.then next Q .ret a w := h
section
variable {next : Act → World → Prop} {Q : Exit → Act → World → Prop} {a : Act} {w : World} {id id' : Nat}
theorem block_ret (h : Q .ret a w) : Exit.inBlock id Q .ret a w := h
theorem scope_ret (h : Q .ret a w) : Exit.noGoto Q .ret a w := h
theorem block_normal (h : Q .normal a w) : Exit.inBlock id Q .normal a w := h
theorem scope_normal (h : Q .normal a w) : Exit.noGoto Q .normal a w := h
theorem then_exit (h : Q (.exit id) a w) : Exit.then next Q (.exit id) a w := h
theorem scope_exit (h : Q (.exit id) a w) : Exit.noGoto Q (.exit id) a w := h
theorem block_exit (h : Q .normal a w) : Exit.inBlock id Q (.exit id) a w := by
  show (if id = id then _ else _)
  rw [if_pos rfl]
  exact h
theorem block_pass (hn : id' ≠ id) (h : Q (.exit id') a w) : Exit.inBlock id Q (.exit id') a w := by
  show (if id' = id then _ else _)
  rw [if_neg hn]
  exact h
end
theorem boxv_of {τ : BoxTy} {w : World} {g : Nat} {x v : Value} (h : BoxV τ w g x) (e : x = v) : BoxV τ w g v := e ▸ h

theorem eqs_cs {v : Value} {τ : BoxTy} (h : ∃ cs, τ.Cs v cs) : ∀ (u : Value) (w : World), Eqs v u w → ∃ cs, τ.Cs u cs := fun u _ e => by
  have e : u = v := e
  rw [e]
  exact h
theorem w2_cs {ng : Bool} {ao : Option Addr} {n c : Nat} : ∃ cs, W2.Cs (.agg #[.bool ng, .slice ao n c]) cs := ⟨_, _, _, _, _, rfl, rfl⟩

section
variable {P : Program} {dst : Option Tmp} {ty : TypeId} {pos : String} {after : Array Edge} {guard : Option (Nat × Bool)} {a : Act} {w : World} {ats : Array TypeId} {i j k g : Nat} {x y z : Int} {L L1 L2 : Nat}

theorem op_ex20 {p q : Says} (h : Tup2 p q (a.eval (.tmp i)) w) : Does P { dst, op := .extract (.tmp i) 0, type := ty, pos, after, guard } a.eval w fun v' w' => Below w.heap.size w w' ∧ p v' w' := by
  obtain ⟨x, y, e, h1, h2⟩ := h
  exact does_extract (v := x) (by rw [e]; simp [go_sem]) ⟨Below.refl _ _, h1⟩
theorem op_ex21 {p q : Says} (h : Tup2 p q (a.eval (.tmp i)) w) : Does P { dst, op := .extract (.tmp i) 1, type := ty, pos, after, guard } a.eval w fun v' w' => Below w.heap.size w w' ∧ q v' w' := by
  obtain ⟨x, y, e, h1, h2⟩ := h
  exact does_extract (v := y) (by rw [e]; simp [go_sem]) ⟨Below.refl _ _, h2⟩
theorem op_ex30 {p q r : Says} (h : Tup3 p q r (a.eval (.tmp i)) w) : Does P { dst, op := .extract (.tmp i) 0, type := ty, pos, after, guard } a.eval w fun v' w' => Below w.heap.size w w' ∧ p v' w' := by
  obtain ⟨x, y, z, e, h1, h2, h3⟩ := h
  exact does_extract (v := x) (by rw [e]; simp [go_sem]) ⟨Below.refl _ _, h1⟩
theorem op_ex31 {p q r : Says} (h : Tup3 p q r (a.eval (.tmp i)) w) : Does P { dst, op := .extract (.tmp i) 1, type := ty, pos, after, guard } a.eval w fun v' w' => Below w.heap.size w w' ∧ q v' w' := by
  obtain ⟨x, y, z, e, h1, h2, h3⟩ := h
  exact does_extract (v := y) (by rw [e]; simp [go_sem]) ⟨Below.refl _ _, h2⟩
theorem op_ex32 {p q r : Says} (h : Tup3 p q r (a.eval (.tmp i)) w) : Does P { dst, op := .extract (.tmp i) 2, type := ty, pos, after, guard } a.eval w fun v' w' => Below w.heap.size w w' ∧ r v' w' := by
  obtain ⟨x, y, z, e, h1, h2, h3⟩ := h
  exact does_extract (v := z) (by rw [e]; simp [go_sem]) ⟨Below.refl _ _, h3⟩
theorem op_pickb {c x y : Operand} {b : Bool} {v : Value} (hc : a.eval c = .bool b) (h : (if b then a.eval x else a.eval y) = v) : Does P { dst, op := .pick c x y, type := ty, pos, after, guard } a.eval w fun v' w' => Below w.heap.size w w' ∧ Eqs v v' w' := does_pick hc ⟨Below.refl _ _, h⟩
theorem op_neqb {b c : Bool} (h1 : a.eval (.tmp i) = .bool b) (h2 : a.eval (.tmp j) = .bool c) :
    Does Try.prog { dst, op := .binOp .neq 4 (.tmp i) (.tmp j) 4, type := ty, pos, after, guard } a.eval w fun v w' => Below w.heap.size w w' ∧ Eqs (.bool (b != c)) v w' := by
  refine does_bin (v := .bool (b != c)) ?_ ?_ ⟨Below.refl _ _, rfl⟩
  · rw [h1, h2]; simp [go_sem]
  · rw [h1, h2]; cases b <;> cases c <;> simp [go_sem]
theorem op_neqk {u v : Int} (h1 : a.eval (.tmp i) = .int .i64 u) :
    Does Try.prog { dst, op := .binOp .neq 3 (.tmp i) (.const (.int .i64 v)) 3, type := ty, pos, after, guard } a.eval w fun v' w' => Below w.heap.size w w' ∧ Eqs (.bool (!decide (u = v))) v' w' := by
  refine does_bin (v := .bool (!decide (u = v))) ?_ ?_ ⟨Below.refl _ _, rfl⟩
  · rw [h1]; simp [go_sem, Act.eval]
  · rw [h1]; simp [go_sem, Act.eval]; rfl
theorem op_len {ao : Option Addr} {n c : Nat} (h : a.eval (.tmp i) = .slice ao n c) : Does Try.prog { dst, op := .call { callee := .builtin .len, args := #[.tmp i], argTypes := #[22] }, type := ty, pos, after, guard } a.eval w fun v' w' => Below w.heap.size w w' ∧ Eqs (.int .i64 n) v' w' := by
  have e : (execOp a.eval { dst, op := .call { callee := .builtin .len, args := #[.tmp i], argTypes := #[22] }, type := ty, pos, after, guard }).run Try.prog w = .ok (.value (.int .i64 n)) w := by
    have h' : a.tmps[i]?.getD undef = .slice ao n c := by simpa [Act.eval] using h
    simp [go_sem, h']
  refine ⟨?_⟩
  unfold Turns
  rw [e]
  exact ⟨Below.refl _ _, rfl⟩
theorem op_bW2 {b : Bool} {ao : Option Addr} {n c : Nat} (h1 : a.eval (.tmp i) = .bool b) (h2 : a.eval (.tmp j) = .slice ao n c) : Does Try.prog { dst, op := .build 24 #[(0, .tmp i), (1, .tmp j)], type := ty, pos, after, guard } a.eval w fun v' w' => Below w.heap.size w w' ∧ Eqs (.agg #[.bool b, .slice ao n c]) v' w' := by
  have e : (execOp a.eval { dst, op := .build 24 #[(0, .tmp i), (1, .tmp j)], type := ty, pos, after, guard }).run Try.prog w = .ok (.value (.agg #[.bool b, .slice ao n c])) w := by
    simp only [execOp, List.map_toArray, List.map_nil, List.map_cons, h1, h2]
    go_simp
  refine ⟨?_⟩
  unfold Turns
  rw [e]
  exact ⟨Below.refl _ _, rfl⟩
theorem op_bW1 {ao : Option Addr} {n c : Nat} (h2 : a.eval (.tmp j) = .slice ao n c) : Does Try.prog { dst, op := .build 24 #[(1, .tmp j)], type := ty, pos, after, guard } a.eval w fun v' w' => Below w.heap.size w w' ∧ Eqs (.agg #[.bool false, .slice ao n c]) v' w' := by
  have e : (execOp a.eval { dst, op := .build 24 #[(1, .tmp j)], type := ty, pos, after, guard }).run Try.prog w = .ok (.value (.agg #[.bool false, .slice ao n c])) w := by
    simp only [execOp, List.map_toArray, List.map_nil, List.map_cons, h2]
    go_simp
  refine ⟨?_⟩
  unfold Turns
  rw [e]
  exact ⟨Below.refl _ _, rfl⟩
end

theorem lv_W2 {w : World} {g : Nat} {v : Value} (h : BoxV W2 w g v) : (loadVar 24 ⟨g, 0, none⟩).run Try.prog w = .ok v w := by
  obtain ⟨cs, ⟨ng, ao, n, c, rfl, rfl⟩, hh⟩ := h
  obtain ⟨b1, b2, b3, b4⟩ := (show Box w g ng (.slice ao n c) from hh).facts
  go_simp

/-- What a function hands back. -/
theorem res_c {P : Program} {fn : Func} {a : Act} {w : World} {k g : Nat} {T : TypeId} {v : Value} (hr : fn.results = #[.cell k T]) (hp : a.eval (.tmp k) = .pointer (some ⟨g, 0, none⟩)) (hl : (loadVar T ⟨g, 0, none⟩).run P w = .ok v w) : (results fn a.tmps).run P w = .ok v w := by
  have hp' : a.tmps[k]?.getD undef = .pointer (some ⟨g, 0, none⟩) := by simpa [Act.eval] using hp
  simp [results, hr, hp', asAddr, hl]
theorem res_t {P : Program} {fn : Func} {a : Act} {w : World} {k : Nat} {v : Value} (hr : fn.results = #[.tmp k]) (hp : a.eval (.tmp k) = v) : (results fn a.tmps).run P w = .ok v w := by
  have hp' : a.tmps[k]?.getD undef = v := by simpa [Act.eval] using hp
  simp [results, hr, hp']
theorem res_cc {P : Program} {fn : Func} {a : Act} {w : World} {k g k' g' : Nat} {T T' : TypeId} {v v' : Value} (hr : fn.results = #[.cell k T, .cell k' T']) (hp : a.eval (.tmp k) = .pointer (some ⟨g, 0, none⟩)) (hl : (loadVar T ⟨g, 0, none⟩).run P w = .ok v w) (hp2 : a.eval (.tmp k') = .pointer (some ⟨g', 0, none⟩)) (hl2 : (loadVar T' ⟨g', 0, none⟩).run P w = .ok v' w) : (results fn a.tmps).run P w = .ok (.tuple #[v, v']) w := by
  have hp' : a.tmps[k]?.getD undef = .pointer (some ⟨g, 0, none⟩) := by simpa [Act.eval] using hp
  have hp2' : a.tmps[k']?.getD undef = .pointer (some ⟨g', 0, none⟩) := by simpa [Act.eval] using hp2
  simp [results, hr, hp', asAddr, hl, hp2', hl2]
theorem res_ct {P : Program} {fn : Func} {a : Act} {w : World} {k g k' : Nat} {T : TypeId} {v v' : Value} (hr : fn.results = #[.cell k T, .tmp k']) (hp : a.eval (.tmp k) = .pointer (some ⟨g, 0, none⟩)) (hl : (loadVar T ⟨g, 0, none⟩).run P w = .ok v w) (hp2 : a.eval (.tmp k') = v') : (results fn a.tmps).run P w = .ok (.tuple #[v, v']) w := by
  have hp' : a.tmps[k]?.getD undef = .pointer (some ⟨g, 0, none⟩) := by simpa [Act.eval] using hp
  have hp2' : a.tmps[k']?.getD undef = v' := by simpa [Act.eval] using hp2
  simp [results, hr, hp', asAddr, hl, hp2']

end Lm
end Go.Proofs.Ytjhhjefobbhdlaa
