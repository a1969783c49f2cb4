/-
  Structs that hold whole numbers, and single operations on them, over a frame that is not written out.
-/
import Derived.Test.YtjhhjefobbhdlaaInv3
import Derived.Test.YtjhhjefobbhdlaaInv4

namespace Go.Proofs.Ytjhhjefobbhdlaa
namespace Lm
open Go Go.RowKit

/-- A whole number's struct. -/
def W2 : BoxTy := ⟨24, .agg #[.bool false, .slice none 0 0], fun v cs => ∃ ng ao n c, v = .agg #[.bool ng, .slice ao n c] ∧ cs = #[.bool ng, .slice ao n c]⟩

theorem BoxV.box {w : World} {g : Nat} {ng : Bool} {ao : Option Addr} {n c : Nat} (h : BoxV W2 w g (.agg #[.bool ng, .slice ao n c])) : Box w g ng (.slice ao n c) := by
  obtain ⟨cs, ⟨_, _, _, _, e, rfl⟩, h⟩ := h
  simp only [Value.agg.injEq] at e
  simp only [Array.mk.injEq, List.cons.injEq, Value.bool.injEq, Value.slice.injEq, and_true] at e
  obtain ⟨rfl, rfl, rfl, rfl⟩ := e
  exact h
theorem Box.v {w : World} {g : Nat} {ng : Bool} {ao : Option Addr} {n c : Nat} (h : Box w g ng (.slice ao n c)) : BoxV W2 w g (.agg #[.bool ng, .slice ao n c]) := ⟨_, ⟨_, _, _, _, rfl, rfl⟩, h⟩

theorem W2ok : BoxOk Try.prog W2 where
  noInt := by
    rintro v cs ⟨ng, ao, n, c, rfl, rfl⟩ i k z
    match i with
    | 0 => simp
    | 1 => simp
    | i + 2 => simp
  ne := by unfold W2; exact ⟨by decide, by decide⟩
  alloc := fun w => ⟨#[.bool false, .slice none 0 0], ⟨_, _, _, _, rfl, rfl⟩, by unfold W2; go_simp⟩
  box := by
    rintro w v ⟨cs, ng, ao, n, c, rfl, rfl⟩
    exact ⟨_, ⟨_, _, _, _, rfl, rfl⟩, by unfold W2; go_simp⟩
  store := by
    rintro w g v0 v ⟨cs0, ⟨m, bo, p, d, rfl, rfl⟩, hh⟩ ⟨cs, ng, ao, n, c, rfl, rfl⟩
    have hb : Box w g m (.slice bo p d) := hh
    obtain ⟨b1, b2, b3, b4⟩ := hb.facts
    refine ⟨(w.setCell ⟨g, 0, none⟩ (.bool ng)).setCell ⟨g, 1, none⟩ (.slice ao n c), ?_, (hb.set ng (.slice ao n c)).v, ⟨rfl, rfl, rfl, by simp [World.setCell], fun k hk => ?_⟩⟩
    · unfold W2
      go_simp
    · rw [Below.heap_setCell _ _ _ _ (by simpa using hk), Below.heap_setCell _ _ _ _ (by simpa using hk)]
  load := by
    rintro w g v ⟨cs, ⟨ng, ao, n, c, rfl, rfl⟩, hh⟩
    exact load_whole (show Box w g ng (.slice ao n c) from hh)

theorem Ag.rl {w w' : World} {ng : Bool} {ao : Option Addr} {n cap : Nat} {xs : List Int} {z : Int} (h : Ag w ng ao n cap xs z) (hr : Rl w w') : Ag w' ng ao n cap xs z := ⟨h.sl.rl hr, h.worth⟩
theorem Got.rl {w w' : World} {ao : Option Addr} {cap : Nat} {rs : List Int} {x : Int} (h : Got w ao cap rs x) (hr : Rl w w') : Got w' ao cap rs x := ⟨h.1.rl hr, h.2⟩
theorem Wh.rl {w w' : World} {ng : Bool} {ao : Option Addr} {cap : Nat} {rs : List Int} {z : Int} (h : Wh w ng ao cap rs z) (hr : Rl w w') : Wh w' ng ao cap rs z := ⟨Got.rl h.1 hr, h.2⟩

/-- A struct that is none of those that are filled. -/
def NeOld : List Bx → Nat → Prop
  | [], _ => True
  | b :: bx, g => (b.ia = none → b.g0 ≠ g) ∧ NeOld bx g
theorem NeOld.all : ∀ {bx : List Bx} {g : Nat}, NeOld bx g → ∀ b ∈ bx, b.ia = none → b.g0 ≠ g
  | [], _, _ => fun c hc => by cases hc
  | b :: bx, g, h => fun c hc => by
    rcases List.mem_cons.1 hc with rfl | hc
    · exact h.1
    · exact NeOld.all h.2 c hc
theorem BoxV.keep {τ : BoxTy} {bx : List Bx} {w w' : World} {g : Nat} {v : Value} (h : BoxV τ w g v) (hb : But bx w w') (hn : NeOld bx g) : BoxV τ w' g v := by
  obtain ⟨cs, hc, h⟩ := h
  exact ⟨cs, hc, (hb.keep g (lt_of_heap h) hn.all).trans h⟩
/-- Structs that stood already and are filled are different ones. -/
def DisOld : List Bx → Prop
  | [] => True
  | b :: bx => (b.ia = none → NeOld bx b.g0) ∧ DisOld bx
theorem DisOld.all : ∀ {bx : List Bx}, DisOld bx → ∀ (k k' : Nat) (b b' : Bx), bx[k]? = some b → bx[k']? = some b' → k ≠ k' → b.ia = none → b'.ia = none → b.g0 ≠ b'.g0
  | c :: bx, h, k, k', b, b', hk, hk', hne, hi, hi' => by
    cases k with
    | zero =>
      simp only [List.getElem?_cons_zero, Option.some.injEq] at hk
      subst hk
      cases k' with
      | zero => exact absurd rfl hne
      | succ k' => exact fun e => NeOld.all (h.1 hi) b' (List.mem_of_getElem? (by simpa using hk')) hi' e.symm
    | succ k =>
      cases k' with
      | zero =>
        simp only [List.getElem?_cons_zero, Option.some.injEq] at hk'
        subst hk'
        exact fun e => NeOld.all (h.1 hi') b (List.mem_of_getElem? (by simpa using hk)) hi e
      | succ k' => exact DisOld.all h.2 k k' b b' (by simpa using hk) (by simpa using hk') (fun e => hne (by rw [e])) hi hi'
/-- All structs that are filled lie from B on. -/
def UpOld (B : Nat) : List Bx → Prop
  | [] => True
  | b :: bx => (b.ia = none → B ≤ b.g0) ∧ UpOld B bx
theorem UpOld.all {B : Nat} : ∀ {bx : List Bx}, UpOld B bx → ∀ b ∈ bx, b.ia = none → B ≤ b.g0
  | [], _ => fun c hc => by cases hc
  | b :: bx, h => fun c hc => by
    rcases List.mem_cons.1 hc with rfl | hc
    · exact h.1
    · exact UpOld.all h.2 c hc
/-- The structs that stand already. -/
def IsOld (a : Act) (w : World) : List Bx → Prop
  | [] => True
  | b :: bx => (b.ia = none → a.eval (.tmp b.d) = .pointer (some ⟨b.g0, 0, none⟩) ∧ BoxV b.τ w b.g0 b.v0) ∧ IsOld a w bx
theorem IsOld.all {a : Act} {w : World} : ∀ {bx : List Bx}, IsOld a w bx → ∀ b ∈ bx, b.ia = none → a.eval (.tmp b.d) = .pointer (some ⟨b.g0, 0, none⟩) ∧ BoxV b.τ w b.g0 b.v0
  | [], _ => fun c hc => by cases hc
  | b :: bx, h => fun c hc => by
    rcases List.mem_cons.1 hc with rfl | hc
    · exact h.1
    · exact IsOld.all h.2 c hc

theorem ok_nil {P : Program} : ∀ b ∈ ([] : List Bx), BoxOk P b.τ := fun _ h => by cases h
theorem ok_cons {P : Program} {b : Bx} {bx : List Bx} (h : BoxOk P b.τ) (t : ∀ b ∈ bx, BoxOk P b.τ) : ∀ b' ∈ b :: bx, BoxOk P b'.τ := fun b' hm => by
  rcases List.mem_cons.1 hm with rfl | hm
  · exact h
  · exact t b' hm

theorem Eqs.mono4 (x : Value) : Mono4 (Eqs x) := fun _ _ _ _ h => h
theorem True.mono4 : Mono4 (fun _ _ => True) := fun _ _ _ _ h => h
theorem IsW.mono4 (z : Int) (L : Nat) : Mono4 (IsW z L) := fun _ _ _ hb ⟨ng, ao, n, cap, xs, e, h, l⟩ => ⟨ng, ao, n, cap, xs, e, ⟨h.sl.rl hb, h.worth⟩, l⟩
theorem OutW.mono4 (z : Int) (L : Nat) : Mono4 (OutW z L) := fun _ _ _ hb ⟨ng, ao, cap, rs, e, h, l⟩ => ⟨ng, ao, cap, rs, e, ⟨⟨h.1.1.rl hb, h.1.2⟩, h.2⟩, l⟩

theorem OutW.cs {z : Int} {L : Nat} (v : Value) (w : World) (h : OutW z L v w) : ∃ cs, W2.Cs v cs := by
  obtain ⟨ng, ao, cap, rs, rfl, _⟩ := h
  exact ⟨_, _, _, _, _, rfl, rfl⟩
theorem IsW.cs {z : Int} {L : Nat} (v : Value) (w : World) (h : IsW z L v w) : ∃ cs, W2.Cs v cs := by
  obtain ⟨ng, ao, n, cap, rs, rfl, _⟩ := h
  exact ⟨_, _, _, _, _, rfl, rfl⟩

section
variable {dst : Option Tmp} {ty : TypeId} {pos : String} {after : Array Edge} {guard : Option (Nat × Bool)} {a : Act} {w : World} {ats : Array TypeId} {i j k g : Nat} {x y z : Int} {L L1 L2 : Nat}

theorem op_loadv {P : Program} {τ : BoxTy} {v : Value} (hτ : BoxOk P τ) (hp : a.eval (.tmp k) = .pointer (some ⟨g, 0, none⟩)) (hb : BoxV τ w g v) :
    Does P { dst, op := .load τ.T (.tmp k), type := ty, pos, after, guard } a.eval w fun v' w' => Below w.heap.size w w' ∧ Eqs v v' w' :=
  does_load (by rw [hp]; exact hτ.load w g v hb) ⟨Below.refl _ _, rfl⟩
theorem op_fa {f off : Nat} (hf : ∀ w : World, (Instr.fieldAt 24 (.pointer (some ⟨g, 0, none⟩)) f).run Try.prog w = .ok (.pointer (some ⟨g, off, none⟩)) w) (hp : a.eval (.tmp k) = .pointer (some ⟨g, 0, none⟩)) :
    Does Try.prog { dst, op := .fieldAddr 24 (.tmp k) f, type := ty, pos, after, guard } a.eval w fun v' w' => Below w.heap.size w w' ∧ Eqs (.pointer (some ⟨g, off, none⟩)) v' w' := by
  refine ⟨?_⟩
  unfold Turns
  simp only [execOp, hp]
  simp [hf]
  exact ⟨Below.refl _ _, rfl⟩
theorem fa_neg (w : World) : (Instr.fieldAt 24 (.pointer (some ⟨g, 0, none⟩)) 0).run Try.prog w = .ok (.pointer (some ⟨g, 0, none⟩)) w := by go_simp
theorem fa_mag (w : World) : (Instr.fieldAt 24 (.pointer (some ⟨g, 0, none⟩)) 1).run Try.prog w = .ok (.pointer (some ⟨g, 1, none⟩)) w := by go_simp
theorem op_ldneg {ng : Bool} {ao : Option Addr} {n c : Nat} (hp : a.eval (.tmp k) = .pointer (some ⟨g, 0, none⟩)) (hb : BoxV W2 w g (.agg #[.bool ng, .slice ao n c])) :
    Does Try.prog { dst, op := .load 4 (.tmp k), type := ty, pos, after, guard } a.eval w fun v' w' => Below w.heap.size w w' ∧ Eqs (.bool ng) v' w' := by
  obtain ⟨b1, b2, b3, b4⟩ := hb.box.facts
  refine does_load (v := .bool ng) ?_ ⟨Below.refl _ _, rfl⟩
  rw [hp]
  go_simp
theorem op_ldmag {ng : Bool} {ao : Option Addr} {n c : Nat} (hp : a.eval (.tmp k) = .pointer (some ⟨g, 1, none⟩)) (hb : BoxV W2 w g (.agg #[.bool ng, .slice ao n c])) :
    Does Try.prog { dst, op := .load 22 (.tmp k), type := ty, pos, after, guard } a.eval w fun v' w' => Below w.heap.size w w' ∧ Eqs (.slice ao n c) v' w' := by
  obtain ⟨b1, b2, b3, b4⟩ := hb.box.facts
  refine does_load (v := .slice ao n c) ?_ ⟨Below.refl _ _, rfl⟩
  rw [hp]
  go_simp
theorem op_mv {x : Operand} {v : Value} (h : a.eval x = v) : Does Try.prog { dst, op := .move x, type := ty, pos, after, guard } a.eval w fun v' w' => Below w.heap.size w w' ∧ Eqs v v' w' := does_move ⟨Below.refl _ _, h⟩
theorem op_mvp {x : Operand} {p : Says} (h : p (a.eval x) w) : Does Try.prog { dst, op := .move x, type := ty, pos, after, guard } a.eval w fun v' w' => Below w.heap.size w w' ∧ p v' w' := does_move ⟨Below.refl _ _, h⟩
theorem op_asp {x : Operand} {p : Says} (h : p (a.eval x) w) : Does Try.prog { dst, op := .assign x, type := ty, pos, after, guard } a.eval w fun v' w' => Below w.heap.size w w' ∧ p v' w' := does_assign ⟨Below.refl _ _, h⟩
theorem op_not {t : TypeId} {b : Bool} (h : a.eval (.tmp i) = .bool b) : Does Try.prog { dst, op := .unOp .not t (.tmp i), type := ty, pos, after, guard } a.eval w fun v' w' => Below w.heap.size w w' ∧ Eqs (.bool (!b)) v' w' := by
  refine does_un (v := .bool (!b)) ?_ ⟨Below.refl _ _, rfl⟩
  rw [h]
  simp [go_sem]
theorem op_eqlb {b c : Bool} (h1 : a.eval (.tmp i) = .bool b) (h2 : a.eval (.tmp j) = .bool c) :
    Does Try.prog { dst, op := .binOp .eql 4 (.tmp i) (.tmp j) 4, type := ty, pos, after, guard } a.eval w fun v w' => Below w.heap.size w w' ∧ Eqs (.bool (b == c)) v w' := by
  refine does_bin (v := .bool (b == c)) ?_ ?_ ⟨Below.refl _ _, rfl⟩
  · rw [h1, h2]; simp [go_sem]
  · rw [h1, h2]; simp [go_sem]
theorem op_eqlk {u v : Int} (h1 : a.eval (.tmp i) = .int .i64 u) :
    Does Try.prog { dst, op := .binOp .eql 3 (.tmp i) (.const (.int .i64 v)) 3, type := ty, pos, after, guard } a.eval w fun v' w' => Below w.heap.size w w' ∧ Eqs (.bool (decide (u = v))) v' w' := by
  refine does_bin (v := .bool (decide (u = v))) ?_ ?_ ⟨Below.refl _ _, rfl⟩
  · rw [h1]; simp [go_sem, Act.eval]
  · rw [h1]; simp [go_sem, Act.eval]; rfl
theorem op_gtrk {u v : Int} (h1 : a.eval (.tmp i) = .int .i64 u) :
    Does Try.prog { dst, op := .binOp .gtr 3 (.tmp i) (.const (.int .i64 v)) 3, type := ty, pos, after, guard } a.eval w fun v' w' => Below w.heap.size w w' ∧ Eqs (.bool (decide (v < u))) v' w' := by
  refine does_bin (v := .bool (decide (v < u))) ?_ ?_ ⟨Below.refl _ _, rfl⟩
  · rw [h1]; simp [go_sem, Act.eval]
  · rw [h1]; simp [go_sem, Act.eval]
theorem op_plus {u v : Int} (h1 : a.eval (.tmp i) = .int .i64 u) (h2 : a.eval (.tmp j) = .int .i64 v) (h : -9223372036854775808 ≤ u + v ∧ u + v ≤ 9223372036854775807) :
    Does Try.prog { dst, op := .binOp .add 3 (.tmp i) (.tmp j) 3, type := ty, pos, after, guard } a.eval w fun v' w' => Below w.heap.size w w' ∧ Eqs (.int .i64 (u + v)) v' w' := by
  refine does_bin (v := .int .i64 (u + v)) ?_ ?_ ⟨Below.refl _ _, rfl⟩
  · rw [h1, h2]; simp [go_sem]
  · rw [h1, h2]; simp [go_sem]; exact wrap64 h.1 h.2
theorem op_ex {t : Nat} {vs : Array Value} {v : Value} {p : Says} (h : a.eval (.tmp i) = .tuple vs) (hv : vs[t]? = some v) (hp : p v w) :
    Does Try.prog { dst, op := .extract (.tmp i) t, type := ty, pos, after, guard } a.eval w fun v' w' => Below w.heap.size w w' ∧ p v' w' := by
  refine does_extract (v := v) ?_ ⟨Below.refl _ _, hp⟩
  rw [h]
  simp [go_sem, hv]
end

end Lm
end Go.Proofs.Ytjhhjefobbhdlaa
