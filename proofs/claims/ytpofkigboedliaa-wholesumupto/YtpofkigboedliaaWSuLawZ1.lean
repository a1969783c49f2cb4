/-
  Structs that hold whole numbers, and single operations on them, over a frame that is not written out. Tuples, lists of limbs, fractions: what single operations on them come to, over a frame that is not written out. Structs that hold fractions, and single operations on them, over a frame that is not written out. The contracts of takeTimes and addBack. The contracts of addBack, moveUp and LeadingZeros32. The contracts of LeadingZeros32 and moveUp. The contract of moveDown. The contract of guessLimb. Plain facts on the long division: what the guess of a limb is worth. No program is named here. What the long division keeps from round to round: facts on memory and lists, without the program. The contract of divideLong. The contract of DivMod, for every divisor. Whole numbers: the contract of DivMod. Whole numbers: the contract of Text. The statements' awake answers true. The contract of lookAhead. The contract of shrink. The contracts of Uint, gcdShort and Gcd. What a Book holds: the lists that it took, each filled with a mark of its own; what an append to its two rows does to it. The contract of Book's Own. Answers of one call, and of several, that have nothing in common. Whole numbers: Trim, Neg, Add, Sub, Mul; each answer in memory of its own. Plain facts on numbers written in digits to the base 10000: what a list of limbs is worth, its form without limbs 0 on top, and that this form is one. No program is named here. What the contracts say of slices of digits in memory: that a slice reads as a list of digits, that a slice lies in memory that the call itself made, and what a store does to it. The contracts of the calls that only read: the reference's cut. The contract of the reference's small: a magnitude times a number, and one added. The contracts of the reference's cutBy, made, FromLimbs. The contract of the reference's Limbs. The contract of the reference's Trim. The contracts of the reference's Sign, Size and Cmp. The contracts of the reference's plus: two magnitudes together. The contract of the reference's less: a magnitude less one that is not above it.
-/
import Derived.Scope
import Derived.Deep.QuietTactic
import Derived.BigQuiet
import Derived.Deep.RegionWith
import Derived.Deep.RegionHeld3
import Derived.Deep.AppendLies
import Derived.Test.YtpofkigboedliaaProg
import Derived.WalkKit
import Derived.WalkSpells
import Derived.WalkLawsBesides
import Derived.Test.YtpofkigboedliaaWSuLawZ0
namespace Go.Proofs.Ytpofkigboedliaa
namespace Lm
open Go Go.RowKit
def W2 : BoxTy := ⟨28, .agg #[.bool false, .slice none 0 0], fun v cs => ∃ ng ao n c, v = .agg #[.bool ng, .slice ao n c] ∧ cs = #[.bool ng, .slice ao n c]⟩
theorem BoxV.box {w : World} {g : Nat} {ng : Bool} {ao : Option Addr} {n c : Nat} (h : BoxV W2 w g (.agg #[.bool ng, .slice ao n c])) : Box w g ng (.slice ao n c) := by
  obtain ⟨cs, ⟨_, _, _, _, e, rfl⟩, h⟩ := h
  simp only [Value.agg.injEq] at e
  simp only [Array.mk.injEq, List.cons.injEq, Value.bool.injEq, Value.slice.injEq, and_true] at e
  obtain ⟨rfl, rfl, rfl, rfl⟩ := e
  exact h
theorem Box.v {w : World} {g : Nat} {ng : Bool} {ao : Option Addr} {n c : Nat} (h : Box w g ng (.slice ao n c)) : BoxV W2 w g (.agg #[.bool ng, .slice ao n c]) := ⟨_, ⟨_, _, _, _, rfl, rfl⟩, h⟩
theorem W2ok : BoxOk Try.prog W2 where
  noInt := by
    rintro v cs ⟨ng, ao, n, c, rfl, rfl⟩ i k z
    match i with
    | 0 => simp
    | 1 => simp
    | i + 2 => simp
  ne := by unfold W2; exact ⟨by decide, by decide⟩
  alloc := fun w => ⟨#[.bool false, .slice none 0 0], ⟨_, _, _, _, rfl, rfl⟩, by unfold W2; go_simp⟩
  box := by
    rintro w v ⟨cs, ng, ao, n, c, rfl, rfl⟩
    exact ⟨_, ⟨_, _, _, _, rfl, rfl⟩, by unfold W2; go_simp⟩
  store := by
    rintro w g v0 v ⟨cs0, ⟨m, bo, p, d, rfl, rfl⟩, hh⟩ ⟨cs, ng, ao, n, c, rfl, rfl⟩
    have hb : Box w g m (.slice bo p d) := hh
    obtain ⟨b1, b2, b3, b4⟩ := hb.facts
    refine ⟨(w.setCell ⟨g, 0, none⟩ (.bool ng)).setCell ⟨g, 1, none⟩ (.slice ao n c), ?_, (hb.set ng (.slice ao n c)).v, ⟨rfl, rfl, rfl, by simp [World.setCell], fun k hk => ?_⟩⟩
    · unfold W2
      go_simp
    · rw [Below.heap_setCell _ _ _ _ (by simpa using hk), Below.heap_setCell _ _ _ _ (by simpa using hk)]
  load := by
    rintro w g v ⟨cs, ⟨ng, ao, n, c, rfl, rfl⟩, hh⟩
    exact load_whole (show Box w g ng (.slice ao n c) from hh)
theorem Ag.rl {w w' : World} {ng : Bool} {ao : Option Addr} {n cap : Nat} {xs : List Int} {z : Int} (h : Ag w ng ao n cap xs z) (hr : Rl w w') : Ag w' ng ao n cap xs z := ⟨h.sl.rl hr, h.worth⟩
theorem Got.rl {w w' : World} {ao : Option Addr} {cap : Nat} {rs : List Int} {x : Int} (h : Got w ao cap rs x) (hr : Rl w w') : Got w' ao cap rs x := ⟨h.1.rl hr, h.2⟩
theorem Wh.rl {w w' : World} {ng : Bool} {ao : Option Addr} {cap : Nat} {rs : List Int} {z : Int} (h : Wh w ng ao cap rs z) (hr : Rl w w') : Wh w' ng ao cap rs z := ⟨Got.rl h.1 hr, h.2⟩
def NeOld : List Bx → Nat → Prop
  | [], _ => True
  | b :: bx, g => (b.ia = none → b.g0 ≠ g) ∧ NeOld bx g
theorem NeOld.all : ∀ {bx : List Bx} {g : Nat}, NeOld bx g → ∀ b ∈ bx, b.ia = none → b.g0 ≠ g
  | [], _, _ => fun c hc => by cases hc
  | b :: bx, g, h => fun c hc => by
    rcases List.mem_cons.1 hc with rfl | hc
    · exact h.1
    · exact NeOld.all h.2 c hc
theorem BoxV.keep {τ : BoxTy} {bx : List Bx} {w w' : World} {g : Nat} {v : Value} (h : BoxV τ w g v) (hb : But bx w w') (hn : NeOld bx g) : BoxV τ w' g v := by
  obtain ⟨cs, hc, h⟩ := h
  exact ⟨cs, hc, (hb.keep g (lt_of_heap h) hn.all).trans h⟩
def DisOld : List Bx → Prop
  | [] => True
  | b :: bx => (b.ia = none → NeOld bx b.g0) ∧ DisOld bx
theorem DisOld.all : ∀ {bx : List Bx}, DisOld bx → ∀ (k k' : Nat) (b b' : Bx), bx[k]? = some b → bx[k']? = some b' → k ≠ k' → b.ia = none → b'.ia = none → b.g0 ≠ b'.g0
  | c :: bx, h, k, k', b, b', hk, hk', hne, hi, hi' => by
    cases k with
    | zero =>
      simp only [List.getElem?_cons_zero, Option.some.injEq] at hk
      subst hk
      cases k' with
      | zero => exact absurd rfl hne
      | succ k' => exact fun e => NeOld.all (h.1 hi) b' (List.mem_of_getElem? (by simpa using hk')) hi' e.symm
    | succ k =>
      cases k' with
      | zero =>
        simp only [List.getElem?_cons_zero, Option.some.injEq] at hk'
        subst hk'
        exact fun e => NeOld.all (h.1 hi') b (List.mem_of_getElem? (by simpa using hk)) hi e
      | succ k' => exact DisOld.all h.2 k k' b b' (by simpa using hk) (by simpa using hk') (fun e => hne (by rw [e])) hi hi'
def UpOld (B : Nat) : List Bx → Prop
  | [] => True
  | b :: bx => (b.ia = none → B ≤ b.g0) ∧ UpOld B bx
theorem UpOld.all {B : Nat} : ∀ {bx : List Bx}, UpOld B bx → ∀ b ∈ bx, b.ia = none → B ≤ b.g0
  | [], _ => fun c hc => by cases hc
  | b :: bx, h => fun c hc => by
    rcases List.mem_cons.1 hc with rfl | hc
    · exact h.1
    · exact UpOld.all h.2 c hc
def IsOld (a : Act) (w : World) : List Bx → Prop
  | [] => True
  | b :: bx => (b.ia = none → a.eval (.tmp b.d) = .pointer (some ⟨b.g0, 0, none⟩) ∧ BoxV b.τ w b.g0 b.v0) ∧ IsOld a w bx
theorem IsOld.all {a : Act} {w : World} : ∀ {bx : List Bx}, IsOld a w bx → ∀ b ∈ bx, b.ia = none → a.eval (.tmp b.d) = .pointer (some ⟨b.g0, 0, none⟩) ∧ BoxV b.τ w b.g0 b.v0
  | [], _ => fun c hc => by cases hc
  | b :: bx, h => fun c hc => by
    rcases List.mem_cons.1 hc with rfl | hc
    · exact h.1
    · exact IsOld.all h.2 c hc
theorem ok_nil {P : Program} : ∀ b ∈ ([] : List Bx), BoxOk P b.τ := fun _ h => by cases h
theorem ok_cons {P : Program} {b : Bx} {bx : List Bx} (h : BoxOk P b.τ) (t : ∀ b ∈ bx, BoxOk P b.τ) : ∀ b' ∈ b :: bx, BoxOk P b'.τ := fun b' hm => by
  rcases List.mem_cons.1 hm with rfl | hm
  · exact h
  · exact t b' hm
theorem Eqs.mono4 (x : Value) : Mono4 (Eqs x) := fun _ _ _ _ h => h
theorem True.mono4 : Mono4 (fun _ _ => True) := fun _ _ _ _ h => h
theorem OutW.mono4 (z : Int) (L : Nat) : Mono4 (OutW z L) := fun _ _ _ hb ⟨ng, ao, cap, rs, e, h, l⟩ => ⟨ng, ao, cap, rs, e, ⟨⟨h.1.1.rl hb, h.1.2⟩, h.2⟩, l⟩
theorem OutW.cs {z : Int} {L : Nat} (v : Value) (w : World) (h : OutW z L v w) : ∃ cs, W2.Cs v cs := by
  obtain ⟨ng, ao, cap, rs, rfl, _⟩ := h
  exact ⟨_, _, _, _, _, rfl, rfl⟩
section
variable {dst : Option Tmp} {ty : TypeId} {pos : String} {after : Array Edge} {guard : Option (Nat × Bool)} {a : Act} {w : World} {ats : Array TypeId} {i j k g : Nat} {x y z : Int} {L L1 L2 : Nat}
theorem op_loadv {P : Program} {τ : BoxTy} {v : Value} (hτ : BoxOk P τ) (hp : a.eval (.tmp k) = .pointer (some ⟨g, 0, none⟩)) (hb : BoxV τ w g v) :
    Does P { dst, op := .load τ.T (.tmp k), type := ty, pos, after, guard } a.eval w fun v' w' => Below w.heap.size w w' ∧ Eqs v v' w' :=
  does_load (by rw [hp]; exact hτ.load w g v hb) ⟨Below.refl _ _, rfl⟩
theorem op_fa {f off : Nat} (hf : ∀ w : World, (Instr.fieldAt 28 (.pointer (some ⟨g, 0, none⟩)) f).run Try.prog w = .ok (.pointer (some ⟨g, off, none⟩)) w) (hp : a.eval (.tmp k) = .pointer (some ⟨g, 0, none⟩)) :
    Does Try.prog { dst, op := .fieldAddr 28 (.tmp k) f, type := ty, pos, after, guard } a.eval w fun v' w' => Below w.heap.size w w' ∧ Eqs (.pointer (some ⟨g, off, none⟩)) v' w' := by
  refine ⟨?_⟩
  unfold Turns
  simp only [execOp, hp]
  simp [hf]
  exact ⟨Below.refl _ _, rfl⟩
theorem fa_neg (w : World) : (Instr.fieldAt 28 (.pointer (some ⟨g, 0, none⟩)) 0).run Try.prog w = .ok (.pointer (some ⟨g, 0, none⟩)) w := by go_simp
theorem fa_mag (w : World) : (Instr.fieldAt 28 (.pointer (some ⟨g, 0, none⟩)) 1).run Try.prog w = .ok (.pointer (some ⟨g, 1, none⟩)) w := by go_simp
theorem op_ldneg {ng : Bool} {ao : Option Addr} {n c : Nat} (hp : a.eval (.tmp k) = .pointer (some ⟨g, 0, none⟩)) (hb : BoxV W2 w g (.agg #[.bool ng, .slice ao n c])) :
    Does Try.prog { dst, op := .load 4 (.tmp k), type := ty, pos, after, guard } a.eval w fun v' w' => Below w.heap.size w w' ∧ Eqs (.bool ng) v' w' := by
  obtain ⟨b1, b2, b3, b4⟩ := hb.box.facts
  refine does_load (v := .bool ng) ?_ ⟨Below.refl _ _, rfl⟩
  rw [hp]
  go_simp
theorem op_ldmag {ng : Bool} {ao : Option Addr} {n c : Nat} (hp : a.eval (.tmp k) = .pointer (some ⟨g, 1, none⟩)) (hb : BoxV W2 w g (.agg #[.bool ng, .slice ao n c])) :
    Does Try.prog { dst, op := .load 26 (.tmp k), type := ty, pos, after, guard } a.eval w fun v' w' => Below w.heap.size w w' ∧ Eqs (.slice ao n c) v' w' := by
  obtain ⟨b1, b2, b3, b4⟩ := hb.box.facts
  refine does_load (v := .slice ao n c) ?_ ⟨Below.refl _ _, rfl⟩
  rw [hp]
  go_simp
theorem op_mv {x : Operand} {v : Value} (h : a.eval x = v) : Does Try.prog { dst, op := .move x, type := ty, pos, after, guard } a.eval w fun v' w' => Below w.heap.size w w' ∧ Eqs v v' w' := does_move ⟨Below.refl _ _, h⟩
theorem op_not {t : TypeId} {b : Bool} (h : a.eval (.tmp i) = .bool b) : Does Try.prog { dst, op := .unOp .not t (.tmp i), type := ty, pos, after, guard } a.eval w fun v' w' => Below w.heap.size w w' ∧ Eqs (.bool (!b)) v' w' := by
  refine does_un (v := .bool (!b)) ?_ ⟨Below.refl _ _, rfl⟩
  rw [h]
  simp [go_sem]
theorem op_eqlb {b c : Bool} (h1 : a.eval (.tmp i) = .bool b) (h2 : a.eval (.tmp j) = .bool c) :
    Does Try.prog { dst, op := .binOp .eql 4 (.tmp i) (.tmp j) 4, type := ty, pos, after, guard } a.eval w fun v w' => Below w.heap.size w w' ∧ Eqs (.bool (b == c)) v w' := by
  refine does_bin (v := .bool (b == c)) ?_ ?_ ⟨Below.refl _ _, rfl⟩
  · rw [h1, h2]; simp [go_sem]
  · rw [h1, h2]; simp [go_sem]
theorem op_gtrk {u v : Int} (h1 : a.eval (.tmp i) = .int .i64 u) :
    Does Try.prog { dst, op := .binOp .gtr 3 (.tmp i) (.const (.int .i64 v)) 3, type := ty, pos, after, guard } a.eval w fun v' w' => Below w.heap.size w w' ∧ Eqs (.bool (decide (v < u))) v' w' := by
  refine does_bin (v := .bool (decide (v < u))) ?_ ?_ ⟨Below.refl _ _, rfl⟩
  · rw [h1]; simp [go_sem, Act.eval]
  · rw [h1]; simp [go_sem, Act.eval]
theorem op_plus {u v : Int} (h1 : a.eval (.tmp i) = .int .i64 u) (h2 : a.eval (.tmp j) = .int .i64 v) (h : -9223372036854775808 ≤ u + v ∧ u + v ≤ 9223372036854775807) :
    Does Try.prog { dst, op := .binOp .add 3 (.tmp i) (.tmp j) 3, type := ty, pos, after, guard } a.eval w fun v' w' => Below w.heap.size w w' ∧ Eqs (.int .i64 (u + v)) v' w' := by
  refine does_bin (v := .int .i64 (u + v)) ?_ ?_ ⟨Below.refl _ _, rfl⟩
  · rw [h1, h2]; simp [go_sem]
  · rw [h1, h2]; simp [go_sem]; exact wrap64 h.1 h.2
end
end Lm
end Go.Proofs.Ytpofkigboedliaa

namespace Go.Proofs.Ytpofkigboedliaa
namespace Lm
open Go Go.RowKit
def IsL (x : Int) (L : Nat) : Says := fun v w => ∃ ao n cap xs, v = .slice ao n cap ∧ Sl w (.slice ao n cap) xs ∧ val xs = x ∧ xs.length ≤ L
def OutL (x : Int) (L : Nat) : Says := fun v w => ∃ ao cap rs, v = .slice ao rs.length cap ∧ Got w ao cap rs x ∧ rs.length ≤ L
theorem OutL.is {x : Int} {L : Nat} {v : Value} {w : World} : OutL x L v w → IsL x L v w := fun ⟨ao, cap, rs, e, h, l⟩ => ⟨ao, rs.length, cap, rs, e, h.1, h.2.2, l⟩
theorem isw_eq {v : Value} {w : World} {ng : Bool} {ao : Option Addr} {n c : Nat} {xs : List Int} {z : Int} {L : Nat} (h : v = .agg #[.bool ng, .slice ao n c]) (hA : Ag w ng ao n c xs z) (hl : xs.length ≤ L) : IsW z L v w := ⟨_, _, _, _, _, h, hA, hl⟩
theorem outw_eq {v : Value} {w : World} {ng : Bool} {ao : Option Addr} {c : Nat} {rs : List Int} {z : Int} {L : Nat} (h : v = .agg #[.bool ng, .slice ao rs.length c]) (hA : Wh w ng ao c rs z) (hl : rs.length ≤ L) : OutW z L v w := ⟨_, _, _, _, h, hA, hl⟩
theorem someNe {α : Type} {x : α} {p : Prop} (h : some x = none) : p := by cases h
theorem boxv_old {τ : BoxTy} {w : World} {g g0 : Nat} {x v : Value} (hg : g = g0) (h : BoxV τ w g x) (e : x = v) : BoxV τ w g0 v := by
  subst hg e
  exact h
theorem then_ret {next : Act → World → Prop} {Q : Exit → Act → World → Prop} {a : Act} {w : World} (h : Q .ret a w) : Exit.then next Q .ret a w := h
section
variable {next : Act → World → Prop} {Q : Exit → Act → World → Prop} {a : Act} {w : World} {id id' : Nat}
theorem block_ret (h : Q .ret a w) : Exit.inBlock id Q .ret a w := h
theorem scope_ret (h : Q .ret a w) : Exit.noGoto Q .ret a w := h
theorem block_normal (h : Q .normal a w) : Exit.inBlock id Q .normal a w := h
theorem then_exit (h : Q (.exit id) a w) : Exit.then next Q (.exit id) a w := h
theorem scope_exit (h : Q (.exit id) a w) : Exit.noGoto Q (.exit id) a w := h
theorem block_exit (h : Q .normal a w) : Exit.inBlock id Q (.exit id) a w := by
  show (if id = id then _ else _)
  rw [if_pos rfl]
  exact h
theorem block_pass (hn : id' ≠ id) (h : Q (.exit id') a w) : Exit.inBlock id Q (.exit id') a w := by
  show (if id' = id then _ else _)
  rw [if_neg hn]
  exact h
end
theorem boxv_of {τ : BoxTy} {w : World} {g : Nat} {x v : Value} (h : BoxV τ w g x) (e : x = v) : BoxV τ w g v := e ▸ h
theorem eqs_cs {v : Value} {τ : BoxTy} (h : ∃ cs, τ.Cs v cs) : ∀ (u : Value) (w : World), Eqs v u w → ∃ cs, τ.Cs u cs := fun u _ e => by
  have e : u = v := e
  rw [e]
  exact h
theorem w2_cs {ng : Bool} {ao : Option Addr} {n c : Nat} : ∃ cs, W2.Cs (.agg #[.bool ng, .slice ao n c]) cs := ⟨_, _, _, _, _, rfl, rfl⟩
section
variable {P : Program} {dst : Option Tmp} {ty : TypeId} {pos : String} {after : Array Edge} {guard : Option (Nat × Bool)} {a : Act} {w : World} {ats : Array TypeId} {i j k g : Nat} {x y z : Int} {L L1 L2 : Nat}
theorem op_pickb {c x y : Operand} {b : Bool} {v : Value} (hc : a.eval c = .bool b) (h : (if b then a.eval x else a.eval y) = v) : Does P { dst, op := .pick c x y, type := ty, pos, after, guard } a.eval w fun v' w' => Below w.heap.size w w' ∧ Eqs v v' w' := does_pick hc ⟨Below.refl _ _, h⟩
theorem op_bW2 {b : Bool} {ao : Option Addr} {n c : Nat} (h1 : a.eval (.tmp i) = .bool b) (h2 : a.eval (.tmp j) = .slice ao n c) : Does Try.prog { dst, op := .build 28 #[(0, .tmp i), (1, .tmp j)], type := ty, pos, after, guard } a.eval w fun v' w' => Below w.heap.size w w' ∧ Eqs (.agg #[.bool b, .slice ao n c]) v' w' := by
  have e : (execOp a.eval { dst, op := .build 28 #[(0, .tmp i), (1, .tmp j)], type := ty, pos, after, guard }).run Try.prog w = .ok (.value (.agg #[.bool b, .slice ao n c])) w := by
    simp only [execOp, List.map_toArray, List.map_nil, List.map_cons, h1, h2]
    go_simp
  refine ⟨?_⟩
  unfold Turns
  rw [e]
  exact ⟨Below.refl _ _, rfl⟩
end
theorem lv_W2 {w : World} {g : Nat} {v : Value} (h : BoxV W2 w g v) : (loadVar 28 ⟨g, 0, none⟩).run Try.prog w = .ok v w := by
  obtain ⟨cs, ⟨ng, ao, n, c, rfl, rfl⟩, hh⟩ := h
  obtain ⟨b1, b2, b3, b4⟩ := (show Box w g ng (.slice ao n c) from hh).facts
  go_simp
theorem res_c {P : Program} {fn : Func} {a : Act} {w : World} {k g : Nat} {T : TypeId} {v : Value} (hr : fn.results = #[.cell k T]) (hp : a.eval (.tmp k) = .pointer (some ⟨g, 0, none⟩)) (hl : (loadVar T ⟨g, 0, none⟩).run P w = .ok v w) : (results fn a.tmps).run P w = .ok v w := by
  have hp' : a.tmps[k]?.getD undef = .pointer (some ⟨g, 0, none⟩) := by simpa [Act.eval] using hp
  simp [results, hr, hp', asAddr, hl]
theorem res_t {P : Program} {fn : Func} {a : Act} {w : World} {k : Nat} {v : Value} (hr : fn.results = #[.tmp k]) (hp : a.eval (.tmp k) = v) : (results fn a.tmps).run P w = .ok v w := by
  have hp' : a.tmps[k]?.getD undef = v := by simpa [Act.eval] using hp
  simp [results, hr, hp']
end Lm
end Go.Proofs.Ytpofkigboedliaa

namespace Go.Proofs.Ytpofkigboedliaa
namespace Lm
open Go Go.RowKit
def IsR (p q : Int) (L : Nat) : Says := fun v w => ∃ ng ao n cap xs bo m dap ys, v = .agg #[.bool ng, .slice ao n cap, .slice bo m dap] ∧ Ag w ng ao n cap xs p ∧ Sl w (.slice bo m dap) ys ∧ val ys = q ∧ xs.length ≤ L ∧ ys.length ≤ L
def OutR (p q : Int) (L : Nat) : Says := fun v w => ∃ ng ao cap rs bo dap ss, v = .agg #[.bool ng, .slice ao rs.length cap, .slice bo ss.length dap] ∧ Wh w ng ao cap rs p ∧ Got w bo dap ss q ∧ rs.length ≤ L ∧ ss.length ≤ L
theorem OutR.is {p q : Int} {L : Nat} {v : Value} {w : World} : OutR p q L v w → IsR p q L v w := fun ⟨ng, ao, cap, rs, bo, dap, ss, e, h1, h2, l1, l2⟩ => ⟨ng, ao, rs.length, cap, rs, bo, ss.length, dap, ss, e, h1.ag, h2.1, h2.2.2, l1, l2⟩
section
variable {dst : Option Tmp} {ty : TypeId} {pos : String} {after : Array Edge} {guard : Option (Nat × Bool)} {a : Act} {w : World} {ats : Array TypeId} {i j k g : Nat} {x y z p q : Int} {L L1 L2 : Nat}
end
end Lm
end Go.Proofs.Ytpofkigboedliaa

namespace Go.Proofs.Ytpofkigboedliaa
namespace Lm
open Go.RowKit
theorem take_val {ps Y qs : List Int} {k : Nat} {x y a c b t r : Int} (hk : qs.length = k) (hy : Y.getD k 0 = y) (ha : ps.getD k 0 = a) (ht : t = x * y + c) (hr : r = a - t % 4294967296 - b) (h1 : -4294967296 ≤ r) (h2 : r < 4294967296) (h : val qs - pw k * (c + b) = vf ps k - x * vf Y k) :
    val (qs ++ [r % 4294967296]) - pw (k + 1) * (t / 4294967296 + bor r) = vf ps (k + 1) - x * vf Y (k + 1) := by
  rw [val_snoc, vf, vf, ha, hy, hk, pw, sub_step h1 h2]
  have e : t = t % 4294967296 + 4294967296 * (t / 4294967296) := by omega
  have e1 : pw k * (r + 4294967296 * bor r) = pw k * r + 4294967296 * pw k * bor r := by rw [Int.mul_add, Int.mul_comm 4294967296 (pw k), Int.mul_assoc]
  have e2 : 4294967296 * pw k * (t / 4294967296 + bor r) = pw k * (4294967296 * (t / 4294967296)) + 4294967296 * pw k * bor r := by rw [Int.mul_add, Int.mul_comm 4294967296 (pw k), Int.mul_assoc]
  have e3 : pw k * (4294967296 * (t / 4294967296)) = pw k * t - pw k * (t % 4294967296) := by rw [← Int.mul_sub]; congr 1; omega
  have e4 : x * (vf Y k + pw k * y) = x * vf Y k + pw k * (x * y) := by rw [Int.mul_add, ← Int.mul_assoc x, Int.mul_comm x (pw k), Int.mul_assoc]
  have e5 : pw k * t = pw k * (x * y) + pw k * c := by rw [ht, Int.mul_add]
  have e6 : pw k * r = pw k * a - pw k * (t % 4294967296) - pw k * b := by rw [hr, Int.mul_sub, Int.mul_sub]
  have e7 : pw k * (c + b) = pw k * c + pw k * b := Int.mul_add _ _ _
  rw [e1, e2, e3, e4, e5, e6]
  omega
theorem take_carry {Y : List Int} {k : Nat} {x y c t : Int} (hy : Y.getD k 0 = y) (ht : t = x * y + c) (h : pw k * c ≤ x * vf Y k) : pw (k + 1) * (t / 4294967296) ≤ x * vf Y (k + 1) := by
  rw [vf, hy, pw]
  have e1 : 4294967296 * pw k * (t / 4294967296) = pw k * (4294967296 * (t / 4294967296)) := by rw [Int.mul_comm 4294967296 (pw k), Int.mul_assoc]
  have e2 : pw k * (4294967296 * (t / 4294967296)) ≤ pw k * t := Int.mul_le_mul_of_nonneg_left (by omega) (by have := pw_pos k; omega)
  have e3 : pw k * t = pw k * (x * y) + pw k * c := by rw [ht, Int.mul_add]
  have e4 : x * (vf Y k + pw k * y) = x * vf Y k + pw k * (x * y) := by rw [Int.mul_add, ← Int.mul_assoc x, Int.mul_comm x (pw k), Int.mul_assoc]
  omega
theorem carry_zero {Y : List Int} {n : Nat} {x c : Int} (hY : Limb Y) (hl : Y.length = n) (hx : 0 ≤ x ∧ x < 4294967296) (hc : 0 ≤ c) (h : pw (n + 1) * c ≤ x * vf Y (n + 1)) : c = 0 := by
  rw [vf_all Y _ (by omega), pw] at h
  have hb := val_bounds hY
  rw [hl] at hb
  have h1 : x * val Y ≤ 4294967295 * val Y := Int.mul_le_mul_of_nonneg_right (by omega) hb.1
  apply Classical.byContradiction
  intro hn
  have h2 : 4294967296 * pw n * 1 ≤ 4294967296 * pw n * c := Int.mul_le_mul_of_nonneg_left (by omega) (by have := pw_pos n; omega)
  omega
set_option maxRecDepth 20000 in
set_option maxHeartbeats 1000000 in
theorem takeTimes_any (w : World) (g o n cap c2 : Nat) (cur : Array Value) (ps Y : List Int) (a2 : Option Addr) (x : Int) (hx : 0 ≤ x ∧ x < 4294967296)
    (hh : w.heap[g]? = some (.cells cur 67 (0, 0))) (ha : At cur .u32 o ps) (hp : Limb ps) (hpl : ps.length = n + 1) (hm : n ≤ 1000000)
    (hY : ∀ wr cur', Wr w wr g cur' 67 → Sl wr (.slice a2 n c2) Y) :
    Calls Try.prog 102 #[.slice (some ⟨g, o, none⟩) (n + 1) cap, .slice a2 n c2, .int .u32 x] w fun e w' => ∃ qs b cur', e = .returned (.bool (b != 0)) ∧ (0 ≤ b ∧ b ≤ 1) ∧ val qs - pw (n + 1) * b = val ps - x * val Y ∧ Limb qs ∧ qs.length = n + 1 ∧ Wr w w' g cur' 67 ∧ cur'.size = cur.size ∧ At cur' .u32 o qs ∧ (∀ i, i < o ∨ o + (n + 1) ≤ i → cur'[i]? = cur[i]?) := by
  obtain ⟨hYl, g1, g2, g3⟩ := (hY _ _ (Wr.refl hh)).parts
  have HP := hide hp
  have HY := hide g3
  have HYL := hide hYl
  have HPL := hide hpl
  have HH := hide hh
  have HA := hide ha
  clear hp g3 hYl hpl hh ha
  go_enter Try.func102, Try.ntmps102
  go_wp2
  go_loopw [7, 8, 14] (fun cv bv i wr => ∃ (k : Nat) (c b : Int) (qs : List Int) (cur' : Array Value), k ≤ n + 1 ∧ cv = .int .u64 c ∧ bv = .int .i64 b ∧ i = .int .i64 k ∧ (0 ≤ c ∧ c < 4294967296) ∧ (0 ≤ b ∧ b ≤ 1) ∧ qs.length = k ∧ Limb qs ∧ val qs - pw k * (c + b) = vf ps k - x * vf Y k ∧ pw k * c ≤ x * vf Y k ∧ Wr w wr g cur' 67 ∧ cur'.size = cur.size ∧ At cur' .u32 o (qs ++ ps.drop k) ∧ (∀ i, i < o ∨ o + (n + 1) ≤ i → cur'[i]? = cur[i]?)) (fun _ _ i _ => n + 1 - (intOf i).toNat)
  case atStart => exact ⟨0, 0, 0, [], cur, Nat.zero_le _, rfl, rfl, rfl, by omega, by omega, rfl, limb_nil, by simp [val, vf, pw], by simp [vf], Wr.refl HH.out, rfl, by simpa using HA.out, fun _ _ => rfl⟩
  case round =>
    obtain ⟨k, c, b, qs, cur', hk, rfl, rfl, rfl, hc, hbb, hql, hq, hval, hcar, hwr, hcs, hat, hout⟩ := hrel
    have HQL := hide hql
    have HQ := hide hq
    have HV := hide hval
    have HCar := hide hcar
    have HW := hide hwr
    have HC := hide hcs
    have HT := hide hat
    have HO := hide hout
    clear hql hq hval hcar hwr hcs hat hout
    by_cases hlt : k < n + 1
    · have sy := hY _ _ HW.out
      have hlen : (qs ++ ps.drop k).length = n + 1 := by have := HQL.out; have := HPL.out; simp; omega
      have co := HT.out.cell HW.out.here k (by rw [hlen]; omega)
      have e1 : (qs ++ ps.drop k).getD k 0 = ps.getD k 0 := by
        rw [List.getD_eq_getElem?_getD, List.getElem?_append_right (by have := HQL.out; omega), List.getElem?_drop, List.getD_eq_getElem?_getD, HQL.out]
        congr 2
        omega
      rw [e1] at co
      have hfree := HW.out.free (o + k)
      have by' := limb_getD HY.out k
      have ba := limb_getD HP.out k
      obtain ⟨y, hy⟩ : ∃ y, Y.getD k 0 = y := ⟨_, rfl⟩
      obtain ⟨a, hpa⟩ : ∃ a, ps.getD k 0 = a := ⟨_, rfl⟩
      have ky : Hid (Calls Try.prog 87 #[.slice a2 n c2, .int .i64 k] wr fun e w' => e = .returned (.int .u32 y) ∧ w' = wr) := by rw [← hy]; exact limb_nat _ _ Y sy k
      rw [hy] at by'
      rw [hpa] at co ba
      have hxy := mul_bound hx by'
      have s0 : 0 ≤ (x * y + c) % 4294967296 ∧ (x * y + c) % 4294967296 < 4294967296 := by omega
      have s1 : -4294967296 ≤ a - (x * y + c) % 4294967296 - b := by omega
      have s2 : a - (x * y + c) % 4294967296 - b < 4294967296 := by omega
      have hand := and_bor s1 s2
      have hbo := bor_01 (a - (x * y + c) % 4294967296 - b)
      have HV' := hide (take_val (x := x) HQL.out hy hpa rfl rfl s1 s2 HV.out)
      have HCar' := hide (take_carry (x := x) hy rfl HCar.out)
      have HT' := hide (HT.out.set k ((a - (x * y + c) % 4294967296 - b) % 4294967296))
      have HW' := hide (HW.out.set (o + k) (.int .u32 ((a - (x * y + c) % 4294967296 - b) % 4294967296)))
      have d1 : (k : Int) < (n : Int) + 1 := by omega
      clear hlen e1 hy hpa sy
      go_wp2_with fail
      refine (ky.out).mono ?_
      rintro e w2 ⟨rfl, rfl⟩
      go_wp2
      go_roundw
      case rel =>
        refine ⟨k + 1, (x * y + c) / 4294967296, _, qs ++ [(a - (x * y + c) % 4294967296 - b) % 4294967296], _, by omega, rfl, rfl, by go_num, by omega, hbo, by have := HQL.out; simp; omega, limb_append.2 ⟨HQ.out, limb_cons.2 ⟨by omega, limb_nil⟩⟩, HV'.out, HCar'.out, HW'.out, by simpa using HC.out, by rw [← set_snoc qs ps k _ HQL.out (by have := HPL.out; omega)]; exact HT'.out, fun i hi => ?_⟩
        rw [Array.getElem?_setIfInBounds, if_neg (by omega)]
        exact HO.out i hi
      case measure => simp [intOf]; omega
    · have hkn : k = n + 1 := by omega
      subst hkn
      have hc0 := carry_zero HY.out HYL.out.symm hx hc.1 HCar.out
      have HVf : Hid (val qs - pw (n + 1) * b = val ps - x * val Y) := by
        have h9 := HV.out
        rw [hc0, Int.zero_add, vf_all ps _ (by have := HPL.out; omega), vf_all Y _ (by have := HYL.out; omega)] at h9
        exact h9
      have HTf : Hid (At cur' .u32 o qs) := by
        have h9 := HT.out
        rwa [List.drop_of_length_le (by have := HPL.out; omega), List.append_nil] at h9
      clear hc0
      go_wp2
      go_ret
      exact ⟨qs, b, cur', rfl, hbb, HVf.out, HQ.out, HQL.out, HW.out, HC.out, HTf.out, HO.out⟩
end Lm
end Go.Proofs.Ytpofkigboedliaa

namespace Go.Proofs.Ytpofkigboedliaa
namespace Lm
open Go.RowKit
set_option maxRecDepth 20000 in
set_option maxHeartbeats 1000000 in
theorem addBack_any (w : World) (g o n cap c2 : Nat) (cur : Array Value) (ps Y : List Int) (a2 : Option Addr)
    (hh : w.heap[g]? = some (.cells cur 67 (0, 0))) (ha : At cur .u32 o ps) (hp : Limb ps) (hpl : ps.length = n + 1) (hm : n ≤ 1000000)
    (hY : ∀ wr cur', Wr w wr g cur' 67 → Sl wr (.slice a2 n c2) Y) :
    Calls Try.prog 103 #[.slice (some ⟨g, o, none⟩) (n + 1) cap, .slice a2 n c2] w fun e w' => ∃ qs c cur', e = .returned (.tuple #[]) ∧ (0 ≤ c ∧ c ≤ 1) ∧ val qs + pw (n + 1) * c = val ps + val Y ∧ Limb qs ∧ qs.length = n + 1 ∧ Wr w w' g cur' 67 ∧ cur'.size = cur.size ∧ At cur' .u32 o qs ∧ (∀ i, i < o ∨ o + (n + 1) ≤ i → cur'[i]? = cur[i]?) := by
  obtain ⟨hYl, g1, g2, g3⟩ := (hY _ _ (Wr.refl hh)).parts
  have HP := hide hp
  have HY := hide g3
  have HYL := hide hYl
  have HPL := hide hpl
  have HH := hide hh
  have HA := hide ha
  clear hp g3 hYl hpl hh ha
  go_enter Try.func103, Try.ntmps103
  go_wp2
  go_loopw [4, 9] (fun cv i wr => ∃ (k : Nat) (c : Int) (qs : List Int) (cur' : Array Value), k ≤ n + 1 ∧ cv = .int .u64 c ∧ i = .int .i64 k ∧ (0 ≤ c ∧ c ≤ 1) ∧ qs.length = k ∧ Limb qs ∧ val qs + pw k * c = vf ps k + vf Y k ∧ Wr w wr g cur' 67 ∧ cur'.size = cur.size ∧ At cur' .u32 o (qs ++ ps.drop k) ∧ (∀ i, i < o ∨ o + (n + 1) ≤ i → cur'[i]? = cur[i]?)) (fun _ i _ => n + 1 - (intOf i).toNat)
  case atStart => exact ⟨0, 0, [], cur, Nat.zero_le _, rfl, rfl, by omega, rfl, limb_nil, by simp [val, vf, pw], Wr.refl HH.out, rfl, by simpa using HA.out, fun _ _ => rfl⟩
  case round =>
    obtain ⟨k, c, qs, cur', hk, rfl, rfl, hc, hql, hq, hval, hwr, hcs, hat, hout⟩ := hrel
    have HQL := hide hql
    have HQ := hide hq
    have HV := hide hval
    have HW := hide hwr
    have HC := hide hcs
    have HT := hide hat
    have HO := hide hout
    clear hql hq hval hwr hcs hat hout
    by_cases hlt : k < n + 1
    · have sy := hY _ _ HW.out
      have hlen : (qs ++ ps.drop k).length = n + 1 := by have := HQL.out; have := HPL.out; simp; omega
      have co := HT.out.cell HW.out.here k (by rw [hlen]; omega)
      have e1 : (qs ++ ps.drop k).getD k 0 = ps.getD k 0 := by
        rw [List.getD_eq_getElem?_getD, List.getElem?_append_right (by have := HQL.out; omega), List.getElem?_drop, List.getD_eq_getElem?_getD, HQL.out]
        congr 2
        omega
      rw [e1] at co
      have hfree := HW.out.free (o + k)
      have by' := limb_getD HY.out k
      have ba := limb_getD HP.out k
      obtain ⟨y, hy⟩ : ∃ y, Y.getD k 0 = y := ⟨_, rfl⟩
      obtain ⟨a, hpa⟩ : ∃ a, ps.getD k 0 = a := ⟨_, rfl⟩
      have ky : Hid (∀ q, Calls Try.prog 87 #[.slice a2 n c2, .int .i64 k] (wr.drewN q) fun e w' => e = .returned (.int .u32 y) ∧ w' = wr.drewN q) := by
        intro q; rw [← hy]; exact limb_nat _ _ Y (sy.below (below_drewN (Below.refl _ _) q)) k
      rw [hy] at by'
      rw [hpa] at co ba
      have hst := add_step ba by' hc rfl
      have HV' := hide (add_val HQL.out hpa hy rfl HV.out)
      have HT' := hide (HT.out.set k ((a + y + c) % 4294967296))
      have HW' := hide (HW.out.set (o + k) (.int .u32 ((a + y + c) % 4294967296)))
      have d1 : (k : Int) < (n : Int) + 1 := by omega
      clear hlen e1 hy hpa sy
      go_wp2
      go_quiet ((go_at_call 87; exact Calls.quiet_of_same (ky.out _)))
      go_wp2
      go_roundw
      case rel =>
        refine ⟨k + 1, (a + y + c) / 4294967296, qs ++ [(a + y + c) % 4294967296], _, by omega, rfl, by go_num, by omega, by have := HQL.out; simp; omega, limb_append.2 ⟨HQ.out, limb_cons.2 ⟨by omega, limb_nil⟩⟩, HV'.out, HW'.out.drewN _, by simpa using HC.out, by rw [← set_snoc qs ps k _ HQL.out (by have := HPL.out; omega)]; exact HT'.out, fun i hi => ?_⟩
        rw [Array.getElem?_setIfInBounds, if_neg (by omega)]
        exact HO.out i hi
      case measure => simp [intOf]; omega
    · have hkn : k = n + 1 := by omega
      subst hkn
      have HVf : Hid (val qs + pw (n + 1) * c = val ps + val Y) := by
        have h9 := HV.out
        rw [vf_all ps _ (by have := HPL.out; omega), vf_all Y _ (by have := HYL.out; omega)] at h9
        exact h9
      have HTf : Hid (At cur' .u32 o qs) := by
        have h9 := HT.out
        rwa [List.drop_of_length_le (by have := HPL.out; omega), List.append_nil] at h9
      go_wp2
      go_end0
      exact ⟨qs, c, cur', rfl, hc, HVf.out, HQ.out, HQL.out, HW.out, HC.out, HTf.out, HO.out⟩
end Lm
end Go.Proofs.Ytpofkigboedliaa

namespace Go.Proofs.Ytpofkigboedliaa
namespace Lm
open Go.RowKit
set_option maxRecDepth 20000 in
set_option maxHeartbeats 400000 in
theorem lead_any (x : Int) (w : World) (h0 : 0 ≤ x) (h1 : x < 4294967296) :
    Calls Try.prog 99 #[.int .u32 x] w fun e w' => e = .returned (.int .i64 (32 - (Lib.bitLen x.toNat : Nat))) ∧ w' = w := by
  have hl : Lib.bitLen x.toNat ≤ 32 := Lib.bitLen_le _ 32 (by omega) (by omega)
  have kl := hide (len32_any x w h0 h1)
  generalize Lib.bitLen x.toNat = l at hl kl
  go_enter Try.func99, Try.ntmps99
  go_wp2_with fail
  refine (kl.out).mono ?_
  rintro e w' ⟨rfl, rfl⟩
  go_wp2
  go_ret
  exact ⟨rfl, rfl⟩
theorem p2_pow (s : Nat) : (2 : Int) ^ s = p2 s := by
  induction s with
  | zero => rfl
  | succ s ih => rw [Int.pow_succ, ih, p2]; omega
theorem nat_p2 (s : Nat) : ((2 ^ s : Nat) : Int) = p2 s := by
  induction s with
  | zero => rfl
  | succ s ih => rw [Nat.pow_succ, p2]; omega
theorem up_bound {x c : Int} {s : Nat} (h1 : 0 ≤ x) (h2 : x < 4294967296) (hs : s ≤ 31) (h3 : 0 ≤ c) (h4 : c < p2 s) : 0 ≤ x * p2 s + c ∧ x * p2 s + c < 4294967296 * p2 s ∧ x * p2 s + c < 9223372036854775808 ∧ 0 ≤ x * p2 s := by
  have hp := p2_pos s
  have hp2 := p2_mono (m := s) (n := 31) hs
  rw [show p2 31 = 2147483648 from by decide] at hp2
  have e1 : 0 ≤ x * p2 s := Int.mul_nonneg h1 (by omega)
  have e2 : (x + 1) * p2 s ≤ 4294967296 * p2 s := Int.mul_le_mul_of_nonneg_right (by omega) (by omega)
  rw [Int.add_mul] at e2
  omega
theorem or_shift {x c : Int} {s : Nat} (h1 : 0 ≤ x) (h2 : x < 4294967296) (hs : s ≤ 31) (h3 : 0 ≤ c) (h4 : c < p2 s) : bits .or .u64 (IntKind.u64.wrap (x * 2 ^ s)) c = x * p2 s + c := by
  have hb := up_bound h1 h2 hs h3 h4
  have hp := p2_pos s
  rw [p2_pow, IntKind.wrap_u64, Int.emod_eq_of_lt hb.2.2.2 (by omega), u64_or _ _ hb.2.2.2 (by omega) h3 (by omega)]
  obtain ⟨a, rfl⟩ := Int.eq_ofNat_of_zero_le h1
  obtain ⟨d, rfl⟩ := Int.eq_ofNat_of_zero_le h3
  have e1 : ((a : Int) * p2 s).toNat = 2 ^ s * a := by
    rw [← nat_p2, Int.mul_comm, ← Int.natCast_mul, Int.toNat_natCast]
  have hd : d < 2 ^ s := by have := nat_p2 s; omega
  rw [e1, Int.toNat_natCast, ← Nat.two_pow_add_eq_or_of_lt hd, Int.natCast_add, Int.natCast_mul, nat_p2, Int.mul_comm]
theorem up_val {zs qs : List Int} {k : Nat} {z c m t : Int} (hk : qs.length = k) (hz : zs.getD k 0 = z) (hs : t = z * m + c) (h : val qs + pw k * c = vf zs k * m) :
    val (qs ++ [t % 4294967296]) + pw (k + 1) * (t / 4294967296) = vf zs (k + 1) * m := by
  rw [val_snoc, vf, hz, hk, pw, Int.add_mul]
  have e : t = t % 4294967296 + 4294967296 * (t / 4294967296) := by omega
  have e2 : pw k * (t % 4294967296) + 4294967296 * pw k * (t / 4294967296) = pw k * t := by
    rw [Int.mul_comm 4294967296 (pw k), Int.mul_assoc, ← Int.mul_add, ← e]
  have e3 : pw k * z * m = pw k * (z * m) := by rw [Int.mul_assoc]
  rw [Int.add_assoc, e2, hs, Int.mul_add, e3]
  omega
set_option maxRecDepth 20000 in
set_option maxHeartbeats 1000000 in
theorem moveUp_any (w : World) (ao : Option Addr) (n cap : Nat) (xs : List Int) (hx : Sl w (.slice ao n cap) xs) (s : Nat) (hs : s ≤ 31) (hm : xs.length ≤ 1000000) :
    Calls Try.prog 100 #[.slice ao n cap, .int .u64 s] w fun e w' => ∃ cur qs, e = .returned (.slice (some ⟨w.heap.size, 0, none⟩) (n + 1) (n + 1)) ∧ Limb qs ∧ qs.length = n + 1 ∧ val qs = val xs * p2 s ∧ w'.heap[w.heap.size]? = some (.cells cur 67 (0, 0)) ∧ cur.size = n + 1 ∧ At cur .u32 0 qs ∧ Below w.heap.size w w' := by
  obtain ⟨rfl, h1, h2, h3⟩ := hx.parts
  obtain ⟨i0, hi, hz0, hz1, hz2⟩ := info_parts info32
  have H3 := hide h3
  have hp := p2_pos s
  have hp2 := p2_mono (m := s) (n := 31) hs
  rw [show p2 31 = 2147483648 from by decide] at hp2
  clear h3
  go_enter Try.func100, Try.ntmps100
  go_wp2_with (refine wpList_make_full _ rfl (.tmp 12) (.tmp 12) 26 rfl w.heap.size 67 i0 (.int .u32 0) 1 Try.underlying26 hi hz0 hz1 .i64 .i64 _ _ (xs.length + 1) rfl rfl (by omega) (by omega) (by rw [hz2]; omega) (by unfold maxLen; omega) (Nat.le_refl _) ?hK)
  case hK =>
    intro w1 hown hgrow
    obtain ⟨_, cur, hh, hcs, hat⟩ := block_of_made hown
    have hb1 : Below w.heap.size w w1 := (Below.refl w.heap.size w).grown hgrow (Nat.le_refl _) (by simp)
    have HH := hide hh
    have HS := hide hcs
    have HA := hide hat
    clear hown hgrow hh hcs hat
    go_wp2
    go_loopw [6, 16] (fun cv i wr => ∃ (k : Nat) (c : Int) (qs : List Int) (cur' : Array Value), k ≤ xs.length ∧ cv = .int .u64 c ∧ i = .int .i64 k ∧ (0 ≤ c ∧ c < p2 s) ∧ qs.length = k ∧ Limb qs ∧ val qs + pw k * c = vf xs k * p2 s ∧ Wr w1 wr w.heap.size cur' 67 ∧ cur'.size = xs.length + 1 ∧ At cur' .u32 0 (qs ++ (List.replicate (xs.length + 1) 0).drop k)) (fun _ i _ => xs.length - (intOf i).toNat)
    case atStart => exact ⟨0, 0, [], cur, Nat.zero_le _, rfl, rfl, by omega, rfl, limb_nil, by simp [val, vf, pw], Wr.refl HH.out, HS.out, by simpa using HA.out⟩
    case round =>
      obtain ⟨k, c, qs, cur', hk, rfl, rfl, hcb, hql, hq, hval, hwr, hcs, hat⟩ := hrel
      have HQL := hide hql
      have HQ := hide hq
      have HV := hide hval
      have HW := hide hwr
      have HC := hide hcs
      have HT := hide hat
      clear hql hq hval hwr hcs hat
      by_cases hlt : k < xs.length
      · have sx := HW.out.sl (Nat.le_refl _) hb1 rfl hx
        obtain ⟨b, off, rfl, hcx⟩ := sx.cells (by omega)
        have cx := hcx k (by omega)
        have bx := limb_getD H3.out k
        obtain ⟨x, hxk⟩ : ∃ x, xs.getD k 0 = x := ⟨_, rfl⟩
        rw [hxk] at cx bx
        have hlen : (qs ++ (List.replicate (xs.length + 1) (0 : Int)).drop k).length = xs.length + 1 := by have := HQL.out; simp; omega
        have hcell := HT.out.cell HW.out.here k (by rw [hlen]; omega)
        rw [Nat.zero_add] at hcell
        generalize (qs ++ (List.replicate (xs.length + 1) (0 : Int)).drop k).getD k 0 = old at hcell
        have hfree := HW.out.free k
        obtain ⟨M, hM⟩ : ∃ M, M = x * p2 s + c := ⟨_, rfl⟩
        have hor : bits .or .u64 (IntKind.u64.wrap (x * 2 ^ s)) c = M := by rw [hM]; exact or_shift bx.1 bx.2 hs hcb.1 hcb.2
        have hmb := up_bound bx.1 bx.2 hs hcb.1 hcb.2
        rw [← hM] at hmb
        have m1 := hmb.1
        have m2 := hmb.2.1
        have m3 := hmb.2.2.1
        have HV' := hide (up_val HQL.out hxk hM HV.out)
        have HT' := hide (HT.out.set k (M % 4294967296))
        have HW' := hide (HW.out.set k (.int .u32 (M % 4294967296)))
        clear hlen sx hcx hM hmb hxk
        go_wp2
        go_roundw
        case rel => exact ⟨k + 1, M / 4294967296, qs ++ [M % 4294967296], _, by omega, rfl, by go_num, by omega, by have := HQL.out; simp; omega, limb_append.2 ⟨HQ.out, limb_cons.2 ⟨by omega, limb_nil⟩⟩, HV'.out, HW'.out, by simpa using HC.out, by rw [← set_snoc qs _ k _ HQL.out (by simp; omega)]; simpa using HT'.out⟩
        case measure => simp [intOf]; omega
      · have hkM : k = xs.length := by omega
        subst hkM
        have hlen : (qs ++ (List.replicate (xs.length + 1) (0 : Int)).drop xs.length).length = xs.length + 1 := by have := HQL.out; simp; omega
        have hcell := HT.out.cell HW.out.here xs.length (by rw [hlen]; omega)
        rw [Nat.zero_add] at hcell
        have hfree := HW.out.free xs.length
        generalize hold : (qs ++ (List.replicate (xs.length + 1) (0 : Int)).drop xs.length).getD xs.length 0 = old at hcell
        have hat2 := HT.out.set xs.length c
        rw [set_snoc qs _ xs.length c HQL.out (by simp), List.drop_of_length_le (by simp), List.append_nil, Nat.zero_add] at hat2
        have hw2 := HW.out.set xs.length (.int .u32 c)
        have hlr : Limb (qs ++ [c]) := limb_append.2 ⟨HQ.out, limb_cons.2 ⟨by omega, limb_nil⟩⟩
        have R := hide (And.intro hat2 (And.intro hw2 (And.intro hlr (show val (qs ++ [c]) = val xs * p2 s by
          rw [val_snoc, HQL.out, HV.out, vf_all xs _ (Nat.le_refl _)]))))
        have hbel : Below w.heap.size w (wr.setCell ⟨w.heap.size, xs.length, none⟩ (.int .u32 c)) := hb1.trans (hw2.below (Nat.le_refl _))
        have hc2 : c < 4294967296 := by omega
        clear hat2 hw2 hlr hlen hold
        go_wp2
        go_ret
        exact ⟨_, qs ++ [c], rfl, R.out.2.2.1, by have := HQL.out; simp; omega, R.out.2.2.2, R.out.2.1.here, by simpa using HC.out, R.out.1, hbel⟩
end Lm
end Go.Proofs.Ytpofkigboedliaa

namespace Go.Proofs.Ytpofkigboedliaa
namespace Lm
open Go.RowKit
theorem p2_split {s : Nat} (hs : s ≤ 31) : p2 s * p2 (32 - s) = 4294967296 := by
  rw [← p2_add, show s + (32 - s) = 32 by omega]
  decide
theorem down_limb {A C : Int} {s : Nat} (hs : s ≤ 31) (hA : 0 ≤ A ∧ A < 4294967296) (hC : 0 ≤ C) : 0 ≤ (C * 4294967296 + A) / p2 s ∧ p2 s * (((C * 4294967296 + A) / p2 s) % 4294967296) = A - A % p2 s + C % p2 s * 4294967296 := by
  have hP := p2_pos s
  have hR := p2_pos (32 - s)
  have hPR := p2_split hs
  generalize p2 s = P at *
  generalize p2 (32 - s) = R at *
  have e1 : C * 4294967296 + A = A + P * (C * R) := by
    rw [← hPR, ← Int.mul_assoc C, Int.mul_comm C P, Int.mul_assoc]
    omega
  have e2 : (C * 4294967296 + A) / P = A / P + C * R := by rw [e1, Int.add_mul_ediv_left _ _ (by omega)]
  have hq : 0 ≤ A / P := Int.ediv_nonneg hA.1 (by omega)
  have hc0 : 0 ≤ C % P ∧ C % P < P := ⟨Int.emod_nonneg _ (by omega), Int.emod_lt_of_pos _ (by omega)⟩
  have ec := Int.mul_ediv_add_emod C P
  have e3 : C * R = C % P * R + 4294967296 * (C / P) := by
    have : C * R = (P * (C / P) + C % P) * R := by rw [ec]
    rw [this, Int.add_mul, ← hPR, Int.mul_assoc P, Int.mul_comm (C / P) R, ← Int.mul_assoc]
    omega
  have hCR : 0 ≤ C * R := Int.mul_nonneg hC (by omega)
  have h0R : 0 ≤ C % P * R := Int.mul_nonneg hc0.1 (by omega)
  have ea := Int.mul_ediv_add_emod A P
  have ham : 0 ≤ A % P := Int.emod_nonneg _ (by omega)
  have hAR : A / P < R := by
    apply Int.ediv_lt_of_lt_mul (by omega)
    rw [Int.mul_comm, hPR]
    exact hA.2
  have hlt : A / P + C % P * R < 4294967296 := by
    have h1 : (C % P + 1) * R ≤ P * R := Int.mul_le_mul_of_nonneg_right (by omega) (by omega)
    rw [hPR, Int.add_mul] at h1
    omega
  refine ⟨by rw [e2]; omega, ?_⟩
  have e4 : (A / P + C * R) % 4294967296 = A / P + C % P * R := by
    rw [e3, ← Int.add_assoc, Int.add_mul_emod_self_left, Int.emod_eq_of_lt (by omega) hlt]
  rw [e2, e4, Int.mul_add, ← Int.mul_assoc, Int.mul_comm P (C % P), Int.mul_assoc, hPR]
  omega
theorem down_val {xs qs : List Int} {k : Nat} {P o r0 A C : Int} (hk : qs.length = k) (hA : xs.getD k 0 = A) (ho : P * o = A - A % P + C % P * 4294967296) (h : P * val qs + r0 = vf xs k + pw k * (A % P)) : P * val (qs ++ [o]) + r0 = vf xs (k + 1) + pw (k + 1) * (C % P) := by
  rw [val_snoc, vf, hA, hk, pw, Int.mul_add]
  have e1 : P * (pw k * o) = pw k * (P * o) := by rw [← Int.mul_assoc, Int.mul_comm P, Int.mul_assoc]
  have e2 : pw k * (P * o) = pw k * A - pw k * (A % P) + 4294967296 * pw k * (C % P) := by
    rw [ho, Int.mul_add, Int.mul_sub, Int.mul_comm (C % P), ← Int.mul_assoc, Int.mul_comm (pw k) 4294967296]
  omega
set_option maxRecDepth 20000 in
set_option maxHeartbeats 1000000 in
theorem moveDown_any (w : World) (ao : Option Addr) (n cap : Nat) (xs : List Int) (hx : Sl w (.slice ao n cap) xs) (s : Nat) (hs : s ≤ 31) (hm : xs.length ≤ 1000000) :
    Calls Try.prog 104 #[.slice ao n cap, .int .u64 s] w fun e w' => ∃ v, e = .returned v ∧ Is w.heap.size w' v (val xs / p2 s) ∧ Below w.heap.size w w' := by
  obtain ⟨rfl, h1, h2, h3⟩ := hx.parts
  obtain ⟨i0, hi, hz0, hz1, hz2⟩ := info_parts info32
  have H3 := hide h3
  clear h3
  go_enter Try.func104, Try.ntmps104
  go_wp2_with (refine wpList_make_full _ rfl (.tmp 10) (.tmp 10) 26 rfl w.heap.size 67 i0 (.int .u32 0) 1 Try.underlying26 hi hz0 hz1 .i64 .i64 _ _ xs.length rfl rfl (by omega) (by omega) (by rw [hz2]; omega) (by unfold maxLen; omega) (Nat.le_refl _) ?hK)
  case hK =>
    intro w1 hown hgrow
    obtain ⟨_, cur, hh, hcs, hat⟩ := block_of_made hown
    have hb1 : Below w.heap.size w w1 := (Below.refl w.heap.size w).grown hgrow (Nat.le_refl _) (by simp)
    have HH := hide hh
    have HS := hide hcs
    have HA := hide hat
    clear hown hgrow hh hcs hat
    go_wp2
    go_loopw [14] (fun i wr => ∃ (k : Nat) (qs : List Int) (cur' : Array Value), k ≤ xs.length ∧ i = .int .i64 k ∧ qs.length = k ∧ Limb qs ∧ p2 s * val qs + xs.getD 0 0 % p2 s = vf xs k + pw k * (xs.getD k 0 % p2 s) ∧ Wr w1 wr w.heap.size cur' 67 ∧ cur'.size = xs.length ∧ At cur' .u32 0 (qs ++ (List.replicate xs.length 0).drop k)) (fun i _ => xs.length - (intOf i).toNat)
    case atStart => exact ⟨0, [], cur, Nat.zero_le _, rfl, rfl, limb_nil, by simp [val, vf, pw], Wr.refl HH.out, HS.out, by simpa using HA.out⟩
    case round =>
      obtain ⟨k, qs, cur', hk, rfl, hql, hq, hval, hwr, hcs, hat⟩ := hrel
      have HQL := hide hql
      have HQ := hide hq
      have HV := hide hval
      have HW := hide hwr
      have HC := hide hcs
      have HT := hide hat
      clear hql hq hval hwr hcs hat
      by_cases hlt : k < xs.length
      · have sx := HW.out.sl (Nat.le_refl _) hb1 rfl hx
        obtain ⟨b, off, rfl, hcx⟩ := sx.cells (by omega)
        have cx := hcx k (by omega)
        have bx := limb_getD H3.out k
        have by' := limb_getD H3.out (k + 1)
        have kl : Hid (Calls Try.prog 87 #[.slice (some ⟨b, off, none⟩) xs.length cap, .int .i64 ((k : Int) + 1)] wr fun e w' => e = .returned (.int .u32 (xs.getD (k + 1) 0)) ∧ w' = wr) := by
          have h9 := limb_any wr _ xs sx ((k : Int) + 1) (by omega)
          rwa [show ((k : Int) + 1).toNat = k + 1 by omega] at h9
        have HVn := hide (fun o ho => down_val (o := o) (C := xs.getD (k + 1) 0) HQL.out rfl ho HV.out)
        generalize hCe : xs.getD (k + 1) 0 = C at by' kl HVn
        have HCE := hide hCe
        clear hCe
        generalize xs.getD k 0 = A at cx bx HVn
        have hdl := down_limb hs bx by'.1
        have hor := or_join C A by'.1 by'.2 bx.1 bx.2
        have hlen : (qs ++ (List.replicate xs.length (0 : Int)).drop k).length = xs.length := by have := HQL.out; simp; omega
        have hcell := HT.out.cell HW.out.here k (by rw [hlen]; omega)
        rw [Nat.zero_add] at hcell
        generalize (qs ++ (List.replicate xs.length (0 : Int)).drop k).getD k 0 = old at hcell
        have hfree := HW.out.free k
        obtain ⟨M, hM⟩ : ∃ M, M = C * 4294967296 + A := ⟨_, rfl⟩
        rw [← hM] at hor hdl
        have hM0 : 0 ≤ M := by omega
        have hM1 : M < 18446744073709551616 := by omega
        have hpw := p2_pow s
        have HVf := hide (HVn.out _ hdl.2)
        have hd0 := hdl.1
        have HT' := hide (HT.out.set k (M / p2 s % 4294967296))
        have HW' := hide (HW.out.set k (.int .u32 (M / p2 s % 4294967296)))
        have hp1 := p2_pos s
        clear hlen sx hcx hM hdl HVn
        go_wp2_with fail
        refine (kl.out).mono ?_
        rintro e w2 ⟨rfl, rfl⟩
        go_wp2
        go_roundw
        case rel => exact ⟨k + 1, qs ++ [M / p2 s % 4294967296], _, by omega, by go_num, by have := HQL.out; simp; omega, limb_append.2 ⟨HQ.out, limb_cons.2 ⟨by omega, limb_nil⟩⟩, by rw [HCE.out]; exact HVf.out, HW'.out, by simpa using HC.out, by rw [← set_snoc qs _ k _ HQL.out (by simp; omega)]; simpa using HT'.out⟩
        case measure => simp [intOf]; omega
      · have hkM : k = xs.length := by omega
        subst hkM
        have hat2 := HT.out
        rw [List.drop_of_length_le (by simp), List.append_nil] at hat2
        have how : Ow w.heap.size wr (.slice (some ⟨w.heap.size, 0, none⟩) xs.length xs.length) qs := by
          have := HQL.out
          exact ⟨_, xs.length, by rw [this], by omega, by unfold maxLen; omega, HQ.out, .inr ⟨_, 0, _, rfl, Nat.le_refl _, HW.out.here, by rw [HC.out]; omega, hat2⟩⟩
        have hbel : Below w.heap.size w wr := hb1.trans (HW.out.below (Nat.le_refl _))
        have his := how.is_cut (x := val xs / p2 s) (by
          have hv := HV.out
          have hz : xs.getD xs.length 0 = 0 := by rw [List.getD_eq_getElem?_getD, List.getElem?_eq_none (Nat.le_refl _)]; rfl
          rw [hz, Int.zero_emod, Int.mul_zero, Int.add_zero, vf_all xs _ (Nat.le_refl _)] at hv
          have hp1 := p2_pos s
          have hr := Int.emod_lt_of_pos (xs.getD 0 0) (show 0 < p2 s by omega)
          have hr0 := Int.emod_nonneg (xs.getD 0 0) (show p2 s ≠ 0 by omega)
          have := div_of (a := val xs) (b := p2 s) (q := val qs) (by omega) (by rw [← hv, Int.mul_comm]) hr0 hr
          exact this.1.symm)
        clear hat2
        go_wp2_with fail
        refine (cut_any _ _ _ _ _ how.sl).mono ?_
        rintro e w2 ⟨rfl, rfl⟩
        go_wp2
        go_ret
        exact ⟨_, rfl, his, hbel⟩
end Lm
end Go.Proofs.Ytpofkigboedliaa

namespace Go.Proofs.Ytpofkigboedliaa
namespace Lm
open Go.RowKit
theorem guess_start {v1 v2 u2 U g r : Int} (h2 : 0 ≤ v2) (h3 : u2 < 4294967296) (hg : U = g * v1 + r) (hr : r < v1) (hg0 : 0 ≤ g) : U * 4294967296 + u2 < (g + 1) * (v1 * 4294967296 + v2) := by
  have e1 : (g + 1) * (v1 * 4294967296 + v2) = (g * v1 + v1) * 4294967296 + (g + 1) * v2 := by
    rw [Int.mul_add, ← Int.mul_assoc, Int.add_mul, Int.one_mul]
  have e2 : 0 ≤ (g + 1) * v2 := Int.mul_nonneg (by omega) h2
  rw [e1]
  omega
theorem guess_le {v1 v2 u2 U g r : Int} (hg : g * v1 + r = U) (h : g * v2 ≤ r * 4294967296 + u2) : g * (v1 * 4294967296 + v2) ≤ U * 4294967296 + u2 := by
  rw [Int.mul_add, ← Int.mul_assoc, ← hg]
  omega
theorem guess_gt {v1 v2 u2 U g r : Int} (hg : g * v1 + r = U) (h : r * 4294967296 + u2 < g * v2) : U * 4294967296 + u2 < g * (v1 * 4294967296 + v2) := by
  rw [Int.mul_add, ← Int.mul_assoc, ← hg]
  omega
theorem guess_break {v1 v2 u2 U g r : Int} (hv : 0 ≤ v2 ∧ v2 < 4294967296) (hu : 0 ≤ u2) (hg : g * v1 + r = U) (hr : 4294967296 ≤ r) (hg0 : 0 ≤ g) (hg1 : g < 4294967296) : g * (v1 * 4294967296 + v2) ≤ U * 4294967296 + u2 := by
  apply guess_le hg
  have h1 : g * v2 ≤ 4294967295 * v2 := Int.mul_le_mul_of_nonneg_right (by omega) hv.1
  omega
theorem guess_top {v1 U g r : Int} (hv : 2147483648 ≤ v1) (hU : U ≤ v1 * 4294967296 + 4294967295) (hg : g * v1 + r = U) (_hr : 0 ≤ r) (hb : 4294967296 ≤ r + v1) : g ≤ 4294967296 := by
  apply Classical.byContradiction
  intro hn
  have h1 : 4294967297 * v1 ≤ g * v1 := Int.mul_le_mul_of_nonneg_right (by omega) (by omega)
  omega
theorem guess_max {v1 U g r : Int} (hv : 2147483648 ≤ v1) (hU : U ≤ v1 * 4294967296 + 4294967295) (hg : g * v1 + r = U) (hr : 0 ≤ r) : g ≤ 4294967297 := by
  apply Classical.byContradiction
  intro hn
  have h1 : 4294967298 * v1 ≤ g * v1 := Int.mul_le_mul_of_nonneg_right (by omega) (by omega)
  omega
set_option maxRecDepth 20000 in
set_option maxHeartbeats 2000000 in
theorem guess_any (w : World) (a1 a2 : Option Addr) (n c1 c2 : Nat) (ps Y : List Int) (hp : Sl w (.slice a1 (n + 2 + 1) c1) ps) (hy : Sl w (.slice a2 (n + 2) c2) Y)
    (htop : 2147483648 ≤ Y.getD (n + 1) 0) (hu : ps.getD (n + 2) 0 ≤ Y.getD (n + 1) 0) :
    Calls Try.prog 101 #[.slice a1 (n + 2 + 1) c1, .slice a2 (n + 2) c2] w fun e w' => ∃ g : Int, e = .returned (.int .u32 g) ∧ (0 ≤ g ∧ g < 4294967296) ∧ g * (Y.getD (n + 1) 0 * 4294967296 + Y.getD n 0) ≤ (ps.getD (n + 2) 0 * 4294967296 + ps.getD (n + 1) 0) * 4294967296 + ps.getD n 0 ∧ (4294967296 ≤ g + 1 ∨ (ps.getD (n + 2) 0 * 4294967296 + ps.getD (n + 1) 0) * 4294967296 + ps.getD n 0 < (g + 1) * (Y.getD (n + 1) 0 * 4294967296 + Y.getD n 0)) ∧ ∃ q, w' = w.drewN q := by
  obtain ⟨hpl, p1, p2, p3⟩ := hp.parts
  obtain ⟨hyl, y1, y2, y3⟩ := hy.parts
  obtain ⟨b, off, rfl, hc⟩ := hp.cells (by omega)
  obtain ⟨b', off', rfl, hc'⟩ := hy.cells (by omega)
  have f0 := hc (n + 2) (by omega)
  have f1 := hc (n + 1) (by omega)
  have f2 := hc n (by omega)
  have e1 := hc' (n + 1) (by omega)
  have e2 := hc' n (by omega)
  have bu0 := limb_getD p3 (n + 2)
  have bu1 := limb_getD p3 (n + 1)
  have bu2 := limb_getD p3 n
  have bv1 := limb_getD y3 (n + 1)
  have bv2 := limb_getD y3 n
  generalize ps.getD (n + 2) 0 = u0 at *
  generalize ps.getD (n + 1) 0 = u1 at *
  generalize ps.getD n 0 = u2 at *
  generalize Y.getD (n + 1) 0 = v1 at *
  generalize Y.getD n 0 = v2 at *
  have hN : n + 3 ≤ 9223372036854775807 := by omega
  have hor1 := or_join u0 u1 bu0.1 bu0.2 bu1.1 bu1.2
  obtain ⟨U, hU⟩ : ∃ U, U = u0 * 4294967296 + u1 := ⟨_, rfl⟩
  rw [← hU] at hor1 ⊢
  have hU0 : 0 ≤ U := by omega
  have hUb : U < 18446744073709551616 := by omega
  have hUm : U ≤ v1 * 4294967296 + 4294967295 := by omega
  have HU := hide hU
  clear hc hc' p3 y3 hpl hyl hU
  go_enter Try.func101, Try.ntmps101
  go_wp2
  go_quiet (fail)
  go_wp2
  replace f0 : (w.drewN nq).cell? _ = _ := f0
  replace f1 : (w.drewN nq).cell? _ = _ := f1
  replace f2 : (w.drewN nq).cell? _ = _ := f2
  replace e1 : (w.drewN nq).cell? _ = _ := e1
  replace e2 : (w.drewN nq).cell? _ = _ := e2
  generalize hwq : w.drewN nq = wq at f0 f1 f2 e1 e2 ⊢
  have HQ : Hid (∃ q, wq = w.drewN q) := ⟨_, hwq.symm⟩
  clear hwq
  go_quiet (fail)
  go_wp2
  replace f2 : (wq.drewN nq).cell? _ = _ := f2
  replace HQ : Hid (∃ q, wq.drewN nq = w.drewN q) := by
    obtain ⟨q, hq⟩ := HQ.out
    exact ⟨q + nq, by rw [hq]; simp [World.drewN]; omega⟩
  generalize wq.drewN nq = wz at f2 HQ ⊢
  have hv0 : 0 < v1 := by omega
  have hq0 : 0 ≤ U / v1 := Int.ediv_nonneg hU0 (by omega)
  have hqm := Int.mul_ediv_add_emod U v1
  have hr0 := Int.emod_nonneg U (show v1 ≠ 0 by omega)
  have hr1 := Int.emod_lt_of_pos U hv0
  have hq1 : U / v1 ≤ 4294967297 := guess_max htop hUm (by rw [Int.mul_comm]; exact hqm) hr0
  have t1 : U.tdiv v1 = U / v1 := Int.tdiv_eq_ediv_of_nonneg hU0
  have t2 : IntKind.u64.wrap (U / v1) = U / v1 := by rw [IntKind.wrap_u64]; exact Int.emod_eq_of_lt hq0 (by omega)
  have t3 : U.tmod v1 = U % v1 := Int.tmod_eq_emod_of_nonneg hU0
  have HQM := hide hqm
  clear hqm
  go_quiet (fail)
  go_wp2
  replace f2 : (wz.drewN nq).cell? _ = _ := f2
  replace HQ : Hid (∃ q, wz.drewN nq = w.drewN q) := by
    obtain ⟨q, hq⟩ := HQ.out
    exact ⟨q + nq, by rw [hq]; simp [World.drewN]; omega⟩
  generalize wz.drewN nq = wl at f2 HQ ⊢
  go_loop [9, 10] (fun gv rv => ∃ gu rs : Int, gv = .int .u64 gu ∧ rv = .int .u64 rs ∧ 0 ≤ gu ∧ gu ≤ 4294967297 ∧ 0 ≤ rs ∧ rs < 4294967296 ∧ gu * v1 + rs = U ∧ (4294967296 ≤ gu + 1 ∨ U * 4294967296 + u2 < (gu + 1) * (v1 * 4294967296 + v2))) (fun gv _ => (intOf gv).toNat)
  case atStart => exact ⟨U / v1, U % v1, rfl, rfl, hq0, hq1, hr0, by omega, by rw [Int.mul_comm]; exact HQM.out, .inr (guess_start bv2.1 bu2.2 (by rw [Int.mul_comm]; exact HQM.out.symm) hr1 hq0)⟩
  case round =>
    obtain ⟨gu, rs, rfl, rfl, hg0, hg1, hs0, hs1, hgs, hgb⟩ := hrel
    have HGS := hide hgs
    have HGB := hide hgb
    have hor2 := or_join rs u2 hs0 hs1 bu2.1 bu2.2
    clear hgs hgb t1 t2 t3 hor1
    by_cases hbig : 4294967296 ≤ gu
    · have hne : (gu / 4294967296 != 0) = true := by rw [bne_iff_ne]; omega
      have HN : Hid ((gu - 1) * v1 + (rs + v1) = U) := by have h9 := HGS.out; show _ = _; rw [Int.sub_mul]; omega
      by_cases hbr : 4294967296 ≤ rs + v1
      · have hne2 : ((rs + v1) / 4294967296 != 0) = true := by rw [bne_iff_ne]; omega
        have hgl := guess_top htop hUm HGS.out hs0 hbr
        have HF := hide (guess_break bv2 bu2.1 HN.out hbr (by omega) (by omega))
        go_wp2
        go_ret
        exact ⟨gu - 1, rfl, by omega, HF.out, .inl (by omega), HQ.out⟩
      · have hne2 : ((rs + v1) / 4294967296 != 0) = false := by rw [bne_eq_false_iff_eq]; omega
        go_wp2
        go_round
        case rel => exact ⟨gu - 1, rs + v1, rfl, rfl, by omega, by omega, by omega, by omega, HN.out, .inl (by omega)⟩
        case measure => simp [intOf]; omega
    · have hne : (gu / 4294967296 != 0) = false := by rw [bne_eq_false_iff_eq]; omega
      have hmb := mul_bound (show 0 ≤ gu ∧ gu < 4294967296 by omega) bv2
      by_cases hgt : rs * 4294967296 + u2 < gu * v2
      · have hd : decide (rs * 4294967296 + u2 < gu * v2) = true := decide_eq_true hgt
        have hgu1 : 1 ≤ gu := by
          apply Classical.byContradiction
          intro hn
          have h0 : gu = 0 := by omega
          rw [h0, Int.zero_mul] at hgt
          omega
        have HN : Hid ((gu - 1) * v1 + (rs + v1) = U) := by have h9 := HGS.out; show _ = _; rw [Int.sub_mul]; omega
        have HB2 := hide (guess_gt HGS.out hgt)
        by_cases hbr : 4294967296 ≤ rs + v1
        · have hne2 : ((rs + v1) / 4294967296 != 0) = true := by rw [bne_iff_ne]; omega
          have HF := hide (guess_break bv2 bu2.1 HN.out hbr (by omega) (by omega))
          go_wp2
          go_ret
          exact ⟨gu - 1, rfl, by omega, HF.out, .inr (by rw [Int.sub_add_cancel]; exact HB2.out), HQ.out⟩
        · have hne2 : ((rs + v1) / 4294967296 != 0) = false := by rw [bne_eq_false_iff_eq]; omega
          go_wp2
          go_round
          case rel => exact ⟨gu - 1, rs + v1, rfl, rfl, by omega, by omega, by omega, by omega, HN.out, .inr (by rw [Int.sub_add_cancel]; exact HB2.out)⟩
          case measure => simp [intOf]; omega
      · have hd : decide (rs * 4294967296 + u2 < gu * v2) = false := decide_eq_false hgt
        have HF := hide (guess_le HGS.out (show gu * v2 ≤ rs * 4294967296 + u2 by omega))
        go_wp2
        go_ret
        exact ⟨gu, rfl, by omega, HF.out, HGB.out, HQ.out⟩
end Lm
end Go.Proofs.Ytpofkigboedliaa

namespace Go.Proofs.Ytpofkigboedliaa
namespace Lm
theorem val_top {zs : List Int} {n : Nat} (hl : zs.length = n + 1) : val zs = val (zs.take n) + pw n * zs.getD n 0 := by
  have e1 : zs = zs.take n ++ [zs.getD n 0] := by
    rw [← take_succ_getD zs n (by omega), List.take_of_length_le (by omega)]
  have e2 := val_append (zs.take n) [zs.getD n 0]
  rw [← e1, List.length_take, Nat.min_eq_left (by omega)] at e2
  rw [e2]
  simp [val]
theorem val_top2 {zs : List Int} {n : Nat} (hl : zs.length = n + 2) : val zs = val (zs.take n) + pw n * (zs.getD (n + 1) 0 * 4294967296 + zs.getD n 0) := by
  rw [val_top (n := n + 1) hl, val_top (zs := zs.take (n + 1)) (n := n) (by rw [List.length_take]; omega), List.take_take, Nat.min_eq_left (by omega)]
  have e : (zs.take (n + 1)).getD n 0 = zs.getD n 0 := by
    rw [List.getD_eq_getElem?_getD, List.getD_eq_getElem?_getD, List.getElem?_take, if_pos (by omega)]
  rw [e, pw, Int.mul_add, Int.mul_comm (zs.getD (n + 1) 0) 4294967296, ← Int.mul_assoc, Int.mul_comm (pw n) 4294967296]
  omega
theorem val_top3 {zs : List Int} {n : Nat} (hl : zs.length = n + 3) : val zs = val (zs.take n) + pw n * ((zs.getD (n + 2) 0 * 4294967296 + zs.getD (n + 1) 0) * 4294967296 + zs.getD n 0) := by
  rw [val_top (n := n + 2) hl, val_top2 (zs := zs.take (n + 2)) (n := n) (by rw [List.length_take]; omega), List.take_take, Nat.min_eq_left (by omega)]
  have e : ∀ i, i < n + 2 → (zs.take (n + 2)).getD i 0 = zs.getD i 0 := by
    intro i hi
    rw [List.getD_eq_getElem?_getD, List.getD_eq_getElem?_getD, List.getElem?_take, if_pos hi]
  rw [e (n + 1) (by omega), e n (by omega)]
  have e2 : pw (n + 2) = pw n * (4294967296 * 4294967296) := by
    simp only [pw]
    rw [Int.mul_comm (pw n), Int.mul_assoc]
  have e3 : pw n * ((zs.getD (n + 2) 0 * 4294967296 + zs.getD (n + 1) 0) * 4294967296 + zs.getD n 0) = pw n * (4294967296 * 4294967296) * zs.getD (n + 2) 0 + pw n * (zs.getD (n + 1) 0 * 4294967296 + zs.getD n 0) := by
    rw [Int.mul_assoc, ← Int.mul_add]
    congr 1
    omega
  rw [e2, e3]
  omega
theorem top_le {W Y : List Int} {n : Nat} (hW : Limb W) (hY : Limb Y) (h1 : W.length = n + 1) (h2 : Y.length = n + 1) (h : val W < val Y) : W.getD n 0 ≤ Y.getD n 0 := by
  apply Classical.byContradiction
  intro hn
  rw [val_top h1, val_top h2] at h
  have b1 := val_bounds (limb_take hW n)
  have b2 := val_bounds (limb_take hY n)
  rw [List.length_take, Nat.min_eq_left (by omega)] at b1 b2
  have hp := pw_pos n
  have e : pw n * (Y.getD n 0 + 1) ≤ pw n * W.getD n 0 := Int.mul_le_mul_of_nonneg_left (by omega) (by omega)
  rw [Int.mul_add] at e
  omega
theorem guess_near {ps Y : List Int} {n : Nat} {g P U : Int} (hp : Limb ps) (hy : Limb Y) (h1 : ps.length = n + 3) (h2 : Y.length = n + 2) (hP : val ps = P) (hU : val Y = U) (htop : 1 ≤ Y.getD (n + 1) 0) (hlt : P < 4294967296 * U) (hg : 0 ≤ g ∧ g < 4294967296)
    (hA : g * (Y.getD (n + 1) 0 * 4294967296 + Y.getD n 0) ≤ (ps.getD (n + 2) 0 * 4294967296 + ps.getD (n + 1) 0) * 4294967296 + ps.getD n 0)
    (hB : 4294967296 ≤ g + 1 ∨ (ps.getD (n + 2) 0 * 4294967296 + ps.getD (n + 1) 0) * 4294967296 + ps.getD n 0 < (g + 1) * (Y.getD (n + 1) 0 * 4294967296 + Y.getD n 0)) :
    P < (g + 1) * U ∧ (g - 1) * U ≤ P := by
  have eP := val_top3 h1
  have eU := val_top2 h2
  have bP := val_bounds (limb_take hp n)
  have bU := val_bounds (limb_take hy n)
  rw [List.length_take, Nat.min_eq_left (by omega)] at bP bU
  rw [hP] at eP
  rw [hU] at eU
  have hv2 := (limb_getD hy n).1
  generalize (ps.getD (n + 2) 0 * 4294967296 + ps.getD (n + 1) 0) * 4294967296 + ps.getD n 0 = P3 at *
  have hU2 : 4294967296 ≤ Y.getD (n + 1) 0 * 4294967296 + Y.getD n 0 := by omega
  generalize Y.getD (n + 1) 0 * 4294967296 + Y.getD n 0 = U2 at *
  generalize val (ps.take n) = Pl at *
  generalize val (Y.take n) = Ul at *
  have hp1 := pw_pos n
  have hUp : 4294967296 * pw n ≤ pw n * U2 := by
    have : pw n * 4294967296 ≤ pw n * U2 := Int.mul_le_mul_of_nonneg_left hU2 (by omega)
    omega
  constructor
  · rcases hB with hB | hB
    · have : 4294967296 * U ≤ (g + 1) * U := Int.mul_le_mul_of_nonneg_right (by omega) (by omega)
      omega
    · have e1 : pw n * (P3 + 1) ≤ pw n * ((g + 1) * U2) := Int.mul_le_mul_of_nonneg_left (by omega) (by omega)
      have e2 : (g + 1) * U = (g + 1) * Ul + pw n * ((g + 1) * U2) := by
        rw [eU, Int.mul_add, ← Int.mul_assoc (g + 1) (pw n), Int.mul_comm (g + 1) (pw n), Int.mul_assoc]
      have e3 : 0 ≤ (g + 1) * Ul := Int.mul_nonneg (by omega) bU.1
      rw [Int.mul_add] at e1
      omega
  · have e1 : pw n * (g * U2) ≤ pw n * P3 := Int.mul_le_mul_of_nonneg_left hA (by omega)
    have e2 : g * U = g * Ul + pw n * (g * U2) := by
      rw [eU, Int.mul_add, ← Int.mul_assoc g (pw n), Int.mul_comm g (pw n), Int.mul_assoc]
    have e3 : g * Ul ≤ 4294967295 * Ul := Int.mul_le_mul_of_nonneg_right (by omega) bU.1
    rw [Int.sub_mul]
    omega
theorem rest_near {P U g A b p A2 c : Int} (_hU : 0 < U) (_hp : U < p) (hlow : P < (g + 1) * U) (hhigh : (g - 1) * U ≤ P) (hA : 0 ≤ A ∧ A < p) (_hb : 0 ≤ b ∧ b ≤ 1) (h : A - p * b = P - g * U) :
    (b = 0 → 0 ≤ A ∧ A < U ∧ P = g * U + A) ∧ (b = 1 → 0 ≤ A2 ∧ A2 < p → 0 ≤ c ∧ c ≤ 1 → A2 + p * c = A + U → 0 ≤ A2 ∧ A2 < U ∧ P = (g - 1) * U + A2) := by
  rw [Int.add_mul] at hlow
  rw [Int.sub_mul] at hhigh ⊢
  constructor
  · intro hb0
    rw [hb0, Int.mul_zero] at h
    omega
  · intro hb1 hA2 hc hs
    rw [hb1, Int.mul_one] at h
    have hc01 : c = 0 ∨ c = 1 := by omega
    rcases hc01 with hc0 | hc0
    · rw [hc0, Int.mul_zero] at hs; omega
    · rw [hc0, Int.mul_one] at hs; omega
theorem part_lt {W : List Int} {x U : Int} (hx : x < 4294967296) (h : val W < U) : val (x :: W) < 4294967296 * U := by
  rw [val]
  omega
theorem long_step {lo W W' Q : List Int} {x q U T : Int} (hinv : val (lo ++ [x]) + pw (lo.length + 1) * val W + U * (pw (lo.length + 1) * val Q) = T) (hp : val (x :: W) = q * U + val W') :
    val lo + pw lo.length * val W' + U * (pw lo.length * val (q :: Q)) = T := by
  rw [val_append] at hinv
  have e1 : val [x] = x := by simp [val]
  rw [e1] at hinv
  rw [val] at hp ⊢
  rw [pw] at hinv
  generalize pw lo.length = p at *
  have e2 : p * (x + 4294967296 * val W) = p * (q * U + val W') := by rw [hp]
  have e3 : 4294967296 * p * val W = p * (4294967296 * val W) := by rw [Int.mul_comm 4294967296 p, Int.mul_assoc]
  have e4 : U * (p * (q + 4294967296 * val Q)) = p * (q * U) + U * (4294967296 * p * val Q) := by
    rw [Int.mul_add, Int.mul_add, Int.mul_comm 4294967296 p, Int.mul_assoc p 4294967296, ← Int.mul_assoc U p q, Int.mul_comm U p, Int.mul_assoc p U q, Int.mul_comm U q]
  rw [Int.mul_add, Int.mul_add] at e2
  omega
theorem top_zero {W : List Int} {n : Nat} (hW : Limb W) (hl : W.length = n + 1) (h : val W < pw n) : val (W.take n) = val W ∧ W.getD n 0 = 0 := by
  have e := val_top hl
  have b := val_bounds (limb_take hW n)
  have h0 := (limb_getD hW n).1
  have hp := pw_pos n
  have hz : W.getD n 0 = 0 := by
    apply Classical.byContradiction
    intro hn
    have : pw n * 1 ≤ pw n * W.getD n 0 := Int.mul_le_mul_of_nonneg_left (by omega) (by omega)
    omega
  rw [hz, Int.mul_zero] at e
  exact ⟨by omega, hz⟩
end Lm
end Go.Proofs.Ytpofkigboedliaa

namespace Go.Proofs.Ytpofkigboedliaa
namespace Lm
open Go.RowKit
structure Wr2 (w w' : World) (g h : Nat) (c d : Array Value) (e : TypeId) : Prop where
  os : w'.os = w.os
  tape : w'.tape = w.tape
  output : w'.output = w.output
  size : w'.heap.size = w.heap.size
  here : w'.heap[g]? = some (.cells c e (0, 0))
  there : w'.heap[h]? = some (.cells d e (0, 0))
  other : ∀ k, k ≠ g → k ≠ h → w'.heap[k]? = w.heap[k]?
theorem Wr2.left {w w' w'' : World} {g h : Nat} {c d c' : Array Value} {e : TypeId} (H : Wr2 w w' g h c d e) (hn : h ≠ g) (K : Wr w' w'' g c' e) : Wr2 w w'' g h c' d e :=
  ⟨K.os.trans H.os, K.tape.trans H.tape, K.output.trans H.output, K.size.trans H.size, K.here, (K.other h hn).trans H.there, fun k h1 h2 => (K.other k h1).trans (H.other k h1 h2)⟩
theorem Wr2.right {w w' w'' : World} {g h : Nat} {c d d' : Array Value} {e : TypeId} (H : Wr2 w w' g h c d e) (hn : g ≠ h) (K : Wr w' w'' h d' e) : Wr2 w w'' g h c d' e :=
  ⟨K.os.trans H.os, K.tape.trans H.tape, K.output.trans H.output, K.size.trans H.size, (K.other g hn).trans H.here, K.here, fun k h1 h2 => (K.other k h2).trans (H.other k h1 h2)⟩
theorem Wr2.drewN {w w' : World} {g h : Nat} {c d : Array Value} {e : TypeId} (H : Wr2 w w' g h c d e) (n : Nat) : Wr2 w (w'.drewN n) g h c d e := ⟨H.os, H.tape, H.output, H.size, H.here, H.there, H.other⟩
theorem Wr2.below {w w' : World} {g h : Nat} {c d : Array Value} {e : TypeId} (H : Wr2 w w' g h c d e) {B : Nat} (h1 : B ≤ g) (h2 : B ≤ h) : Below B w w' :=
  ⟨H.os, H.tape, H.output, by rw [H.size]; exact Nat.le_refl _, fun k hk => H.other k (by omega) (by omega)⟩
theorem sl_of_at {w : World} {g o n cap : Nat} {cur : Array Value} {zs : List Int} (hh : w.heap[g]? = some (.cells cur 67 (0, 0))) (ha : At cur .u32 o zs) (hz : Limb zs) (hl : zs.length = n) (h1 : n ≤ cap) (h2 : cap ≤ maxLen) : Sl w (.slice (some ⟨g, o, none⟩) n cap) zs :=
  ⟨_, cap, by rw [hl], by omega, h2, hz, .inr ⟨g, o, rfl, fun i hi => ha.cell hh i hi⟩⟩
theorem At.take {cur : Array Value} {k : IntKind} {o : Nat} {zs : List Int} (h : At cur k o zs) (n : Nat) : At cur k o (zs.take n) := by
  intro i hi
  rw [List.length_take] at hi
  rw [h i (by omega), List.getD_eq_getElem?_getD, List.getD_eq_getElem?_getD, List.getElem?_take, if_pos (by omega)]
structure Dv (w3 wr : World) (A q N m n : Nat) (U T : Int) (k : Nat) (lo W rest Q : List Int) (cur d : Array Value) : Prop where
  two : Wr2 w3 wr A q cur d 67
  csz : cur.size = N + 1
  dsz : d.size = m
  atc : At cur .u32 0 (lo ++ W ++ rest)
  atd : At d .u32 0 (List.replicate k 0 ++ Q)
  lol : lo.length = k
  wl : W.length = n + 2
  ql : k + Q.length = m
  lil : Limb lo
  liW : Limb W
  liQ : Limb Q
  low : val W < U
  inv : val lo + pw k * val W + U * (pw k * val Q) = T
theorem split_last {lo : List Int} {k : Nat} (h : lo.length = k + 1) : ∃ lo' x, lo = lo' ++ [x] ∧ lo'.length = k :=
  ⟨lo.take k, lo.getD k 0, by rw [← take_succ_getD lo k (by omega), List.take_of_length_le (by omega)], by rw [List.length_take]; omega⟩
theorem Dv.mid {w3 wr : World} {A q N m n : Nat} {U T : Int} {k : Nat} {lo W rest Q : List Int} {x : Int} {cur d : Array Value} (D : Dv w3 wr A q N m n U T (k + 1) (lo ++ [x]) W rest Q cur d) (hl : lo.length = k) : At cur .u32 k (x :: W) ∧ Limb (x :: W) := by
  have h1 := D.atc
  rw [show lo ++ [x] ++ W ++ rest = lo ++ (x :: W) ++ rest by simp] at h1
  have h2 := at_mid h1
  rw [hl] at h2
  have h3 := D.lil
  rw [limb_append] at h3
  exact ⟨h2, limb_cons.2 ⟨(limb_cons.1 h3.2).1, D.liW⟩⟩
theorem set_zeros (k : Nat) (Q : List Int) (g : Int) : (List.replicate (k + 1) (0 : Int) ++ Q).set k g = List.replicate k 0 ++ g :: Q := by
  have h := set_cons (List.replicate (k + 1) (0 : Int)) Q k g (by simp)
  rw [List.take_of_length_le (by simp), List.take_replicate, Nat.min_eq_left (by omega)] at h
  exact h
theorem Dv.step {w3 wr w5 : World} {A q N m n : Nat} {U T : Int} {k : Nat} {lo W rest Q qs : List Int} {x g : Int} {cur d cur' : Array Value} (D : Dv w3 wr A q N m n U T (k + 1) (lo ++ [x]) W rest Q cur d) (hl : lo.length = k) (hn : A ≠ q)
    (two : Wr2 w3 w5 A q cur' d 67) (hcs : cur'.size = cur.size) (hat : At cur' .u32 k qs) (hout : ∀ i, i < k ∨ k + (n + 2 + 1) ≤ i → cur'[i]? = cur[i]?) (hq : Limb qs) (hql : qs.length = n + 2 + 1) (hU : U ≤ pw (n + 2)) (hlt : val qs < U) (hv : val (x :: W) = g * U + val qs) (hg : 0 ≤ g ∧ g < 4294967296) :
    Dv w3 (w5.setCell ⟨q, k, none⟩ (.int .u32 g)) A q N m n U T k lo (qs.take (n + 2)) (qs.drop (n + 2) ++ rest) (g :: Q) cur' (d.setIfInBounds k (.int .u32 g)) := by
  have htz := top_zero hq hql (by omega)
  have h3 := D.lil
  rw [limb_append] at h3
  have hinv := D.inv
  rw [← hl] at hinv
  have hat1 : At cur .u32 0 (lo ++ (x :: W) ++ rest) := by
    have := D.atc
    rwa [show lo ++ [x] ++ W ++ rest = lo ++ (x :: W) ++ rest by simp] at this
  have hat2 := at_window hat1 (by rw [hl]; exact hat) (by have := D.wl; simp; omega) (by
    have e : (x :: W).length = n + 2 + 1 := by have := D.wl; simp; omega
    rw [hl, e]; exact hout)
  refine ⟨two.right hn ((Wr.refl two.there).set k _), by rw [hcs]; exact D.csz, by simpa using D.dsz, ?_, ?_, hl, by rw [List.length_take]; omega, by have := D.ql; simp; omega, h3.1, limb_take hq _, limb_cons.2 ⟨hg, D.liQ⟩, by rw [htz.1]; exact hlt, ?_⟩
  · rw [List.append_assoc, ← List.append_assoc (qs.take (n + 2)), List.take_append_drop, ← List.append_assoc]
    exact hat2
  · rw [← set_zeros]
    have := D.atd.set k g
    rwa [Nat.zero_add] at this
  · rw [htz.1]
    have := long_step (W' := qs) (q := g) hinv hv
    rwa [hl] at this
theorem long_start {O : List Int} {m n : Nat} {P : Int} (hO : Limb O) (hm : m ≤ O.length) (hv : val O < pw m * (pw (n + 1) * P)) : val (O.drop m) < pw (n + 1) * P := by
  have h1 := val_append (O.take m) (O.drop m)
  rw [List.take_append_drop, List.length_take, Nat.min_eq_left hm] at h1
  have h2 := (val_bounds (limb_take hO m)).1
  apply Classical.byContradiction
  intro hn
  have h3 : pw m * (pw (n + 1) * P) ≤ pw m * val (O.drop m) := Int.mul_le_mul_of_nonneg_left (by omega) (by have := pw_pos m; omega)
  omega
theorem long_end {X Y Q W P : Int} (hP : 0 < P) (hY : 0 < Y) (h : W + Y * P * Q = X * P) (h0 : 0 ≤ W) (h1 : W < Y * P) : X / Y = Q ∧ X % Y = W / P := by
  have e1 : W = (X - Q * Y) * P := by
    have : Y * P * Q = Q * Y * P := by rw [Int.mul_comm (Y * P), Int.mul_assoc]
    rw [Int.sub_mul]
    omega
  have e2 : W / P = X - Q * Y := by rw [e1]; exact Int.mul_ediv_cancel _ (by omega)
  rw [e2]
  obtain ⟨R, hR⟩ : ∃ R, R = X - Q * Y := ⟨_, rfl⟩
  rw [← hR] at e1 ⊢
  have hR0 : 0 ≤ R := by
    apply Classical.byContradiction
    intro hn
    have : R * P ≤ -1 * P := Int.mul_le_mul_of_nonneg_right (by omega) (by omega)
    omega
  have hR1 : R < Y := by
    apply Classical.byContradiction
    intro hn
    have : Y * P ≤ R * P := Int.mul_le_mul_of_nonneg_right (by omega) (by omega)
    omega
  exact div_of hY (by omega) hR0 hR1
theorem norm_val {v : Int} {n l s : Nat} (hb : IsBits v (32 * (n + 1) + l)) (hl : 0 < l) (hs : s + l = 32) : v * p2 s < pw (n + 2) ∧ pw (n + 1) * 2147483648 ≤ v * p2 s := by
  have hp := p2_pos s
  obtain ⟨h1, h2⟩ := hb
  have h3 : p2 (32 * (n + 1) + l - 1) ≤ v := by rcases h2 with h0 | h0 <;> omega
  constructor
  · have : v * p2 s < p2 (32 * (n + 1) + l) * p2 s := Int.mul_lt_mul_of_pos_right h1 (by omega)
    rw [← p2_add, show 32 * (n + 1) + l + s = 32 * (n + 2) by omega, ← pw_p2] at this
    exact this
  · have : p2 (32 * (n + 1) + l - 1) * p2 s ≤ v * p2 s := Int.mul_le_mul_of_nonneg_right h3 (by omega)
    rw [← p2_add, show 32 * (n + 1) + l - 1 + s = 32 * (n + 1) + 31 by omega, p2_add, ← pw_p2, show p2 31 = 2147483648 from by decide] at this
    exact this
theorem norm_top {Y : List Int} {n : Nat} (hY : Limb Y) (hl : Y.length = n + 2) (h : pw (n + 1) * 2147483648 ≤ val Y) : 2147483648 ≤ Y.getD (n + 1) 0 := by
  have e := val_top (n := n + 1) hl
  have b := val_bounds (limb_take hY (n + 1))
  rw [List.length_take, Nat.min_eq_left (by omega)] at b
  apply Classical.byContradiction
  intro hn
  have : pw (n + 1) * (Y.getD (n + 1) 0 + 1) ≤ pw (n + 1) * 2147483648 := Int.mul_le_mul_of_nonneg_left (by omega) (by have := pw_pos (n + 1); omega)
  rw [Int.mul_add] at this
  omega
end Lm
end Go.Proofs.Ytpofkigboedliaa

namespace Go.Proofs.Ytpofkigboedliaa
namespace Lm
open Go.RowKit
set_option maxRecDepth 20000 in
set_option maxHeartbeats 2000000 in
theorem divideLong_any (w : World) (a1 a2 : Option Addr) (n1 n2 c1 c2 : Nat) (xs ys : List Int) (hx : Sl w (.slice a1 n1 c1) xs) (hy : Sl w (.slice a2 n2 c2) ys) (hm1 : xs.length ≤ 500000) (h2 : 2 ≤ ys.length) (hle : ys.length ≤ xs.length) (hcan : Canon ys) :
    Calls Try.prog 86 #[.slice a1 n1 c1, .slice a2 n2 c2] w fun e w' => ∃ v1 v2, e = .returned (.tuple #[v1, v2]) ∧ Is w.heap.size w' v1 (val xs / val ys) ∧ Is w.heap.size w' v2 (val xs % val ys) ∧ Sep v1 v2 ∧ Below w.heap.size w w' := by
  obtain ⟨rfl, x1, x2, x3⟩ := hx.parts
  obtain ⟨hyl, y1, y2, y3⟩ := hy.parts
  obtain ⟨n, hn⟩ : ∃ n, ys.length = n + 2 := ⟨ys.length - 2, by omega⟩
  have e2 : n2 = n + 2 := by omega
  subst e2
  obtain ⟨b, off, rfl, hc⟩ := hy.cells (by omega)
  have hcell := hc (n + 1) (by omega)
  have hlb := limb_getD y3 (n + 1)
  have hpos : 0 < ys.getD (n + 1) 0 := by
    have : ys.getD (n + 1) 0 ≠ 0 := fun h0 => by
      have := tl_le_of_zero (zs := ys) (n := n + 1) (by have := tl_le ys; omega) h0
      have := hcan.2
      omega
    omega
  have hbits := bitLen_bits (ys.getD (n + 1) 0).toNat (by omega)
  rw [Int.toNat_of_nonneg hlb.1] at hbits
  have hl32 : Lib.bitLen (ys.getD (n + 1) 0).toNat ≤ 32 := Lib.bitLen_le _ 32 (by omega) (by omega)
  have hl0 := isBits_pos hbits hpos
  obtain ⟨s, hs⟩ : ∃ s : Nat, s + Lib.bitLen (ys.getD (n + 1) 0).toNat = 32 := ⟨32 - Lib.bitLen (ys.getD (n + 1) 0).toNat, by omega⟩
  have NV := hide (norm_val (bits_top hcan hn hbits hpos) hl0 hs)
  have kl : Hid (∀ w : World, Calls Try.prog 99 #[.int .u32 (ys.getD (n + 1) 0)] w fun e w' => e = .returned (.int .i64 (s : Nat)) ∧ w' = w) := by
    intro w
    have h9 := lead_any (ys.getD (n + 1) 0) w hlb.1 hlb.2
    rwa [show (32 - ((Lib.bitLen (ys.getD (n + 1) 0).toNat : Nat) : Int)) = (s : Nat) by omega] at h9
  have hs31 : s ≤ 31 := by omega
  have YL := hide (show pw (n + 1) ≤ val ys by
    have h9 := canon_low hcan (by intro e; subst e; simp at h2)
    rwa [hn] at h9)
  have HN := hide hn
  have X3 := hide x3
  have hxn : n + 2 ≤ xs.length := by omega
  obtain ⟨m, hm2, hm3⟩ : ∃ m, m + n + 1 ≤ xs.length ∧ xs.length ≤ m + n + 1 := ⟨xs.length - (n + 1), by omega, by omega⟩
  generalize ys.getD (n + 1) 0 = top at hcell hlb hpos kl
  obtain ⟨i0, hi, hz0, hz1, hz2⟩ := info_parts info32
  clear hs hl0 hl32 hbits hc y3 hyl hcan h2 hle hn x3
  go_enter Try.func86, Try.ntmps86
  go_wp2_with fail
  refine (kl.out _).mono ?_
  rintro e w' ⟨rfl, rfl⟩
  go_wp2_with fail
  refine (moveUp_any _ _ _ _ xs hx s hs31 (by omega)).mono ?_
  rintro e w1 ⟨cur0, O, rfl, hO, hOl, hOv, hOh, hOs, hOa, hb1⟩
  have hy1 := hy.below hb1
  have O1 := hide hO
  have O2 := hide hOl
  have O3 := hide hOv
  have O4 := hide hOh
  have O5 := hide hOs
  have O6 := hide hOa
  clear hO hOl hOv hOh hOs hOa
  go_wp2_with fail
  refine (moveUp_any _ _ _ _ ys hy1 s hs31 (by have := HN.out; omega)).mono ?_
  rintro e w2 ⟨curY, Y1, rfl, hY, hYl, hYv, hYh, hYs, hYa, hb2⟩
  have Q1 := hide hY
  have Q2 := hide hYl
  have Q3 := hide hYv
  have Q4 := hide hYh
  have Q5 := hide hYs
  have Q6 := hide hYa
  clear hY hYl hYv hYh hYs hYa
  go_wp2_with (refine wpList_make_full _ rfl (.tmp 34) (.tmp 34) 26 rfl w2.heap.size 67 i0 (.int .u32 0) 1 Try.underlying26 hi hz0 hz1 .i64 .i64 _ _ m rfl rfl (by omega) (by omega) (by rw [hz2]; omega) (by unfold maxLen; omega) (Nat.le_refl _) ?hK)
  case hK =>
    intro w3 hown hgrow
    obtain ⟨_, d0, hh, hds, hat⟩ := block_of_made hown
    have hb3 : Below w2.heap.size w2 w3 := (Below.refl w2.heap.size w2).grown hgrow (Nat.le_refl _) (by simp)
    have s1 := lt_of_heap O4.out
    have s2 := lt_of_heap Q4.out
    have s3 := lt_of_heap hh
    have hU : Hid (val (Y1.take (n + 2)) = val ys * p2 s ∧ (Y1.take (n + 2)).length = n + 2 ∧ Limb (Y1.take (n + 2)) ∧ At curY .u32 0 (Y1.take (n + 2))) := by
      have h9 := top_zero Q1.out Q2.out (by rw [Q3.out]; exact NV.out.1)
      exact ⟨by rw [h9.1, Q3.out], by rw [List.length_take, Q2.out]; omega, limb_take Q1.out _, Q6.out.take _⟩
    generalize Y1.take (n + 2) = Y at hU
    have htop : Hid (2147483648 ≤ Y.getD (n + 1) 0) := norm_top hU.out.2.2.1 hU.out.2.1 (by rw [hU.out.1]; exact NV.out.2)
    have U3 : Hid (w3.heap[w1.heap.size]? = some (.cells curY 67 (0, 0))) := (hb3.block _ s2).trans Q4.out
    have hne : w'.heap.size ≠ w2.heap.size := by omega
    have hne2 : w1.heap.size ≠ w2.heap.size := by omega
    have hne3 : w1.heap.size ≠ w'.heap.size := by omega
    have hstart : Hid (Dv w3 w3 w'.heap.size w2.heap.size xs.length m n (val ys * p2 s) (val xs * p2 s) m (O.take m) (O.drop m) [] [] cur0 d0) := by
      have hp := p2_pos s
      have e9 : w3.heap[w'.heap.size]? = some (.cells cur0 67 (0, 0)) := (hb3.block _ (by omega)).trans ((hb2.block _ s1).trans O4.out)
      refine ⟨⟨rfl, rfl, rfl, rfl, e9, hh, fun _ _ _ => rfl⟩, O5.out, hds, ?_, ?_, ?_, ?_, by simp, limb_take O1.out _, limb_drop O1.out _, limb_nil, ?_, ?_⟩
      · rw [List.take_append_drop, List.append_nil]; exact O6.out
      · rw [List.append_nil]; exact hat
      · have := O2.out; rw [List.length_take]; omega
      · have := O2.out; rw [List.length_drop]; omega
      · have h8 : val xs * p2 s < pw xs.length * p2 s := Int.mul_lt_mul_of_pos_right (val_bounds X3.out).2 (by omega)
        rw [show xs.length = m + (n + 1) by omega, pw_add, Int.mul_assoc] at h8
        have h9 := long_start (m := m) (n := n) (P := p2 s) O1.out (by have := O2.out; omega) (by rw [O3.out]; exact h8)
        have h10 : pw (n + 1) * p2 s ≤ val ys * p2 s := Int.mul_le_mul_of_nonneg_right YL.out (by omega)
        omega
      · have h9 := val_append (O.take m) (O.drop m)
        rw [List.take_append_drop, List.length_take, Nat.min_eq_left (by have := O2.out; omega), O3.out] at h9
        rw [h9]
        simp [val]
    clear hown hgrow hh hds hat
    go_wp2
    go_loopw [10] (fun i wr => ∃ (k : Nat) (lo W rest Q : List Int) (cur d : Array Value), k ≤ m ∧ i = .int .i64 ((k : Int) - 1) ∧ Dv w3 wr w'.heap.size w2.heap.size xs.length m n (val ys * p2 s) (val xs * p2 s) k lo W rest Q cur d) (fun i _ => (intOf i + 1).toNat)
    case atStart => exact ⟨m, _, _, _, _, _, _, Nat.le_refl _, by first | rfl | (congr 1; omega), hstart.out⟩
    case round =>
      obtain ⟨k, lo, W, rest, Q, cur, d, hk, rfl, hD⟩ := hrel
      have D := hide hD
      clear hD
      cases k with
      | zero =>
        have hlo : lo = [] := List.eq_nil_of_length_eq_zero D.out.lol
        subst hlo
        have hatQ : At d .u32 0 Q := by simpa using D.out.atd
        have hatW : At cur .u32 0 W := at_mid (A := []) D.out.atc
        have hQm : Q.length = m := by have := D.out.ql; omega
        have hp := p2_pos s
        have hend : val xs / val ys = val Q ∧ val xs % val ys = val W / p2 s := by
          have h9 := D.out.inv
          simp only [val, pw, Int.one_mul, Int.zero_add] at h9
          have h8 := pw_pos (n + 1)
          exact long_end (by omega) (by have := YL.out; omega) h9 (val_bounds D.out.liW).1 D.out.low
        have hbel : Below w'.heap.size w' wr := hb1.trans ((hb2.mono hb1.size).trans ((hb3.mono (by omega)).trans (D.out.two.below (by omega) (by omega))))
        have how : Ow w'.heap.size wr (.slice (some ⟨w2.heap.size, 0, none⟩) m m) Q :=
          ⟨_, m, by rw [hQm], by omega, by unfold maxLen; omega, D.out.liQ, .inr ⟨_, 0, _, rfl, by omega, D.out.two.there, by rw [D.out.dsz]; omega, hatQ⟩⟩
        have his := hide (how.is_cut (x := val xs / val ys) hend.1.symm)
        have hWs : Sl wr (.slice (some ⟨w'.heap.size, 0, none⟩) (n + 2) (xs.length + 1)) W := sl_of_at D.out.two.here hatW D.out.liW D.out.wl (by omega) (by unfold maxLen; omega)
        have HE := hide hend.2
        have hWl : W.length ≤ 1000000 := by have := D.out.wl; omega
        have ht := tl_le Q
        have htm : tl Q ≤ m := by omega
        have HO := hide how
        clear hend hatQ hatW hQm how ht
        go_wp2
        go_region_with (first
          | (go_at_call 84; refine (cut_any _ _ _ _ Q (HO.out.sl.below (by repeat (first | exact Below.refl _ _ | refine Below.drew ?_)))).mono ?_; rintro e wc ⟨rfl, rfl⟩)
          | (go_at_call 104; refine (moveDown_any _ _ _ _ W (hWs.below (by repeat (first | exact Below.refl _ _ | refine Below.drew ?_))) s hs31 hWl).mono ?_; rintro e wd ⟨vd, rfl, hi, hbd⟩))
        all_goals
          have hbd' := (show Below wr.heap.size wr _ by repeat (first | exact Below.refl _ _ | refine Below.drew ?_)).trans hbd
          have his' := his.out.below hbd'
          have hi' := hi.mono (B' := wr.heap.size) (by first | exact Nat.le_refl _ | simp)
          clear hbd hi
          go_wp2
          go_ret2
          obtain ⟨q1, q2, q3, q4⟩ := his.out
          obtain ⟨s1, s2, s3, s4⟩ := hi'
          exact ⟨_, _, rfl, his', ⟨s1, s2.mono hbel.size, s3, by rw [s4, HE.out]⟩, sep_of q2 s2 (Nat.le_refl _), hbel.trans (hbd'.mono hbel.size)⟩
      | succ k =>
        obtain ⟨lo', x, hlo, hll⟩ := split_last D.out.lol
        subst hlo
        have LL := hide hll
        have MD := hide (D.out.mid hll)
        clear hll
        have hxW : (x :: W).length = n + 2 + 1 := by have := D.out.wl; simp; omega
        have hPU : val (x :: W) < 4294967296 * (val ys * p2 s) := part_lt ((limb_cons.1 MD.out.2).1.2) D.out.low
        have e0 : k + (n + 2) + 1 - k = n + 2 + 1 := by omega
        have hYsl : ∀ wq cq, Wr wr wq w'.heap.size cq 67 → Sl wq (.slice (some ⟨w1.heap.size, 0, none⟩) (n + 2) (n + 2 + 1)) Y := by
          intro wq cq hq
          refine sl_of_at (cur := curY) ?_ hU.out.2.2.2 hU.out.2.2.1 hU.out.2.1 (by omega) (by unfold maxLen; omega)
          rw [hq.other _ hne3, D.out.two.other _ hne3 hne2]
          exact U3.out
        have hup : (x :: W).getD (n + 2) 0 ≤ Y.getD (n + 1) 0 := by
          have h9 := top_le (n := n + 1) D.out.liW hU.out.2.2.1 D.out.wl hU.out.2.1 (by rw [hU.out.1]; exact D.out.low)
          simpa using h9
        have kg : Hid (Calls Try.prog 101 #[.slice (some ⟨w'.heap.size, k, none⟩) (k + (n + 2) + 1 - k) (xs.length + 1 - k), .slice (some ⟨w1.heap.size, 0, none⟩) (n + 2) (n + 2 + 1)] wr fun e wz => ∃ g : Int, e = .returned (.int .u32 g) ∧ (0 ≤ g ∧ g < 4294967296) ∧ (val (x :: W) < (g + 1) * (val ys * p2 s) ∧ (g - 1) * (val ys * p2 s) ≤ val (x :: W)) ∧ ∃ q, wz = wr.drewN q) := by
          rw [e0]
          refine (guess_any wr _ _ n _ _ (x :: W) Y (sl_of_at D.out.two.here MD.out.1 MD.out.2 hxW (by omega) (by unfold maxLen; omega)) (hYsl _ _ (Wr.refl D.out.two.here)) htop.out hup).mono ?_
          rintro e wq ⟨g, rfl, hg, hA, hB, hq⟩
          exact ⟨g, rfl, hg, guess_near MD.out.2 hU.out.2.2.1 hxW hU.out.2.1 rfl hU.out.1 (by have := htop.out; omega) hPU hg hA hB, hq⟩
        have kt : Hid (∀ q g, 0 ≤ g ∧ g < 4294967296 → Calls Try.prog 102 #[.slice (some ⟨w'.heap.size, k, none⟩) (k + (n + 2) + 1 - k) (xs.length + 1 - k), .slice (some ⟨w1.heap.size, 0, none⟩) (n + 2) (n + 2 + 1), .int .u32 g] (wr.drewN q) fun e wz => ∃ qs b cur', e = .returned (.bool (b != 0)) ∧ (0 ≤ b ∧ b ≤ 1) ∧ val qs - pw (n + 2 + 1) * b = val (x :: W) - g * val Y ∧ Limb qs ∧ qs.length = n + 2 + 1 ∧ Wr (wr.drewN q) wz w'.heap.size cur' 67 ∧ cur'.size = cur.size ∧ At cur' .u32 k qs ∧ (∀ i, i < k ∨ k + (n + 2 + 1) ≤ i → cur'[i]? = cur[i]?)) := by
          intro q g hg
          rw [e0]
          exact takeTimes_any (wr.drewN q) _ k (n + 2) _ _ cur (x :: W) Y _ g hg (D.out.two.drewN q).here MD.out.1 MD.out.2 hxW (by omega) (fun wq cq hq => hYsl wq cq ⟨hq.os, hq.tape, hq.output, hq.size, hq.here, hq.other⟩)
        have kb : Hid (∀ (wq : World) (cq : Array Value) (ps : List Int), Wr wr wq w'.heap.size cq 67 → At cq .u32 k ps → Limb ps → ps.length = n + 2 + 1 → Calls Try.prog 103 #[.slice (some ⟨w'.heap.size, k, none⟩) (k + (n + 2) + 1 - k) (xs.length + 1 - k), .slice (some ⟨w1.heap.size, 0, none⟩) (n + 2) (n + 2 + 1)] wq fun e wz => ∃ qs c cur', e = .returned (.tuple #[]) ∧ (0 ≤ c ∧ c ≤ 1) ∧ val qs + pw (n + 2 + 1) * c = val ps + val Y ∧ Limb qs ∧ qs.length = n + 2 + 1 ∧ Wr wq wz w'.heap.size cur' 67 ∧ cur'.size = cq.size ∧ At cur' .u32 k qs ∧ (∀ i, i < k ∨ k + (n + 2 + 1) ≤ i → cur'[i]? = cq[i]?)) := by
          intro wq cq ps hq ha hp hl
          rw [e0]
          exact addBack_any wq _ k (n + 2) _ _ cq ps Y _ hq.here ha hp hl (by omega) (fun wz cz hz => hYsl wz cz (hq.trans hz))
        clear hxW hPU e0 hYsl hup
        go_wp2_with fail
        refine (kg.out).mono ?_
        rintro e w4 ⟨g, rfl, hg, hnear, q1, rfl⟩
        have NR := hide hnear
        clear hnear
        go_wp2_with fail
        refine (kt.out q1 g hg).mono ?_
        rintro e w5 ⟨qs, bo, cur', rfl, hbo, hv, hq, hql, hwr, hcs, hat, hout⟩
        have V1 := hide hv
        have V2 := hide hq
        have V3 := hide hql
        have V4 := hide hwr
        have V5 := hide hcs
        have V6 := hide hat
        have V7 := hide hout
        clear hv hq hql hwr hcs hat hout
        have hqb : Hid (0 ≤ val qs ∧ val qs < pw (n + 2 + 1)) := by
          have h9 := val_bounds V2.out
          rwa [V3.out] at h9
        have hU0 : Hid (0 < val ys * p2 s ∧ val ys * p2 s < pw (n + 2 + 1) ∧ val ys * p2 s ≤ pw (n + 2)) := by
          have h9 := NV.out
          have h8 := pw_mono (m := n + 2) (n := n + 2 + 1) (by omega)
          have h7 := pw_pos (n + 1)
          exact ⟨by omega, by omega, by omega⟩
        have V8 : Hid (val qs - pw (n + 2 + 1) * bo = val (x :: W) - g * (val ys * p2 s)) := by rw [← hU.out.1]; exact V1.out
        by_cases hb0 : bo = 0
        · have two := hide ((D.out.two.drewN q1).left hne.symm V4.out)
          have near := (rest_near (A2 := 0) (c := 0) hU0.out.1 hU0.out.2.1 NR.out.1 NR.out.2 hqb.out hbo V8.out).1 hb0
          have ST := hide (D.out.step LL.out hne two.out V5.out V6.out V7.out V2.out V3.out hU0.out.2.2 near.2.1 near.2.2 hg)
          have hcq := D.out.atd.cell two.out.there k (by have := D.out.ql; simp; omega)
          rw [Nat.zero_add] at hcq
          generalize (List.replicate (k + 1) (0 : Int) ++ Q).getD k 0 = old at hcq
          have hfree := (Wr.refl two.out.there).free k
          clear near
          subst hb0
          go_wp2
          go_roundw
          case rel => exact ⟨k, _, _, _, _, _, _, by omega, by first | rfl | go_num, ST.out⟩
          case measure => simp [intOf]
        · have hb1' : bo = 1 := by omega
          subst hb1'
          have hg1 : 1 ≤ g := by
            apply Classical.byContradiction
            intro hn
            have h9 := V8.out
            have h8 := hqb.out
            have h7 := (val_bounds MD.out.2).1
            rw [show g = 0 by omega, Int.zero_mul, Int.mul_one] at h9
            omega
          have KB := hide (kb.out w5 cur' qs ⟨V4.out.os, V4.out.tape, V4.out.output, V4.out.size, V4.out.here, V4.out.other⟩ V6.out V2.out V3.out)
          go_wp2_with fail
          refine (KB.out).mono ?_
          rintro e w6 ⟨q2, c, cur2, rfl, hc, hv, hq, hql, hwr, hcs, hat, hout⟩
          have hq2 : 0 ≤ val q2 ∧ val q2 < pw (n + 2 + 1) := by
            have h9 := val_bounds hq
            rwa [hql] at h9
          have two := hide (((D.out.two.drewN q1).left hne.symm V4.out).left hne.symm hwr)
          have near := (rest_near (A2 := val q2) (c := c) hU0.out.1 hU0.out.2.1 NR.out.1 NR.out.2 hqb.out hbo V8.out).2 rfl hq2 hc (by rw [← hU.out.1]; exact hv)
          have ST := hide (D.out.step LL.out hne two.out (hcs.trans V5.out) hat (fun i hi => (hout i hi).trans (V7.out i hi)) hq hql hU0.out.2.2 near.2.1 near.2.2 (by omega))
          have hcq := D.out.atd.cell two.out.there k (by have := D.out.ql; simp; omega)
          rw [Nat.zero_add] at hcq
          generalize (List.replicate (k + 1) (0 : Int) ++ Q).getD k 0 = old at hcq
          have hfree := (Wr.refl two.out.there).free k
          clear near hq2 hv hq hql hwr hcs hat hout
          go_wp2
          go_roundw
          case rel => exact ⟨k, _, _, _, _, _, _, by omega, by first | rfl | go_num, ST.out⟩
          case measure => simp [intOf]
end Lm
end Go.Proofs.Ytpofkigboedliaa

namespace Go.Proofs.Ytpofkigboedliaa
namespace Lm
open Go.RowKit
set_option maxRecDepth 20000 in
set_option maxHeartbeats 1000000 in
theorem divmod_long (w : World) (a1 a2 : Option Addr) (n1 n2 c1 c2 : Nat) (xs ys : List Int) (hx : Sl w (.slice a1 n1 c1) xs) (hy : Sl w (.slice a2 n2 c2) ys) (hm1 : xs.length ≤ 500000) (hle : tl ys ≤ tl xs) (h2 : 2 ≤ tl ys) :
    Calls Try.prog 59 #[.slice a1 n1 c1, .slice a2 n2 c2] w fun e w' => ∃ v1 v2, e = .returned (.tuple #[v1, v2, .bool true]) ∧ Is w.heap.size w' v1 (val xs / val ys) ∧ Is w.heap.size w' v2 (val xs % val ys) ∧ Sep v1 v2 ∧ Below w.heap.size w w' := by
  obtain ⟨rfl, h1, _, h3⟩ := hx.parts
  obtain ⟨rfl, g1, _, g3⟩ := hy.parts
  have t1 := tl_le xs
  have t2 := tl_le ys
  have kd := divideLong_any w a1 a2 (tl xs) (tl ys) c1 c2 _ _ hx.cut hy.cut (by rw [List.length_take]; omega) (by rw [List.length_take]; omega) (by rw [List.length_take, List.length_take]; omega) (canon_trim g3)
  rw [val_take_tl, val_take_tl] at kd
  have KD := hide kd
  clear kd h3 g3
  have hne : (((tl ys : Nat) : Int) == 0) = false := by simp; omega
  have hne1 : (((tl ys : Nat) : Int) == 1) = false := by simp; omega
  go_enter Try.func59, Try.ntmps59
  go_wp2_with fail
  refine (cut_any w a1 _ c1 xs hx).mono ?_
  rintro e w' ⟨rfl, rfl⟩
  go_wp2_with fail
  refine (cut_any _ a2 _ c2 ys hy).mono ?_
  rintro e w' ⟨rfl, rfl⟩
  go_wp2_with fail
  refine (KD.out).mono ?_
  rintro e w1 ⟨v1, v2, rfl, hi1, hi2, hsep, hb⟩
  go_wp2
  go_ret3
  exact ⟨_, _, rfl, hi1, hi2, hsep, hb⟩
theorem divmod_any (w : World) (a1 a2 : Option Addr) (n1 n2 c1 c2 : Nat) (xs ys : List Int) (hx : Sl w (.slice a1 n1 c1) xs) (hy : Sl w (.slice a2 n2 c2) ys) (hm1 : xs.length ≤ 500000) (h0 : val ys ≠ 0) :
    Calls Try.prog 59 #[.slice a1 n1 c1, .slice a2 n2 c2] w fun e w' => ∃ v1 v2, e = .returned (.tuple #[v1, v2, .bool true]) ∧ Is w.heap.size w' v1 (val xs / val ys) ∧ Is w.heap.size w' v2 (val xs % val ys) ∧ Sep v1 v2 ∧ Below w.heap.size w w' := by
  have hz : 0 < tl ys := by
    apply Classical.byContradiction
    intro hn
    exact h0 (tl_zero (by omega))
  by_cases h1 : tl xs < tl ys
  · exact divmod_less w a1 a2 n1 n2 c1 c2 xs ys hx hy (by omega) h1
  · by_cases h2 : tl ys = 1
    · exact divmod_short w a1 a2 n1 n2 c1 c2 xs ys hx hy (by omega) (by omega) h2
    · exact divmod_long w a1 a2 n1 n2 c1 c2 xs ys hx hy hm1 (by omega) (by omega)
theorem divmod_none (w : World) (a1 a2 : Option Addr) (n1 n2 c1 c2 : Nat) (xs ys : List Int) (hx : Sl w (.slice a1 n1 c1) xs) (hy : Sl w (.slice a2 n2 c2) ys) (h0 : val ys = 0) :
    Calls Try.prog 59 #[.slice a1 n1 c1, .slice a2 n2 c2] w fun e w' => e = .returned (.tuple #[.slice none 0 0, .slice none 0 0, .bool false]) ∧ Below w.heap.size w w' := by
  refine divmod_zero w a1 a2 n1 n2 c1 c2 xs ys hx hy ?_
  apply Classical.byContradiction
  intro hn
  have := val_pos_tl hy.parts.2.2.2 (by omega)
  omega
theorem divmod_g (w : World) (a1 a2 : Option Addr) (n1 n2 c1 c2 : Nat) (xs ys : List Int) (hx : Sl w (.slice a1 n1 c1) xs) (hy : Sl w (.slice a2 n2 c2) ys) (hm1 : xs.length ≤ 500000) (h0 : val ys ≠ 0) :
    Calls Try.prog 59 #[.slice a1 n1 c1, .slice a2 n2 c2] w fun e w' => ∃ ao cap rs bo dap ss, e = .returned (.tuple #[.slice ao rs.length cap, .slice bo ss.length dap, .bool true]) ∧ Got w' ao cap rs (val xs / val ys) ∧ Got w' bo dap ss (val xs % val ys) ∧ rs.length ≤ xs.length ∧ ss.length ≤ ys.length ∧ Below w.heap.size w w' := by
  refine (divmod_any w a1 a2 n1 n2 c1 c2 xs ys hx hy hm1 h0).mono ?_
  rintro e w' ⟨v1, v2, rfl, hi1, hi2, _, hb⟩
  obtain ⟨ao, cap, rs, rfl, hg1⟩ := hi1.got
  obtain ⟨bo, dap, ss, rfl, hg2⟩ := hi2.got
  have bx := val_bounds hx.parts.2.2.2
  have by' := val_bounds hy.parts.2.2.2
  refine ⟨ao, cap, rs, bo, dap, ss, rfl, hg1, hg2, le_len hx.parts.2.2.2 hg1.canon ?_, le_len hy.parts.2.2.2 hg2.canon ?_, hb⟩
  · rw [hg1.val]
    exact Int.ediv_le_self _ bx.1
  · rw [hg2.val]
    have := Int.emod_lt_of_pos (val xs) (show 0 < val ys by omega)
    omega
end Lm
end Go.Proofs.Ytpofkigboedliaa

namespace Go.Proofs.Ytpofkigboedliaa
namespace Lm
open Go.RowKit
theorem boxed4 (w : World) (nx : Bool) (vx : Value) (ny : Bool) (vy : Value) : ∃ w0 : World, (((w.alloc (.cells #[.bool nx, vx] 28)).alloc (.cells #[.bool ny, vy] 28)).alloc (.cells #[.bool false, .slice none 0 0] 28)).alloc (.cells #[.bool false, .slice none 0 0] 28) = w0 ∧ Box w0 w.heap.size nx vx ∧ Box w0 (w.heap.size + 1) ny vy ∧ Box w0 (w.heap.size + 1 + 1) false (.slice none 0 0) ∧ Box w0 (w.heap.size + 1 + 1 + 1) false (.slice none 0 0) ∧ Below w.heap.size w w0 ∧ w0.heap.size = w.heap.size + 4 := by
  obtain ⟨w2, e2, b1, b2, b3, hb, hs⟩ := boxed3 w nx vx ny vy
  have h2 := boxed w2 false (.slice none 0 0)
  rw [e2]
  refine ⟨_, rfl, b1.below h2.2.1, b2.below h2.2.1, b3.below h2.2.1, ?_, hb.trans (h2.2.1.mono (by omega)), by rw [h2.2.2, hs]⟩
  have h3 := h2.1
  rw [hs] at h3
  exact h3
theorem ediv_sg (ny : Bool) (X Y : Int) : X / sg ny Y = sg ny (X / Y) ∧ X % sg ny Y = X % Y := by
  cases ny <;> simp [sg, Int.ediv_neg, Int.emod_neg]
theorem euclid_neg {X Y : Int} (hY : 0 < Y) : (X % Y = 0 → -X / Y = -(X / Y) ∧ -X % Y = 0) ∧ (X % Y ≠ 0 → -X / Y = -(X / Y + 1) ∧ -X % Y = Y - X % Y) := by
  have h1 := Int.mul_ediv_add_emod X Y
  have h2 := Int.emod_nonneg X (show Y ≠ 0 by omega)
  have h3 := Int.emod_lt_of_pos X hY
  constructor
  · intro h0
    refine div_of hY ?_ (Int.le_refl 0) hY
    rw [Int.neg_mul, Int.mul_comm (X / Y)]
    omega
  · intro h0
    refine div_of hY ?_ (by omega) (by omega)
    rw [Int.neg_mul, Int.add_mul, Int.mul_comm (X / Y)]
    omega
theorem Box.other {w : World} {g h : Nat} {ng : Bool} {v : Value} (H : Box w g ng v) (hn : g ≠ h) (b u : Value) : Box ((w.setCell ⟨h, 0, none⟩ b).setCell ⟨h, 1, none⟩ u) g ng v :=
  (heap_setCell_other _ ⟨h, 1, none⟩ g u hn).trans ((heap_setCell_other w ⟨h, 0, none⟩ g b hn).trans H)
theorem box_two {w : World} {g h : Nat} {n1 n2 nq nr : Bool} {v1 v2 vq vr : Value} (H1 : Box w g n1 v1) (H2 : Box w h n2 v2) (hn : g ≠ h) : Box ((((w.setCell ⟨g, 0, none⟩ (.bool nq)).setCell ⟨g, 1, none⟩ vq).setCell ⟨h, 0, none⟩ (.bool nr)).setCell ⟨h, 1, none⟩ vr) g nq vq ∧ Box ((((w.setCell ⟨g, 0, none⟩ (.bool nq)).setCell ⟨g, 1, none⟩ vq).setCell ⟨h, 0, none⟩ (.bool nr)).setCell ⟨h, 1, none⟩ vr) h nr vr :=
  ⟨(H1.set nq vq).other hn _ _, (H2.other (Ne.symm hn) _ _).set nr vr⟩
theorem wdiv_pos (ny : Bool) (X Y : Int) : sg (false != ny) (X / Y) = sg false X / sg ny Y ∧ sg false (X % Y) = sg false X % sg ny Y := by
  have h := ediv_sg ny (sg false X) Y
  rw [h.1, h.2]
  cases ny <;> simp [sg]
theorem wdiv_even (nx ny : Bool) {X Y : Int} (hY : 0 < Y) (h0 : X % Y = 0) : sg (nx != ny) (X / Y) = sg nx X / sg ny Y ∧ sg false (X % Y) = sg nx X % sg ny Y := by
  cases nx with
  | false => exact wdiv_pos ny X Y
  | true =>
    have h := ediv_sg ny (sg true X) Y
    have h2 := (euclid_neg (X := X) hY).1 h0
    rw [h.1, h.2, h0]
    cases ny <;> simp [sg, h2]
theorem wdiv_odd (ny : Bool) {X Y : Int} (hY : 0 < Y) (h0 : X % Y ≠ 0) : sg (true != ny) (X / Y + 1) = sg true X / sg ny Y ∧ sg false (Y - X % Y) = sg true X % sg ny Y := by
  have h := ediv_sg ny (sg true X) Y
  have h2 := (euclid_neg (X := X) hY).2 h0
  rw [h.1, h.2]
  cases ny <;> simp [sg, h2]
set_option maxRecDepth 20000 in
set_option maxHeartbeats 1000000 in
theorem wdivmod_none (w : World) (nx : Bool) (a1 : Option Addr) (n1 c1 : Nat) (xs : List Int) (hx : Sl w (.slice a1 n1 c1) xs) (ny : Bool) (a2 : Option Addr) (n2 c2 : Nat) (ys : List Int) (hy : Sl w (.slice a2 n2 c2) ys) (h0 : val ys = 0) :
    Calls Try.prog 32 #[.agg #[.bool nx, .slice a1 n1 c1], .agg #[.bool ny, .slice a2 n2 c2]] w fun e w' => e = .returned (.tuple #[.agg #[.bool false, .slice none 0 0], .agg #[.bool false, .slice none 0 0], .bool false]) ∧ Below w.heap.size w w' := by
  obtain ⟨w0, e0, bx, by', bq, br, hb0, hs0⟩ := boxed4 w nx (.slice a1 n1 c1) ny (.slice a2 n2 c2)
  have E0 := hide e0
  have hx0 := hx.below hb0
  have hy0 := hy.below hb0
  clear e0 hs0
  have H0 := hide h0
  clear h0
  go_enter Try.func32, Try.ntmps32
  go_wp2_with fail
  rw [E0.out]
  obtain ⟨ca, cb, cc, cd⟩ := bx.facts
  obtain ⟨ea, eb, ec, ed⟩ := by'.facts
  refine (divmod_none _ _ _ _ _ _ _ xs ys hx0 hy0 H0.out).mono ?_
  rintro e w1 ⟨rfl, hb1⟩
  have Z := hide (hb0.trans (hb1.mono hb0.size))
  obtain ⟨qa, qb, qc, qd⟩ := (bq.below hb1).facts
  obtain ⟨ra, rb, rc, rd⟩ := (br.below hb1).facts
  have F := hide (box_two (nq := false) (vq := .slice none 0 0) (nr := false) (vr := .slice none 0 0) (bq.below hb1) (br.below hb1) (by omega))
  have Z2 := hide (below_set2 (below_set2 Z.out (show w.heap.size ≤ w.heap.size + 1 + 1 by omega) (.bool false) (.slice none 0 0)) (show w.heap.size ≤ w.heap.size + 1 + 1 + 1 by omega) (.bool false) (.slice none 0 0))
  go_wp2
  refine bodyPost_ret (v := .tuple #[.agg #[.bool false, .slice none 0 0], .agg #[.bool false, .slice none 0 0], .bool false]) ?_ rfl ⟨rfl, Z2.out⟩
  simp [results, Try.results32, go_sem, F.out.1.facts.1, F.out.1.facts.2.1, F.out.2.facts.1, F.out.2.facts.2.1]
set_option maxRecDepth 20000 in
set_option maxHeartbeats 1000000 in
theorem wdivmod_pos (w : World) (a1 : Option Addr) (n1 c1 : Nat) (xs : List Int) (hx : Sl w (.slice a1 n1 c1) xs) (ny : Bool) (a2 : Option Addr) (n2 c2 : Nat) (ys : List Int) (hy : Sl w (.slice a2 n2 c2) ys) (hm1 : xs.length ≤ 400000) (hm2 : ys.length ≤ 400000) (h0 : val ys ≠ 0) :
    Calls Try.prog 32 #[.agg #[.bool false, .slice a1 n1 c1], .agg #[.bool ny, .slice a2 n2 c2]] w fun e w' => ∃ nq aq cq qs nr ar cr rs, e = .returned (.tuple #[.agg #[.bool nq, .slice aq qs.length cq], .agg #[.bool nr, .slice ar rs.length cr], .bool true]) ∧ Wh w' nq aq cq qs (sg false (val xs) / sg ny (val ys)) ∧ Wh w' nr ar cr rs (sg false (val xs) % sg ny (val ys)) ∧ qs.length ≤ xs.length + 4 ∧ rs.length ≤ ys.length ∧ Below w.heap.size w w' := by
  obtain ⟨w0, e0, bx, by', bq, br, hb0, hs0⟩ := boxed4 w false (.slice a1 n1 c1) ny (.slice a2 n2 c2)
  have E0 := hide e0
  have hx0 := hx.below hb0
  have hy0 := hy.below hb0
  clear e0 hs0
  have PY : Hid (0 < val ys) := by have := (val_bounds hy.parts.2.2.2).1; show _ < _; omega
  have LY := hide hy.parts.2.2.2
  have H0 := hide h0
  clear h0
  go_enter Try.func32, Try.ntmps32
  go_wp2_with fail
  rw [E0.out]
  refine (divmod_g _ _ _ _ _ _ _ xs ys hx0 hy0 (by omega) H0.out).mono ?_
  rintro e w1 ⟨p1, q1, r1, p2, q2, r2, rfl, G1, G2, l1, l2, hb1⟩
  have HB : Below w0.heap.size w0 w1 := hb1
  obtain ⟨xa, xb, xc, xd⟩ := (bx.below HB).facts
  obtain ⟨ya, yb, yc, yd⟩ := (by'.below HB).facts
  go_wp2_with fail
  refine (signed_g _ _ _ _ r1 _ G1 (by omega)).mono ?_
  rintro e w7 ⟨ng7, rfl, G7, hb7⟩
  replace HB := HB.trans (hb7.mono HB.size)
  have G2' := G2.below hb7
  clear xa xb xc xd ya yb yc yd
  obtain ⟨xa, xb, xc, xd⟩ := (bx.below HB).facts
  obtain ⟨ya, yb, yc, yd⟩ := (by'.below HB).facts
  go_wp2_with fail
  refine (signed_g _ _ _ _ r2 _ G2' (by omega)).mono ?_
  rintro e w8 ⟨ng8, rfl, G8, hb8⟩
  replace HB := HB.trans (hb8.mono HB.size)
  replace G7 := G7.below hb8
  clear xa xb xc xd ya yb yc yd
  have bq8 := bq.below HB
  have br8 := br.below HB
  obtain ⟨qa, qb, qc, qd⟩ := bq8.facts
  obtain ⟨ra, rb, rc, rd⟩ := br8.facts
  have VQ : Hid (sg ny (val xs / val ys) = sg false (val xs) / sg ny (val ys) ∧ sg false (val xs % val ys) = sg false (val xs) % sg ny (val ys)) := by have h := wdiv_pos ny (val xs) (val ys); rwa [show (false != ny) = ny by cases ny <;> rfl] at h
  have Y1 := hide ((br8.other (show w.heap.size + 1 + 1 + 1 ≠ w.heap.size + 1 + 1 by omega) (.bool ng7) (.slice p1 r1.length q1)).wh ng8 (.slice p2 r2.length q2) (bq8.wh ng7 (.slice p1 r1.length q1) G7))
  have Y2 := hide ((br8.other (show w.heap.size + 1 + 1 + 1 ≠ w.heap.size + 1 + 1 by omega) (.bool ng7) (.slice p1 r1.length q1)).wh ng8 (.slice p2 r2.length q2) (bq8.wh ng7 (.slice p1 r1.length q1) G8))
  have F := hide (box_two (nq := ng7) (vq := .slice p1 r1.length q1) (nr := ng8) (vr := .slice p2 r2.length q2) bq8 br8 (by omega))
  have Z := hide (hb0.trans (HB.mono hb0.size))
  have Z2 := hide (below_set2 (below_set2 Z.out (show w.heap.size ≤ w.heap.size + 1 + 1 by omega) (.bool ng7) (.slice p1 r1.length q1)) (show w.heap.size ≤ w.heap.size + 1 + 1 + 1 by omega) (.bool ng8) (.slice p2 r2.length q2))
  go_wp2
  refine bodyPost_ret (v := .tuple #[.agg #[.bool ng7, .slice p1 r1.length q1], .agg #[.bool ng8, .slice p2 r2.length q2], .bool true]) ?_ rfl ⟨ng7, p1, q1, r1, ng8, p2, q2, r2, rfl, by rw [← VQ.out.1]; exact Y1.out, by rw [← VQ.out.2]; exact Y2.out, by omega, by omega, Z2.out⟩
  simp [results, Try.results32, go_sem, F.out.1.facts.1, F.out.1.facts.2.1, F.out.2.facts.1, F.out.2.facts.2.1]
set_option maxRecDepth 20000 in
set_option maxHeartbeats 1000000 in
theorem wdivmod_even (w : World) (a1 : Option Addr) (n1 c1 : Nat) (xs : List Int) (hx : Sl w (.slice a1 n1 c1) xs) (ny : Bool) (a2 : Option Addr) (n2 c2 : Nat) (ys : List Int) (hy : Sl w (.slice a2 n2 c2) ys) (hm1 : xs.length ≤ 400000) (_hm2 : ys.length ≤ 400000) (h0 : val ys ≠ 0) (hev : val xs % val ys = 0) :
    Calls Try.prog 32 #[.agg #[.bool true, .slice a1 n1 c1], .agg #[.bool ny, .slice a2 n2 c2]] w fun e w' => ∃ nq aq cq qs nr ar cr rs, e = .returned (.tuple #[.agg #[.bool nq, .slice aq qs.length cq], .agg #[.bool nr, .slice ar rs.length cr], .bool true]) ∧ Wh w' nq aq cq qs (sg true (val xs) / sg ny (val ys)) ∧ Wh w' nr ar cr rs (sg true (val xs) % sg ny (val ys)) ∧ qs.length ≤ xs.length + 4 ∧ rs.length ≤ ys.length ∧ Below w.heap.size w w' := by
  obtain ⟨w0, e0, bx, by', bq, br, hb0, hs0⟩ := boxed4 w true (.slice a1 n1 c1) ny (.slice a2 n2 c2)
  have E0 := hide e0
  have hx0 := hx.below hb0
  have hy0 := hy.below hb0
  clear e0 hs0
  have PY : Hid (0 < val ys) := by have := (val_bounds hy.parts.2.2.2).1; show _ < _; omega
  have LY := hide hy.parts.2.2.2
  have H0 := hide h0
  have HE := hide hev
  clear hev
  clear h0
  go_enter Try.func32, Try.ntmps32
  go_wp2_with fail
  rw [E0.out]
  refine (divmod_g _ _ _ _ _ _ _ xs ys hx0 hy0 (by omega) H0.out).mono ?_
  rintro e w1 ⟨p1, q1, r1, p2, q2, r2, rfl, G1, G2, l1, l2, hb1⟩
  have HB : Below w0.heap.size w0 w1 := hb1
  have hr2 : ¬ 0 < (r2.length : Int) := by
    have h9 : r2 = [] := (canon_zero G2.canon).1 (by rw [G2.val]; exact HE.out)
    rw [h9]; simp
  obtain ⟨xa, xb, xc, xd⟩ := (bx.below HB).facts
  obtain ⟨ya, yb, yc, yd⟩ := (by'.below HB).facts
  go_wp2_with fail
  refine (signed_g _ _ _ _ r1 _ G1 (by omega)).mono ?_
  rintro e w7 ⟨ng7, rfl, G7, hb7⟩
  replace HB := HB.trans (hb7.mono HB.size)
  have G2' := G2.below hb7
  clear xa xb xc xd ya yb yc yd
  obtain ⟨xa, xb, xc, xd⟩ := (bx.below HB).facts
  obtain ⟨ya, yb, yc, yd⟩ := (by'.below HB).facts
  go_wp2_with fail
  refine (signed_g _ _ _ _ r2 _ G2' (by omega)).mono ?_
  rintro e w8 ⟨ng8, rfl, G8, hb8⟩
  replace HB := HB.trans (hb8.mono HB.size)
  replace G7 := G7.below hb8
  clear xa xb xc xd ya yb yc yd
  have bq8 := bq.below HB
  have br8 := br.below HB
  obtain ⟨qa, qb, qc, qd⟩ := bq8.facts
  obtain ⟨ra, rb, rc, rd⟩ := br8.facts
  have VQ : Hid (sg (!ny) (val xs / val ys) = sg true (val xs) / sg ny (val ys) ∧ sg false (val xs % val ys) = sg true (val xs) % sg ny (val ys)) := by have h := wdiv_even true ny PY.out HE.out; rwa [show (true != ny) = !ny by cases ny <;> rfl] at h
  have Y1 := hide ((br8.other (show w.heap.size + 1 + 1 + 1 ≠ w.heap.size + 1 + 1 by omega) (.bool ng7) (.slice p1 r1.length q1)).wh ng8 (.slice p2 r2.length q2) (bq8.wh ng7 (.slice p1 r1.length q1) G7))
  have Y2 := hide ((br8.other (show w.heap.size + 1 + 1 + 1 ≠ w.heap.size + 1 + 1 by omega) (.bool ng7) (.slice p1 r1.length q1)).wh ng8 (.slice p2 r2.length q2) (bq8.wh ng7 (.slice p1 r1.length q1) G8))
  have F := hide (box_two (nq := ng7) (vq := .slice p1 r1.length q1) (nr := ng8) (vr := .slice p2 r2.length q2) bq8 br8 (by omega))
  have Z := hide (hb0.trans (HB.mono hb0.size))
  have Z2 := hide (below_set2 (below_set2 Z.out (show w.heap.size ≤ w.heap.size + 1 + 1 by omega) (.bool ng7) (.slice p1 r1.length q1)) (show w.heap.size ≤ w.heap.size + 1 + 1 + 1 by omega) (.bool ng8) (.slice p2 r2.length q2))
  go_wp2
  refine bodyPost_ret (v := .tuple #[.agg #[.bool ng7, .slice p1 r1.length q1], .agg #[.bool ng8, .slice p2 r2.length q2], .bool true]) ?_ rfl ⟨ng7, p1, q1, r1, ng8, p2, q2, r2, rfl, by rw [← VQ.out.1]; exact Y1.out, by rw [← VQ.out.2]; exact Y2.out, by omega, by omega, Z2.out⟩
  simp [results, Try.results32, go_sem, F.out.1.facts.1, F.out.1.facts.2.1, F.out.2.facts.1, F.out.2.facts.2.1]
set_option maxRecDepth 20000 in
set_option maxHeartbeats 1000000 in
theorem wdivmod_odd (w : World) (a1 : Option Addr) (n1 c1 : Nat) (xs : List Int) (hx : Sl w (.slice a1 n1 c1) xs) (ny : Bool) (a2 : Option Addr) (n2 c2 : Nat) (ys : List Int) (hy : Sl w (.slice a2 n2 c2) ys) (hm1 : xs.length ≤ 400000) (hm2 : ys.length ≤ 400000) (h0 : val ys ≠ 0) (hod : val xs % val ys ≠ 0) :
    Calls Try.prog 32 #[.agg #[.bool true, .slice a1 n1 c1], .agg #[.bool ny, .slice a2 n2 c2]] w fun e w' => ∃ nq aq cq qs nr ar cr rs, e = .returned (.tuple #[.agg #[.bool nq, .slice aq qs.length cq], .agg #[.bool nr, .slice ar rs.length cr], .bool true]) ∧ Wh w' nq aq cq qs (sg true (val xs) / sg ny (val ys)) ∧ Wh w' nr ar cr rs (sg true (val xs) % sg ny (val ys)) ∧ qs.length ≤ xs.length + 4 ∧ rs.length ≤ ys.length ∧ Below w.heap.size w w' := by
  obtain ⟨w0, e0, bx, by', bq, br, hb0, hs0⟩ := boxed4 w true (.slice a1 n1 c1) ny (.slice a2 n2 c2)
  have E0 := hide e0
  have hx0 := hx.below hb0
  have hy0 := hy.below hb0
  clear e0 hs0
  have PY : Hid (0 < val ys) := by have := (val_bounds hy.parts.2.2.2).1; show _ < _; omega
  have LY := hide hy.parts.2.2.2
  have H0 := hide h0
  have HE := hide hod
  clear hod
  clear h0
  go_enter Try.func32, Try.ntmps32
  go_wp2_with fail
  rw [E0.out]
  refine (divmod_g _ _ _ _ _ _ _ xs ys hx0 hy0 (by omega) H0.out).mono ?_
  rintro e w1 ⟨p1, q1, r1, p2, q2, r2, rfl, G1, G2, l1, l2, hb1⟩
  have HB : Below w0.heap.size w0 w1 := hb1
  have hr2 : 0 < (r2.length : Int) := by
    have h9 : r2 ≠ [] := fun e => HE.out (by rw [← G2.val]; exact (canon_zero G2.canon).2 e)
    have h8 : r2.length ≠ 0 := fun e => h9 (List.eq_nil_of_length_eq_zero e)
    omega
  obtain ⟨xa, xb, xc, xd⟩ := (bx.below HB).facts
  go_wp2_with fail
  refine (small_any _ 1 (by omega) (by omega)).mono ?_
  rintro e w3 ⟨v3, rfl, hi3, hb3⟩
  obtain ⟨p3, q3, r3, rfl, G3, l3⟩ := got_small hi3 (by omega)
  clear hi3
  replace HB := HB.trans (hb3.mono HB.size)
  replace G1 := G1.below hb3
  replace G2 := G2.below hb3
  go_wp2_with fail
  refine (add_g _ _ _ _ _ _ _ r1 r3 G1.sl G3.sl (by omega) (by omega)).mono ?_
  rintro e w4 ⟨p4, q4, r4, rfl, G4, l4, hb4⟩
  replace HB := HB.trans (hb4.mono HB.size)
  replace G2 := G2.below hb4
  rw [G1.val, G3.val] at G4
  have hy4 := hy0.below HB
  obtain ⟨ya, yb, yc, yd⟩ := (by'.below HB).facts
  go_wp2_with fail
  refine (sub_g _ _ _ _ _ _ _ ys r2 hy4 G2.sl (by omega) (by rw [G2.val]; exact Int.le_of_lt (Int.emod_lt_of_pos _ PY.out))).mono ?_
  rintro e w5 ⟨p5, q5, r5, rfl, G5, l5, hb5⟩
  replace HB := HB.trans (hb5.mono HB.size)
  replace G4 := G4.below hb5
  rw [G2.val] at G5
  clear xa xb xc xd ya yb yc yd G1 G2 G3 hy4
  obtain ⟨xa, xb, xc, xd⟩ := (bx.below HB).facts
  obtain ⟨ya, yb, yc, yd⟩ := (by'.below HB).facts
  go_wp2_with fail
  refine (signed_g _ _ _ _ r4 _ G4 (by omega)).mono ?_
  rintro e w7 ⟨ng7, rfl, G7, hb7⟩
  replace HB := HB.trans (hb7.mono HB.size)
  have G2' := G5.below hb7
  clear xa xb xc xd ya yb yc yd
  obtain ⟨xa, xb, xc, xd⟩ := (bx.below HB).facts
  obtain ⟨ya, yb, yc, yd⟩ := (by'.below HB).facts
  go_wp2_with fail
  refine (signed_g _ _ _ _ r5 _ G2' (by omega)).mono ?_
  rintro e w8 ⟨ng8, rfl, G8, hb8⟩
  replace HB := HB.trans (hb8.mono HB.size)
  replace G7 := G7.below hb8
  clear xa xb xc xd ya yb yc yd
  have bq8 := bq.below HB
  have br8 := br.below HB
  obtain ⟨qa, qb, qc, qd⟩ := bq8.facts
  obtain ⟨ra, rb, rc, rd⟩ := br8.facts
  have VQ : Hid (sg (!ny) (val xs / val ys + 1) = sg true (val xs) / sg ny (val ys) ∧ sg false (val ys - val xs % val ys) = sg true (val xs) % sg ny (val ys)) := by have h := wdiv_odd ny PY.out HE.out; rwa [show (true != ny) = !ny by cases ny <;> rfl] at h
  have Y1 := hide ((br8.other (show w.heap.size + 1 + 1 + 1 ≠ w.heap.size + 1 + 1 by omega) (.bool ng7) (.slice p4 r4.length q4)).wh ng8 (.slice p5 r5.length q5) (bq8.wh ng7 (.slice p4 r4.length q4) G7))
  have Y2 := hide ((br8.other (show w.heap.size + 1 + 1 + 1 ≠ w.heap.size + 1 + 1 by omega) (.bool ng7) (.slice p4 r4.length q4)).wh ng8 (.slice p5 r5.length q5) (bq8.wh ng7 (.slice p4 r4.length q4) G8))
  have F := hide (box_two (nq := ng7) (vq := .slice p4 r4.length q4) (nr := ng8) (vr := .slice p5 r5.length q5) bq8 br8 (by omega))
  have Z := hide (hb0.trans (HB.mono hb0.size))
  have Z2 := hide (below_set2 (below_set2 Z.out (show w.heap.size ≤ w.heap.size + 1 + 1 by omega) (.bool ng7) (.slice p4 r4.length q4)) (show w.heap.size ≤ w.heap.size + 1 + 1 + 1 by omega) (.bool ng8) (.slice p5 r5.length q5))
  go_wp2
  refine bodyPost_ret (v := .tuple #[.agg #[.bool ng7, .slice p4 r4.length q4], .agg #[.bool ng8, .slice p5 r5.length q5], .bool true]) ?_ rfl ⟨ng7, p4, q4, r4, ng8, p5, q5, r5, rfl, by rw [← VQ.out.1]; exact Y1.out, by rw [← VQ.out.2]; exact Y2.out, by omega, by omega, Z2.out⟩
  simp [results, Try.results32, go_sem, F.out.1.facts.1, F.out.1.facts.2.1, F.out.2.facts.1, F.out.2.facts.2.1]
theorem wdivmod_g (w : World) (nx : Bool) (a1 : Option Addr) (n1 c1 : Nat) (xs : List Int) (hx : Sl w (.slice a1 n1 c1) xs) (ny : Bool) (a2 : Option Addr) (n2 c2 : Nat) (ys : List Int) (hy : Sl w (.slice a2 n2 c2) ys) (hm1 : xs.length ≤ 400000) (hm2 : ys.length ≤ 400000) (h0 : val ys ≠ 0) :
    Calls Try.prog 32 #[.agg #[.bool nx, .slice a1 n1 c1], .agg #[.bool ny, .slice a2 n2 c2]] w fun e w' => ∃ nq aq cq qs nr ar cr rs, e = .returned (.tuple #[.agg #[.bool nq, .slice aq qs.length cq], .agg #[.bool nr, .slice ar rs.length cr], .bool true]) ∧ Wh w' nq aq cq qs (sg nx (val xs) / sg ny (val ys)) ∧ Wh w' nr ar cr rs (sg nx (val xs) % sg ny (val ys)) ∧ qs.length ≤ xs.length + 4 ∧ rs.length ≤ ys.length ∧ Below w.heap.size w w' := by
  cases nx with
  | false => exact wdivmod_pos w a1 n1 c1 xs hx ny a2 n2 c2 ys hy hm1 hm2 h0
  | true =>
    by_cases he : val xs % val ys = 0
    · exact wdivmod_even w a1 n1 c1 xs hx ny a2 n2 c2 ys hy hm1 hm2 h0 he
    · exact wdivmod_odd w a1 n1 c1 xs hx ny a2 n2 c2 ys hy hm1 hm2 h0 he
end Lm
end Go.Proofs.Ytpofkigboedliaa

namespace Go.Proofs.Ytpofkigboedliaa
namespace Lm
open Go.RowKit
theorem wdec_len {ds : List Int} {x : Int} (h : IsDec ds x) {m : Nat} (hm : 1 ≤ m) (hx : x < p10 m) : ds.length ≤ m := by
  obtain ⟨h1, h2, h3⟩ := h
  rcases h3 with ⟨_, rfl⟩ | ⟨c, cs, rfl, hc⟩
  · simp; omega
  · have := dval_low h1 hc
    simp only [List.length_cons]
    apply Classical.byContradiction
    intro hn
    have := p10_mono (m := m) (n := cs.length) (by omega)
    omega
theorem minus_ahead (ds : List Int) : (⟨#[45]⟩ : ByteArray) ++ strOfNums ds = strOfNums (45 :: ds) := by
  apply ByteArray.ext
  rw [ByteArray.data_append]
  apply Array.toList_inj.1
  simp [strOfNums]
set_option maxRecDepth 20000 in
set_option maxHeartbeats 400000 in
theorem wtext_neg (w : World) (ng : Bool) (ao : Option Addr) (n cap : Nat) (zs : List Int) (h : Sl w (.slice ao n cap) zs) (hz : zs.length ≤ 1000000) (hneg : sg ng (val zs) < 0) :
    Calls Try.prog 34 #[.agg #[.bool ng, .slice ao n cap]] w fun e w' => ∃ ds, e = .returned (.string (strOfNums (45 :: ds))) ∧ IsDec ds (val zs) ∧ Below w.heap.size w w' := by
  obtain ⟨w0, e0, bx, hb0, hs0⟩ := boxed0 w ng (.slice ao n cap)
  have E0 := hide e0
  have h0 := h.below hb0
  have HN := hide hneg
  have ks := wsign_any w0 ng ao n cap zs h0 hz
  rw [Int.sign_eq_neg_one_of_neg hneg] at ks
  have KS := hide ks
  clear e0 hs0 ks hneg
  go_enter Try.func34, Try.ntmps34
  go_wp2_with fail
  rw [E0.out]
  refine (KS.out).mono ?_
  rintro e w1 ⟨rfl, hb1⟩
  obtain ⟨xa, xb, xc, xd⟩ := (bx.below hb1).facts
  have h1 := h0.below hb1
  go_wp2_with fail
  refine (text_any _ _ _ _ zs h1 hz).mono ?_
  rintro e w2 ⟨ds, rfl, hd, hb2⟩
  have Z := hide (hb0.trans ((hb1.trans (hb2.mono hb1.size)).mono hb0.size))
  have HD := hide hd
  have hcs : ¬ 9223372036854775807 < 1 + (strOfNums ds).size := by
    have h8 := (val_bounds h.parts.2.2.2).2
    have h7 := pw_le_p10 zs.length
    have h6 := p10_mono (m := 10 * zs.length) (n := 10 * zs.length + 1) (by omega)
    have h9 := wdec_len hd (m := 10 * zs.length + 1) (by omega) (by omega)
    rw [strOfNums_size]
    omega
  have MA := hide (minus_ahead ds)
  clear hd
  go_wp2
  refine bodyPost_ret (v := .string (strOfNums (45 :: ds))) ?_ rfl ⟨ds, rfl, HD.out, Z.out⟩
  simp [results, Try.results34, go_sem, MA.out]
end Lm
end Go.Proofs.Ytpofkigboedliaa

namespace Go.Proofs.Ytpofkigboedliaa
namespace Lm
open Go.RowKit
theorem divmod_z (w : World) (nx : Bool) (a1 : Option Addr) (n1 c1 : Nat) (xs : List Int) (x : Int) (hx : Ag w nx a1 n1 c1 xs x) (ny : Bool) (a2 : Option Addr) (n2 c2 : Nat) (ys : List Int) (y : Int) (hy : Ag w ny a2 n2 c2 ys y) (hm1 : xs.length ≤ 400000) (hm2 : ys.length ≤ 400000) (h0 : y ≠ 0) :
    Calls Try.prog 32 #[.agg #[.bool nx, .slice a1 n1 c1], .agg #[.bool ny, .slice a2 n2 c2]] w fun e w' => ∃ nq aq cq qs nr ar cr rs, e = .returned (.tuple #[.agg #[.bool nq, .slice aq qs.length cq], .agg #[.bool nr, .slice ar rs.length cr], .bool true]) ∧ Wh w' nq aq cq qs (x / y) ∧ Wh w' nr ar cr rs (x % y) ∧ qs.length ≤ xs.length + 4 ∧ rs.length ≤ ys.length ∧ Below w.heap.size w w' := by
  have h := wdivmod_g w nx a1 n1 c1 xs hx.sl ny a2 n2 c2 ys hy.sl hm1 hm2 (fun e => h0 (by rw [← hy.worth, e]; cases ny <;> simp [sg]))
  rw [hx.worth, hy.worth] at h
  exact h
theorem dec12 : IsDec [49, 50] 12 := by
  refine ⟨?_, by decide, .inr ⟨49, _, rfl, by decide⟩⟩
  intro c hc
  simp at hc
  omega
theorem text12 (w : World) (ng : Bool) (ao : Option Addr) (cap : Nat) (rs : List Int) (h : Wh w ng ao cap rs (-12)) (hl : rs.length ≤ 2) :
    Calls Try.prog 34 #[.agg #[.bool ng, .slice ao rs.length cap]] w fun e w' => e = .returned (.string ⟨#[45, 49, 50]⟩) ∧ Below w.heap.size w w' := by
  refine (wtext_neg w ng ao _ cap rs h.sl (by omega) (by rw [h.worth]; decide)).mono ?_
  rintro e w' ⟨ds, rfl, hd, hb⟩
  have e2 := isDec_one hd (show IsDec [49, 50] (val rs) by rw [h.1.val]; exact dec12)
  subst e2
  exact ⟨rfl, hb⟩
set_option maxRecDepth 20000 in
set_option maxHeartbeats 1000000 in
theorem wawake_any (w : World) : Calls Try.prog 5 #[] w fun e w' => e = .returned (.bool true) ∧ Below w.heap.size w w' := by
  have HB := Below.refl w.heap.size w
  go_enter Try.func5, Try.ntmps5
  go_wp2_with fail
  refine (lsmall_g _ (-7) (by omega) (by omega)).mono ?_
  rintro e w1 ⟨s1, p1, q1, r1, rfl, G1, l1, hb1⟩
  replace HB := HB.trans (hb1.mono HB.size)
  go_wp2_with fail
  refine (lsmall_g _ 2 (by omega) (by omega)).mono ?_
  rintro e w2 ⟨s2, p2, q2, r2, rfl, G2, l2, hb2⟩
  replace HB := HB.trans (hb2.mono HB.size)
  replace G1 := G1.below hb2
  go_wp2_with fail
  refine (divmod_z _ _ _ _ _ _ _ G1.ag _ _ _ _ _ _ G2.ag (by omega) (by omega) (by decide)).mono ?_
  rintro e w3 ⟨s3, p3, q3, r3, s4, p4, q4, r4, rfl, G3, G4, l3, l4, hb3⟩
  replace HB := HB.trans (hb3.mono HB.size)
  rw [show (-7 : Int) / 2 = -4 by decide] at G3
  rw [show (-7 : Int) % 2 = 1 by decide] at G4
  obtain ⟨w4, e4, bq, br, hb4, hs4⟩ := boxed2 w3 s3 (.slice p3 r3.length q3) s4 (.slice p4 r4.length q4)
  have E4 := hide e4
  replace HB := HB.trans (hb4.mono HB.size)
  replace G3 := G3.below hb4
  replace G4 := G4.below hb4
  clear e4 hs4 hb1 hb2 hb3 G1 G2
  go_wp2
  rw [E4.out]
  clear E4
  obtain ⟨bq1, bq2, bq3, bq4⟩ := bq.facts
  obtain ⟨br1, br2, br3, br4⟩ := br.facts
  go_region_held3 (fun w' => w'.cell? ⟨w3.heap.size, 0, none⟩ = some (.bool s3) ∧ w'.cell? ⟨w3.heap.size, 1, none⟩ = some (.slice p3 r3.length q3) ∧ w'.cell? ⟨w3.heap.size + 1, 0, none⟩ = some (.bool s4) ∧ w'.cell? ⟨w3.heap.size + 1, 1, none⟩ = some (.slice p4 r4.length q4)) (go_keep) (first
    | (go_at_call 34; have _hq := hb9'; refine (text12 _ _ _ _ _ (G9.below (by repeat (first | exact Below.refl _ _ | refine Below.drew ?_))) (by omega)).mono ?_; rintro e w10 ⟨rfl, hb10⟩; have hb10' : Below w9.heap.size w9 w10 := (show Below w9.heap.size w9 _ by repeat (first | exact Below.refl _ _ | refine Below.drew ?_)).trans hb10; have HB := HB.trans (hb10'.mono HB.size); replace bq := bq.below hb10'; clear bq1 bq2 bq3 bq4; obtain ⟨bq1, bq2, bq3, bq4⟩ := bq.facts; replace br := br.below hb10'; clear br1 br2 br3 br4; obtain ⟨br1, br2, br3, br4⟩ := br.facts)
    | (go_at_call 33; have _hq := hb8'; refine (lsmall_g _ (-12) (by omega) (by omega)).mono ?_; rintro e w9 ⟨s9, p9, q9, r9, rfl, G9, l9, hb9⟩; have hb9' : Below w8.heap.size w8 w9 := (show Below w8.heap.size w8 _ by repeat (first | exact Below.refl _ _ | refine Below.drew ?_)).trans hb9; have HB := HB.trans (hb9'.mono HB.size); replace bq := bq.below hb9'; clear bq1 bq2 bq3 bq4; obtain ⟨bq1, bq2, bq3, bq4⟩ := bq.facts; replace br := br.below hb9'; clear br1 br2 br3 br4; obtain ⟨br1, br2, br3, br4⟩ := br.facts)
    | (go_at_call 9; have _hq := hb7'; refine (same_z _ _ _ _ _ _ _ _ _ _ _ (G4.below (by repeat (first | exact Below.refl _ _ | refine Below.drew ?_))) (G7.below (by repeat (first | exact Below.refl _ _ | refine Below.drew ?_))) true (by decide)).mono ?_; rintro e w8 ⟨rfl, hb8⟩; have hb8' : Below w7.heap.size w7 w8 := (show Below w7.heap.size w7 _ by repeat (first | exact Below.refl _ _ | refine Below.drew ?_)).trans hb8; have HB := HB.trans (hb8'.mono HB.size); replace bq := bq.below hb8'; clear bq1 bq2 bq3 bq4; obtain ⟨bq1, bq2, bq3, bq4⟩ := bq.facts; replace br := br.below hb8'; clear br1 br2 br3 br4; obtain ⟨br1, br2, br3, br4⟩ := br.facts)
    | (go_at_call 33; have _hq := hb6'; refine (lsmall_g _ 1 (by omega) (by omega)).mono ?_; rintro e w7 ⟨s7, p7, q7, r7, rfl, G7, l7, hb7⟩; have hb7' : Below w6.heap.size w6 w7 := (show Below w6.heap.size w6 _ by repeat (first | exact Below.refl _ _ | refine Below.drew ?_)).trans hb7; have HB := HB.trans (hb7'.mono HB.size); replace G4 := G4.below hb7'; replace bq := bq.below hb7'; clear bq1 bq2 bq3 bq4; obtain ⟨bq1, bq2, bq3, bq4⟩ := bq.facts; replace br := br.below hb7'; clear br1 br2 br3 br4; obtain ⟨br1, br2, br3, br4⟩ := br.facts)
    | (go_at_call 9; have _hq := hb5'; refine (same_z _ _ _ _ _ _ _ _ _ _ _ (G3.below (by repeat (first | exact Below.refl _ _ | refine Below.drew ?_))) (G5.below (by repeat (first | exact Below.refl _ _ | refine Below.drew ?_))) true (by decide)).mono ?_; rintro e w6 ⟨rfl, hb6⟩; have hb6' : Below w5.heap.size w5 w6 := (show Below w5.heap.size w5 _ by repeat (first | exact Below.refl _ _ | refine Below.drew ?_)).trans hb6; have HB := HB.trans (hb6'.mono HB.size); replace G4 := G4.below hb6'; replace bq := bq.below hb6'; clear bq1 bq2 bq3 bq4; obtain ⟨bq1, bq2, bq3, bq4⟩ := bq.facts; replace br := br.below hb6'; clear br1 br2 br3 br4; obtain ⟨br1, br2, br3, br4⟩ := br.facts)
    | (go_at_call 33; refine (lsmall_g _ (-4) (by omega) (by omega)).mono ?_; rintro e w5 ⟨s5, p5, q5, r5, rfl, G5, l5, hb5⟩; have hb5' : Below w4.heap.size w4 w5 := (show Below w4.heap.size w4 _ by repeat (first | exact Below.refl _ _ | refine Below.drew ?_)).trans hb5; have HB := HB.trans (hb5'.mono HB.size); replace G3 := G3.below hb5'; replace G4 := G4.below hb5'; replace bq := bq.below hb5'; clear bq1 bq2 bq3 bq4; obtain ⟨bq1, bq2, bq3, bq4⟩ := bq.facts; replace br := br.below hb5'; clear br1 br2 br3 br4; obtain ⟨br1, br2, br3, br4⟩ := br.facts))
  all_goals
    clear bq1 bq2 bq3 bq4 br1 br2 br3 br4
    go_wp2
    go_ret
    exact ⟨rfl, HB⟩
end Lm
end Go.Proofs.Ytpofkigboedliaa

namespace Go.Proofs.Ytpofkigboedliaa
namespace Lm
open Go.RowKit
def Fac (w : World) (g : Nat) (a b c d : Int) : Prop := w.heap[g]? = some (.cells #[.int .i64 a, .int .i64 b, .int .i64 c, .int .i64 d] 127 (0, 0))
theorem Fac.other {w : World} {g k : Nat} {a b c d : Int} (H : Fac w g a b c d) (hn : g ≠ k) (a' b' c' d' : Value) : Fac ((((w.setCell ⟨k, 0, none⟩ a').setCell ⟨k, 1, none⟩ b').setCell ⟨k, 2, none⟩ c').setCell ⟨k, 3, none⟩ d') g a b c d :=
  (heap_setCell_other _ ⟨k, 3, none⟩ g d' hn).trans ((heap_setCell_other _ ⟨k, 2, none⟩ g c' hn).trans ((heap_setCell_other _ ⟨k, 1, none⟩ g b' hn).trans ((heap_setCell_other w ⟨k, 0, none⟩ g a' hn).trans H)))
end Lm
end Go.Proofs.Ytpofkigboedliaa

namespace Go.Proofs.Ytpofkigboedliaa
namespace Lm
open Go.RowKit
theorem Fac.below {w w' : World} {g : Nat} {a b c d : Int} (h : Fac w g a b c d) (hb : Below w.heap.size w w') : Fac w' g a b c d := (hb.block g (lt_of_heap h)).trans h
end Lm
end Go.Proofs.Ytpofkigboedliaa

namespace Go.Proofs.Ytpofkigboedliaa
namespace Lm
open Go.RowKit
open Classical in
noncomputable def worth (w : World) (v : Value) : Nat := if h : ∃ r, Sl w v r then (val (Classical.choose h)).toNat else 0
end Lm
end Go.Proofs.Ytpofkigboedliaa

namespace Go.Proofs.Ytpofkigboedliaa
namespace Lm
open Go.RowKit
def bmk (i : Nat) : Value := .int .u32 (1358954496 + (i : Int))
def bmks (n : Nat) : List Value := (List.range n).map bmk
theorem bmks_succ (n : Nat) : bmks (n + 1) = bmks n ++ [bmk n] := by simp [bmks, List.range_succ]
theorem bmks_get {n i : Nat} (h : i < n) : (bmks n)[i]? = some (bmk i) := by simp [bmks, h]
def RoomOk (w : World) (bs : List Nat) (lv mv : Value) (i : Nat) (u : Value) : Prop :=
  ∃ ao n cap, u = .slice ao n cap ∧ n ≤ cap ∧ n ≤ 4096 ∧ cap ≤ 9223372036854775807 ∧ (n = 0 ∨ ∃ g off, ao = some ⟨g, off, none⟩ ∧ g ∈ bs ∧ lv.ownBlock ≠ some g ∧ mv.ownBlock ≠ some g ∧ ∀ k, k < n → w.cell? ⟨g, off + k, none⟩ = some (bmk i))
structure Bk (w : World) (p Q : Nat) (bs : List Nat) (rv : List Value) (m : Nat) (lv mv : Value) : Prop where
  here : w.heap[p]? = some (.cells #[lv, mv] 33 (0, 0))
  lists : w.ownsRow Q 26 1 lv rv.length rv
  marks : w.ownsRow Q 67 1 mv m (bmks m)
  lvb : ∀ j, lv.ownBlock = some j → j ∈ bs
  mvb : ∀ j, mv.ownBlock = some j → j ∈ bs
  two : ∀ j, lv.ownBlock = some j → mv.ownBlock ≠ some j
  rooms : ∀ i u, rv[i]? = some u → RoomOk w bs lv mv i u
  low : ∀ j, j ∈ bs → Q ≤ j ∧ j < w.heap.size
  pQ : p ∉ bs
theorem owns_kept {Q e n : Nat} {w w' : World} {v : Value} {xs : List Value} (h : w.ownsRow Q e 1 v n xs) (hb : ∀ j, v.ownBlock = some j → w'.heap[j]? = w.heap[j]?) : w'.ownsRow Q e 1 v n xs := by
  obtain ⟨h1, h2⟩ := h
  refine ⟨h1, ?_⟩
  rcases h2 with h2 | ⟨g, cap, cur, rfl, hg, hh, r⟩
  · exact .inl h2
  · exact .inr ⟨g, cap, cur, rfl, hg, by rw [hb g rfl]; exact hh, r⟩
theorem RoomOk.kept {w w' : World} {bs bs' : List Nat} {lv mv lv' mv' : Value} {i : Nat} {u : Value} (h : RoomOk w bs lv mv i u)
    (hb : ∀ j, j ∈ bs → j ∈ bs') (hl : ∀ j, j ∈ bs → lv.ownBlock ≠ some j → mv.ownBlock ≠ some j → lv'.ownBlock ≠ some j ∧ mv'.ownBlock ≠ some j ∧ w'.heap[j]? = w.heap[j]?) : RoomOk w' bs' lv' mv' i u := by
  obtain ⟨ao, n, cap, rfl, h1, h2, h3, h4⟩ := h
  refine ⟨ao, n, cap, rfl, h1, h2, h3, ?_⟩
  rcases h4 with h4 | ⟨g, off, rfl, hg, e1, e2, hc⟩
  · exact .inl h4
  · obtain ⟨f1, f2, f3⟩ := hl g hg e1 e2
    exact .inr ⟨g, off, rfl, hb g hg, f1, f2, fun k hk => by rw [World.cell?_of_block (w := w) f3]; exact hc k hk⟩
theorem Bk.kept {w w' : World} {p Q m : Nat} {bs : List Nat} {rv : List Value} {lv mv : Value} (h : Bk w p Q bs rv m lv mv) (hp : w'.heap[p]? = w.heap[p]?) (hb : ∀ j, j ∈ bs → w'.heap[j]? = w.heap[j]?) (hs : w.heap.size ≤ w'.heap.size) : Bk w' p Q bs rv m lv mv :=
  ⟨hp.trans h.here, owns_kept h.lists fun j hj => hb j (h.lvb j hj), owns_kept h.marks fun j hj => hb j (h.mvb j hj), h.lvb, h.mvb, h.two,
   fun i u hu => (h.rooms i u hu).kept (fun _ hj => hj) fun j hj e1 e2 => ⟨e1, e2, hb j hj⟩, fun j hj => ⟨(h.low j hj).1, Nat.lt_of_lt_of_le (h.low j hj).2 hs⟩, h.pQ⟩
theorem Bk.lt {w : World} {p Q m : Nat} {bs : List Nat} {rv : List Value} {lv mv : Value} (h : Bk w p Q bs rv m lv mv) : p < w.heap.size := lt_of_heap h.here
theorem Bk.below {w w' : World} {p Q m : Nat} {bs : List Nat} {rv : List Value} {lv mv : Value} (h : Bk w p Q bs rv m lv mv) (hb : Below w.heap.size w w') : Bk w' p Q bs rv m lv mv :=
  h.kept (hb.block p h.lt) (fun j hj => hb.block j (h.low j hj).2) hb.size
theorem Bk.more {w : World} {p Q m : Nat} {bs gs : List Nat} {rv : List Value} {lv mv : Value} (h : Bk w p Q bs rv m lv mv) (hg : ∀ j, j ∈ gs → Q ≤ j ∧ j < w.heap.size) (hp : p ∉ gs) : Bk w p Q (gs ++ bs) rv m lv mv :=
  ⟨h.here, h.lists, h.marks, fun j hj => List.mem_append_right _ (h.lvb j hj), fun j hj => List.mem_append_right _ (h.mvb j hj), h.two,
   fun i u hu => (h.rooms i u hu).kept (fun _ hj => List.mem_append_right _ hj) fun _ _ e1 e2 => ⟨e1, e2, rfl⟩,
   fun j hj => (List.mem_append.1 hj).elim (hg j) (h.low j), fun hj => (List.mem_append.1 hj).elim hp h.pQ⟩
theorem setCell_block {w : World} {p i k : Nat} {u : Value} (h : k ≠ p) : (w.setCell ⟨p, i, none⟩ u).heap[k]? = w.heap[k]? := heap_setCell_other w ⟨p, i, none⟩ k u h
theorem own_of {a : Addr} {n c j : Nat} (h : (Value.slice (some a) n c).ownBlock = some j) : a.block = j := by simpa [Value.ownBlock] using h
theorem Bk.list_step {w w1 : World} {p Q m : Nat} {bs : List Nat} {rv : List Value} {lv mv u : Value} {o : Obj} {g1 c1 : Nat} (h : Bk w p Q bs rv m lv mv) (hg : (w.alloc o).grownBy w1 lv.ownBlock)
    (hown : w1.ownsRow Q 26 1 (.slice (some ⟨g1, 0, none⟩) (rv.length + 1) c1) (rv.length + 1) (rv ++ [u])) (hat : lv.ownBlock = some g1 ∨ g1 = w.heap.size + 1) (hlt : g1 < w1.heap.size) (hQ : Q ≤ w.heap.size)
    (hu : RoomOk w bs lv mv rv.length u) : Bk (w1.setCell ⟨p, 0, none⟩ (.slice (some ⟨g1, 0, none⟩) (rv.length + 1) c1)) p Q (g1 :: bs) (rv ++ [u]) m (.slice (some ⟨g1, 0, none⟩) (rv.length + 1) c1) mv := by
  have hp := h.lt
  have al : ∀ j, j < w.heap.size → (w.alloc o).heap[j]? = w.heap[j]? := fun j hj => Below.heap_alloc _ _ _ hj
  have hsz : w.heap.size + 1 ≤ w1.heap.size := by have := hg.size; simpa using this
  have pl : lv.ownBlock ≠ some p := fun e => h.pQ (h.lvb p e)
  have gp : g1 ≠ p := by
    rcases hat with e | e
    · intro e'; rw [e'] at e; exact pl e
    · omega
  have keep : ∀ j, j < w.heap.size → lv.ownBlock ≠ some j → w1.heap[j]? = w.heap[j]? := fun j hj hn => (hg.block j (by simp; omega) (fun e => hn e.symm)).trans (al j hj)
  have here1 : w1.heap[p]? = some (.cells #[lv, mv] 33 (0, 0)) := (keep p hp pl).trans h.here
  have nogo : ∀ j, j < w.heap.size → lv.ownBlock ≠ some j → g1 ≠ j := by
    intro j hj hn e
    rcases hat with e' | e'
    · rw [e] at e'; exact hn e'
    · omega
  have keep2 : ∀ j, j < w.heap.size → lv.ownBlock ≠ some j → j ≠ p → (w1.setCell ⟨p, 0, none⟩ (.slice (some ⟨g1, 0, none⟩) (rv.length + 1) c1)).heap[j]? = w.heap[j]? := fun j hj hn hne => (setCell_block hne).trans (keep j hj hn)
  refine ⟨?_, ?_, ?_, ?_, ?_, ?_, ?_, ?_, fun hj => (List.mem_cons.1 hj).elim (fun e => gp e.symm) h.pQ⟩
  · exact heap_setCell_same w1 p 0 _ _ _ here1
  · have e : (rv ++ [u]).length = rv.length + 1 := by simp
    rw [e]
    exact owns_kept hown fun j hj => setCell_block (by have := own_of hj; simp at this; omega)
  · exact owns_kept h.marks fun j hj => by
      have hjb := h.low j (h.mvb j hj)
      exact keep2 j hjb.2 (fun e => h.two j e hj) (fun e => h.pQ (e ▸ h.mvb j hj))
  · intro j hj
    have := own_of hj
    simp at this
    simp [this]
  · exact fun j hj => List.mem_cons_of_mem _ (h.mvb j hj)
  · intro j hj e
    have e1 := own_of hj
    simp at e1
    subst e1
    have hjb := h.low _ (h.mvb _ e)
    rcases hat with e' | e'
    · exact h.two _ e' e
    · omega
  · intro i v hv
    have step : ∀ {i v}, RoomOk w bs lv mv i v → RoomOk (w1.setCell ⟨p, 0, none⟩ (.slice (some ⟨g1, 0, none⟩) (rv.length + 1) c1)) (g1 :: bs) (.slice (some ⟨g1, 0, none⟩) (rv.length + 1) c1) mv i v := fun hr =>
      hr.kept (fun _ hj => List.mem_cons_of_mem _ hj) fun j hj e1 e2 => by
        have hjb := h.low j hj
        have hpq := h.pQ
        refine ⟨?_, e2, keep2 j hjb.2 e1 (fun e => hpq (e ▸ hj))⟩
        intro e
        have := own_of e
        exact nogo j hjb.2 e1 (by simpa using this)
    by_cases hi : i < rv.length
    · rw [List.getElem?_append_left hi] at hv
      exact step (h.rooms i v hv)
    · have hi2 : i = rv.length := by
        apply Classical.byContradiction
        intro hn
        rw [List.getElem?_eq_none (by simp; omega)] at hv
        cases hv
      subst hi2
      rw [List.getElem?_append_right (Nat.le_refl _)] at hv
      simp at hv
      subst hv
      exact step hu
  · intro j hj
    have hss : (w1.setCell ⟨p, 0, none⟩ (.slice (some ⟨g1, 0, none⟩) (rv.length + 1) c1)).heap.size = w1.heap.size := by simp [World.setCell]
    rw [hss]
    rcases List.mem_cons.1 hj with e | e
    · subst e
      refine ⟨?_, hlt⟩
      rcases hat with e' | e'
      · exact (h.low _ (h.lvb _ e')).1
      · omega
    · have := h.low j e
      omega
theorem Bk.mark_step {w w1 : World} {p Q m : Nat} {bs : List Nat} {rv : List Value} {lv mv : Value} {o : Obj} {g1 c1 : Nat} (h : Bk w p Q bs rv m lv mv) (hg : (w.alloc o).grownBy w1 mv.ownBlock)
    (hown : w1.ownsRow Q 67 1 (.slice (some ⟨g1, 0, none⟩) (m + 1) c1) (m + 1) (bmks m ++ [bmk m])) (hat : mv.ownBlock = some g1 ∨ g1 = w.heap.size + 1) (hlt : g1 < w1.heap.size) (hQ : Q ≤ w.heap.size) :
    Bk (w1.setCell ⟨p, 1, none⟩ (.slice (some ⟨g1, 0, none⟩) (m + 1) c1)) p Q (g1 :: bs) rv (m + 1) lv (.slice (some ⟨g1, 0, none⟩) (m + 1) c1) := by
  have hp := h.lt
  have al : ∀ j, j < w.heap.size → (w.alloc o).heap[j]? = w.heap[j]? := fun j hj => Below.heap_alloc _ _ _ hj
  have hsz : w.heap.size + 1 ≤ w1.heap.size := by have := hg.size; simpa using this
  have pl : mv.ownBlock ≠ some p := fun e => h.pQ (h.mvb p e)
  have gp : g1 ≠ p := by
    rcases hat with e | e
    · intro e'; rw [e'] at e; exact pl e
    · omega
  have keep : ∀ j, j < w.heap.size → mv.ownBlock ≠ some j → w1.heap[j]? = w.heap[j]? := fun j hj hn => (hg.block j (by simp; omega) (fun e => hn e.symm)).trans (al j hj)
  have here1 : w1.heap[p]? = some (.cells #[lv, mv] 33 (0, 0)) := (keep p hp pl).trans h.here
  have nogo : ∀ j, j < w.heap.size → mv.ownBlock ≠ some j → g1 ≠ j := by
    intro j hj hn e
    rcases hat with e' | e'
    · rw [e] at e'; exact hn e'
    · omega
  have keep2 : ∀ j, j < w.heap.size → mv.ownBlock ≠ some j → j ≠ p → (w1.setCell ⟨p, 1, none⟩ (.slice (some ⟨g1, 0, none⟩) (m + 1) c1)).heap[j]? = w.heap[j]? := fun j hj hn hne => (setCell_block hne).trans (keep j hj hn)
  refine ⟨?_, ?_, ?_, ?_, ?_, ?_, ?_, ?_, fun hj => (List.mem_cons.1 hj).elim (fun e => gp e.symm) h.pQ⟩
  · exact heap_setCell_same w1 p 1 _ _ _ here1
  · exact owns_kept h.lists fun j hj => by
      have hjb := h.low j (h.lvb j hj)
      exact keep2 j hjb.2 (h.two j hj) (fun e => h.pQ (e ▸ h.lvb j hj))
  · rw [bmks_succ]
    exact owns_kept hown fun j hj => setCell_block (by have := own_of hj; simp at this; omega)
  · exact fun j hj => List.mem_cons_of_mem _ (h.lvb j hj)
  · intro j hj
    have := own_of hj
    simp at this
    simp [this]
  · intro j hj e
    have e1 := own_of e
    simp at e1
    subst e1
    have hjb := h.low _ (h.lvb _ hj)
    rcases hat with e' | e'
    · exact h.two _ hj e'
    · omega
  · intro i v hv
    refine (h.rooms i v hv).kept (fun _ hj => List.mem_cons_of_mem _ hj) fun j hj e1 e2 => ?_
    have hjb := h.low j hj
    have hpq := h.pQ
    refine ⟨e1, ?_, keep2 j hjb.2 e2 (fun e => hpq (e ▸ hj))⟩
    intro e
    have := own_of e
    exact nogo j hjb.2 e2 (by simpa using this)
  · intro j hj
    have hss : (w1.setCell ⟨p, 1, none⟩ (.slice (some ⟨g1, 0, none⟩) (m + 1) c1)).heap.size = w1.heap.size := by simp [World.setCell]
    rw [hss]
    rcases List.mem_cons.1 hj with e | e
    · subst e
      refine ⟨?_, hlt⟩
      rcases hat with e' | e'
      · exact (h.low _ (h.mvb _ e')).1
      · omega
    · have := h.low j e
      omega
structure Kp (w w' : World) (p : Nat) (bs : List Nat) : Prop where
  os : w'.os = w.os
  tape : w'.tape = w.tape
  output : w'.output = w.output
  size : w.heap.size ≤ w'.heap.size
  other : ∀ k, k < w.heap.size → k ≠ p → k ∉ bs → w'.heap[k]? = w.heap[k]?
theorem Kp.trans {w w' w'' : World} {p : Nat} {bs bs' : List Nat} (h : Kp w w' p bs) (h' : Kp w' w'' p bs') (hb : ∀ j, j ∈ bs → j ∈ bs') : Kp w w'' p bs' :=
  ⟨h'.os.trans h.os, h'.tape.trans h.tape, h'.output.trans h.output, Nat.le_trans h.size h'.size, fun k hk hp hn => (h'.other k (Nat.lt_of_lt_of_le hk h.size) hp hn).trans (h.other k hk hp (fun hj => hn (hb k hj)))⟩
theorem Kp.of_wr {w w' : World} {p g : Nat} {bs : List Nat} {cur : Array Value} {e : TypeId} (h : Wr w w' g cur e) (hg : g ∈ bs) : Kp w w' p bs :=
  ⟨h.os, h.tape, h.output, by rw [h.size]; exact Nat.le_refl _, fun k _ _ hn => h.other k (fun e => hn (e ▸ hg))⟩
theorem Kp.refl (w : World) (p : Nat) (bs : List Nat) : Kp w w p bs := ⟨rfl, rfl, rfl, Nat.le_refl _, fun _ _ _ _ => rfl⟩
theorem Kp.step {w w1 : World} {p i : Nat} {bs : List Nat} {v u : Value} {o : Obj} (hg : (w.alloc o).grownBy w1 v.ownBlock) (hv : ∀ j, v.ownBlock = some j → j ∈ bs) : Kp w (w1.setCell ⟨p, i, none⟩ u) p bs :=
  ⟨hg.os, hg.tape, hg.output, by have := hg.size; simp [World.setCell] at this ⊢; omega, fun k hk hp hn => (setCell_block hp).trans ((hg.block k (by simp; omega) (fun e => hn (hv k e.symm))).trans (Below.heap_alloc _ _ _ hk))⟩
theorem Kp.below {w w' : World} {p B : Nat} {bs : List Nat} (h : Kp w w' p bs) (hp : B ≤ p) (hb : ∀ j, j ∈ bs → B ≤ j) (hs : B ≤ w.heap.size) : Below B w w' :=
  ⟨h.os, h.tape, h.output, h.size, fun k hk => h.other k (by omega) (by omega) (fun hj => by have := hb k hj; omega)⟩
end Lm
end Go.Proofs.Ytpofkigboedliaa

namespace Go.Proofs.Ytpofkigboedliaa
namespace Lm
open Go.RowKit
theorem infoL : (Try.prog.info? 26).map (fun i => (i.zero, i.size, i.bytes)) = some (some (.slice none 0 0), 1, 24) := by kernel_rfl
theorem owns_shape {w : World} {B e n : Nat} {v : Value} {xs : List Value} (h : w.ownsRow B e 1 v n xs) : ∃ a c, v = .slice a n c ∧ n ≤ c ∧ c ≤ 9223372036854775807 := by
  rcases h.2 with ⟨rfl, rfl⟩ | ⟨g, cap, cur, rfl, _, _, h1, h2, _⟩
  · exact ⟨none, 0, rfl, Nat.le_refl _, by omega⟩
  · exact ⟨_, cap, rfl, h1, h2⟩
theorem Bk.grown {w w1 : World} {p Q m : Nat} {bs : List Nat} {rv : List Value} {lv mv v : Value} {o : Obj} (h : Bk w p Q bs rv m lv mv) (hg : (w.alloc o).grownBy w1 v.ownBlock) (hv : ∀ j, v.ownBlock = some j → j ∈ bs) :
    w1.cell? ⟨p, 0, none⟩ = some lv ∧ w1.cell? ⟨p, 1, none⟩ = some mv ∧ w1.frozen? ⟨p, 0, none⟩ = false ∧ w1.frozen? ⟨p, 1, none⟩ = false := by
  have hp := h.lt
  have pl : v.ownBlock ≠ some p := fun e => h.pQ (hv p e)
  have e : w1.heap[p]? = some (.cells #[lv, mv] 33 (0, 0)) := ((hg.block p (by simp; omega) (fun e => pl e.symm)).trans (Below.heap_alloc _ _ _ hp)).trans h.here
  exact ⟨by rw [cell_of_row _ _ _ _ _ (0, 0) e]; rfl, by rw [cell_of_row _ _ _ _ _ (0, 0) e]; rfl, frozen_of_row _ _ _ _ _ e, frozen_of_row _ _ _ _ _ e⟩
theorem Bk.facts {w : World} {p Q m : Nat} {bs : List Nat} {rv : List Value} {lv mv : Value} (h : Bk w p Q bs rv m lv mv) :
    w.cell? ⟨p, 0, none⟩ = some lv ∧ w.cell? ⟨p, 1, none⟩ = some mv ∧ w.frozen? ⟨p, 0, none⟩ = false ∧ w.frozen? ⟨p, 1, none⟩ = false :=
  ⟨by rw [cell_of_row _ _ _ _ _ (0, 0) h.here]; rfl, by rw [cell_of_row _ _ _ _ _ (0, 0) h.here]; rfl, frozen_of_row _ _ _ _ _ h.here, frozen_of_row _ _ _ _ _ h.here⟩
theorem cell_new_at {W : World} {H : Nat} (hH : W.heap.size = H) (x : Value) (t : TypeId) : ∀ j u, [x][j]? = some u → (W.alloc (.cells #[x] t)).cell? ((⟨H, 0, none⟩ : Addr).add j) = some u := by
  subst hH
  exact cell_one_new _ _ _
def OwnS (w w' : World) (p Q : Nat) (bs : List Nat) (len : Nat) (ao : Option Addr) : Prop :=
  ∃ bs' rv' lv' mv', rv'.length = len + 1 ∧ Bk w' p Q bs' rv' rv'.length lv' mv' ∧ Kp w w' p bs' ∧ (∀ j, j ∈ bs' → j ∈ bs ∨ w.heap.size ≤ j ∨ ∃ off, ao = some ⟨j, off, none⟩)
set_option maxRecDepth 20000 in
set_option maxHeartbeats 1000000 in
theorem own_zero_a (w : World) (p Q : Nat) (bs : List Nat) (rv : List Value) (lv mv : Value) (hk : Bk w p Q bs rv rv.length lv mv) (hr : rv.length ≤ 1000) (hQ : Q ≤ w.heap.size)  :
    Calls Try.prog 42 #[.pointer (some ⟨p, 0, none⟩), .slice none 0 0] w fun e w' => e = .returned (.bool true) ∧ OwnS w w' p Q bs rv.length none := by
  obtain ⟨i1, hi1, iz0, iz1, iz2⟩ := info_parts infoL
  obtain ⟨j1, hj1, jz0, jz1, jz2⟩ := info_parts info32
  obtain ⟨al, cl, rfl, al1, al2⟩ := owns_shape hk.lists
  obtain ⟨am, cm, rfl, am1, am2⟩ := owns_shape hk.marks
  obtain ⟨k0, k1, k2, k3⟩ := hk.facts
  have kp0 := hide (Kp.refl w p bs)
  have szr : w.heap.size ≤ w.heap.size := Nat.le_refl _
  have hQr : Q ≤ w.heap.size := hQ
  have hbs : ∀ j, j ∈ bs → j ∈ bs ∨ w.heap.size ≤ j ∨ ∃ off', none = some (⟨j, off', none⟩ : Addr) := fun j hj => .inl hj
  go_enter Try.func42, Try.ntmps42
  go_wp2
  refine wp_loop_rounds 1 ?_
  rw [rounds_succ]
  go_wp2_with (at_builtin; refine wpList_append_lies _ rfl (.tmp 38) (.tmp 40) 31 rfl Q 26 i1 (.slice none 0 0) 1 24 Try.underlying31 hi1 iz0 iz1 iz2 rfl (by decide) (.slice al rv.length cl) rv.length rv rfl ((hk).lists.alloc _) ⟨w.heap.size, 0, none⟩ 1 1 [.slice none 0 0] rfl rfl (cell_one_new _ _ _) (by intro u hu; simp at hu; subst hu; rfl) (by omega) (by unfold maxLen; omega) (by omega) (by have := (hk).lt; simp; omega) (w.heap.size + 1) (by simp) ?_)
  intro g1 q1 w1 hown1 hgrow1 hat1 hlt1
  have bk2 := (hk).list_step hgrow1 hown1 hat1 hlt1 hQr (⟨none, 0, 0, rfl, Nat.le_refl _, by omega, by omega, .inl rfl⟩)
  obtain ⟨x0, x1, x2, x3⟩ := (hk).grown hgrow1 (hk).lvb
  have kp1 := hide (Kp.step (p := p) (i := 0) (u := .slice (some ⟨g1, 0, none⟩) (rv.length + 1) q1) hgrow1 (hk).lvb)
  have sz1 := hide (show w.heap.size + 1 ≤ w1.heap.size by have := hgrow1.size; simpa using this)
  have A1 := hide hat1
  have BK2 := hide bk2
  obtain ⟨y0, y1, y2, y3⟩ := bk2.facts
  clear hgrow1 hown1 hat1 bk2 k0 k1 k2 k3
  go_wp2_with (at_builtin; refine wpList_append_lies _ rfl (.tmp 48) (.tmp 50) 26 rfl Q 67 j1 (.int .u32 0) 1 4 Try.underlying26 hj1 jz0 jz1 jz2 rfl (by decide) (.slice am rv.length cm) rv.length (bmks rv.length) rfl (BK2.out.marks.alloc _) ⟨w1.heap.size, 0, none⟩ 1 1 [bmk rv.length] rfl rfl (cell_new_at (by simp [World.setCell]) (bmk rv.length) _) (by intro u hu; simp at hu; subst hu; rfl) (by omega) (by unfold maxLen; omega) (by omega) (by have := BK2.out.lt; have := sz1.out; simp [World.setCell]; omega) (w1.heap.size + 1) (by simp [World.setCell]) ?_)
  intro g2 q2 w3 hown2 hgrow2 hat2 hlt2
  have hsz2 : (w1.setCell ⟨p, 0, none⟩ (.slice (some ⟨g1, 0, none⟩) (rv.length + 1) q1)).heap.size = w1.heap.size := by simp [World.setCell]
  have bk3 := BK2.out.mark_step hgrow2 hown2 (by rw [hsz2]; exact hat2) hlt2 (by rw [hsz2]; have := sz1.out; omega)
  obtain ⟨v0, v1, v2, v3⟩ := BK2.out.grown hgrow2 BK2.out.mvb
  have kp2 := Kp.step (p := p) (i := 1) (u := .slice (some ⟨g2, 0, none⟩) (rv.length + 1) q2) hgrow2 BK2.out.mvb
  have F : Hid (OwnS w (w3.setCell ⟨p, 1, none⟩ (.slice (some ⟨g2, 0, none⟩) (rv.length + 1) q2)) p Q bs rv.length none) := by
    refine ⟨g2 :: g1 :: bs, rv ++ [.slice none 0 0], .slice (some ⟨g1, 0, none⟩) (rv.length + 1) q1, .slice (some ⟨g2, 0, none⟩) (rv.length + 1) q2, ?_, ?_, ?_, ?_⟩
    · simp
    · rw [show (rv ++ [Value.slice none 0 0]).length = rv.length + 1 by simp]
      exact bk3
    · exact (kp0.out.trans (kp1.out.trans kp2 (fun j hj => List.mem_cons_of_mem _ hj)) (fun j hj => List.mem_cons_of_mem _ hj)).trans (Kp.refl _ _ _) (fun j hj => List.mem_cons_of_mem _ hj)
    · intro j hj
      have s1 := sz1.out
      rcases List.mem_cons.1 hj with e | hj
      · subst e
        rcases hat2 with e' | e'
        · exact hbs j ((hk).mvb j e')
        · right; left; have := szr; omega
      · rcases List.mem_cons.1 hj with e | hj
        · subst e
          rcases A1.out with e' | e'
          · exact hbs j ((hk).lvb j e')
          · right; left; have := szr; omega
        · exact hbs j hj
  clear hgrow2 hown2 hat2 bk3 kp2 x0 x1 x2 x3 y0 y1 y2 y3
  go_wp2
  go_ret
  exact ⟨rfl, F.out⟩
set_option maxRecDepth 20000 in
set_option maxHeartbeats 1000000 in
theorem own_zero_b (w : World) (p Q : Nat) (bs : List Nat) (rv : List Value) (lv mv : Value) (hk : Bk w p Q bs rv rv.length lv mv) (hr : rv.length ≤ 1000) (hQ : Q ≤ w.heap.size)  (ad : Addr) :
    Calls Try.prog 42 #[.pointer (some ⟨p, 0, none⟩), .slice (some ad) 0 0] w fun e w' => e = .returned (.bool true) ∧ OwnS w w' p Q bs rv.length none := by
  obtain ⟨i1, hi1, iz0, iz1, iz2⟩ := info_parts infoL
  obtain ⟨j1, hj1, jz0, jz1, jz2⟩ := info_parts info32
  obtain ⟨al, cl, rfl, al1, al2⟩ := owns_shape hk.lists
  obtain ⟨am, cm, rfl, am1, am2⟩ := owns_shape hk.marks
  obtain ⟨k0, k1, k2, k3⟩ := hk.facts
  have kp0 := hide (Kp.refl w p bs)
  have szr : w.heap.size ≤ w.heap.size := Nat.le_refl _
  have hQr : Q ≤ w.heap.size := hQ
  have hbs : ∀ j, j ∈ bs → j ∈ bs ∨ w.heap.size ≤ j ∨ ∃ off', none = some (⟨j, off', none⟩ : Addr) := fun j hj => .inl hj
  go_enter Try.func42, Try.ntmps42
  go_wp2
  refine wp_loop_rounds 1 ?_
  rw [rounds_succ]
  go_wp2_with (at_builtin; refine wpList_append_lies _ rfl (.tmp 38) (.tmp 40) 31 rfl Q 26 i1 (.slice none 0 0) 1 24 Try.underlying31 hi1 iz0 iz1 iz2 rfl (by decide) (.slice al rv.length cl) rv.length rv rfl ((hk).lists.alloc _) ⟨w.heap.size, 0, none⟩ 1 1 [.slice (some ad) 0 0] rfl rfl (cell_one_new _ _ _) (by intro u hu; simp at hu; subst hu; rfl) (by omega) (by unfold maxLen; omega) (by omega) (by have := (hk).lt; simp; omega) (w.heap.size + 1) (by simp) ?_)
  intro g1 q1 w1 hown1 hgrow1 hat1 hlt1
  have bk2 := (hk).list_step hgrow1 hown1 hat1 hlt1 hQr (⟨(some ad), 0, 0, rfl, Nat.le_refl _, by omega, by omega, .inl rfl⟩)
  obtain ⟨x0, x1, x2, x3⟩ := (hk).grown hgrow1 (hk).lvb
  have kp1 := hide (Kp.step (p := p) (i := 0) (u := .slice (some ⟨g1, 0, none⟩) (rv.length + 1) q1) hgrow1 (hk).lvb)
  have sz1 := hide (show w.heap.size + 1 ≤ w1.heap.size by have := hgrow1.size; simpa using this)
  have A1 := hide hat1
  have BK2 := hide bk2
  obtain ⟨y0, y1, y2, y3⟩ := bk2.facts
  clear hgrow1 hown1 hat1 bk2 k0 k1 k2 k3
  go_wp2_with (at_builtin; refine wpList_append_lies _ rfl (.tmp 48) (.tmp 50) 26 rfl Q 67 j1 (.int .u32 0) 1 4 Try.underlying26 hj1 jz0 jz1 jz2 rfl (by decide) (.slice am rv.length cm) rv.length (bmks rv.length) rfl (BK2.out.marks.alloc _) ⟨w1.heap.size, 0, none⟩ 1 1 [bmk rv.length] rfl rfl (cell_new_at (by simp [World.setCell]) (bmk rv.length) _) (by intro u hu; simp at hu; subst hu; rfl) (by omega) (by unfold maxLen; omega) (by omega) (by have := BK2.out.lt; have := sz1.out; simp [World.setCell]; omega) (w1.heap.size + 1) (by simp [World.setCell]) ?_)
  intro g2 q2 w3 hown2 hgrow2 hat2 hlt2
  have hsz2 : (w1.setCell ⟨p, 0, none⟩ (.slice (some ⟨g1, 0, none⟩) (rv.length + 1) q1)).heap.size = w1.heap.size := by simp [World.setCell]
  have bk3 := BK2.out.mark_step hgrow2 hown2 (by rw [hsz2]; exact hat2) hlt2 (by rw [hsz2]; have := sz1.out; omega)
  obtain ⟨v0, v1, v2, v3⟩ := BK2.out.grown hgrow2 BK2.out.mvb
  have kp2 := Kp.step (p := p) (i := 1) (u := .slice (some ⟨g2, 0, none⟩) (rv.length + 1) q2) hgrow2 BK2.out.mvb
  have F : Hid (OwnS w (w3.setCell ⟨p, 1, none⟩ (.slice (some ⟨g2, 0, none⟩) (rv.length + 1) q2)) p Q bs rv.length none) := by
    refine ⟨g2 :: g1 :: bs, rv ++ [.slice (some ad) 0 0], .slice (some ⟨g1, 0, none⟩) (rv.length + 1) q1, .slice (some ⟨g2, 0, none⟩) (rv.length + 1) q2, ?_, ?_, ?_, ?_⟩
    · simp
    · rw [show (rv ++ [Value.slice (some ad) 0 0]).length = rv.length + 1 by simp]
      exact bk3
    · exact (kp0.out.trans (kp1.out.trans kp2 (fun j hj => List.mem_cons_of_mem _ hj)) (fun j hj => List.mem_cons_of_mem _ hj)).trans (Kp.refl _ _ _) (fun j hj => List.mem_cons_of_mem _ hj)
    · intro j hj
      have s1 := sz1.out
      rcases List.mem_cons.1 hj with e | hj
      · subst e
        rcases hat2 with e' | e'
        · exact hbs j ((hk).mvb j e')
        · right; left; have := szr; omega
      · rcases List.mem_cons.1 hj with e | hj
        · subst e
          rcases A1.out with e' | e'
          · exact hbs j ((hk).lvb j e')
          · right; left; have := szr; omega
        · exact hbs j hj
  clear hgrow2 hown2 hat2 bk3 kp2 x0 x1 x2 x3 y0 y1 y2 y3
  go_wp2
  go_ret
  exact ⟨rfl, F.out⟩
set_option maxRecDepth 20000 in
set_option maxHeartbeats 1000000 in
theorem own_small (w : World) (p Q : Nat) (bs : List Nat) (rv : List Value) (lv mv : Value) (hk : Bk w p Q bs rv rv.length lv mv) (hr : rv.length ≤ 1000) (hQ : Q ≤ w.heap.size) (g off n cap : Nat) (cur : Array Value) (hh : w.heap[g]? = some (.cells cur 67 (0, 0))) (hsz : off + cap ≤ cur.size) (hgb : g ∉ bs) (hgQ : Q ≤ g) (_hn : n ≤ cap) (hcm : cap ≤ 9223372036854775807) (h4 : cap ≤ 4096) :
    Calls Try.prog 42 #[.pointer (some ⟨p, 0, none⟩), .slice (some ⟨g, off, none⟩) n cap] w fun e w' => e = .returned (.bool true) ∧ OwnS w w' p Q bs rv.length (some ⟨g, off, none⟩) := by
  obtain ⟨i1, hi1, iz0, iz1, iz2⟩ := info_parts infoL
  obtain ⟨j1, hj1, jz0, jz1, jz2⟩ := info_parts info32
  obtain ⟨al, cl, rfl, al1, al2⟩ := owns_shape hk.lists
  obtain ⟨am, cm, rfl, am1, am2⟩ := owns_shape hk.marks
  obtain ⟨k0, k1, k2, k3⟩ := hk.facts
  have HH := hide hh
  have HSZ := hide hsz
  have hpg : p ≠ g := fun e => by have h1 := hk.here; rw [e, hh] at h1; simp at h1
  clear hh hsz
  go_enter Try.func42, Try.ntmps42
  go_wp2
  go_loopw [7] (fun iv wr => ∃ (k : Nat) (cur' : Array Value), k ≤ cap ∧ iv = .int .i64 k ∧ Wr w wr g cur' 67 ∧ cur'.size = cur.size ∧ ∀ i, i < k → cur'[off + i]? = some (bmk rv.length)) (fun iv _ => cap - (intOf iv).toNat)
  case atStart => exact ⟨0, cur, Nat.zero_le _, rfl, Wr.refl HH.out, rfl, fun i hi => by omega⟩
  case round =>
    obtain ⟨k, cur', hkn, rfl, hwr, hcs, hfill⟩ := hrel
    by_cases hlt : k < cap
    · have hb : off + k < cur'.size := by have := HSZ.out; omega
      have old : cur'[off + k]? = some cur'[off + k] := Array.getElem?_eq_getElem hb
      have co : wr.cell? ⟨g, off + k, none⟩ = some cur'[off + k] := by rw [cell_of_row wr g (off + k) cur' _ (0, 0) hwr.here]; exact old
      have fo := hwr.free (off + k)
      have dA : (k : Int) < ((cap : Nat) : Int) := by omega
      have dC : (k : Int) < ((cap : Nat) : Int) := by omega
      have HW' := hide (hwr.set (off + k) (bmk rv.length))
      have HC' : Hid ((cur'.setIfInBounds (off + k) (bmk rv.length)).size = cur.size) := by show _ = _; rw [Array.size_setIfInBounds]; exact hcs
      have HF' : Hid (∀ i, i < k + 1 → (cur'.setIfInBounds (off + k) (bmk rv.length))[off + i]? = some (bmk rv.length)) := by
        intro i hi
        rw [Array.getElem?_setIfInBounds]
        by_cases e : off + k = off + i
        · rw [if_pos e, if_pos (by omega)]
        · rw [if_neg e]
          exact hfill i (by omega)
      clear hwr hcs hfill old
      generalize cur'[off + k] = u9 at co
      go_wp2
      go_roundw
      case rel => exact ⟨k + 1, _, by omega, by go_num, HW'.out, HC'.out, HF'.out⟩
      case measure => simp [intOf]; omega
    · have hkn' : cap = k := by omega
      subst hkn'
      have dA : ¬ ((cap : Nat) : Int) < ((cap : Nat) : Int) := by omega
      have bkr := (hk.kept (hwr.other p hpg) (fun j hj => hwr.other j (fun e => hgb (e ▸ hj))) (by rw [hwr.size]; exact Nat.le_refl _)).more (gs := [g]) (fun j hj => by simp at hj; subst hj; rw [hwr.size]; exact ⟨by omega, lt_of_heap HH.out⟩) (by simpa using hpg)
      have room : RoomOk wr ([g] ++ bs) (.slice al rv.length cl) (.slice am rv.length cm) rv.length (.slice (some ⟨g, off, none⟩) cap cap) := ⟨_, _, _, rfl, by omega, by omega, by omega, .inr ⟨g, off, rfl, by simp, fun e => hgb (hk.lvb _ e), fun e => hgb (hk.mvb _ e), fun i hi => by rw [cell_of_row wr g (off + i) cur' _ (0, 0) hwr.here]; exact hfill i hi⟩⟩
      have kp0 : Hid (Kp w wr p ([g] ++ bs)) := Kp.of_wr hwr (by simp)
      have szr : w.heap.size ≤ wr.heap.size := by rw [hwr.size]; exact Nat.le_refl _
      have hQr : Q ≤ wr.heap.size := by omega
      have hbs : ∀ j, j ∈ [g] ++ bs → j ∈ bs ∨ w.heap.size ≤ j ∨ ∃ off', some (⟨g, off, none⟩ : Addr) = some ⟨j, off', none⟩ := by
        intro j hj
        rcases List.mem_append.1 hj with e | e
        · simp at e; subst e; exact .inr (.inr ⟨off, rfl⟩)
        · exact .inl e
      obtain ⟨m0, m1, m2, m3⟩ := bkr.facts
      have BKR := hide bkr
      have ROOM := hide room
      have HBS := hide hbs
      have SZR := hide szr
      clear hwr hcs hfill bkr room hbs k0 k1 k2 k3
      go_wp2_with (at_builtin; refine wpList_append_lies _ rfl (.tmp 38) (.tmp 40) 31 rfl Q 26 i1 (.slice none 0 0) 1 24 Try.underlying31 hi1 iz0 iz1 iz2 rfl (by decide) (.slice al rv.length cl) rv.length rv rfl ((BKR.out).lists.alloc _) ⟨wr.heap.size, 0, none⟩ 1 1 [.slice (some ⟨g, off, none⟩) cap cap] rfl rfl (cell_one_new _ _ _) (by intro u hu; simp at hu; subst hu; rfl) (by omega) (by unfold maxLen; omega) (by omega) (by have := (BKR.out).lt; simp; omega) (wr.heap.size + 1) (by simp) ?_)
      intro g1 q1 w1 hown1 hgrow1 hat1 hlt1
      have bk2 := (BKR.out).list_step hgrow1 hown1 hat1 hlt1 hQr (ROOM.out)
      obtain ⟨x0, x1, x2, x3⟩ := (BKR.out).grown hgrow1 (BKR.out).lvb
      have kp1 := hide (Kp.step (p := p) (i := 0) (u := .slice (some ⟨g1, 0, none⟩) (rv.length + 1) q1) hgrow1 (BKR.out).lvb)
      have sz1 := hide (show wr.heap.size + 1 ≤ w1.heap.size by have := hgrow1.size; simpa using this)
      have A1 := hide hat1
      have BK2 := hide bk2
      obtain ⟨y0, y1, y2, y3⟩ := bk2.facts
      clear hgrow1 hown1 hat1 bk2 m0 m1 m2 m3
      go_wp2_with (at_builtin; refine wpList_append_lies _ rfl (.tmp 48) (.tmp 50) 26 rfl Q 67 j1 (.int .u32 0) 1 4 Try.underlying26 hj1 jz0 jz1 jz2 rfl (by decide) (.slice am rv.length cm) rv.length (bmks rv.length) rfl (BK2.out.marks.alloc _) ⟨w1.heap.size, 0, none⟩ 1 1 [bmk rv.length] rfl rfl (cell_new_at (by simp [World.setCell]) (bmk rv.length) _) (by intro u hu; simp at hu; subst hu; rfl) (by omega) (by unfold maxLen; omega) (by omega) (by have := BK2.out.lt; have := sz1.out; simp [World.setCell]; omega) (w1.heap.size + 1) (by simp [World.setCell]) ?_)
      intro g2 q2 w3 hown2 hgrow2 hat2 hlt2
      have hsz2 : (w1.setCell ⟨p, 0, none⟩ (.slice (some ⟨g1, 0, none⟩) (rv.length + 1) q1)).heap.size = w1.heap.size := by simp [World.setCell]
      have bk3 := BK2.out.mark_step hgrow2 hown2 (by rw [hsz2]; exact hat2) hlt2 (by rw [hsz2]; have := sz1.out; omega)
      obtain ⟨v0, v1, v2, v3⟩ := BK2.out.grown hgrow2 BK2.out.mvb
      have kp2 := Kp.step (p := p) (i := 1) (u := .slice (some ⟨g2, 0, none⟩) (rv.length + 1) q2) hgrow2 BK2.out.mvb
      have F : Hid (OwnS w (w3.setCell ⟨p, 1, none⟩ (.slice (some ⟨g2, 0, none⟩) (rv.length + 1) q2)) p Q bs rv.length (some ⟨g, off, none⟩)) := by
        refine ⟨g2 :: g1 :: ([g] ++ bs), rv ++ [.slice (some ⟨g, off, none⟩) cap cap], .slice (some ⟨g1, 0, none⟩) (rv.length + 1) q1, .slice (some ⟨g2, 0, none⟩) (rv.length + 1) q2, ?_, ?_, ?_, ?_⟩
        · simp
        · rw [show (rv ++ [Value.slice (some ⟨g, off, none⟩) cap cap]).length = rv.length + 1 by simp]
          exact bk3
        · exact (kp0.out.trans (kp1.out.trans kp2 (fun j hj => List.mem_cons_of_mem _ hj)) (fun j hj => List.mem_cons_of_mem _ hj)).trans (Kp.refl _ _ _) (fun j hj => List.mem_cons_of_mem _ hj)
        · intro j hj
          have s1 := sz1.out
          rcases List.mem_cons.1 hj with e | hj
          · subst e
            rcases hat2 with e' | e'
            · exact HBS.out j ((BKR.out).mvb j e')
            · right; left; have := SZR.out; omega
          · rcases List.mem_cons.1 hj with e | hj
            · subst e
              rcases A1.out with e' | e'
              · exact HBS.out j ((BKR.out).lvb j e')
              · right; left; have := SZR.out; omega
            · exact HBS.out j hj
      clear hgrow2 hown2 hat2 bk3 kp2 x0 x1 x2 x3 y0 y1 y2 y3
      go_wp2
      go_ret
      exact ⟨rfl, F.out⟩
set_option maxRecDepth 20000 in
set_option maxHeartbeats 1000000 in
theorem own_big (w : World) (p Q : Nat) (bs : List Nat) (rv : List Value) (lv mv : Value) (hk : Bk w p Q bs rv rv.length lv mv) (hr : rv.length ≤ 1000) (hQ : Q ≤ w.heap.size) (g off n cap : Nat) (cur : Array Value) (hh : w.heap[g]? = some (.cells cur 67 (0, 0))) (hsz : off + cap ≤ cur.size) (hgb : g ∉ bs) (hgQ : Q ≤ g) (_hn : n ≤ cap) (hcm : cap ≤ 9223372036854775807) (h4 : 4096 < cap) :
    Calls Try.prog 42 #[.pointer (some ⟨p, 0, none⟩), .slice (some ⟨g, off, none⟩) n cap] w fun e w' => e = .returned (.bool true) ∧ OwnS w w' p Q bs rv.length (some ⟨g, off, none⟩) := by
  obtain ⟨i1, hi1, iz0, iz1, iz2⟩ := info_parts infoL
  obtain ⟨j1, hj1, jz0, jz1, jz2⟩ := info_parts info32
  obtain ⟨al, cl, rfl, al1, al2⟩ := owns_shape hk.lists
  obtain ⟨am, cm, rfl, am1, am2⟩ := owns_shape hk.marks
  obtain ⟨k0, k1, k2, k3⟩ := hk.facts
  have HH := hide hh
  have HSZ := hide hsz
  have hpg : p ≠ g := fun e => by have h1 := hk.here; rw [e, hh] at h1; simp at h1
  clear hh hsz
  go_enter Try.func42, Try.ntmps42
  go_wp2
  go_loopw [7] (fun iv wr => ∃ (k : Nat) (cur' : Array Value), k ≤ 4096 ∧ iv = .int .i64 k ∧ Wr w wr g cur' 67 ∧ cur'.size = cur.size ∧ ∀ i, i < k → cur'[off + i]? = some (bmk rv.length)) (fun iv _ => 4096 - (intOf iv).toNat)
  case atStart => exact ⟨0, cur, Nat.zero_le _, rfl, Wr.refl HH.out, rfl, fun i hi => by omega⟩
  case round =>
    obtain ⟨k, cur', hkn, rfl, hwr, hcs, hfill⟩ := hrel
    by_cases hlt : k < 4096
    · have hb : off + k < cur'.size := by have := HSZ.out; omega
      have old : cur'[off + k]? = some cur'[off + k] := Array.getElem?_eq_getElem hb
      have co : wr.cell? ⟨g, off + k, none⟩ = some cur'[off + k] := by rw [cell_of_row wr g (off + k) cur' _ (0, 0) hwr.here]; exact old
      have fo := hwr.free (off + k)
      have dA : (k : Int) < ((4096 : Nat) : Int) := by omega
      have dC : (k : Int) < ((cap : Nat) : Int) := by omega
      have HW' := hide (hwr.set (off + k) (bmk rv.length))
      have HC' : Hid ((cur'.setIfInBounds (off + k) (bmk rv.length)).size = cur.size) := by show _ = _; rw [Array.size_setIfInBounds]; exact hcs
      have HF' : Hid (∀ i, i < k + 1 → (cur'.setIfInBounds (off + k) (bmk rv.length))[off + i]? = some (bmk rv.length)) := by
        intro i hi
        rw [Array.getElem?_setIfInBounds]
        by_cases e : off + k = off + i
        · rw [if_pos e, if_pos (by omega)]
        · rw [if_neg e]
          exact hfill i (by omega)
      clear hwr hcs hfill old
      generalize cur'[off + k] = u9 at co
      go_wp2
      go_roundw
      case rel => exact ⟨k + 1, _, by omega, by go_num, HW'.out, HC'.out, HF'.out⟩
      case measure => simp [intOf]; omega
    · have hkn' : 4096 = k := by omega
      subst hkn'
      have dA : ¬ ((4096 : Nat) : Int) < ((4096 : Nat) : Int) := by omega
      have bkr := (hk.kept (hwr.other p hpg) (fun j hj => hwr.other j (fun e => hgb (e ▸ hj))) (by rw [hwr.size]; exact Nat.le_refl _)).more (gs := [g]) (fun j hj => by simp at hj; subst hj; rw [hwr.size]; exact ⟨by omega, lt_of_heap HH.out⟩) (by simpa using hpg)
      have room : RoomOk wr ([g] ++ bs) (.slice al rv.length cl) (.slice am rv.length cm) rv.length (.slice (some ⟨g, off, none⟩) 4096 cap) := ⟨_, _, _, rfl, by omega, by omega, by omega, .inr ⟨g, off, rfl, by simp, fun e => hgb (hk.lvb _ e), fun e => hgb (hk.mvb _ e), fun i hi => by rw [cell_of_row wr g (off + i) cur' _ (0, 0) hwr.here]; exact hfill i hi⟩⟩
      have kp0 : Hid (Kp w wr p ([g] ++ bs)) := Kp.of_wr hwr (by simp)
      have szr : w.heap.size ≤ wr.heap.size := by rw [hwr.size]; exact Nat.le_refl _
      have hQr : Q ≤ wr.heap.size := by omega
      have hbs : ∀ j, j ∈ [g] ++ bs → j ∈ bs ∨ w.heap.size ≤ j ∨ ∃ off', some (⟨g, off, none⟩ : Addr) = some ⟨j, off', none⟩ := by
        intro j hj
        rcases List.mem_append.1 hj with e | e
        · simp at e; subst e; exact .inr (.inr ⟨off, rfl⟩)
        · exact .inl e
      obtain ⟨m0, m1, m2, m3⟩ := bkr.facts
      have BKR := hide bkr
      have ROOM := hide room
      have HBS := hide hbs
      have SZR := hide szr
      clear hwr hcs hfill bkr room hbs k0 k1 k2 k3
      go_wp2_with (at_builtin; refine wpList_append_lies _ rfl (.tmp 38) (.tmp 40) 31 rfl Q 26 i1 (.slice none 0 0) 1 24 Try.underlying31 hi1 iz0 iz1 iz2 rfl (by decide) (.slice al rv.length cl) rv.length rv rfl ((BKR.out).lists.alloc _) ⟨wr.heap.size, 0, none⟩ 1 1 [.slice (some ⟨g, off, none⟩) 4096 cap] rfl rfl (cell_one_new _ _ _) (by intro u hu; simp at hu; subst hu; rfl) (by omega) (by unfold maxLen; omega) (by omega) (by have := (BKR.out).lt; simp; omega) (wr.heap.size + 1) (by simp) ?_)
      intro g1 q1 w1 hown1 hgrow1 hat1 hlt1
      have bk2 := (BKR.out).list_step hgrow1 hown1 hat1 hlt1 hQr (ROOM.out)
      obtain ⟨x0, x1, x2, x3⟩ := (BKR.out).grown hgrow1 (BKR.out).lvb
      have kp1 := hide (Kp.step (p := p) (i := 0) (u := .slice (some ⟨g1, 0, none⟩) (rv.length + 1) q1) hgrow1 (BKR.out).lvb)
      have sz1 := hide (show wr.heap.size + 1 ≤ w1.heap.size by have := hgrow1.size; simpa using this)
      have A1 := hide hat1
      have BK2 := hide bk2
      obtain ⟨y0, y1, y2, y3⟩ := bk2.facts
      clear hgrow1 hown1 hat1 bk2 m0 m1 m2 m3
      go_wp2_with (at_builtin; refine wpList_append_lies _ rfl (.tmp 48) (.tmp 50) 26 rfl Q 67 j1 (.int .u32 0) 1 4 Try.underlying26 hj1 jz0 jz1 jz2 rfl (by decide) (.slice am rv.length cm) rv.length (bmks rv.length) rfl (BK2.out.marks.alloc _) ⟨w1.heap.size, 0, none⟩ 1 1 [bmk rv.length] rfl rfl (cell_new_at (by simp [World.setCell]) (bmk rv.length) _) (by intro u hu; simp at hu; subst hu; rfl) (by omega) (by unfold maxLen; omega) (by omega) (by have := BK2.out.lt; have := sz1.out; simp [World.setCell]; omega) (w1.heap.size + 1) (by simp [World.setCell]) ?_)
      intro g2 q2 w3 hown2 hgrow2 hat2 hlt2
      have hsz2 : (w1.setCell ⟨p, 0, none⟩ (.slice (some ⟨g1, 0, none⟩) (rv.length + 1) q1)).heap.size = w1.heap.size := by simp [World.setCell]
      have bk3 := BK2.out.mark_step hgrow2 hown2 (by rw [hsz2]; exact hat2) hlt2 (by rw [hsz2]; have := sz1.out; omega)
      obtain ⟨v0, v1, v2, v3⟩ := BK2.out.grown hgrow2 BK2.out.mvb
      have kp2 := Kp.step (p := p) (i := 1) (u := .slice (some ⟨g2, 0, none⟩) (rv.length + 1) q2) hgrow2 BK2.out.mvb
      have F : Hid (OwnS w (w3.setCell ⟨p, 1, none⟩ (.slice (some ⟨g2, 0, none⟩) (rv.length + 1) q2)) p Q bs rv.length (some ⟨g, off, none⟩)) := by
        refine ⟨g2 :: g1 :: ([g] ++ bs), rv ++ [.slice (some ⟨g, off, none⟩) 4096 cap], .slice (some ⟨g1, 0, none⟩) (rv.length + 1) q1, .slice (some ⟨g2, 0, none⟩) (rv.length + 1) q2, ?_, ?_, ?_, ?_⟩
        · simp
        · rw [show (rv ++ [Value.slice (some ⟨g, off, none⟩) 4096 cap]).length = rv.length + 1 by simp]
          exact bk3
        · exact (kp0.out.trans (kp1.out.trans kp2 (fun j hj => List.mem_cons_of_mem _ hj)) (fun j hj => List.mem_cons_of_mem _ hj)).trans (Kp.refl _ _ _) (fun j hj => List.mem_cons_of_mem _ hj)
        · intro j hj
          have s1 := sz1.out
          rcases List.mem_cons.1 hj with e | hj
          · subst e
            rcases hat2 with e' | e'
            · exact HBS.out j ((BKR.out).mvb j e')
            · right; left; have := SZR.out; omega
          · rcases List.mem_cons.1 hj with e | hj
            · subst e
              rcases A1.out with e' | e'
              · exact HBS.out j ((BKR.out).lvb j e')
              · right; left; have := SZR.out; omega
            · exact HBS.out j hj
      clear hgrow2 hown2 hat2 bk3 kp2 x0 x1 x2 x3 y0 y1 y2 y3
      go_wp2
      go_ret
      exact ⟨rfl, F.out⟩
structure Fr (B T : Nat) (w : World) (ao : Option Addr) (cap : Nat) (rs : List Int) (x : Int) : Prop where
  ow : Ow B w (.slice ao rs.length cap) rs
  canon : Canon rs
  val : val rs = x
  lies : 0 < cap → ∀ g off, ao = some ⟨g, off, none⟩ → B ≤ g ∧ g < T
theorem Ow.sl' {B : Nat} {w : World} {ao : Option Addr} {n cap : Nat} {zs : List Int} (h : Ow B w (.slice ao n cap) zs) : n = zs.length ∧ zs.length ≤ cap ∧ cap ≤ 9223372036854775807 ∧ (cap = 0 ∨ ∃ g off cur, ao = some ⟨g, off, none⟩ ∧ B ≤ g ∧ w.heap[g]? = some (.cells cur 67 (0, 0)) ∧ off + cap ≤ cur.size ∧ At cur .u32 off zs) := by
  obtain ⟨ao', cap', hv, h1, h2, h3, h4⟩ := h
  obtain ⟨rfl, rfl, rfl⟩ := (Value.slice.injEq .. ▸ hv)
  exact ⟨rfl, h1, h2, h4⟩
theorem Is.fr {B : Nat} {w : World} {v : Value} {x : Int} (h : Is B w v x) : ∃ ao cap rs, v = .slice ao rs.length cap ∧ Fr B w.heap.size w ao cap rs x := by
  obtain ⟨rs, ho, hc, hv⟩ := h
  obtain ⟨ao, cap, rfl, h1, h2, h3, h4⟩ := ho
  refine ⟨ao, cap, rs, rfl, ⟨ao, cap, rfl, h1, h2, h3, h4⟩, hc, hv, ?_⟩
  intro h0 g off e
  rcases h4 with h4 | ⟨g', off', cur, e', hB, hh, _⟩
  · omega
  · rw [e'] at e
    simp only [Option.some.injEq, Addr.mk.injEq, and_true] at e
    have := lt_of_heap hh
    omega
theorem Fr.got {B T : Nat} {w : World} {ao : Option Addr} {cap : Nat} {rs : List Int} {x : Int} (h : Fr B T w ao cap rs x) : Got w ao cap rs x := ⟨h.ow.sl, h.canon, h.val⟩
theorem Fr.kept {B T : Nat} {w w' : World} {ao : Option Addr} {cap : Nat} {rs : List Int} {x : Int} (h : Fr B T w ao cap rs x) (hk : ∀ g, g < w.heap.size → B ≤ g → g < T → w'.heap[g]? = w.heap[g]?) : Fr B T w' ao cap rs x := by
  obtain ⟨ho, hc, hv, hl⟩ := h
  refine ⟨?_, hc, hv, hl⟩
  obtain ⟨ao', cap', hv', h1, h2, h3, h4⟩ := ho
  obtain ⟨rfl, _, rfl⟩ := (Value.slice.injEq .. ▸ hv')
  refine ⟨ao, cap, rfl, h1, h2, h3, ?_⟩
  rcases h4 with h4 | ⟨g, off, cur, rfl, hB, hh, r⟩
  · exact .inl h4
  · by_cases h0 : 0 < cap
    · have := hl h0 g off rfl
      exact .inr ⟨g, off, cur, rfl, hB, (hk g (lt_of_heap hh) this.1 this.2).trans hh, r⟩
    · exact .inl (by omega)
theorem Fr.below {B T : Nat} {w w' : World} {ao : Option Addr} {cap : Nat} {rs : List Int} {x : Int} (h : Fr B T w ao cap rs x) (hb : Below w.heap.size w w') : Fr B T w' ao cap rs x := h.kept fun g hg _ _ => hb.block g hg
theorem Fr.touch {B T L : Nat} {w w' : World} {ao : Option Addr} {cap : Nat} {rs : List Int} {x : Int} (h : Fr B T w ao cap rs x) (t : Touch w w' L) (hL : L < B ∨ T ≤ L) : Fr B T w' ao cap rs x := h.kept fun g hg h1 h2 => t.other g hg (by omega)
theorem Fr.kp {B T p : Nat} {bs : List Nat} {w w' : World} {ao : Option Addr} {cap : Nat} {rs : List Int} {x : Int} (h : Fr B T w ao cap rs x) (k : Kp w w' p bs) (hp : p < B ∨ T ≤ p) (hb : ∀ j, j ∈ bs → j < B ∨ T ≤ j) : Fr B T w' ao cap rs x :=
  h.kept fun g hg h1 h2 => k.other g hg (by omega) (fun hj => by have := hb g hj; omega)
def Bs (w : World) (p Q : Nat) (bs : List Nat) (n : Nat) : Prop := ∃ rv lv mv, rv.length = n ∧ Bk w p Q bs rv rv.length lv mv
theorem Bs.below {w w' : World} {p Q n : Nat} {bs : List Nat} (h : Bs w p Q bs n) (hb : Below w.heap.size w w') : Bs w' p Q bs n := by
  obtain ⟨rv, lv, mv, e, hk⟩ := h
  exact ⟨rv, lv, mv, e, hk.below hb⟩
theorem Bs.lt {w : World} {p Q n : Nat} {bs : List Nat} (h : Bs w p Q bs n) : p ∉ bs ∧ p < w.heap.size := by
  obtain ⟨rv, lv, mv, e, hk⟩ := h
  exact ⟨hk.pQ, hk.lt⟩
theorem Bs.new {w : World} {p Q : Nat} (h : w.heap[p]? = some (.cells #[.slice none 0 0, .slice none 0 0] 33 (0, 0))) : Bs w p Q [] 0 := by
  refine ⟨[], .slice none 0 0, .slice none 0 0, rfl, h, ⟨rfl, .inl ⟨rfl, rfl⟩⟩, ⟨rfl, .inl ⟨rfl, rfl⟩⟩, ?_, ?_, ?_, ?_, ?_, by simp⟩
  · intro j hj; simp [Value.ownBlock] at hj
  · intro j hj; simp [Value.ownBlock] at hj
  · intro j hj; simp [Value.ownBlock] at hj
  · intro i u hu; simp at hu
  · intro j hj; cases hj
theorem own_b (w : World) (p Q n : Nat) (bs : List Nat) (hb : Bs w p Q bs n) (hn : n ≤ 1000) (B T : Nat) (ao : Option Addr) (cap : Nat) (rs : List Int) (x : Int) (h : Fr B T w ao cap rs x) (hQB : Q ≤ B) (hQ : Q ≤ w.heap.size) (hd : ∀ j, j ∈ bs → j < B ∨ T ≤ j) :
    Calls Try.prog 42 #[.pointer (some ⟨p, 0, none⟩), .slice ao rs.length cap] w fun e w' => e = .returned (.bool true) ∧ ∃ bs', Bs w' p Q bs' (n + 1) ∧ Kp w w' p bs' ∧ ∀ j, j ∈ bs' → j ∈ bs ∨ w.heap.size ≤ j ∨ (B ≤ j ∧ j < T) := by
  obtain ⟨rv, lv, mv, rfl, hk⟩ := hb
  obtain ⟨_, h1, h2, h4⟩ := h.ow.sl'
  have hr := hn
  by_cases h0 : 0 < cap
  · rcases h4 with h4 | ⟨g, off, cur, rfl, hB, hh, hs, ha⟩
    · omega
    have hl := h.lies h0 g off rfl
    have hgb : g ∉ bs := fun hj => by have := hd g hj; omega
    have fin : ∀ w', OwnS w w' p Q bs rv.length (some ⟨g, off, none⟩) → ∃ bs', Bs w' p Q bs' (rv.length + 1) ∧ Kp w w' p bs' ∧ ∀ j, j ∈ bs' → j ∈ bs ∨ w.heap.size ≤ j ∨ (B ≤ j ∧ j < T) := by
      rintro w' ⟨bs', rv', lv', mv', e, hk', kp, hj⟩
      refine ⟨bs', ⟨rv', lv', mv', e, hk'⟩, kp, fun j hj' => ?_⟩
      rcases hj j hj' with a | a | ⟨off', a⟩
      · exact .inl a
      · exact .inr (.inl a)
      · simp only [Option.some.injEq, Addr.mk.injEq] at a
        obtain ⟨rfl, _⟩ := a
        exact .inr (.inr hl)
    by_cases hc : cap ≤ 4096
    · exact (own_small w p Q bs rv lv mv hk hr hQ g off rs.length cap cur hh hs hgb (by omega) h1 h2 hc).mono fun e w' ⟨a, b⟩ => ⟨a, fin w' b⟩
    · exact (own_big w p Q bs rv lv mv hk hr hQ g off rs.length cap cur hh hs hgb (by omega) h1 h2 (by omega)).mono fun e w' ⟨a, b⟩ => ⟨a, fin w' b⟩
  · have hc0 : cap = 0 := by omega
    have hl0 : rs.length = 0 := by omega
    have fin : ∀ w', OwnS w w' p Q bs rv.length none → ∃ bs', Bs w' p Q bs' (rv.length + 1) ∧ Kp w w' p bs' ∧ ∀ j, j ∈ bs' → j ∈ bs ∨ w.heap.size ≤ j ∨ (B ≤ j ∧ j < T) := by
      rintro w' ⟨bs', rv', lv', mv', e, hk', kp, hj⟩
      refine ⟨bs', ⟨rv', lv', mv', e, hk'⟩, kp, fun j hj' => ?_⟩
      rcases hj j hj' with a | a | ⟨off', a⟩
      · exact .inl a
      · exact .inr (.inl a)
      · cases a
    rw [hl0, hc0]
    cases ao with
    | none => exact (own_zero_a w p Q bs rv lv mv hk hr hQ).mono fun e w' ⟨a, b⟩ => ⟨a, fin w' b⟩
    | some ad => exact (own_zero_b w p Q bs rv lv mv hk hr hQ ad).mono fun e w' ⟨a, b⟩ => ⟨a, fin w' b⟩
end Lm
end Go.Proofs.Ytpofkigboedliaa

namespace Go.Proofs.Ytpofkigboedliaa
namespace Lm
open Go.RowKit
structure Li (B T : Nat) (w : World) (ao : Option Addr) (cap : Nat) (rs : List Int) : Prop where
  ow : Ow B w (.slice ao rs.length cap) rs
  lies : 0 < cap → ∀ g off, ao = some ⟨g, off, none⟩ → B ≤ g ∧ g < T
theorem Fr.li {B T : Nat} {w : World} {ao : Option Addr} {cap : Nat} {rs : List Int} {x : Int} (h : Fr B T w ao cap rs x) : Li B T w ao cap rs := ⟨h.ow, h.lies⟩
theorem Li.fr {B T : Nat} {w : World} {ao : Option Addr} {cap : Nat} {rs : List Int} {x : Int} (h : Li B T w ao cap rs) (hg : Got w ao cap rs x) : Fr B T w ao cap rs x := ⟨h.ow, hg.canon, hg.val, h.lies⟩
theorem Li.kept {B T : Nat} {w w' : World} {ao : Option Addr} {cap : Nat} {rs : List Int} (h : Li B T w ao cap rs) (hk : ∀ g, g < w.heap.size → B ≤ g → g < T → w'.heap[g]? = w.heap[g]?) : Li B T w' ao cap rs := by
  obtain ⟨ho, hl⟩ := h
  refine ⟨?_, hl⟩
  obtain ⟨ao', cap', hv', h1, h2, h3, h4⟩ := ho
  obtain ⟨rfl, _, rfl⟩ := (Value.slice.injEq .. ▸ hv')
  refine ⟨ao, cap, rfl, h1, h2, h3, ?_⟩
  rcases h4 with h4 | ⟨g, off, cur, rfl, hB, hh, r⟩
  · exact .inl h4
  · by_cases h0 : 0 < cap
    · have := hl h0 g off rfl
      exact .inr ⟨g, off, cur, rfl, hB, (hk g (lt_of_heap hh) this.1 this.2).trans hh, r⟩
    · exact .inl (by omega)
theorem Li.below {B T : Nat} {w w' : World} {ao : Option Addr} {cap : Nat} {rs : List Int} (h : Li B T w ao cap rs) (hb : Below w.heap.size w w') : Li B T w' ao cap rs := h.kept fun g hg _ _ => hb.block g hg
theorem Li.set2 {B T : Nat} {w : World} {ao : Option Addr} {cap : Nat} {rs : List Int} (h : Li B T w ao cap rs) (k : Nat) (hk : k < B ∨ T ≤ k) (b u : Value) : Li B T ((w.setCell ⟨k, 0, none⟩ b).setCell ⟨k, 1, none⟩ u) ao cap rs :=
  h.kept fun g _ h1 h2 => by
    have hne : g ≠ k := by omega
    rw [heap_setCell_other _ ⟨k, 1, none⟩ g _ hne, heap_setCell_other _ ⟨k, 0, none⟩ g _ hne]
theorem add_o (w : World) (a1 a2 : Option Addr) (n1 n2 c1 c2 : Nat) (xs ys : List Int) (hx : Sl w (.slice a1 n1 c1) xs) (hy : Sl w (.slice a2 n2 c2) ys) (hm1 : xs.length ≤ 1000000) (hm2 : ys.length ≤ 1000000) :
    Calls Try.prog 60 #[.slice a1 n1 c1, .slice a2 n2 c2] w fun e w' => ∃ ao cap rs, e = .returned (.slice ao rs.length cap) ∧ Got w' ao cap rs (val xs + val ys) ∧ rs.length ≤ xs.length + ys.length + 1 ∧ Li w.heap.size w'.heap.size w' ao cap rs ∧ Below w.heap.size w w' := by
  refine (add_any w a1 a2 n1 n2 c1 c2 xs ys hx hy hm1 hm2).mono ?_
  rintro e w' ⟨v, rfl, hi, hb⟩
  obtain ⟨ao, cap, rs, rfl, f⟩ := hi.fr
  exact ⟨ao, cap, rs, rfl, f.got, add_len hx.parts.2.2.2 hy.parts.2.2.2 f.canon f.val, f.li, hb⟩
theorem sub_o (w : World) (a1 a2 : Option Addr) (n1 n2 c1 c2 : Nat) (xs ys : List Int) (hx : Sl w (.slice a1 n1 c1) xs) (hy : Sl w (.slice a2 n2 c2) ys) (hm1 : xs.length ≤ 1000000) (hge : val ys ≤ val xs) :
    Calls Try.prog 62 #[.slice a1 n1 c1, .slice a2 n2 c2] w fun e w' => ∃ ao cap rs, e = .returned (.tuple #[.slice ao rs.length cap, .bool true]) ∧ Got w' ao cap rs (val xs - val ys) ∧ rs.length ≤ xs.length ∧ Li w.heap.size w'.heap.size w' ao cap rs ∧ Below w.heap.size w w' := by
  refine (sub_yes w a1 a2 n1 n2 c1 c2 xs ys hx hy hm1 hge).mono ?_
  rintro e w' ⟨v, rfl, hi, hb⟩
  obtain ⟨ao, cap, rs, rfl, f⟩ := hi.fr
  have := (val_bounds hy.parts.2.2.2).1
  exact ⟨ao, cap, rs, rfl, f.got, le_len hx.parts.2.2.2 f.canon (by rw [f.val]; omega), f.li, hb⟩
end Lm
end Go.Proofs.Ytpofkigboedliaa

namespace Go.Proofs.Ytpofkigboedliaa
namespace Lm
open Go.RowKit
set_option maxRecDepth 20000 in
set_option maxHeartbeats 1000000 in
theorem join_sameo (w : World) (nx : Bool) (a1 : Option Addr) (n1 c1 : Nat) (xs : List Int) (hx : Sl w (.slice a1 n1 c1) xs) (a2 : Option Addr) (n2 c2 : Nat) (ys : List Int) (hy : Sl w (.slice a2 n2 c2) ys) (hm1 : xs.length ≤ 400000) (hm2 : ys.length ≤ 400000) :
    Calls Try.prog 66 #[.agg #[.bool nx, .slice a1 n1 c1], .bool nx, .slice a2 n2 c2] w fun e w' => ∃ ng' ao cap rs, e = .returned (.agg #[.bool ng', .slice ao rs.length cap]) ∧ Wh w' ng' ao cap rs (sg nx (val xs) + sg nx (val ys)) ∧ rs.length ≤ xs.length + ys.length + 1 ∧ Li w.heap.size w'.heap.size w' ao cap rs ∧ Below w.heap.size w w' := by
  obtain ⟨w0, e0, bx, br, hb0, hs0⟩ := boxed1 w nx (.slice a1 n1 c1)
  have E0 := hide e0
  have hx0 := hx.below hb0
  have hy0 := hy.below hb0
  have HS0 := hide hs0
  clear e0 hs0
  go_enter Try.func66, Try.ntmps66
  go_wp2_with fail
  rw [E0.out]
  obtain ⟨ca, cb, cc, cd⟩ := bx.facts
  obtain ⟨da, db, dc, dd⟩ := br.facts
  refine (add_o _ _ _ _ _ _ _ xs ys hx0 hy0 (by omega) (by omega)).mono ?_
  rintro e w1 ⟨p1, q1, r1, rfl, G1, l1, o1, hb1⟩
  go_wp2_with fail
  refine (signed_g _ _ _ _ r1 _ G1 (by omega)).mono ?_
  rintro e w2 ⟨ng2, rfl, G2, hb2⟩
  have br2 := (br.below hb1).below hb2
  obtain ⟨ka, kb, kc, kd⟩ := br2.facts
  have X := hide (br2.set ng2 (.slice p1 r1.length q1)).facts
  have Y := hide (br2.wh ng2 (.slice p1 r1.length q1) G2)
  have Z := hide (below_set2 (hb0.trans ((hb1.trans (hb2.mono hb1.size)).mono hb0.size)) (Nat.le_succ _) (.bool ng2) (.slice p1 r1.length q1))
  skip
  have hs9 := HS0.out
  have s_1 := hb1.size
  have s_2 := hb2.size
  have O1 := hide ((o1.below hb2).set2 (w.heap.size + 1) (by omega) (.bool ng2) (.slice p1 r1.length q1))
  have O2 := hide (show Li w.heap.size _ _ p1 q1 r1 from ⟨O1.out.ow.mono (by omega), fun h0 g off e => by have := O1.out.lies h0 g off e; exact ⟨by omega, Nat.lt_of_lt_of_le this.2 (show w1.heap.size ≤ ((w2.setCell ⟨w.heap.size + 1, 0, none⟩ (.bool ng2)).setCell ⟨w.heap.size + 1, 1, none⟩ (.slice p1 r1.length q1)).heap.size by simp [World.setCell]; exact s_2)⟩⟩)
  clear O1
  go_wp2
  refine bodyPost_ret (v := .agg #[.bool ng2, .slice p1 r1.length q1]) ?_ rfl ⟨ng2, p1, q1, r1, rfl, by rw [← sg_add]; exact Y.out, by omega, O2.out, Z.out⟩
  simp [results, Try.results66, go_sem, X.out.1, X.out.2.1]
set_option maxRecDepth 20000 in
set_option maxHeartbeats 1000000 in
theorem join_geo (w : World) (nx : Bool) (a1 : Option Addr) (n1 c1 : Nat) (xs : List Int) (hx : Sl w (.slice a1 n1 c1) xs) (a2 : Option Addr) (n2 c2 : Nat) (ys : List Int) (hy : Sl w (.slice a2 n2 c2) ys) (hm1 : xs.length ≤ 400000) (hm2 : ys.length ≤ 400000) (hge : val ys ≤ val xs) :
    Calls Try.prog 66 #[.agg #[.bool nx, .slice a1 n1 c1], .bool (!nx), .slice a2 n2 c2] w fun e w' => ∃ ng' ao cap rs, e = .returned (.agg #[.bool ng', .slice ao rs.length cap]) ∧ Wh w' ng' ao cap rs (sg nx (val xs) + sg (!nx) (val ys)) ∧ rs.length ≤ xs.length + ys.length + 1 ∧ Li w.heap.size w'.heap.size w' ao cap rs ∧ Below w.heap.size w w' := by
  obtain ⟨w0, e0, bx, br, hb0, hs0⟩ := boxed1 w nx (.slice a1 n1 c1)
  have E0 := hide e0
  have hx0 := hx.below hb0
  have hy0 := hy.below hb0
  have HS0 := hide hs0
  clear e0 hs0
  cases nx
  all_goals
    go_enter Try.func66, Try.ntmps66
    go_wp2_with fail
    rw [E0.out]
    obtain ⟨ca, cb, cc, cd⟩ := bx.facts
    obtain ⟨da, db, dc, dd⟩ := br.facts
    refine (sub_o _ _ _ _ _ _ _ xs ys hx0 hy0 (by omega) hge).mono ?_
    rintro e w1 ⟨p1, q1, r1, rfl, G1, l1, o1, hb1⟩
    have bx1 := bx.below hb1
    obtain ⟨ia, ib, ic, id⟩ := bx1.facts
    go_wp2_with fail
    refine (signed_g _ _ _ _ r1 _ G1 (by omega)).mono ?_
    rintro e w2 ⟨ng2, rfl, G2, hb2⟩
    have br2 := (br.below hb1).below hb2
    obtain ⟨ka, kb, kc, kd⟩ := br2.facts
    have X := hide (br2.set ng2 (.slice p1 r1.length q1)).facts
    have Y := hide (br2.wh ng2 (.slice p1 r1.length q1) G2)
    have Z := hide (below_set2 (hb0.trans ((hb1.trans (hb2.mono hb1.size)).mono hb0.size)) (Nat.le_succ _) (.bool ng2) (.slice p1 r1.length q1))
    skip
    have hs9 := HS0.out
    have s_1 := hb1.size
    have s_2 := hb2.size
    have O1 := hide ((o1.below hb2).set2 (w.heap.size + 1) (by omega) (.bool ng2) (.slice p1 r1.length q1))
    have O2 := hide (show Li w.heap.size _ _ p1 q1 r1 from ⟨O1.out.ow.mono (by omega), fun h0 g off e => by have := O1.out.lies h0 g off e; exact ⟨by omega, Nat.lt_of_lt_of_le this.2 (show w1.heap.size ≤ ((w2.setCell ⟨w.heap.size + 1, 0, none⟩ (.bool ng2)).setCell ⟨w.heap.size + 1, 1, none⟩ (.slice p1 r1.length q1)).heap.size by simp [World.setCell]; exact s_2)⟩⟩)
    clear O1
    go_wp2
    refine bodyPost_ret (v := .agg #[.bool ng2, .slice p1 r1.length q1]) ?_ rfl ⟨ng2, p1, q1, r1, rfl, by rw [← sg_sub]; exact Y.out, by omega, O2.out, Z.out⟩
    simp [results, Try.results66, go_sem, X.out.1, X.out.2.1]
set_option maxRecDepth 20000 in
set_option maxHeartbeats 1000000 in
theorem join_lto (w : World) (nx : Bool) (a1 : Option Addr) (n1 c1 : Nat) (xs : List Int) (hx : Sl w (.slice a1 n1 c1) xs) (a2 : Option Addr) (n2 c2 : Nat) (ys : List Int) (hy : Sl w (.slice a2 n2 c2) ys) (hm1 : xs.length ≤ 400000) (hm2 : ys.length ≤ 400000) (hlt : val xs < val ys) :
    Calls Try.prog 66 #[.agg #[.bool nx, .slice a1 n1 c1], .bool (!nx), .slice a2 n2 c2] w fun e w' => ∃ ng' ao cap rs, e = .returned (.agg #[.bool ng', .slice ao rs.length cap]) ∧ Wh w' ng' ao cap rs (sg nx (val xs) + sg (!nx) (val ys)) ∧ rs.length ≤ xs.length + ys.length + 1 ∧ Li w.heap.size w'.heap.size w' ao cap rs ∧ Below w.heap.size w w' := by
  obtain ⟨w0, e0, bx, br, hb0, hs0⟩ := boxed1 w nx (.slice a1 n1 c1)
  have E0 := hide e0
  have hx0 := hx.below hb0
  have hy0 := hy.below hb0
  have HS0 := hide hs0
  clear e0 hs0
  cases nx
  all_goals
    go_enter Try.func66, Try.ntmps66
    go_wp2_with fail
    rw [E0.out]
    obtain ⟨ca, cb, cc, cd⟩ := bx.facts
    obtain ⟨da, db, dc, dd⟩ := br.facts
    refine (sub_no _ _ _ _ _ _ _ xs ys hx0 hy0 hlt).mono ?_
    rintro e w9 ⟨rfl, hb9⟩
    have hx9 := hx0.below hb9
    have hy9 := hy0.below hb9
    have bx9 := bx.below hb9
    have br9 := br.below hb9
    obtain ⟨ia, ib, ic, id⟩ := bx9.facts
    go_wp2_with fail
    refine (sub_o _ _ _ _ _ _ _ ys xs hy9 hx9 (by omega) (by omega)).mono ?_
    rintro e w1 ⟨p1, q1, r1, rfl, G1, l1, o1, hb1⟩
    go_wp2_with fail
    refine (signed_g _ _ _ _ r1 _ G1 (by omega)).mono ?_
    rintro e w2 ⟨ng2, rfl, G2, hb2⟩
    have br2 := (br9.below hb1).below hb2
    obtain ⟨ka, kb, kc, kd⟩ := br2.facts
    have X := hide (br2.set ng2 (.slice p1 r1.length q1)).facts
    have Y := hide (br2.wh ng2 (.slice p1 r1.length q1) G2)
    have Z := hide (below_set2 (hb0.trans ((hb9.trans ((hb1.trans (hb2.mono hb1.size)).mono hb9.size)).mono hb0.size)) (Nat.le_succ _) (.bool ng2) (.slice p1 r1.length q1))
    skip
    have hs9 := HS0.out
    have s_9 := hb9.size
    have s_1 := hb1.size
    have s_2 := hb2.size
    have O1 := hide ((o1.below hb2).set2 (w.heap.size + 1) (by omega) (.bool ng2) (.slice p1 r1.length q1))
    have O2 := hide (show Li w.heap.size _ _ p1 q1 r1 from ⟨O1.out.ow.mono (by omega), fun h0 g off e => by have := O1.out.lies h0 g off e; exact ⟨by omega, Nat.lt_of_lt_of_le this.2 (show w1.heap.size ≤ ((w2.setCell ⟨w.heap.size + 1, 0, none⟩ (.bool ng2)).setCell ⟨w.heap.size + 1, 1, none⟩ (.slice p1 r1.length q1)).heap.size by simp [World.setCell]; exact s_2)⟩⟩)
    clear O1
    go_wp2
    refine bodyPost_ret (v := .agg #[.bool ng2, .slice p1 r1.length q1]) ?_ rfl ⟨ng2, p1, q1, r1, rfl, by rw [← sg_sub']; exact Y.out, by omega, O2.out, Z.out⟩
    simp [results, Try.results66, go_sem, X.out.1, X.out.2.1]
theorem join_o (w : World) (nx : Bool) (a1 : Option Addr) (n1 c1 : Nat) (xs : List Int) (hx : Sl w (.slice a1 n1 c1) xs) (ny : Bool) (a2 : Option Addr) (n2 c2 : Nat) (ys : List Int) (hy : Sl w (.slice a2 n2 c2) ys) (hm1 : xs.length ≤ 400000) (hm2 : ys.length ≤ 400000) :
    Calls Try.prog 66 #[.agg #[.bool nx, .slice a1 n1 c1], .bool ny, .slice a2 n2 c2] w fun e w' => ∃ ng' ao cap rs, e = .returned (.agg #[.bool ng', .slice ao rs.length cap]) ∧ Wh w' ng' ao cap rs (sg nx (val xs) + sg ny (val ys)) ∧ rs.length ≤ xs.length + ys.length + 1 ∧ Li w.heap.size w'.heap.size w' ao cap rs ∧ Below w.heap.size w w' := by
  by_cases hn : ny = nx
  · subst hn
    exact join_sameo w ny a1 n1 c1 xs hx a2 n2 c2 ys hy hm1 hm2
  · have hn' : ny = !nx := by cases nx <;> cases ny <;> simp_all
    subst hn'
    by_cases h : val ys ≤ val xs
    · exact join_geo w nx a1 n1 c1 xs hx a2 n2 c2 ys hy hm1 hm2 h
    · exact join_lto w nx a1 n1 c1 xs hx a2 n2 c2 ys hy hm1 hm2 (by omega)
set_option maxRecDepth 20000 in
set_option maxHeartbeats 400000 in
theorem wadd_o (w : World) (nx : Bool) (a1 : Option Addr) (n1 c1 : Nat) (xs : List Int) (hx : Sl w (.slice a1 n1 c1) xs) (ny : Bool) (a2 : Option Addr) (n2 c2 : Nat) (ys : List Int) (hy : Sl w (.slice a2 n2 c2) ys) (hm1 : xs.length ≤ 400000) (hm2 : ys.length ≤ 400000) :
    Calls Try.prog 37 #[.agg #[.bool nx, .slice a1 n1 c1], .agg #[.bool ny, .slice a2 n2 c2]] w fun e w' => ∃ ng' ao cap rs, e = .returned (.agg #[.bool ng', .slice ao rs.length cap]) ∧ Wh w' ng' ao cap rs (sg nx (val xs) + sg ny (val ys)) ∧ rs.length ≤ xs.length + ys.length + 1 ∧ Li w.heap.size w'.heap.size w' ao cap rs ∧ Below w.heap.size w w' := by
  obtain ⟨w0, e0, bx, by', br, hb0, hs0⟩ := boxed3 w nx (.slice a1 n1 c1) ny (.slice a2 n2 c2)
  have E0 := hide e0
  have hx0 := hx.below hb0
  have hy0 := hy.below hb0
  have HS0 := hide hs0
  clear e0 hs0
  go_enter Try.func37, Try.ntmps37
  go_wp2_with fail
  rw [E0.out]
  obtain ⟨ca, cb, cc, cd⟩ := bx.facts
  obtain ⟨ea, eb, ec, ed⟩ := by'.facts
  obtain ⟨da, db, dc, dd⟩ := br.facts
  refine (join_o _ nx _ _ _ xs hx0 ny _ _ _ ys hy0 hm1 hm2).mono ?_
  rintro e w1 ⟨ng2, p1, q1, r1, rfl, G2, l1, o1, hb1⟩
  have br2 := br.below hb1
  obtain ⟨ka, kb, kc, kd⟩ := br2.facts
  have X := hide (br2.set ng2 (.slice p1 r1.length q1)).facts
  have Y := hide (br2.wh ng2 (.slice p1 r1.length q1) G2)
  have Z := hide (below_set2 (hb0.trans (hb1.mono hb0.size)) (Nat.le_add_right _ 2) (.bool ng2) (.slice p1 r1.length q1))
  skip
  have hs9 := HS0.out
  have s_1 := hb1.size
  have O1 := hide (o1.set2 (w.heap.size + 1 + 1) (by omega) (.bool ng2) (.slice p1 r1.length q1))
  have O2 := hide (show Li w.heap.size _ _ p1 q1 r1 from ⟨O1.out.ow.mono (by omega), fun h0 g off e => by have := O1.out.lies h0 g off e; exact ⟨by omega, Nat.lt_of_lt_of_le this.2 (show w1.heap.size ≤ ((w1.setCell ⟨w.heap.size + 1 + 1, 0, none⟩ (.bool ng2)).setCell ⟨w.heap.size + 1 + 1, 1, none⟩ (.slice p1 r1.length q1)).heap.size by simp [World.setCell])⟩⟩)
  clear O1
  go_wp2
  refine bodyPost_ret (v := .agg #[.bool ng2, .slice p1 r1.length q1]) ?_ rfl ⟨ng2, p1, q1, r1, rfl, Y.out, by omega, O2.out, Z.out⟩
  simp [results, Try.results37, go_sem, X.out.1, X.out.2.1]
end Lm
end Go.Proofs.Ytpofkigboedliaa

namespace Go.Proofs.Ytpofkigboedliaa
namespace Dm
def Limb (zs : List Int) : Prop := ∀ z ∈ zs, 0 ≤ z ∧ z < 10000
def pw : Nat → Int
  | 0 => 1
  | n + 1 => 10000 * pw n
def val : List Int → Int
  | [] => 0
  | z :: zs => z + 10000 * val zs
def tl : List Int → Nat
  | [] => 0
  | z :: zs => if tl zs = 0 then (if z = 0 then 0 else 1) else tl zs + 1
def Canon (zs : List Int) : Prop := Limb zs ∧ tl zs = zs.length
theorem pw_pos (n : Nat) : 1 ≤ pw n := by
  induction n with
  | zero => simp [pw]
  | succ n ih => simp only [pw]; omega
theorem pw_add (m n : Nat) : pw (m + n) = pw m * pw n := by
  induction m with
  | zero => simp [pw]
  | succ m ih => rw [Nat.succ_add]; simp only [pw, ih, Int.mul_assoc]
theorem pw_mono {m n : Nat} (h : m ≤ n) : pw m ≤ pw n := by
  obtain ⟨k, rfl⟩ := Nat.le.dest h
  rw [pw_add]
  have h1 := pw_pos m
  have h2 := pw_pos k
  have : pw m * 1 ≤ pw m * pw k := Int.mul_le_mul_of_nonneg_left h2 (by omega)
  omega
theorem limb_nil : Limb [] := fun _ h => by cases h
theorem limb_cons {z : Int} {zs : List Int} : Limb (z :: zs) ↔ (0 ≤ z ∧ z < 10000) ∧ Limb zs := by
  constructor
  · intro h; exact ⟨h z (by simp), fun y hy => h y (by simp [hy])⟩
  · rintro ⟨h1, h2⟩ y hy
    simp at hy
    rcases hy with rfl | hy
    · exact h1
    · exact h2 y hy
theorem limb_append {xs ys : List Int} : Limb (xs ++ ys) ↔ Limb xs ∧ Limb ys := by
  constructor
  · intro h; exact ⟨fun y hy => h y (by simp [hy]), fun y hy => h y (by simp [hy])⟩
  · rintro ⟨h1, h2⟩ y hy
    simp at hy
    rcases hy with hy | hy
    · exact h1 y hy
    · exact h2 y hy
theorem limb_take {zs : List Int} (h : Limb zs) (k : Nat) : Limb (zs.take k) := fun y hy => h y (List.mem_of_mem_take hy)
theorem limb_drop {zs : List Int} (h : Limb zs) (k : Nat) : Limb (zs.drop k) := fun y hy => h y (List.mem_of_mem_drop hy)
theorem limb_getD {zs : List Int} (h : Limb zs) (i : Nat) : 0 ≤ zs.getD i 0 ∧ zs.getD i 0 < 10000 := by
  rw [List.getD_eq_getElem?_getD]
  cases hi : zs[i]? with
  | none => simp
  | some z => simpa using h z (List.mem_of_getElem? hi)
theorem val_append (xs ys : List Int) : val (xs ++ ys) = val xs + pw xs.length * val ys := by
  induction xs with
  | nil => simp [val, pw]
  | cons x xs ih =>
    simp only [List.cons_append, val, List.length_cons, pw, ih, Int.mul_add, Int.mul_assoc]
    omega
theorem val_bounds {zs : List Int} (h : Limb zs) : 0 ≤ val zs ∧ val zs < pw zs.length := by
  induction zs with
  | nil => simp [val, pw]
  | cons z zs ih =>
    have h' := limb_cons.1 h
    have := ih h'.2
    simp only [val, List.length_cons, pw]
    omega
theorem tl_le (zs : List Int) : tl zs ≤ zs.length := by
  induction zs with
  | nil => simp [tl]
  | cons z zs ih =>
    simp only [tl, List.length_cons]
    repeat' split
    all_goals omega
theorem tl_zero {zs : List Int} (h : tl zs = 0) : val zs = 0 := by
  induction zs with
  | nil => rfl
  | cons z zs ih =>
    simp only [tl] at h
    by_cases h0 : tl zs = 0
    · rw [if_pos h0] at h
      by_cases hz : z = 0
      · simp [val, ih h0, hz]
      · rw [if_neg hz] at h; omega
    · rw [if_neg h0] at h; omega
theorem val_take_tl (zs : List Int) : val (zs.take (tl zs)) = val zs := by
  induction zs with
  | nil => rfl
  | cons z zs ih =>
    simp only [tl]
    by_cases h0 : tl zs = 0
    · rw [if_pos h0]
      by_cases hz : z = 0
      · simp [hz, val, tl_zero h0]
      · simp [hz, val, tl_zero h0]
    · rw [if_neg h0]
      simp [val, ih]
theorem tl_take_tl (zs : List Int) : tl (zs.take (tl zs)) = tl zs := by
  induction zs with
  | nil => rfl
  | cons z zs ih =>
    by_cases h0 : tl zs = 0
    · by_cases hz : z = 0
      · simp [tl, h0, hz]
      · simp [tl, h0, hz]
    · have e : tl (z :: zs) = tl zs + 1 := by simp [tl, h0]
      rw [e, List.take_succ_cons]
      simp [tl, ih, h0]
theorem canon_trim {zs : List Int} (h : Limb zs) : Canon (zs.take (tl zs)) :=
  ⟨limb_take h _, by rw [tl_take_tl, List.length_take, Nat.min_eq_left (tl_le zs)]⟩
theorem canon_nil : Canon [] := ⟨limb_nil, rfl⟩
theorem tl_le_of_zero {zs : List Int} {n : Nat} (h : tl zs ≤ n + 1) (h0 : zs.getD n 0 = 0) : tl zs ≤ n := by
  induction zs generalizing n with
  | nil => simp [tl]
  | cons z zs ih =>
    simp only [tl] at h ⊢
    by_cases ht : tl zs = 0
    · rw [if_pos ht] at h ⊢
      by_cases hz : z = 0
      · rw [if_pos hz]; omega
      · rw [if_neg hz]
        cases n with
        | zero => simp at h0; exact absurd h0 hz
        | succ n => omega
    · rw [if_neg ht] at h ⊢
      cases n with
      | zero => omega
      | succ n =>
        have := ih (n := n) (by omega) (by simpa using h0)
        omega
theorem tl_gt {zs : List Int} {n : Nat} (h0 : zs.getD n 0 ≠ 0) : n + 1 ≤ tl zs := by
  induction zs generalizing n with
  | nil => simp at h0
  | cons z zs ih =>
    cases n with
    | zero =>
      simp at h0
      simp only [tl, h0, if_false]
      split <;> omega
    | succ n =>
      have := ih (n := n) (by simpa using h0)
      simp only [tl]
      rw [if_neg (by omega)]
      omega
theorem canon_cons {z : Int} {zs : List Int} (h : Canon (z :: zs)) : Canon zs ∧ (zs = [] → z ≠ 0) := by
  obtain ⟨h1, h2⟩ := h
  have hl := tl_le zs
  simp only [tl, List.length_cons] at h2
  refine ⟨⟨(limb_cons.1 h1).2, ?_⟩, ?_⟩
  · by_cases h0 : tl zs = 0
    · rw [if_pos h0] at h2
      by_cases hz : z = 0
      · rw [if_pos hz] at h2; omega
      · rw [if_neg hz] at h2; omega
    · rw [if_neg h0] at h2; omega
  · rintro rfl hz
    simp [tl, hz] at h2
theorem canon_low {zs : List Int} (h : Canon zs) (h0 : zs ≠ []) : pw (zs.length - 1) ≤ val zs := by
  induction zs with
  | nil => exact absurd rfl h0
  | cons z zs ih =>
    have hc := canon_cons h
    have hz := (limb_cons.1 h.1).1
    cases zs with
    | nil =>
      have := hc.2 rfl
      simp [val, pw]
      omega
    | cons y ys =>
      have := ih hc.1 (by simp)
      simp only [List.length_cons, Nat.add_sub_cancel, pw] at this ⊢
      rw [val]
      omega
theorem canon_one {xs ys : List Int} (hx : Canon xs) (hy : Canon ys) (h : val xs = val ys) : xs = ys := by
  induction xs generalizing ys with
  | nil =>
    cases ys with
    | nil => rfl
    | cons y ys =>
      have := canon_low hy (by simp)
      have := pw_pos ((y :: ys).length - 1)
      have h0 : 0 = val (y :: ys) := h
      omega
  | cons x xs ih =>
    cases ys with
    | nil =>
      have := canon_low hx (by simp)
      have := pw_pos ((x :: xs).length - 1)
      have h0 : val (x :: xs) = 0 := h
      omega
    | cons y ys =>
      have h1 := (limb_cons.1 hx.1).1
      have h2 := (limb_cons.1 hy.1).1
      simp only [val] at h
      have e : x = y := by omega
      have e' : val xs = val ys := by omega
      rw [e, ih (canon_cons hx).1 (canon_cons hy).1 e']
theorem canon_zero {zs : List Int} (h : Canon zs) : val zs = 0 ↔ zs = [] := by
  constructor
  · intro h0; exact canon_one h canon_nil h0
  · rintro rfl; rfl
theorem canon_lt {xs ys : List Int} (hx : Canon xs) (hy : Canon ys) (h : xs.length < ys.length) : val xs < val ys := by
  have h1 := (val_bounds hx.1).2
  have h2 := canon_low hy (by intro e; subst e; simp at h)
  have h3 := pw_mono (m := xs.length) (n := ys.length - 1) (by omega)
  omega
theorem val_pos_tl {zs : List Int} (h : Limb zs) (h0 : 0 < tl zs) : 0 < val zs := by
  have hl : (zs.take (tl zs)).length = tl zs := by have := tl_le zs; rw [List.length_take]; omega
  have h1 := canon_low (canon_trim h) (by intro e; rw [e] at hl; simp at hl; omega)
  have h2 := pw_pos ((zs.take (tl zs)).length - 1)
  rw [val_take_tl] at h1
  omega
theorem val_lt_at {xs ys : List Int} {k : Nat} (hx : Limb xs) (hy : Limb ys) (hl : xs.length = ys.length) (hk : k < xs.length) (hd : xs.drop (k + 1) = ys.drop (k + 1)) (h : xs.getD k 0 < ys.getD k 0) : val xs < val ys := by
  induction k generalizing xs ys with
  | zero =>
    cases xs with
    | nil => simp at hk
    | cons x xs =>
      cases ys with
      | nil => simp at hl
      | cons y ys =>
        simp at hd h
        subst hd
        simp only [val]
        omega
  | succ k ih =>
    cases xs with
    | nil => simp at hk
    | cons x xs =>
      cases ys with
      | nil => simp at hl
      | cons y ys =>
        have h1 := limb_cons.1 hx
        have h2 := limb_cons.1 hy
        have := ih h1.2 h2.2 (by simpa using hl) (by simpa using hk) (by simpa using hd) (by simpa using h)
        simp only [val]
        omega
theorem take_succ_getD (zs : List Int) (k : Nat) (h : k < zs.length) : zs.take (k + 1) = zs.take k ++ [zs.getD k 0] := by
  rw [List.take_succ_eq_append_getElem h, List.getD_eq_getElem?_getD, List.getElem?_eq_getElem h]
  rfl
theorem drop_getD (zs : List Int) (k : Nat) (h : k < zs.length) : zs.drop k = zs.getD k 0 :: zs.drop (k + 1) := by
  rw [List.drop_eq_getElem_cons h, List.getD_eq_getElem?_getD, List.getElem?_eq_getElem h]
  rfl
def vf (zs : List Int) : Nat → Int
  | 0 => 0
  | k + 1 => vf zs k + pw k * zs.getD k 0
theorem vf_take (zs : List Int) (k : Nat) : vf zs k = val (zs.take k) := by
  induction k with
  | zero => simp [vf, val]
  | succ k ih =>
    by_cases h : k < zs.length
    · rw [take_succ_getD zs k h, val_append, vf, ih, List.length_take, Nat.min_eq_left (by omega)]
      simp [val]
    · rw [vf, ih, List.take_of_length_le (by omega), List.take_of_length_le (by omega)]
      have : zs.getD k 0 = 0 := by rw [List.getD_eq_getElem?_getD, List.getElem?_eq_none (by omega)]; rfl
      rw [this]; omega
theorem vf_all (zs : List Int) (k : Nat) (h : zs.length ≤ k) : vf zs k = val zs := by
  rw [vf_take, List.take_of_length_le h]
theorem val_snoc (ps : List Int) (x : Int) : val (ps ++ [x]) = val ps + pw ps.length * x := by
  rw [val_append]; simp [val]
theorem set_cons (zs qs : List Int) (k : Nat) (x : Int) (h : k < zs.length) : (zs.take (k + 1) ++ qs).set k x = zs.take k ++ x :: qs := by
  rw [take_succ_getD zs k h]
  have : (zs.take k).length = k := by rw [List.length_take]; omega
  rw [List.append_assoc, List.set_append_right _ _ (by omega)]
  simp [this]
end Dm
end Go.Proofs.Ytpofkigboedliaa

namespace Go.Proofs.Ytpofkigboedliaa
namespace Dm
open Go.RowKit
theorem hide {p : Prop} (h : p) : Hid p := h
def Sl (w : World) (v : Value) (zs : List Int) : Prop :=
  ∃ ao cap, v = .slice ao zs.length cap ∧ zs.length ≤ cap ∧ cap ≤ maxLen ∧ Limb zs ∧
    (zs = [] ∨ ∃ b off, ao = some ⟨b, off, none⟩ ∧ ∀ i, i < zs.length → w.cell? ⟨b, off + i, none⟩ = some (.int .i64 (zs.getD i 0)))
def At (cur : Array Value) (k : IntKind) (off : Nat) (zs : List Int) : Prop := ∀ i, i < zs.length → cur[off + i]? = some (.int k (zs.getD i 0))
def Ow (B : Nat) (w : World) (v : Value) (zs : List Int) : Prop :=
  ∃ ao cap, v = .slice ao zs.length cap ∧ zs.length ≤ cap ∧ cap ≤ maxLen ∧ Limb zs ∧
    (cap = 0 ∨ ∃ g off cur, ao = some ⟨g, off, none⟩ ∧ B ≤ g ∧ w.heap[g]? = some (.cells cur 3 (0, 0)) ∧ off + cap ≤ cur.size ∧ At cur .i64 off zs)
structure Wr (w w' : World) (g : Nat) (cur : Array Value) (e : TypeId) : Prop where
  os : w'.os = w.os
  tape : w'.tape = w.tape
  output : w'.output = w.output
  size : w'.heap.size = w.heap.size
  here : w'.heap[g]? = some (.cells cur e (0, 0))
  other : ∀ k, k ≠ g → w'.heap[k]? = w.heap[k]?
def Is (B : Nat) (w : World) (v : Value) (x : Int) : Prop := ∃ rs, Ow B w v rs ∧ Canon rs ∧ val rs = x
theorem lt_of_cell {w : World} {b off : Nat} {v : Value} (h : w.cell? ⟨b, off, none⟩ = some v) : b < w.heap.size := by
  apply Classical.byContradiction
  intro hn
  have : w.heap[b]? = none := Array.getElem?_eq_none (by omega)
  simp [World.cell?, this] at h
theorem lt_of_heap {w : World} {b : Nat} {o : Obj} (h : w.heap[b]? = some o) : b < w.heap.size := by
  apply Classical.byContradiction
  intro hn
  rw [Array.getElem?_eq_none (by omega)] at h
  cases h
theorem Sl.below {w w' : World} {v : Value} {zs : List Int} (h : Sl w v zs) (hb : Below w.heap.size w w') : Sl w' v zs := by
  obtain ⟨ao, cap, rfl, h1, h2, h3, h4⟩ := h
  refine ⟨ao, cap, rfl, h1, h2, h3, ?_⟩
  rcases h4 with h4 | ⟨b, off, rfl, hc⟩
  · exact .inl h4
  · refine .inr ⟨b, off, rfl, fun i hi => ?_⟩
    have h5 := hc i hi
    rw [hb.cell (p := ⟨b, off + i, none⟩) (lt_of_cell h5)]
    exact h5
theorem Ow.sl {B : Nat} {w : World} {v : Value} {zs : List Int} (h : Ow B w v zs) : Sl w v zs := by
  obtain ⟨ao, cap, rfl, h1, h2, h3, h4⟩ := h
  refine ⟨ao, cap, rfl, h1, h2, h3, ?_⟩
  rcases h4 with h4 | ⟨g, off, cur, rfl, _, hh, hs, ha⟩
  · exact .inl (List.eq_nil_of_length_eq_zero (by omega))
  · exact .inr ⟨g, off, rfl, fun i hi => by rw [cell_of_row w g (off + i) cur _ (0, 0) hh]; exact ha i hi⟩
theorem Ow.below {B : Nat} {w w' : World} {v : Value} {zs : List Int} (h : Ow B w v zs) (hb : Below w.heap.size w w') : Ow B w' v zs := by
  obtain ⟨ao, cap, rfl, h1, h2, h3, h4⟩ := h
  refine ⟨ao, cap, rfl, h1, h2, h3, ?_⟩
  rcases h4 with h4 | ⟨g, off, cur, rfl, hg, hh, hs, ha⟩
  · exact .inl h4
  · exact .inr ⟨g, off, cur, rfl, hg, by rw [hb.block g (lt_of_heap hh)]; exact hh, hs, ha⟩
theorem At.set {cur : Array Value} {k : IntKind} {off : Nat} {zs : List Int} (h : At cur k off zs) (j : Nat) (x : Int) : At (cur.setIfInBounds (off + j) (.int k x)) k off (zs.set j x) := by
  intro i hi
  rw [List.length_set] at hi
  have h1 := h i hi
  have hb : off + i < cur.size := by
    apply Classical.byContradiction
    intro hn
    rw [Array.getElem?_eq_none (by omega)] at h1
    cases h1
  rw [Array.getElem?_setIfInBounds, List.getD_eq_getElem?_getD, List.getElem?_set]
  by_cases hj : j = i
  · subst hj
    simp [hi, hb]
  · rw [if_neg (by omega), if_neg hj, h1, List.getD_eq_getElem?_getD]
theorem At.cell {cur : Array Value} {k : IntKind} {off : Nat} {zs : List Int} (h : At cur k off zs) {w : World} {g : Nat} {e : TypeId} (hh : w.heap[g]? = some (.cells cur e (0, 0))) (i : Nat) (hi : i < zs.length) : w.cell? ⟨g, off + i, none⟩ = some (.int k (zs.getD i 0)) := by
  rw [cell_of_row w g (off + i) cur _ (0, 0) hh]; exact h i hi
theorem Wr.refl {w : World} {g : Nat} {cur : Array Value} {e : TypeId} (h : w.heap[g]? = some (.cells cur e (0, 0))) : Wr w w g cur e := ⟨rfl, rfl, rfl, rfl, h, fun _ _ => rfl⟩
theorem Wr.drew {w w' : World} {g : Nat} {cur : Array Value} {e : TypeId} (h : Wr w w' g cur e) : Wr w w'.drew g cur e := ⟨h.os, h.tape, h.output, h.size, h.here, h.other⟩
theorem Wr.set {w w' : World} {g : Nat} {cur : Array Value} {e : TypeId} (h : Wr w w' g cur e) (i : Nat) (u : Value) : Wr w (w'.setCell ⟨g, i, none⟩ u) g (cur.setIfInBounds i u) e :=
  ⟨h.os, h.tape, h.output, by simp [World.setCell, h.size], heap_setCell_same w' g i cur e u h.here, fun k hk => (heap_setCell_other w' ⟨g, i, none⟩ k u hk).trans (h.other k hk)⟩
theorem Wr.trans {w w' w'' : World} {g : Nat} {cur cur' : Array Value} {e : TypeId} (h : Wr w w' g cur e) (h' : Wr w' w'' g cur' e) : Wr w w'' g cur' e :=
  ⟨h'.os.trans h.os, h'.tape.trans h.tape, h'.output.trans h.output, h'.size.trans h.size, h'.here, fun k hk => (h'.other k hk).trans (h.other k hk)⟩
theorem Wr.free {w w' : World} {g : Nat} {cur : Array Value} {e : TypeId} (h : Wr w w' g cur e) (i : Nat) : w'.frozen? ⟨g, i, none⟩ = false := frozen_of_row w' g i cur e h.here
theorem Wr.below {w w' : World} {g : Nat} {cur : Array Value} {e : TypeId} (h : Wr w w' g cur e) {B : Nat} (hB : B ≤ g) : Below B w w' :=
  ⟨h.os, h.tape, h.output, by rw [h.size]; exact Nat.le_refl _, fun k hk => h.other k (by omega)⟩
theorem Sl.parts {w : World} {ao : Option Addr} {n cap : Nat} {zs : List Int} (h : Sl w (.slice ao n cap) zs) : n = zs.length ∧ zs.length ≤ cap ∧ cap ≤ 9223372036854775807 ∧ Limb zs := by
  obtain ⟨ao', cap', hv, h1, h2, h3, h4⟩ := h
  obtain ⟨rfl, rfl, rfl⟩ := (Value.slice.injEq .. ▸ hv)
  exact ⟨rfl, h1, h2, h3⟩
theorem Sl.cells {w : World} {ao : Option Addr} {n cap : Nat} {zs : List Int} (h : Sl w (.slice ao n cap) zs) (hp : 0 < zs.length) : ∃ b off, ao = some ⟨b, off, none⟩ ∧ ∀ i, i < zs.length → w.cell? ⟨b, off + i, none⟩ = some (.int .i64 (zs.getD i 0)) := by
  obtain ⟨ao', cap', hv, h1, h2, h3, h4⟩ := h
  obtain ⟨rfl, rfl, rfl⟩ := (Value.slice.injEq .. ▸ hv)
  rcases h4 with rfl | h4
  · simp at hp
  · exact h4
theorem Sl.take {w : World} {ao : Option Addr} {n cap : Nat} {zs : List Int} (h : Sl w (.slice ao n cap) zs) {k : Nat} (hk : k ≤ zs.length) : Sl w (.slice ao k cap) (zs.take k) := by
  obtain ⟨ao', cap', hv, h1, h2, h3, h4⟩ := h
  obtain ⟨rfl, rfl, rfl⟩ := (Value.slice.injEq .. ▸ hv)
  have hl : (zs.take k).length = k := by rw [List.length_take]; omega
  refine ⟨ao, cap, by rw [hl], by omega, h2, limb_take h3 _, ?_⟩
  rcases h4 with rfl | ⟨b, off, rfl, hc⟩
  · exact .inl (by simp)
  · refine .inr ⟨b, off, rfl, fun i hi => ?_⟩
    rw [hc i (by omega), List.getD_eq_getElem?_getD, List.getD_eq_getElem?_getD, List.getElem?_take, if_pos (by omega)]
theorem Ow.take {B : Nat} {w : World} {ao : Option Addr} {n cap : Nat} {zs : List Int} (h : Ow B w (.slice ao n cap) zs) {k : Nat} (hk : k ≤ zs.length) : Ow B w (.slice ao k cap) (zs.take k) := by
  obtain ⟨ao', cap', hv, h1, h2, h3, h4⟩ := h
  obtain ⟨rfl, rfl, rfl⟩ := (Value.slice.injEq .. ▸ hv)
  have hl : (zs.take k).length = k := by rw [List.length_take]; omega
  refine ⟨ao, cap, by rw [hl], by omega, h2, limb_take h3 _, ?_⟩
  rcases h4 with h4 | ⟨g, off, cur, rfl, hg, hh, hs, ha⟩
  · exact .inl h4
  · refine .inr ⟨g, off, cur, rfl, hg, hh, hs, fun i hi => ?_⟩
    rw [ha i (by omega), List.getD_eq_getElem?_getD, List.getD_eq_getElem?_getD, List.getElem?_take, if_pos (by omega)]
theorem Wr.sl {w w' : World} {g : Nat} {cur : Array Value} {e : TypeId} (h : Wr w w' g cur e) {B : Nat} {w0 : World} (hB : B ≤ g) (hb : Below B w0 w) (hs : w0.heap.size = B) {v : Value} {zs : List Int} (hv : Sl w0 v zs) : Sl w' v zs := by
  subst hs
  exact hv.below (hb.trans (h.below hB))
end Dm
end Go.Proofs.Ytpofkigboedliaa

namespace Go.Proofs.Ytpofkigboedliaa
namespace Dm
open Go.RowKit
set_option maxRecDepth 20000 in
set_option maxHeartbeats 400000 in
theorem cut_any (w : World) (ao : Option Addr) (n cap : Nat) (zs : List Int) (h : Sl w (.slice ao n cap) zs) :
    Calls Try.prog 89 #[.slice ao n cap] w fun e w' => e = .returned (.slice ao (tl zs) cap) ∧ w' = w := by
  obtain ⟨ao', cap', hv, h1, h2, h3, h4⟩ := h
  obtain ⟨rfl, rfl, rfl⟩ := (Value.slice.injEq .. ▸ hv)
  unfold maxLen at h2
  have ht := tl_le zs
  go_enter Try.func89, Try.ntmps89
  go_wp2
  go_loop [3] (fun n => ∃ k : Nat, k ≤ zs.length ∧ tl zs ≤ k ∧ n = .int .i64 k) (fun n => (intOf n).toNat)
  case atStart => exact ⟨zs.length, Nat.le_refl _, ht, rfl⟩
  case round =>
    obtain ⟨k, hk, hk2, rfl⟩ := hrel
    cases k with
    | zero =>
      have hz : tl zs = 0 := by omega
      have HZ : Hid (tl zs = 0) := hz
      clear hz
      go_wp2
      go_ret
      exact ⟨by rw [HZ.out]; rfl, rfl⟩
    | succ k =>
      rcases h4 with h4 | ⟨b, off, rfl, hc⟩
      · subst h4; simp at hk
      have hcell := hc k (by omega)
      by_cases h0 : zs.getD k 0 = 0
      · have hle := tl_le_of_zero hk2 h0
        rw [h0] at hcell
        clear h0 hc
        go_wp2
        go_round
        case rel => exact ⟨k, by omega, hle, by go_num⟩
        case measure => simp [intOf]
      · have hgt := tl_gt h0
        have HZ : Hid (tl zs = k + 1) := by show _ = _; omega
        have hb : (zs.getD k 0 == 0) = false := by simpa using h0
        generalize zs.getD k 0 = z at hcell hb
        clear h0 hc
        go_wp2
        go_ret
        exact ⟨by rw [HZ.out]; rfl, rfl⟩
end Dm
end Go.Proofs.Ytpofkigboedliaa

namespace Go.Proofs.Ytpofkigboedliaa
namespace Dm
open Go.RowKit
theorem info64 : (Try.prog.info? 3).map (fun i => (i.zero, i.size, i.bytes)) = some (some (.int .i64 0), 1, 8) := by kernel_rfl
theorem ow_of_row {w : World} {B : Nat} {v : Value} {n : Nat} {zs : List Int} (h : w.ownsRow B 3 1 v n (zs.map (Value.int .i64))) (hz : Limb zs) : Ow B w v zs := by
  obtain ⟨h1, h2⟩ := h
  have hn : zs.length = n := by simpa using h1
  subst hn
  rcases h2 with ⟨rfl, h3⟩ | ⟨g, cap, cur, rfl, hg, hh, hc1, hc2, hs, ht⟩
  · exact ⟨none, 0, by rw [h3], by omega, by simp [maxLen], hz, .inl rfl⟩
  · refine ⟨_, cap, rfl, hc1, hc2, hz, .inr ⟨g, 0, cur, rfl, hg, hh, by omega, fun i hi => ?_⟩⟩
    have e : (cur.toList.take (zs.length * 1))[i]? = (zs.map (Value.int .i64))[i]? := by rw [ht]
    rw [List.getElem?_take, if_pos (by omega)] at e
    rw [Nat.zero_add, ← Array.getElem?_toList, e, List.getElem?_map, List.getElem?_eq_getElem hi, List.getD_eq_getElem?_getD, List.getElem?_eq_getElem hi]
    rfl
theorem Ow.is_cut {B : Nat} {w : World} {ao : Option Addr} {n cap : Nat} {zs : List Int} {x : Int} (h : Ow B w (.slice ao n cap) zs) (hv : val zs = x) : Is B w (.slice ao (tl zs) cap) x := by
  have hl := h.sl.parts.2.2.2
  exact ⟨zs.take (tl zs), h.take (tl_le zs), canon_trim hl, by rw [val_take_tl, hv]⟩
theorem small_val {A ds : List Int} {k : Nat} {a c m more s : Int} (hk : ds.length = k) (ha : A.getD k 0 = a) (hs : s = c + a * m) (h : val ds + pw k * c = vf A k * m + more) :
    val (ds ++ [s % 10000]) + pw (k + 1) * (s / 10000) = vf A (k + 1) * m + more := by
  rw [val_snoc, vf, ha, hk, pw, Int.add_mul]
  have e : s = s % 10000 + 10000 * (s / 10000) := by omega
  have e2 : pw k * (s % 10000) + 10000 * pw k * (s / 10000) = pw k * s := by
    rw [Int.mul_comm 10000 (pw k), Int.mul_assoc, ← Int.mul_add, ← e]
  have e3 : pw k * a * m = pw k * (a * m) := by rw [Int.mul_assoc]
  rw [Int.add_assoc, e2, hs, Int.mul_add, e3]
  omega
theorem small_bound {a m : Int} (ha : 0 ≤ a ∧ a < 10000) (hm : 0 ≤ m ∧ m ≤ 4294967296) : 0 ≤ a * m ∧ a * m ≤ 42945378000704 := by
  refine ⟨Int.mul_nonneg ha.1 hm.1, ?_⟩
  have h1 : a * m ≤ 9999 * m := Int.mul_le_mul_of_nonneg_right (by omega) hm.1
  omega
theorem step_own {w wr w1 : World} {v v' : Value} {k : Nat} {ds : List Int} {z : Int} {o : Obj} (h : w1.ownsRow w.heap.size 3 1 v' (k + 1) (ds.map (Value.int .i64) ++ [.int .i64 z])) (hg : (wr.alloc o).grownBy w1 v.ownBlock) (hb : Below w.heap.size w wr) (hl : ∀ j, v.ownBlock = some j → w.heap.size ≤ j ∧ j < wr.heap.size) :
    w1.ownsRow w.heap.size 3 1 v' (k + 1) ((ds ++ [z]).map (Value.int .i64)) ∧ Below w.heap.size w w1 := by
  refine ⟨by simpa using h, ((hb.alloc hb.size o).grown hg ?_ (fun j hj => (hl j hj).1))⟩
  have := hb.size
  simp
  omega
set_option maxRecDepth 20000 in
set_option maxHeartbeats 1000000 in
theorem small_any (w : World) (ao : Option Addr) (n cap : Nat) (A : List Int) (hA : Sl w (.slice ao n cap) A) (m more : Int) (hm : 0 ≤ m ∧ m ≤ 4294967296) (hmo : 0 ≤ more ∧ more ≤ 4294967296) (hl : A.length ≤ 1000000) :
    Calls Try.prog 90 #[.slice ao n cap, .int .i64 m, .int .i64 more] w fun e w' => ∃ v, e = .returned v ∧ Is w.heap.size w' v (val A * m + more) ∧ Below w.heap.size w w' := by
  obtain ⟨rfl, h1, h2, h3⟩ := hA.parts
  obtain ⟨i0, hi, hz0, hz1, hz2⟩ := info_parts info64
  have H3 := hide h3
  clear h3
  go_enter Try.func90, Try.ntmps90
  go_wp2
  go_loopw [7, 8, 9] (fun dv cv iv wr => ∃ (k : Nat) (c : Int) (ds : List Int), cv = .int .i64 c ∧ iv = .int .i64 k ∧ (0 ≤ c ∧ c ≤ 4294967296) ∧ (k : Int) + c ≤ (A.length : Int) + 4294967296 ∧ ds.length = k ∧ Limb ds ∧ val ds + pw k * c = vf A k * m + more ∧ wr.ownsRow w.heap.size 3 1 dv k (ds.map (Value.int .i64)) ∧ Below w.heap.size w wr) (fun _ cv iv _ => (A.length - (intOf iv).toNat) * 8589934592 + (intOf cv).toNat)
  case atStart => exact ⟨0, more, [], rfl, rfl, hmo, by omega, rfl, limb_nil, by simp [val, vf, pw], World.ownsRow_nil _ _ _ _, Below.refl _ _⟩
  case round =>
    obtain ⟨k, c, ds, rfl, rfl, hc, hkc, hdl, hd, hval, hown, hbel⟩ := hrel
    have HD := hide hd
    have HDL := hide hdl
    have HV := hide hval
    clear hd hdl hval
    have hsz := hbel.size
    by_cases hlt : k < A.length
    · have sA := hA.below hbel
      obtain ⟨b, off, rfl, hca⟩ := sA.cells (by omega)
      have ca := hca k hlt
      have ba := limb_getD H3.out k
      obtain ⟨a, hak⟩ : ∃ a, A.getD k 0 = a := ⟨_, rfl⟩
      rw [hak] at ca ba
      have bm := small_bound ba hm
      have HV' := hide (small_val (m := m) HDL.out hak rfl HV.out)
      have d1 : decide ((k : Int) < (A.length : Int)) = true := by simp; omega
      have d2 : (k : Int) < (A.length : Int) := by omega
      clear hak sA hca
      go_wp2_with (at_builtin; refine wpList_append_own _ rfl (.tmp 33) (.tmp 36) 61 rfl w.heap.size 3 i0 (.int .i64 0) 1 8 Try.underlying61 hi hz0 hz1 hz2 rfl (by decide) _ _ _ rfl (hown.alloc _) ⟨wr.heap.size, 0, none⟩ 1 1 [.int .i64 ((c + a * m) % 10000)] rfl rfl (cell_one_new _ _ _) ?c2 ?c3 ?c4 ?c5 ?_)
      case c2 => first | rfl | (intro u hu; simp at hu; subst hu; rfl)
      case c3 => unfold maxLen; omega
      case c4 => omega
      case c5 => first | omega | (simp; omega)
      intro v' w1 hown' hgrow _
      have R := step_own hown' hgrow hbel (hown.lt)
      clear hown' hgrow hown
      go_wp2
      go_roundw
      case rel => exact ⟨k + 1, _, ds ++ [(c + a * m) % 10000], rfl, by go_num, by omega, by omega, by have := HDL.out; simp; omega, limb_append.2 ⟨HD.out, limb_cons.2 ⟨by omega, limb_nil⟩⟩, HV'.out, R.1, R.2⟩
      case measure => simp [intOf]; omega
    · have hak : A.getD k 0 = 0 := by rw [List.getD_eq_getElem?_getD, List.getElem?_eq_none (by omega)]; rfl
      have d1 : decide ((k : Int) < (A.length : Int)) = false := by simp; omega
      have d2 : ¬ (k : Int) < (A.length : Int) := by omega
      by_cases hc0 : 0 < c
      · have HV' := hide (small_val (m := m) (s := c) HDL.out hak (by omega) HV.out)
        clear hak
        go_wp2_with (at_builtin; refine wpList_append_own _ rfl (.tmp 33) (.tmp 36) 61 rfl w.heap.size 3 i0 (.int .i64 0) 1 8 Try.underlying61 hi hz0 hz1 hz2 rfl (by decide) _ _ _ rfl (hown.alloc _) ⟨wr.heap.size, 0, none⟩ 1 1 [.int .i64 (c % 10000)] rfl rfl (cell_one_new _ _ _) ?c2' ?c3' ?c4' ?c5' ?_)
        case c2' => first | rfl | (intro u hu; simp at hu; subst hu; rfl)
        case c3' => unfold maxLen; omega
        case c4' => omega
        case c5' => first | omega | (simp; omega)
        intro v' w1 hown' hgrow _
        have R := step_own hown' hgrow hbel (hown.lt)
        clear hown' hgrow hown
        go_wp2
        go_roundw
        case rel => exact ⟨k + 1, c / 10000, ds ++ [c % 10000], rfl, by go_num, by omega, by omega, by have := HDL.out; simp; omega, limb_append.2 ⟨HD.out, limb_cons.2 ⟨by omega, limb_nil⟩⟩, HV'.out, R.1, R.2⟩
        case measure => simp [intOf]; omega
      · have hc1 : c = 0 := by omega
        subst hc1
        have how := ow_of_row hown HD.out
        have hvv : val ds = val A * m + more := by
          have := HV.out
          rw [Int.mul_zero, Int.add_zero, vf_all A _ (by omega)] at this
          exact this
        obtain ⟨ao', cap', rfl, o1, o2, o3, o4⟩ := how
        have how' : Ow w.heap.size wr (.slice ao' ds.length cap') ds := ⟨ao', cap', rfl, o1, o2, o3, o4⟩
        have his := how'.is_cut hvv
        clear hvv o3 o4 hown hak
        go_wp2_with fail
        refine (cut_any _ _ _ _ _ how'.sl).mono ?_
        rintro e w2 ⟨rfl, rfl⟩
        go_wp2
        go_ret
        exact ⟨_, rfl, his, hbel⟩
end Dm
end Go.Proofs.Ytpofkigboedliaa

namespace Go.Proofs.Ytpofkigboedliaa
namespace Dm
open Go.RowKit
open Lm (hide lt_of_cell lt_of_heap div_of)
theorem block_of_made {w : World} {B g n : Nat} (h : w.ownsRow B 3 1 (.slice (some ⟨g, 0, none⟩) n n) n (madeCells #[Value.int .i64 0] n).toList) :
    B ≤ g ∧ ∃ cur, w.heap[g]? = some (.cells cur 3 (0, 0)) ∧ cur.size = n ∧ At cur .i64 0 (List.replicate n 0) := by
  rcases h.2 with ⟨h', _⟩ | ⟨g', cap', cur, h', hb, hg, _, _, hs, htake⟩
  · simp at h'
  · simp only [Value.slice.injEq, Option.some.injEq, Addr.mk.injEq, and_true, true_and] at h'
    obtain ⟨rfl, rfl⟩ := h'
    refine ⟨hb, cur, hg, by omega, fun i hi => ?_⟩
    simp at hi
    have e : (cur.toList.take (n * 1))[i]? = ((madeCells #[Value.int .i64 0] n).toList)[i]? := by rw [htake]
    rw [List.getElem?_take, if_pos (by omega)] at e
    rw [Nat.zero_add, ← Array.getElem?_toList, e, Array.getElem?_toList]
    have h0 : i < (Array.range n).size := by simpa using hi
    simp [madeCells, hi, List.getD_eq_getElem?_getD, Nat.mod_one]
theorem div_step {p r z d : Int} (hd : 0 < d) (h1 : 0 ≤ r) (h2 : r < d) (h3 : 0 ≤ z) (h4 : z < 10000) (hp : p = r * 10000 + z) : 0 ≤ p ∧ 0 ≤ p / d ∧ p / d < 10000 ∧ 0 ≤ p % d ∧ p % d < d ∧ p = p / d * d + p % d := by
  have h5 : 0 ≤ p := by omega
  have h6 : p < 10000 * d := by omega
  refine ⟨h5, Int.ediv_nonneg h5 (by omega), Int.ediv_lt_of_lt_mul hd h6, Int.emod_nonneg _ (by omega), Int.emod_lt_of_pos _ hd, ?_⟩
  have := Int.mul_ediv_add_emod p d
  rw [Int.mul_comm] at this
  omega
theorem div_val {zs qs : List Int} {k : Nat} {d r z p : Int} (hz : zs.drop k = z :: zs.drop (k + 1)) (h : val (zs.drop (k + 1)) = val qs * d + r) (hp : p = r * 10000 + z) (hq : p = p / d * d + p % d) : val (zs.drop k) = val (p / d :: qs) * d + p % d := by
  rw [hz, val, val, h]
  generalize p / d = q at hq ⊢
  generalize p % d = t at hq ⊢
  rw [Int.add_mul, Int.mul_assoc, Int.mul_add]
  generalize q * d = a at hq ⊢
  generalize val qs * d = b
  omega
set_option maxRecDepth 20000 in
set_option maxHeartbeats 1000000 in
theorem cutBy_any (w : World) (ao : Option Addr) (n cap : Nat) (A : List Int) (hA : Sl w (.slice ao n cap) A) (d : Int) (hd : 0 < d) (hd2 : d ≤ 4294967296) (hl : A.length ≤ 1000000) :
    Calls Try.prog 91 #[.slice ao n cap, .int .i64 d] w fun e w' => ∃ v, e = .returned (.tuple #[v, .int .i64 (val A % d)]) ∧ Is w.heap.size w' v (val A / d) ∧ Below w.heap.size w w' := by
  obtain ⟨rfl, h1, h2, h3⟩ := hA.parts
  obtain ⟨i0, hi, hz0, hz1, hz2⟩ := info_parts info64
  have H3 := hide h3
  clear h3
  go_enter Try.func91, Try.ntmps91
  go_wp2_with (refine wpList_make_full _ rfl (.tmp 10) (.tmp 10) 61 rfl w.heap.size 3 i0 (.int .i64 0) 1 Try.underlying61 hi hz0 hz1 .i64 .i64 _ _ A.length rfl rfl (by omega) (by omega) (by rw [hz2]; omega) (by unfold maxLen; omega) (Nat.le_refl _) ?hK)
  case hK =>
    intro w1 hown hgrow
    obtain ⟨_, cur, hh, hcs, hat⟩ := block_of_made hown
    have hb1 : Below w.heap.size w w1 := (Below.refl w.heap.size w).grown hgrow (Nat.le_refl _) (by simp)
    have HH := hide hh
    have HS := hide hcs
    have HA := hide hat
    clear hown hgrow hh hcs hat
    go_wp2
    go_loopw [7, 8] (fun rest i wr => ∃ (k : Nat) (r : Int) (qs : List Int) (cur' : Array Value), k ≤ A.length ∧ rest = .int .i64 r ∧ i = .int .i64 ((k : Int) - 1) ∧ 0 ≤ r ∧ r < d ∧ val (A.drop k) = val qs * d + r ∧ Limb qs ∧ qs.length + k = A.length ∧ Wr w1 wr w.heap.size cur' 3 ∧ cur'.size = A.length ∧ At cur' .i64 0 ((List.replicate A.length 0).take k ++ qs)) (fun _ i _ => (intOf i + 1).toNat)
    case atStart => exact ⟨A.length, 0, [], cur, Nat.le_refl _, rfl, rfl, by omega, by omega, by simp [val], limb_nil, by simp, Wr.refl HH.out, HS.out, by rw [List.take_of_length_le (by simp), List.append_nil]; exact HA.out⟩
    case round =>
      obtain ⟨k, r, qs, cur', hk, rfl, rfl, hr0, hr1, hval, hq, hql, hwr, hcs, hat⟩ := hrel
      have HV := hide hval
      have HQ := hide hq
      have HW := hide hwr
      have HT := hide hat
      have HC := hide hcs
      have HL := hide hql
      clear hval hq hwr hat hcs hql
      cases k with
      | zero =>
        have hat0 := HT.out
        rw [List.take_zero, List.nil_append] at hat0
        have hv0 := HV.out
        rw [List.drop_zero] at hv0
        have hdv := div_of hd hv0 hr0 hr1
        have how : Ow w.heap.size wr (.slice (some ⟨w.heap.size, 0, none⟩) A.length A.length) qs := by
          have := HL.out
          exact ⟨_, A.length, by rw [show qs.length = A.length by omega], by omega, by unfold maxLen; omega, HQ.out, .inr ⟨_, 0, _, rfl, Nat.le_refl _, HW.out.here, by rw [HC.out]; omega, hat0⟩⟩
        have hbel : Below w.heap.size w wr := hb1.trans (HW.out.below (Nat.le_refl _))
        have his := how.is_cut hdv.1.symm
        have HR := hide hdv.2
        clear hat0 hv0 hdv
        go_wp2_with fail
        refine (cut_any _ _ _ _ _ how.sl).mono ?_
        rintro e w2 ⟨rfl, rfl⟩
        go_wp2
        go_ret2
        refine ⟨_, ?_, his, hbel⟩
        rw [HR.out]
        rfl
      | succ k =>
        have sA := HW.out.sl (Nat.le_refl _) hb1 rfl hA
        obtain ⟨b, off, rfl, hca⟩ := sA.cells (by omega)
        have ca := hca k (by omega)
        have hz := limb_getD H3.out k
        have Hz := hide (drop_getD A k (by omega))
        generalize A.getD k 0 = z at ca hz Hz
        have hlen : ((List.replicate A.length (0 : Int)).take (k + 1) ++ qs).length = A.length := by have := HL.out; rw [List.length_append, List.length_take, List.length_replicate]; omega
        have hcell := HT.out.cell HW.out.here k (by rw [hlen]; omega)
        rw [Nat.zero_add] at hcell
        generalize ((List.replicate A.length (0 : Int)).take (k + 1) ++ qs).getD k 0 = old at hcell
        have hfree := HW.out.free k
        obtain ⟨s1, s2, s3, s4, s5, s6⟩ := div_step hd hr0 hr1 hz.1 hz.2 rfl
        have HV' := hide (div_val Hz.out HV.out rfl s6)
        have HQ' : Hid (Limb ((r * 10000 + z) / d :: qs)) := limb_cons.2 ⟨⟨s2, s3⟩, HQ.out⟩
        have HT' := hide ((HT.out.set k ((r * 10000 + z) / d)))
        have HW' := hide (HW.out.set k (.int .i64 ((r * 10000 + z) / d)))
        have t1 : (r * 10000 + z).tdiv d = (r * 10000 + z) / d := Int.tdiv_eq_ediv_of_nonneg s1
        clear s6 hlen sA hca
        go_wp2
        go_roundw
        case rel => exact ⟨k, (r * 10000 + z) % d, (r * 10000 + z) / d :: qs, _, by omega, rfl, rfl, s4, s5, HV'.out, HQ'.out, by have := HL.out; simp; omega, HW'.out, by simpa using HC.out, by rw [← set_cons _ qs k _ (by rw [List.length_replicate]; omega)]; simpa using HT'.out⟩
        case measure => simp [intOf]
set_option maxRecDepth 20000 in
set_option maxHeartbeats 400000 in
theorem made_any (w : World) (ng : Bool) (ao : Option Addr) (n cap : Nat) (A : List Int) (hA : Sl w (.slice ao n cap) A) :
    Calls Try.prog 67 #[.bool ng, .slice ao n cap] w fun e w' => e = .returned (.agg #[.bool (ng && decide (0 < tl A)), .slice ao (tl A) cap]) ∧ Below w.heap.size w w' := by
  have hb0 : Below w.heap.size w (w.alloc (.cells #[.bool false, .slice none 0 0] 63)) := (Below.refl _ _).alloc (Nat.le_refl _) _
  have kc := hide (cut_any _ _ _ _ _ (hA.below hb0))
  go_enter Try.func67, Try.ntmps67
  go_wp2_with fail
  refine (kc.out).mono ?_
  rintro e w' ⟨rfl, rfl⟩
  cases ng with
  | false =>
    go_wp2
    refine bodyPost_ret (v := .agg #[.bool false, .slice ao (tl A) cap]) (by simp [results, Try.results67, go_sem]) rfl ⟨by simp, ?_⟩
    exact (Below.refl _ _).alloc (Nat.le_refl _) _
  | true =>
    by_cases h0 : 0 < tl A
    · have h1 : (0 : Int) < ((tl A : Nat) : Int) := by omega
      have h2 : Hid (decide (0 < tl A) = true) := by simpa [Hid] using h0
      go_wp2
      refine bodyPost_ret (v := .agg #[.bool true, .slice ao (tl A) cap]) (by simp [results, Try.results67, go_sem]) rfl ⟨by rw [h2.out]; rfl, ?_⟩
      exact (Below.refl _ _).alloc (Nat.le_refl _) _
    · have h1 : ¬ (0 : Int) < ((tl A : Nat) : Int) := by omega
      have h2 : Hid (decide (0 < tl A) = false) := by simpa [Hid] using h0
      go_wp2
      refine bodyPost_ret (v := .agg #[.bool false, .slice ao (tl A) cap]) (by simp [results, Try.results67, go_sem]) rfl ⟨by rw [h2.out]; rfl, ?_⟩
      exact (Below.refl _ _).alloc (Nat.le_refl _) _
def Got (w : World) (ao : Option Addr) (cap : Nat) (rs : List Int) (x : Int) : Prop := Sl w (.slice ao rs.length cap) rs ∧ Canon rs ∧ val rs = x
theorem Got.sl {w : World} {ao : Option Addr} {cap : Nat} {rs : List Int} {x : Int} (h : Got w ao cap rs x) : Sl w (.slice ao rs.length cap) rs := h.1
theorem Got.canon {w : World} {ao : Option Addr} {cap : Nat} {rs : List Int} {x : Int} (h : Got w ao cap rs x) : Canon rs := h.2.1
theorem Got.val {w : World} {ao : Option Addr} {cap : Nat} {rs : List Int} {x : Int} (h : Got w ao cap rs x) : Dm.val rs = x := h.2.2
theorem Got.below {w w' : World} {ao : Option Addr} {cap : Nat} {rs : List Int} {x : Int} (h : Got w ao cap rs x) (hb : Below w.heap.size w w') : Got w' ao cap rs x := ⟨h.1.below hb, h.2⟩
theorem Is.got {B : Nat} {w : World} {v : Value} {x : Int} (h : Is B w v x) : ∃ ao cap rs, v = .slice ao rs.length cap ∧ Got w ao cap rs x := by
  obtain ⟨rs, ho, hc, hv⟩ := h
  obtain ⟨ao, cap, rfl, h1, h2, h3, h4⟩ := ho.sl
  exact ⟨ao, cap, rs, rfl, ⟨ao, cap, rfl, h1, h2, h3, h4⟩, hc, hv⟩
theorem canon_len {rs : List Int} (h : Canon rs) {m : Nat} (hv : val rs < pw m) : rs.length ≤ m := by
  apply Classical.byContradiction
  intro hn
  have h1 := canon_low h (by intro e; subst e; simp at hn)
  have h2 := pw_mono (m := m) (n := rs.length - 1) (by omega)
  omega
theorem pw_three (n : Nat) : Lm.pw n ≤ pw (3 * n) := by
  induction n with
  | zero => simp [Lm.pw, pw]
  | succ n ih =>
    rw [show 3 * (n + 1) = 3 * n + 3 by omega]
    simp only [Lm.pw, pw]
    have := Lm.pw_pos n
    omega
theorem len_three {rs : List Int} (h : Canon rs) {xs : List Int} (hx : Lm.Limb xs) (hv : val rs ≤ Lm.val xs) : rs.length ≤ 3 * xs.length := by
  apply canon_len h
  have := (Lm.val_bounds hx).2
  have := pw_three xs.length
  omega
theorem made_g (w : World) (ao : Option Addr) (cap : Nat) (A : List Int) (x : Int) (hA : Got w ao cap A x) :
    Calls Try.prog 67 #[.bool false, .slice ao A.length cap] w fun e w' => e = .returned (.agg #[.bool false, .slice ao A.length cap]) ∧ Below w.heap.size w w' := by
  refine (made_any w false ao A.length cap A hA.sl).mono ?_
  rintro e w' ⟨rfl, hb⟩
  rw [hA.canon.2]
  exact ⟨by simp, hb⟩
theorem Sl.setCell {w : World} {v : Value} {zs : List Int} (h : Sl w v zs) {p : Addr} {u0 : Value} (hp : w.cell? p = some u0) (hne : ∀ z, u0 ≠ .int .i64 z) (u : Value) : Sl (w.setCell p u) v zs := by
  obtain ⟨ao, cap, rfl, h1, h2, h3, h4⟩ := h
  refine ⟨ao, cap, rfl, h1, h2, h3, ?_⟩
  rcases h4 with h4 | ⟨b, off, rfl, hc⟩
  · exact .inl h4
  · refine .inr ⟨b, off, rfl, fun i hi => ?_⟩
    have hd : p ≠ ⟨b, off + i, none⟩ := by
      intro e
      have h5 := hc i hi
      rw [← e, hp] at h5
      exact hne _ (Option.some.inj h5)
    rw [World.cell?_setCell_other _ _ _ _ hd]
    exact hc i hi
set_option maxRecDepth 20000 in
set_option maxHeartbeats 1000000 in
theorem fromLimbs_any (w : World) (ao : Option Addr) (n cap : Nat) (xs : List Int) (hx : Lm.Sl w (.slice ao n cap) xs) (hl : xs.length ≤ 300000) :
    Calls Try.prog 71 #[.slice ao n cap] w fun e w' => ∃ ao' cap' D, e = .returned (.agg #[.bool false, .slice ao' D.length cap']) ∧ Got w' ao' cap' D (Lm.val xs) ∧ D.length ≤ 3 * xs.length ∧ Below w.heap.size w w' := by
  obtain ⟨rfl, h1, h2, h3⟩ := hx.parts
  have H3 := hide h3
  have c0 : (w.alloc (.cells #[.bool false, .slice none 0 0] 63)).cell? ⟨w.heap.size, 0, none⟩ = some (.bool false) := by
    rw [cell_of_row _ _ _ _ _ (0, 0) (heap_alloc_new w _)]; rfl
  have c1 : (w.alloc (.cells #[.bool false, .slice none 0 0] 63)).cell? ⟨w.heap.size, 1, none⟩ = some (.slice none 0 0) := by
    rw [cell_of_row _ _ _ _ _ (0, 0) (heap_alloc_new w _)]; rfl
  have f0 : (w.alloc (.cells #[.bool false, .slice none 0 0] 63)).frozen? ⟨w.heap.size, 0, none⟩ = false := frozen_of_row _ _ _ _ _ (heap_alloc_new w _)
  have f1 : (w.alloc (.cells #[.bool false, .slice none 0 0] 63)).frozen? ⟨w.heap.size, 1, none⟩ = false := frozen_of_row _ _ _ _ _ (heap_alloc_new w _)
  have hb0 : Below w.heap.size w (w.alloc (.cells #[.bool false, .slice none 0 0] 63)) := (Below.refl _ _).alloc (Nat.le_refl _) _
  have hs0 : w.heap.size < (w.alloc (.cells #[.bool false, .slice none 0 0] 63)).heap.size := by simp
  have C := hide (And.intro c0 (And.intro c1 (And.intro f0 (And.intro f1 (And.intro hb0 hs0)))))
  clear h3 c0 c1 f0 f1 hb0 hs0
  go_enter Try.func71, Try.ntmps71
  go_wp2
  generalize w.alloc (.cells #[.bool false, .slice none 0 0] 63) = w0 at C ⊢
  go_loopw [3, 4] (fun dv iv wr => ∃ (k : Nat) (ao' : Option Addr) (cap' : Nat) (D : List Int), k ≤ xs.length ∧ iv = .int .i64 ((k : Int) - 1) ∧ dv = .slice ao' D.length cap' ∧ Got wr ao' cap' D (Lm.val (xs.drop k)) ∧ Below w0.heap.size w0 wr) (fun _ i _ => (intOf i + 1).toNat)
  case atStart => exact ⟨xs.length, none, 0, [], Nat.le_refl _, rfl, rfl, ⟨⟨none, 0, rfl, Nat.le_refl _, by simp [maxLen], limb_nil, .inl rfl⟩, canon_nil, by simp [val, Lm.val]⟩, Below.refl _ _⟩
  case round =>
    obtain ⟨k, ao', cap', D, hk, rfl, rfl, hg, hbel⟩ := hrel
    have hdl := len_three hg.canon (Lm.limb_drop H3.out k) (by rw [hg.val]; omega)
    rw [List.length_drop] at hdl
    cases k with
    | zero =>
      rw [List.drop_zero] at hg
      go_wp2_with fail
      refine (made_g _ _ _ _ _ hg).mono ?_
      rintro e w1 ⟨rfl, hb1⟩
      replace hg := hg.below hb1
      have hB := hbel.trans (hb1.mono hbel.size)
      have d0 := (hB.cell (p := ⟨w.heap.size, 0, none⟩) C.out.2.2.2.2.2).trans C.out.1
      have d1 := (hB.cell (p := ⟨w.heap.size, 1, none⟩) C.out.2.2.2.2.2).trans C.out.2.1
      have g0 := (hB.frozen (p := ⟨w.heap.size, 0, none⟩) C.out.2.2.2.2.2).trans C.out.2.2.1
      have g1 := (hB.frozen (p := ⟨w.heap.size, 1, none⟩) C.out.2.2.2.2.2).trans C.out.2.2.2.1
      have hBw : Below w.heap.size w w1 := C.out.2.2.2.2.1.trans (hB.mono C.out.2.2.2.2.1.size)
      have e0 : Below w.heap.size w ((w1.setCell ⟨w.heap.size, 0, none⟩ (.bool false)).setCell ⟨w.heap.size, 1, none⟩ (.slice ao' D.length cap')) := (hBw.setCell (Nat.le_refl _) _).setCell (Nat.le_refl _) _
      have e1 : (w1.setCell ⟨w.heap.size, 0, none⟩ (.bool false)).cell? ⟨w.heap.size, 1, none⟩ = some (.slice none 0 0) := by
        rw [World.cell?_setCell_other _ _ _ _ (by simp)]; exact d1
      have e2 := hide ((hg.sl.setCell d0 (fun z => by simp) (.bool false)).setCell e1 (fun z => by simp) (.slice ao' D.length cap'))
      have e3 := hide hg.2
      have y0 := World.cell?_setCell_same _ _ (.bool false) d0
      have x1 := World.cell?_setCell_same _ _ (.slice ao' D.length cap') e1
      have X := hide (And.intro y0 x1)
      clear e1 y0 x1
      go_wp2
      refine bodyPost_ret (v := .agg #[.bool false, .slice ao' D.length cap']) ?_ rfl ⟨ao', cap', D, rfl, ⟨e2.out, e3.out⟩, by omega, e0⟩
      simp [results, Try.results71, go_sem, X.out.1, X.out.2]
    | succ k =>
      have sx := (hx.below C.out.2.2.2.2.1).below hbel
      obtain ⟨b, off, rfl, hcx⟩ := sx.cells (by omega)
      have cx := hcx k (by omega)
      have bx := Lm.limb_getD H3.out k
      have Hd := hide (Lm.drop_getD xs k (by omega))
      generalize xs.getD k 0 = z at cx bx Hd
      clear sx hcx
      go_wp2_with fail
      refine (small_any _ _ _ _ D hg.sl 4294967296 z (by omega) (by omega) (by omega)).mono ?_
      rintro e w1 ⟨v, rfl, hi, hb1⟩
      obtain ⟨ao2, cap2, D2, rfl, hg2⟩ := hi.got
      have HG : Hid (Got w1 ao2 cap2 D2 (Lm.val (xs.drop k))) := by
        show Got _ _ _ _ _
        rw [Hd.out, Lm.val, Int.add_comm, Int.mul_comm, ← hg.val]
        exact hg2
      have HBl := hide (hbel.trans (hb1.mono hbel.size))
      clear hg hg2 hi hb1
      go_wp2
      go_roundw
      case rel => exact ⟨k, ao2, cap2, D2, by omega, rfl, rfl, HG.out, HBl.out⟩
      case measure => simp [intOf]
end Dm
end Go.Proofs.Ytpofkigboedliaa

namespace Go.Proofs.Ytpofkigboedliaa
namespace Dm
open Go.RowKit
open Lm (hide lt_of_cell lt_of_heap div_of info32)
def lenOf : Value → Nat | .slice _ n _ => n | _ => 0
theorem cut_shorter {D E : List Int} (hD : Canon D) (hE : Canon E) (h : val E = val D / 4294967296) (h0 : 0 < D.length) : E.length < D.length := by
  have hb := val_bounds hD.1
  have : E.length ≤ D.length - 1 := by
    apply canon_len hE
    obtain ⟨k, hk⟩ : ∃ k, D.length = k + 1 := ⟨D.length - 1, by omega⟩
    rw [hk] at hb ⊢
    simp only [pw, Nat.add_sub_cancel] at hb ⊢
    rw [h]
    have := pw_pos k
    omega
  omega
theorem Ow.open {B : Nat} {w : World} {v : Value} {rs : List Int} (h : Ow B w v rs) : ∃ ao cap, v = .slice ao rs.length cap ∧ Sl w (.slice ao rs.length cap) rs ∧ rs.length ≤ cap ∧ cap ≤ 9223372036854775807 := by
  obtain ⟨ao, cap, rfl, h1, h2, h3, h4⟩ := h.sl
  exact ⟨ao, cap, rfl, ⟨ao, cap, rfl, h1, h2, h3, h4⟩, h1, h2⟩
theorem owns_below {B e n : Nat} {w w' : World} {v : Value} {xs : List Value} (h : w.ownsRow B e 1 v n xs) (hb : Below w.heap.size w w') : w'.ownsRow B e 1 v n xs := by
  obtain ⟨h1, h2⟩ := h
  refine ⟨h1, ?_⟩
  rcases h2 with h2 | ⟨g, cap, cur, hv, hg, hh, r⟩
  · exact .inl h2
  · exact .inr ⟨g, cap, cur, hv, hg, by rw [hb.block g (lt_of_heap hh)]; exact hh, r⟩
theorem Ow.grown {B : Nat} {w w' : World} {v : Value} {zs : List Int} {row : Option Nat} (h : Ow B w v zs) (hg : w.grownBy w' row) (hr : ∀ j, row = some j → j < B) : Ow B w' v zs := by
  obtain ⟨ao, cap, rfl, h1, h2, h3, h4⟩ := h
  refine ⟨ao, cap, rfl, h1, h2, h3, ?_⟩
  rcases h4 with h4 | ⟨g, off, cur, rfl, hB, hh, hs, ha⟩
  · exact .inl h4
  · refine .inr ⟨g, off, cur, rfl, hB, ?_, hs, ha⟩
    rw [hg.block g (lt_of_heap hh) (fun e => by have := hr g e.symm; omega)]
    exact hh
theorem limbs_val {ls : List Int} {x y : Int} (h : Lm.val ls + Lm.pw ls.length * y = x) : Lm.val (ls ++ [y % 4294967296]) + Lm.pw (ls ++ [y % 4294967296]).length * (y / 4294967296) = x := by
  rw [Lm.val_snoc, List.length_append, List.length_singleton, Lm.pw, ← h]
  have e : y = y % 4294967296 + 4294967296 * (y / 4294967296) := by omega
  have e2 : Lm.pw ls.length * (y % 4294967296) + 4294967296 * Lm.pw ls.length * (y / 4294967296) = Lm.pw ls.length * y := by
    rw [Int.mul_comm 4294967296, Int.mul_assoc, ← Int.mul_add, ← e]
  omega
theorem limbs_top {ls : List Int} {y : Int} (h0 : 0 < y) (h1 : y / 4294967296 = 0) : Lm.tl (ls ++ [y % 4294967296]) = (ls ++ [y % 4294967296]).length := by
  have h2 : y % 4294967296 ≠ 0 := by omega
  have := Lm.tl_gt (zs := ls ++ [y % 4294967296]) (n := ls.length) (by simpa using h2)
  have := Lm.tl_le (ls ++ [y % 4294967296])
  simp at this ⊢
  simp at *
  omega
theorem limbs_room {ls : List Int} {x y : Int} {M : Nat} (hl : Lm.Limb ls) (h : Lm.val ls + Lm.pw ls.length * y = x) (hy : 0 < y) (hx : x < Lm.pw M) : ls.length < M := by
  apply Classical.byContradiction
  intro hn
  have h1 := Lm.pw_mono (m := M) (n := ls.length) (by omega)
  have h2 := (Lm.val_bounds hl).1
  have h3 := Lm.pw_pos ls.length
  have h4 : Lm.pw ls.length * 1 ≤ Lm.pw ls.length * y := Int.mul_le_mul_of_nonneg_left (by omega) (by omega)
  omega
theorem step_own32 {B : Nat} {w wr w1 : World} {v v' : Value} {k : Nat} {ds : List Int} {z : Int} {o : Obj} (h : w1.ownsRow B 67 1 v' (k + 1) (ds.map (Value.int .u32) ++ [.int .u32 z])) (hg : (wr.alloc o).grownBy w1 v.ownBlock) (hb : Below B w wr) (hB : B ≤ wr.heap.size) (hl : ∀ j, v.ownBlock = some j → B ≤ j ∧ j < wr.heap.size) :
    w1.ownsRow B 67 1 v' (k + 1) ((ds ++ [z]).map (Value.int .u32)) ∧ Below B w w1 := by
  refine ⟨by simpa using h, ((hb.alloc hB o).grown hg ?_ (fun j hj => (hl j hj).1))⟩
  simp
  omega
set_option maxRecDepth 20000 in
set_option maxHeartbeats 1000000 in
theorem limbs_loop (w : World) (ng : Bool) (ao : Option Addr) (cap : Nat) (D : List Int) (x : Int) (hD : Got w ao cap D x) (M : Nat) (hx : x < Lm.pw M) (hM : M ≤ 1000000) (hl : D.length ≤ 1000000) (h0 : 0 < D.length) :
    Calls Try.prog 73 #[.agg #[.bool ng, .slice ao D.length cap]] w fun e w' => ∃ v, e = .returned v ∧ Lm.Is w.heap.size w' v x ∧ Below w.heap.size w w' := by
  obtain ⟨_, h1, h2, h3⟩ := hD.sl.parts
  obtain ⟨i0, hi, hz0, hz1, hz2⟩ := info_parts info64
  obtain ⟨j0, hj, jz0, jz1, jz2⟩ := info_parts info32
  obtain ⟨b, off, rfl, hc⟩ := hD.sl.cells h0
  have hcells : ∀ j u, (D.map (Value.int .i64))[j]? = some u → (w.alloc (Obj.cells #[.bool ng, .slice (some ⟨b, off, none⟩) D.length cap] 63)).cell? ((⟨b, off, none⟩ : Addr).add j) = some u := by
    intro j u hu
    rw [List.getElem?_map] at hu
    have hj : j < D.length := by
      apply Classical.byContradiction
      intro hn
      rw [List.getElem?_eq_none (by omega)] at hu
      cases hu
    rw [List.getElem?_eq_getElem hj] at hu
    have hcj := hc j hj
    rw [List.getD_eq_getElem?_getD, List.getElem?_eq_getElem hj] at hcj
    rw [show ((⟨b, off, none⟩ : Addr).add j) = ⟨b, off + j, none⟩ from by simp [Addr.add], World.cell?_alloc_past _ _ _ (lt_of_cell hcj), hcj]
    exact hu
  have hone : ∀ u ∈ D.map (Value.int .i64), u.oneCell' = true := by
    intro u hu
    obtain ⟨z, _, rfl⟩ := List.mem_map.1 hu
    rfl
  have H3 := hide h3
  have HC := hide hD.2
  have HX := hide hx
  clear hc h3 hD hx
  go_enter Try.func73, Try.ntmps73
  go_wp2_with (at_builtin; refine wpList_append_own _ rfl (.const (.slice none 0 0)) (.tmp 7) 61 rfl (w.heap.size + 1) 3 i0 (.int .i64 0) 1 8 Try.underlying61 hi hz0 hz1 hz2 rfl (by decide) _ _ _ rfl (World.ownsRow_nil _ _ _ _) ⟨b, off, none⟩ D.length cap (D.map (Value.int .i64)) rfl (by simp) hcells hone (by unfold maxLen; omega) (by omega) (by simp) ?_)
  intro v' w1 hown hgrow _
  have hb1 : Below w.heap.size w w1 := ((Below.refl w.heap.size w).alloc (Nat.le_refl _) _).grown hgrow (by simp) (by intro k hk; simp [Value.ownBlock] at hk)
  obtain ⟨ao1, cap1, rfl, s1, _, _⟩ := (ow_of_row hown H3.out).open
  have hg1 : Got w1 ao1 cap1 D x := ⟨s1, HC.out⟩
  clear hown hgrow s1 hcells hone
  go_wp2
  go_loopw [3, 4] (fun lv dv wr => ∃ (ls D2 : List Int) (ao2 : Option Addr) (cap2 : Nat) (y : Int), dv = .slice ao2 D2.length cap2 ∧ Got wr ao2 cap2 D2 y ∧ D2.length ≤ D.length ∧ wr.ownsRow w.heap.size 67 1 lv ls.length (ls.map (Value.int .u32)) ∧ Lm.Limb ls ∧ Lm.val ls + Lm.pw ls.length * y = x ∧ (D2 = [] → Lm.tl ls = ls.length) ∧ Below w.heap.size w wr) (fun _ dv _ => lenOf dv)
  case atStart => exact ⟨[], D, ao1, cap1, x, rfl, hg1, Nat.le_refl _, World.ownsRow_nil _ _ _ _, Lm.limb_nil, by simp [Lm.val, Lm.pw], fun e => by rw [e] at h0; simp at h0, hb1⟩
  case round =>
    obtain ⟨ls, D2, ao2, cap2, y, rfl, hg, hdl, hown, hls, hv, htop, hbel⟩ := hrel
    have HLS := hide hls
    have HV := hide hv
    have HT := hide htop
    clear hls hv htop
    by_cases hz : 0 < D2.length
    · have hy : 0 < y := by
        have h5 := val_pos_tl hg.canon.1 (by rw [hg.canon.2]; exact hz)
        rw [hg.val] at h5
        exact h5
      have hroom := limbs_room HLS.out HV.out hy HX.out
      go_wp2_with fail
      refine (cutBy_any _ _ _ _ D2 hg.sl 4294967296 (by omega) (by omega) (by omega)).mono ?_
      rintro e w2 ⟨v2, rfl, i2, hb2⟩
      obtain ⟨D3, ho3, hc3, hv3⟩ := i2
      have hsh := cut_shorter hg.canon hc3 hv3 hz
      rw [hg.val] at hv3 ⊢
      obtain ⟨ao3, cap3, rfl, _, _, _⟩ := ho3.open
      have HO3 := hide ho3
      have HC3 := hide (And.intro hc3 hv3)
      have hls3 : Hid (∀ j, u3.ownBlock = some j → w.heap.size ≤ j ∧ j < wr.heap.size) := hown.lt
      have hbel2 := hbel.trans (hb2.mono hbel.size)
      have hown2 := owns_below hown hb2
      have HV' := hide (limbs_val HV.out)
      have HT' : Hid (D3 = [] → Lm.tl (ls ++ [y % 4294967296]) = (ls ++ [y % 4294967296]).length) := by
        intro e3
        refine limbs_top hy ?_
        rw [e3] at hv3
        exact hv3.symm
      clear ho3 hc3 hv3 hown hbel hb2 hg
      go_wp2_with (at_builtin; refine wpList_append_own _ rfl (.tmp 17) (.tmp 20) 26 rfl w.heap.size 67 j0 (.int .u32 0) 1 4 Try.underlying26 hj jz0 jz1 jz2 rfl (by decide) _ _ _ rfl (hown2.alloc _) ⟨w2.heap.size, 0, none⟩ 1 1 [.int .u32 (y % 4294967296)] rfl rfl (cell_one_new _ _ _) ?c2 ?c3 ?c4 ?c5 ?_)
      case c2 => first | rfl | (intro u hu; simp at hu; subst hu; rfl)
      case c3 => unfold maxLen; omega
      case c4 => omega
      case c5 => have := hbel2.size; first | omega | (simp; omega)
      intro v4 w4 hown4 hgrow4 _
      have R := step_own32 hown4 hgrow4 hbel2 hbel2.size (hown2.lt)
      have HG4 : Hid (Got w4 ao3 cap3 D3 (y / 4294967296)) := ⟨((HO3.out.below ((Below.refl w2.heap.size w2).alloc (Nat.le_refl _) _)).grown hgrow4 (fun j hj => (hls3.out j hj).2)).sl, HC3.out⟩
      clear hown4 hgrow4 hown2
      go_wp2
      go_roundw
      case rel => exact ⟨ls ++ [y % 4294967296], D3, ao3, cap3, y / 4294967296, rfl, HG4.out, by omega, by simpa using R.1, Lm.limb_append.2 ⟨HLS.out, Lm.limb_cons.2 ⟨by omega, Lm.limb_nil⟩⟩, HV'.out, HT'.out, R.2⟩
      case measure => simp [lenOf]; omega
    · have hz0 : D2 = [] := List.eq_nil_of_length_eq_zero (by omega)
      have hy0 : y = 0 := by rw [← hg.val, hz0]; rfl
      have hvx : Lm.val ls = x := by have := HV.out; rw [hy0, Int.mul_zero, Int.add_zero] at this; exact this
      have his : Lm.Is w.heap.size wr u3 x := ⟨ls, Lm.ow_of_row hown HLS.out, ⟨HLS.out, HT.out hz0⟩, hvx⟩
      clear hz0 hy0 hvx hown hg
      go_wp2
      go_ret
      exact ⟨_, rfl, his, hbel⟩
end Dm
end Go.Proofs.Ytpofkigboedliaa

namespace Go.Proofs.Ytpofkigboedliaa
namespace Dm
open Go.RowKit
open Lm (hide lt_of_cell lt_of_heap div_of info32)
set_option maxRecDepth 20000 in
set_option maxHeartbeats 400000 in
theorem limbs_none (w : World) (ng : Bool) (ao : Option Addr) (cap : Nat) (_hcap : cap ≤ 9223372036854775807) :
    Calls Try.prog 73 #[.agg #[.bool ng, .slice ao 0 cap]] w fun e w' => ∃ v, e = .returned v ∧ Lm.Is w.heap.size w' v 0 ∧ Below w.heap.size w w' := by
  cases ao with
  | none =>
    go_enter Try.func73, Try.ntmps73
    go_wp2
    refine wp_loop_rounds 1 ?_
    rw [rounds_succ]
    go_wp2
    go_ret
    exact ⟨_, rfl, ⟨[], ⟨none, 0, rfl, Nat.le_refl _, by simp [maxLen], Lm.limb_nil, .inl rfl⟩, Lm.canon_nil, rfl⟩, (Below.refl _ _).alloc (Nat.le_refl _) _⟩
  | some ad =>
    go_enter Try.func73, Try.ntmps73
    go_wp2
    refine wp_loop_rounds 1 ?_
    rw [rounds_succ]
    go_wp2
    go_ret
    exact ⟨_, rfl, ⟨[], ⟨none, 0, rfl, Nat.le_refl _, by simp [maxLen], Lm.limb_nil, .inl rfl⟩, Lm.canon_nil, rfl⟩, (Below.refl _ _).alloc (Nat.le_refl _) _⟩
theorem limbs_any (w : World) (ng : Bool) (ao : Option Addr) (cap : Nat) (D : List Int) (x : Int) (hD : Got w ao cap D x) (M : Nat) (hx : x < Lm.pw M) (hM : M ≤ 1000000) (hl : D.length ≤ 1000000) :
    Calls Try.prog 73 #[.agg #[.bool ng, .slice ao D.length cap]] w fun e w' => ∃ v, e = .returned v ∧ Lm.Is w.heap.size w' v x ∧ Below w.heap.size w w' := by
  by_cases h0 : 0 < D.length
  · exact limbs_loop w ng ao cap D x hD M hx hM hl h0
  · have e : D = [] := List.eq_nil_of_length_eq_zero (by omega)
    have hx0 : x = 0 := by rw [← hD.val, e]; rfl
    have hc := hD.sl.parts.2.2.1
    rw [hx0, e]
    exact limbs_none w ng ao cap hc
end Dm
end Go.Proofs.Ytpofkigboedliaa

namespace Go.Proofs.Ytpofkigboedliaa
namespace Dm
open Go.RowKit
open Lm (hide lt_of_cell lt_of_heap div_of info32 cmpI cmpI_lt cmpI_gt cmpI_eq ret_i64)
theorem getD_take (zs : List Int) (i k : Nat) (h : i < k) : (zs.take k).getD i 0 = zs.getD i 0 := by
  rw [List.getD_eq_getElem?_getD, List.getD_eq_getElem?_getD, List.getElem?_take, if_pos h]
theorem cmp_len {xs ys : List Int} (hx : Canon xs) (hy : Canon ys) (h : xs.length ≠ ys.length) : cmpI (val xs) (val ys) = if xs.length < ys.length then -1 else 1 := by
  by_cases h' : xs.length < ys.length
  · rw [if_pos h', cmpI_lt (canon_lt hx hy h')]
  · rw [if_neg h', cmpI_gt (canon_lt hy hx (by omega))]
theorem cmp_low {xs ys : List Int} {k : Nat} (hx : Limb xs) (hy : Limb ys) (hl : xs.length = ys.length) (hk : k < xs.length) (hd : xs.drop (k + 1) = ys.drop (k + 1)) (h : xs.getD k 0 < ys.getD k 0) : cmpI (val xs) (val ys) = -1 := cmpI_lt (val_lt_at hx hy hl hk hd h)
theorem cmp_high {xs ys : List Int} {k : Nat} (hx : Limb xs) (hy : Limb ys) (hl : xs.length = ys.length) (hk : k < xs.length) (hd : xs.drop (k + 1) = ys.drop (k + 1)) (h : ys.getD k 0 < xs.getD k 0) : cmpI (val xs) (val ys) = 1 := cmpI_gt (val_lt_at hy hx hl.symm (by omega) hd.symm h)
theorem drop_down {xs ys : List Int} {k : Nat} (hl : xs.length = ys.length) (hk : k < xs.length) (hd : xs.drop (k + 1) = ys.drop (k + 1)) (h : xs.getD k 0 = ys.getD k 0) : xs.drop k = ys.drop k := by
  rw [drop_getD xs k hk, drop_getD ys k (by omega), hd, h]
set_option maxRecDepth 20000 in
set_option maxHeartbeats 1000000 in
theorem size_any (w : World) (g1 g2 : Bool) (a1 a2 : Option Addr) (c1 c2 : Nat) (xs ys : List Int) (x y : Int) (hx : Got w a1 c1 xs x) (hy : Got w a2 c2 ys y) :
    Calls Try.prog 69 #[.agg #[.bool g1, .slice a1 xs.length c1], .agg #[.bool g2, .slice a2 ys.length c2]] w fun e w' => e = .returned (.int .i64 (cmpI x y)) ∧ Below w.heap.size w w' := by
  have e1 : (w.alloc (.cells #[.bool g1, .slice a1 xs.length c1] 63)).heap.size = w.heap.size + 1 := by simp
  have hb1 : Below w.heap.size w (w.alloc (.cells #[.bool g1, .slice a1 xs.length c1] 63)) := (Below.refl _ _).alloc (Nat.le_refl _) _
  have hb2 := ((Below.refl (w.heap.size + 1) (w.alloc (.cells #[.bool g1, .slice a1 xs.length c1] 63))).alloc (by simp) (.cells #[.bool g2, .slice a2 ys.length c2] 63))
  have k1 : ((w.alloc (.cells #[.bool g1, .slice a1 xs.length c1] 63)).alloc (.cells #[.bool g2, .slice a2 ys.length c2] 63)).cell? ⟨w.heap.size, 1, none⟩ = some (.slice a1 xs.length c1) := by
    rw [hb2.cell (p := ⟨w.heap.size, 1, none⟩) (by simp), cell_of_row _ _ _ _ _ (0, 0) (heap_alloc_new w _)]; rfl
  have k2 : ((w.alloc (.cells #[.bool g1, .slice a1 xs.length c1] 63)).alloc (.cells #[.bool g2, .slice a2 ys.length c2] 63)).cell? ⟨w.heap.size + 1, 1, none⟩ = some (.slice a2 ys.length c2) := by
    rw [← e1, cell_of_row _ _ _ _ _ (0, 0) (heap_alloc_new _ _)]; rfl
  have hbw := hb1.trans (hb2.mono (by omega))
  have K := hide (And.intro k1 (And.intro k2 (And.intro hbw (show w.heap.size + 1 < ((w.alloc (.cells #[.bool g1, .slice a1 xs.length c1] 63)).alloc (.cells #[.bool g2, .slice a2 ys.length c2] 63)).heap.size by simp))))
  obtain ⟨_, p1, p2, p3⟩ := hx.sl.parts
  obtain ⟨_, s1, s2, s3⟩ := hy.sl.parts
  have VX := hide hx.val
  have VY := hide hy.val
  have CX := hide hx.canon
  have CY := hide hy.canon
  have hsx := hide hx.sl
  have hsy := hide hy.sl
  clear e1 hb1 hb2 k1 k2 hbw hx hy p3 s3
  by_cases hl : xs.length = ys.length
  · have hne : (((xs.length : Nat) : Int) != ((ys.length : Nat) : Int)) = false := by simp [hl]
    have HL := hide hl
    have l1 : xs.length ≤ ys.length := by omega
    have l2 : ys.length ≤ xs.length := by omega
    clear hl
    go_enter Try.func69, Try.ntmps69
    go_wp2
    generalize (w.alloc (.cells #[.bool g1, .slice a1 xs.length c1] 63)).alloc (.cells #[.bool g2, .slice a2 ys.length c2] 63) = w0 at K ⊢
    go_loopw [5] (fun i wr => ∃ k : Nat, k ≤ xs.length ∧ xs.drop k = ys.drop k ∧ i = .int .i64 ((k : Int) - 1) ∧ Below w0.heap.size w0 wr) (fun i _ => (intOf i + 1).toNat)
    case atStart => exact ⟨xs.length, Nat.le_refl _, by rw [List.drop_of_length_le (by omega), List.drop_of_length_le (by omega)], rfl, Below.refl _ _⟩
    case round =>
      obtain ⟨k, hk, hd, rfl, hbel⟩ := hrel
      have HD := hide hd
      clear hd
      have hbw : Below w.heap.size w wr := K.out.2.2.1.trans (hbel.mono K.out.2.2.1.size)
      cases k with
      | zero =>
        have HE : Hid (cmpI x y = 0) := by
          show _ = _
          have := HD.out
          rw [List.drop_zero, List.drop_zero] at this
          rw [← VX.out, ← VY.out, this]
          exact cmpI_eq rfl
        go_wp2
        go_ret
        exact ⟨by rw [HE.out]; rfl, hbw⟩
      | succ k =>
        have sx := (hsx.out.below K.out.2.2.1).below hbel
        have sy := (hsy.out.below K.out.2.2.1).below hbel
        obtain ⟨b, off, rfl, hc⟩ := sx.cells (by omega)
        obtain ⟨b', off', rfl, hc'⟩ := sy.cells (by omega)
        have f1 := hc k (by omega)
        have f2 := hc' k (by omega)
        have m1 := (hbel.cell (p := ⟨w.heap.size, 1, none⟩) (by have := K.out.2.2.2; simp; omega)).trans K.out.1
        have m2 := (hbel.cell (p := ⟨w.heap.size + 1, 1, none⟩) K.out.2.2.2).trans K.out.2.1
        have d1 : (k : Int) < ((xs.length : Nat) : Int) := by omega
        have d2 : (k : Int) < ((ys.length : Nat) : Int) := by omega
        have ND := hide (drop_down HL.out (by omega) HD.out)
        have NL := hide (cmp_low CX.out.1 CY.out.1 HL.out (by omega) HD.out)
        have NH := hide (cmp_high CX.out.1 CY.out.1 HL.out (by omega) HD.out)
        generalize xs.getD k 0 = z at f1 ND NL NH
        generalize ys.getD k 0 = z' at f2 ND NL NH
        clear sx sy hc hc'
        rcases Int.lt_trichotomy z z' with h | h | h
        · have HE : Hid (cmpI x y = -1) := by show _ = _; rw [← VX.out, ← VY.out]; exact NL.out h
          go_wp2
          go_quiet (fail)
          go_wp2
          go_ret
          exact ⟨by rw [HE.out]; rfl, below_drewN hbw _⟩
        · subst h
          have n1 : ¬ z < z := by omega
          go_wp2
          go_quiet (fail)
          go_wp2
          replace f1 : (wr.drewN nq).cell? ⟨b, off + k, none⟩ = some (.int .i64 z) := f1
          replace f2 : (wr.drewN nq).cell? ⟨b', off' + k, none⟩ = some (.int .i64 z) := f2
          replace m1 : (wr.drewN nq).cell? ⟨w.heap.size, 1, none⟩ = _ := m1
          replace m2 : (wr.drewN nq).cell? ⟨w.heap.size + 1, 1, none⟩ = _ := m2
          replace hbel := below_drewN hbel nq
          generalize wr.drewN nq = wr2 at f1 f2 m1 m2 hbel ⊢
          go_quiet (fail)
          go_wp2
          go_roundw
          case rel => exact ⟨k, by omega, ND.out (by first | rfl | trivial), by go_num, below_drewN hbel _⟩
          case measure => simp [intOf]
        · have HE : Hid (cmpI x y = 1) := by show _ = _; rw [← VX.out, ← VY.out]; exact NH.out h
          have n1 : ¬ z < z' := by omega
          go_wp2
          go_quiet (fail)
          go_wp2
          replace f1 : (wr.drewN nq).cell? ⟨b, off + k, none⟩ = some (.int .i64 z) := f1
          replace f2 : (wr.drewN nq).cell? ⟨b', off' + k, none⟩ = some (.int .i64 z') := f2
          replace m1 : (wr.drewN nq).cell? ⟨w.heap.size, 1, none⟩ = _ := m1
          replace m2 : (wr.drewN nq).cell? ⟨w.heap.size + 1, 1, none⟩ = _ := m2
          replace hbw := below_drewN hbw nq
          generalize wr.drewN nq = wr2 at f1 f2 m1 m2 hbw ⊢
          go_quiet (fail)
          go_wp2
          go_ret
          exact ⟨by rw [HE.out]; rfl, below_drewN hbw _⟩
  · have hne : (((xs.length : Nat) : Int) != ((ys.length : Nat) : Int)) = true := by rw [bne_iff_ne]; omega
    have HE := hide (cmp_len CX.out CY.out hl)
    rw [VX.out, VY.out] at HE
    by_cases h : xs.length < ys.length
    · rw [if_pos h] at HE
      have h' : ((xs.length : Nat) : Int) < ((ys.length : Nat) : Int) := by omega
      clear hl
      go_enter Try.func69, Try.ntmps69
      go_wp2
      go_ret
      exact ⟨by rw [HE.out]; rfl, K.out.2.2.1⟩
    · rw [if_neg h] at HE
      have h' : ¬ ((xs.length : Nat) : Int) < ((ys.length : Nat) : Int) := by omega
      clear hl
      go_enter Try.func69, Try.ntmps69
      go_wp2
      go_ret
      exact ⟨by rw [HE.out]; rfl, K.out.2.2.1⟩
def sgn (n : Nat) : Int := if n = 0 then 0 else 1
theorem got_zero {w : World} {ao : Option Addr} {cap : Nat} {xs : List Int} {x : Int} (h : Got w ao cap xs x) (h0 : xs.length = 0) : x = 0 := by
  have e : xs = [] := List.eq_nil_of_length_eq_zero h0
  rw [← h.val, e]; rfl
end Dm
end Go.Proofs.Ytpofkigboedliaa

namespace Go.Proofs.Ytpofkigboedliaa
namespace Dm
open Go.RowKit
open Lm (hide)
def Dl (B : Nat) (w : World) (v : Value) (x : Int) (n : Nat) : Prop := ∃ ds, Ow B w v ds ∧ val ds = x ∧ ds.length ≤ n
theorem plus_val {A B ds : List Int} {k : Nat} {a b c s : Int} (hk : ds.length = k) (ha : A.getD k 0 = a) (hb : B.getD k 0 = b) (hs : s = c + a + b) (h : val ds + pw k * c = vf A k + vf B k) :
    val (ds ++ [s % 10000]) + pw (k + 1) * (s / 10000) = vf A (k + 1) + vf B (k + 1) := by
  rw [val_snoc, vf, vf, ha, hb, hk, pw]
  have e : s = s % 10000 + 10000 * (s / 10000) := by omega
  have e2 : pw k * (s % 10000) + 10000 * pw k * (s / 10000) = pw k * s := by
    rw [Int.mul_comm 10000 (pw k), Int.mul_assoc, ← Int.mul_add, ← e]
  rw [Int.add_assoc, e2, hs, Int.mul_add, Int.mul_add]
  omega
theorem getD_past (A : List Int) (k : Nat) (h : ¬ k < A.length) : A.getD k 0 = 0 := by
  rw [List.getD_eq_getElem?_getD, List.getElem?_eq_none (by omega)]; rfl
set_option maxRecDepth 20000 in
set_option maxHeartbeats 1000000 in
theorem plus_any (w : World) (a1 : Option Addr) (n1 c1 : Nat) (A : List Int) (hA : Sl w (.slice a1 n1 c1) A) (a2 : Option Addr) (n2 c2 : Nat) (B : List Int) (hB : Sl w (.slice a2 n2 c2) B) (hl1 : A.length ≤ 1000000) (hl2 : B.length ≤ 1000000) :
    Calls Try.prog 68 #[.slice a1 n1 c1, .slice a2 n2 c2] w fun e w' => ∃ v, e = .returned v ∧ Dl w.heap.size w' v (val A + val B) (A.length + B.length + 1) ∧ Below w.heap.size w w' := by
  obtain ⟨rfl, p1, p2, p3⟩ := hA.parts
  obtain ⟨rfl, q1, q2, q3⟩ := hB.parts
  obtain ⟨i0, hi, hz0, hz1, hz2⟩ := info_parts info64
  have P3 := hide p3
  have Q3 := hide q3
  clear p3 q3
  go_enter Try.func68, Try.ntmps68
  go_wp2
  go_loopw [5, 6, 7] (fun dv cv iv wr => ∃ (k : Nat) (c : Int) (ds : List Int), cv = .int .i64 c ∧ iv = .int .i64 k ∧ (0 ≤ c ∧ c ≤ 1) ∧ (k : Int) + c ≤ (A.length : Int) + B.length + 1 ∧ ds.length = k ∧ Limb ds ∧ val ds + pw k * c = vf A k + vf B k ∧ wr.ownsRow w.heap.size 3 1 dv k (ds.map (Value.int .i64)) ∧ Below w.heap.size w wr) (fun _ cv iv _ => (A.length - (intOf iv).toNat) * 2 + (B.length - (intOf iv).toNat) * 2 + (intOf cv).toNat)
  case atStart => exact ⟨0, 0, [], rfl, rfl, by omega, by omega, rfl, limb_nil, by simp [val, vf, pw], World.ownsRow_nil _ _ _ _, Below.refl _ _⟩
  case round =>
    obtain ⟨k, c, ds, rfl, rfl, hc, hkc, hdl, hd, hval, hown, hbel⟩ := hrel
    have HD := hide hd
    have HDL := hide hdl
    have HV := hide hval
    clear hd hdl hval
    have hsz := hbel.size
    by_cases hltA : k < A.length
    · by_cases hltB : k < B.length
      · have sA := hA.below hbel
        obtain ⟨b1, off1, rfl, hca⟩ := sA.cells (by omega)
        have ca := hca k hltA
        have ba := limb_getD P3.out k
        obtain ⟨a, hak⟩ : ∃ a, A.getD k 0 = a := ⟨_, rfl⟩
        rw [hak] at ca ba
        clear sA hca
        have sB := hB.below hbel
        obtain ⟨b2, off2, rfl, hcb⟩ := sB.cells (by omega)
        have cb := hcb k hltB
        have bb := limb_getD Q3.out k
        obtain ⟨b, hbk⟩ : ∃ b, B.getD k 0 = b := ⟨_, rfl⟩
        rw [hbk] at cb bb
        clear sB hcb
        have dA : (k : Int) < (A.length : Int) := by omega
        have dB : (k : Int) < (B.length : Int) := by omega
        have HV' := hide (plus_val (s := c + a + b) HDL.out hak hbk (by omega) HV.out)
        clear hak hbk
        go_wp2_with (at_builtin; refine wpList_append_own _ rfl (.tmp 44) (.tmp 47) 61 rfl w.heap.size 3 i0 (.int .i64 0) 1 8 Try.underlying61 hi hz0 hz1 hz2 rfl (by decide) _ _ _ rfl (hown.alloc _) ⟨wr.heap.size, 0, none⟩ 1 1 [.int .i64 ((c + a + b) % 10000)] rfl rfl (cell_one_new _ _ _) ?c211 ?c311 ?c411 ?c511 ?_)
        case c211 => first | rfl | (intro u hu; simp at hu; subst hu; rfl)
        case c311 => unfold maxLen; omega
        case c411 => omega
        case c511 => first | omega | (simp; omega)
        intro v' w1 hown' hgrow _
        have R := step_own hown' hgrow hbel (hown.lt)
        clear hown' hgrow hown
        go_wp2
        go_roundw
        case rel => exact ⟨k + 1, (c + a + b) / 10000, ds ++ [(c + a + b) % 10000], rfl, by go_num, by omega, by omega, by have := HDL.out; simp; omega, limb_append.2 ⟨HD.out, limb_cons.2 ⟨by omega, limb_nil⟩⟩, HV'.out, R.1, R.2⟩
        case measure => simp [intOf]; omega
      · have hbk := getD_past B k hltB
        have sA := hA.below hbel
        obtain ⟨b1, off1, rfl, hca⟩ := sA.cells (by omega)
        have ca := hca k hltA
        have ba := limb_getD P3.out k
        obtain ⟨a, hak⟩ : ∃ a, A.getD k 0 = a := ⟨_, rfl⟩
        rw [hak] at ca ba
        clear sA hca
        have dA : (k : Int) < (A.length : Int) := by omega
        have dB : ¬ (k : Int) < (B.length : Int) := by omega
        have HV' := hide (plus_val (s := c + a) HDL.out hak hbk (by omega) HV.out)
        clear hak hbk
        go_wp2_with (at_builtin; refine wpList_append_own _ rfl (.tmp 44) (.tmp 47) 61 rfl w.heap.size 3 i0 (.int .i64 0) 1 8 Try.underlying61 hi hz0 hz1 hz2 rfl (by decide) _ _ _ rfl (hown.alloc _) ⟨wr.heap.size, 0, none⟩ 1 1 [.int .i64 ((c + a) % 10000)] rfl rfl (cell_one_new _ _ _) ?c210 ?c310 ?c410 ?c510 ?_)
        case c210 => first | rfl | (intro u hu; simp at hu; subst hu; rfl)
        case c310 => unfold maxLen; omega
        case c410 => omega
        case c510 => first | omega | (simp; omega)
        intro v' w1 hown' hgrow _
        have R := step_own hown' hgrow hbel (hown.lt)
        clear hown' hgrow hown
        go_wp2
        go_roundw
        case rel => exact ⟨k + 1, (c + a) / 10000, ds ++ [(c + a) % 10000], rfl, by go_num, by omega, by omega, by have := HDL.out; simp; omega, limb_append.2 ⟨HD.out, limb_cons.2 ⟨by omega, limb_nil⟩⟩, HV'.out, R.1, R.2⟩
        case measure => simp [intOf]; omega
    · have hak := getD_past A k hltA
      by_cases hltB : k < B.length
      · have sB := hB.below hbel
        obtain ⟨b2, off2, rfl, hcb⟩ := sB.cells (by omega)
        have cb := hcb k hltB
        have bb := limb_getD Q3.out k
        obtain ⟨b, hbk⟩ : ∃ b, B.getD k 0 = b := ⟨_, rfl⟩
        rw [hbk] at cb bb
        clear sB hcb
        have dA : ¬ (k : Int) < (A.length : Int) := by omega
        have dB : (k : Int) < (B.length : Int) := by omega
        have HV' := hide (plus_val (s := c + b) HDL.out hak hbk (by omega) HV.out)
        clear hak hbk
        go_wp2_with (at_builtin; refine wpList_append_own _ rfl (.tmp 44) (.tmp 47) 61 rfl w.heap.size 3 i0 (.int .i64 0) 1 8 Try.underlying61 hi hz0 hz1 hz2 rfl (by decide) _ _ _ rfl (hown.alloc _) ⟨wr.heap.size, 0, none⟩ 1 1 [.int .i64 ((c + b) % 10000)] rfl rfl (cell_one_new _ _ _) ?c201 ?c301 ?c401 ?c501 ?_)
        case c201 => first | rfl | (intro u hu; simp at hu; subst hu; rfl)
        case c301 => unfold maxLen; omega
        case c401 => omega
        case c501 => first | omega | (simp; omega)
        intro v' w1 hown' hgrow _
        have R := step_own hown' hgrow hbel (hown.lt)
        clear hown' hgrow hown
        go_wp2
        go_roundw
        case rel => exact ⟨k + 1, (c + b) / 10000, ds ++ [(c + b) % 10000], rfl, by go_num, by omega, by omega, by have := HDL.out; simp; omega, limb_append.2 ⟨HD.out, limb_cons.2 ⟨by omega, limb_nil⟩⟩, HV'.out, R.1, R.2⟩
        case measure => simp [intOf]; omega
      · have hbk := getD_past B k hltB
        by_cases hc0 : 0 < c
        · have dA : ¬ (k : Int) < (A.length : Int) := by omega
          have dB : ¬ (k : Int) < (B.length : Int) := by omega
          have HV' := hide (plus_val (s := c) HDL.out hak hbk (by omega) HV.out)
          clear hak hbk
          go_wp2_with (at_builtin; refine wpList_append_own _ rfl (.tmp 44) (.tmp 47) 61 rfl w.heap.size 3 i0 (.int .i64 0) 1 8 Try.underlying61 hi hz0 hz1 hz2 rfl (by decide) _ _ _ rfl (hown.alloc _) ⟨wr.heap.size, 0, none⟩ 1 1 [.int .i64 ((c) % 10000)] rfl rfl (cell_one_new _ _ _) ?c200 ?c300 ?c400 ?c500 ?_)
          case c200 => first | rfl | (intro u hu; simp at hu; subst hu; rfl)
          case c300 => unfold maxLen; omega
          case c400 => omega
          case c500 => first | omega | (simp; omega)
          intro v' w1 hown' hgrow _
          have R := step_own hown' hgrow hbel (hown.lt)
          clear hown' hgrow hown
          go_wp2
          go_roundw
          case rel => exact ⟨k + 1, (c) / 10000, ds ++ [(c) % 10000], rfl, by go_num, by omega, by omega, by have := HDL.out; simp; omega, limb_append.2 ⟨HD.out, limb_cons.2 ⟨by omega, limb_nil⟩⟩, HV'.out, R.1, R.2⟩
          case measure => simp [intOf]; omega
        · have hc1 : c = 0 := by omega
          subst hc1
          have dA : ¬ (k : Int) < (A.length : Int) := by omega
          have dB : ¬ (k : Int) < (B.length : Int) := by omega
          have how := ow_of_row hown HD.out
          have hvv : val ds = val A + val B := by
            have := HV.out
            rw [Int.mul_zero, Int.add_zero, vf_all A _ (by omega), vf_all B _ (by omega)] at this
            exact this
          have hdl := HDL.out
          have HVV := hide hvv
          have HDL' : Hid (ds.length ≤ A.length + B.length + 1) := by show _ ≤ _; omega
          clear hvv hak hbk hown hdl
          go_wp2
          go_ret
          exact ⟨_, rfl, ⟨ds, how, HVV.out, HDL'.out⟩, hbel⟩
end Dm
end Go.Proofs.Ytpofkigboedliaa

namespace Go.Proofs.Ytpofkigboedliaa
namespace Dm
open Go.RowKit
open Lm (hide lt_of_cell lt_of_heap)
theorem Sl.copy {w : World} {b off n cap : Nat} {D : List Int} (h : Sl w (.slice (some ⟨b, off, none⟩) n cap) D) : ∀ j u, (D.map (Value.int .i64))[j]? = some u → w.cell? ((⟨b, off, none⟩ : Addr).add j) = some u := by
  intro j u hu
  rw [List.getElem?_map] at hu
  have hj : j < D.length := by
    apply Classical.byContradiction
    intro hn
    rw [List.getElem?_eq_none (by omega)] at hu
    cases hu
  rw [List.getElem?_eq_getElem hj] at hu
  obtain ⟨b', off', e, hc⟩ := h.cells (by omega)
  obtain ⟨rfl, rfl⟩ : b = b' ∧ off = off' := by simpa using e
  have hcj := hc j hj
  rw [List.getD_eq_getElem?_getD, List.getElem?_eq_getElem hj] at hcj
  rw [show ((⟨b, off, none⟩ : Addr).add j) = ⟨b, off + j, none⟩ from by simp [Addr.add], hcj]
  exact hu
theorem one_cells (D : List Int) : ∀ u ∈ D.map (Value.int .i64), u.oneCell' = true := by
  intro u hu
  obtain ⟨z, _, rfl⟩ := List.mem_map.1 hu
  rfl
def dec (t : Int) : List Int → List Int
  | [] => []
  | x :: xs => (x - t) :: xs
theorem dec_zero (xs : List Int) : dec 0 xs = xs := by cases xs <;> simp [dec]
theorem less_val {A B lo : List Int} {k : Nat} {a b t t' s : Int} (hk : lo.length = k) (ha : A.getD k 0 = a) (hb : B.getD k 0 = b) (hs : s = a - t - b + 10000 * t') (h : val lo + vf B k = vf A k + pw k * t) :
    val (lo ++ [s]) + vf B (k + 1) = vf A (k + 1) + pw (k + 1) * t' := by
  rw [val_snoc, vf, vf, ha, hb, hk, pw, hs]
  have e : 10000 * pw k * t' = pw k * (10000 * t') := by rw [Int.mul_comm 10000 (pw k), Int.mul_assoc]
  rw [e, Int.mul_add, Int.mul_sub, Int.mul_sub]
  omega
theorem set_mid (lo r : List Int) (x y : Int) (k : Nat) (hk : lo.length = k) : (lo ++ x :: r).set k y = lo ++ y :: r := by
  subst hk
  induction lo with
  | nil => rfl
  | cons z zs ih => simp
theorem getD_mid (lo r : List Int) (x : Int) (k : Nat) (hk : lo.length = k) : (lo ++ x :: r).getD k 0 = x := by
  subst hk
  simp [List.getD_eq_getElem?_getD]
theorem dec_drop (A : List Int) (k : Nat) (t : Int) (h : k < A.length) : dec t (A.drop k) = (A.getD k 0 - t) :: A.drop (k + 1) := by
  rw [drop_getD A k h]; rfl
theorem less_top {A B lo : List Int} {k : Nat} {a b t s : Int} (hk : lo.length = k) (hA : A.length = k + 1) (hB : B.length ≤ A.length) (hle : val B ≤ val A) (hlo : Limb lo) (ha : A.getD k 0 = a) (hb : B.getD k 0 = b) (hs : s = a - t - b) (h : val lo + vf B k = vf A k + pw k * t) : 0 ≤ s := by
  have h1 := less_val (t' := 0) (s := s) hk ha hb (by omega) h
  rw [vf_all A _ (by omega), vf_all B _ (by omega), Int.mul_zero, Int.add_zero, val_snoc, hk] at h1
  have h2 := (val_bounds hlo).2
  rw [hk] at h2
  apply Classical.byContradiction
  intro hn
  have h3 : pw k * s ≤ pw k * (-1) := Int.mul_le_mul_of_nonneg_left (by omega) (by have := pw_pos k; omega)
  omega
set_option maxRecDepth 20000 in
set_option maxHeartbeats 1000000 in
theorem less_any (w : World) (a1 : Option Addr) (n1 c1 : Nat) (A : List Int) (hA : Sl w (.slice a1 n1 c1) A) (a2 : Option Addr) (n2 c2 : Nat) (B : List Int) (hB : Sl w (.slice a2 n2 c2) B) (hl1 : A.length ≤ 1000000) (hBA : B.length ≤ A.length) (hle : val B ≤ val A) (h0 : 0 < A.length) :
    Calls Try.prog 70 #[.slice a1 n1 c1, .slice a2 n2 c2] w fun e w' => ∃ v, e = .returned v ∧ Dl w.heap.size w' v (val A - val B) A.length ∧ Below w.heap.size w w' := by
  obtain ⟨rfl, p1, p2, p3⟩ := hA.parts
  obtain ⟨rfl, q1, q2, q3⟩ := hB.parts
  obtain ⟨i0, hi, hz0, hz1, hz2⟩ := info_parts info64
  obtain ⟨b1, off1, rfl, _⟩ := hA.cells h0
  have hcells := hA.copy
  have hone := one_cells A
  have P3 := hide p3
  have Q3 := hide q3
  have HLE := hide hle
  clear p3 q3 hle
  go_enter Try.func70, Try.ntmps70
  go_wp2_with (at_builtin; refine wpList_append_own _ rfl (.const (.slice none 0 0)) (.tmp 7) 61 rfl w.heap.size 3 i0 (.int .i64 0) 1 8 Try.underlying61 hi hz0 hz1 hz2 rfl (by decide) _ _ _ rfl (World.ownsRow_nil _ _ _ _) ⟨b1, off1, none⟩ A.length c1 (A.map (Value.int .i64)) rfl (by simp) hcells hone (by unfold maxLen; omega) (by omega) (by simp) ?_)
  intro v' w1 hown hgrow _
  have hb1 : Below w.heap.size w w1 := (Below.refl w.heap.size w).grown hgrow (by simp) (by intro k hk; simp [Value.ownBlock] at hk)
  obtain ⟨ao, cap, rfl, o1, o2, _, o4⟩ := ow_of_row hown P3.out
  rcases o4 with o4 | ⟨g, off, cur, rfl, hg, hh, hsz, hat⟩
  · omega
  have o2' : cap ≤ 9223372036854775807 := o2
  have HH := hide hh
  have HA := hide hat
  have HSZ := hide hsz
  clear hown hgrow hcells hone hh hat o2 hsz
  go_wp2
  go_loopw [6] (fun iv wr => ∃ (k : Nat) (t : Int) (lo : List Int) (cur' : Array Value), k ≤ A.length ∧ iv = .int .i64 k ∧ (0 ≤ t ∧ t ≤ 1) ∧ (k = A.length → t = 0) ∧ lo.length = k ∧ Limb lo ∧ val lo + vf B k = vf A k + pw k * t ∧ Wr w1 wr g cur' 3 ∧ cur'.size = cur.size ∧ At cur' .i64 off (lo ++ dec t (A.drop k))) (fun iv _ => A.length - (intOf iv).toNat)
  case atStart => exact ⟨0, 0, [], cur, Nat.zero_le _, rfl, by omega, fun _ => rfl, rfl, limb_nil, by simp [val, vf, pw], Wr.refl HH.out, rfl, by simpa [dec_zero] using HA.out⟩
  case round =>
    obtain ⟨k, t, lo, cur', hk, rfl, ht, hkt, hlol, hlo, hval, hwr, hcs, hat⟩ := hrel
    have HLO := hide hlo
    have HLL := hide hlol
    have HV := hide hval
    have HC := hide hcs
    have hww : Wr w1 wr g cur' 3 := hwr
    by_cases hlt : k < A.length
    · rw [dec_drop A k t hlt] at hat
      have ba := limb_getD P3.out k
      obtain ⟨a, hak⟩ : ∃ a, A.getD k 0 = a := ⟨_, rfl⟩
      rw [hak] at hat ba
      have dA : (k : Int) < (A.length : Int) := by omega
      have dC : (k : Int) < (cap : Int) := by omega
      by_cases hltB : k < B.length
      · have sB := hwr.sl hg hb1 rfl hB
        obtain ⟨b2, off2, rfl, hcb⟩ := sB.cells (by omega)
        have cb := hcb k hltB
        have bb := limb_getD Q3.out k
        obtain ⟨b, hbk⟩ : ∃ b, B.getD k 0 = b := ⟨_, rfl⟩
        rw [hbk] at cb bb
        have dB : (k : Int) < (B.length : Int) := by omega
        have cd := hat.cell hwr.here k (by simp; omega)
        rw [getD_mid _ _ _ _ HLL.out] at cd
        have fd := hwr.free (off + k)
        have hat2 := hat.set k (a - t - b)
        rw [set_mid _ _ _ _ _ HLL.out] at hat2
        have hw2 := (hwr.set (off + k) (.int .i64 (a - t - b))).drew
        have HC2 : Hid ((cur'.setIfInBounds (off + k) (.int .i64 (a - t - b))).size = cur.size) := by show _ = _; rw [Array.size_setIfInBounds]; exact HC.out
        generalize hcur2 : cur'.setIfInBounds (off + k) (.int .i64 (a - t - b)) = cur2 at hat2 hw2 HC2
        have X2 := hide hat2
        have W2 := hide hw2
        have KB := hide hbk
        have KA := hide hak
        clear sB hcb hcur2 hat hwr hww hat2 hw2 hbk hak hlol hlo hval hcs
        go_wp2
        go_region
        generalize (wr.setCell ⟨g, off + k, none⟩ (.int .i64 (a - t - b))).drew = W at W2 ⊢
        have hat2 := X2.out
        have hw2 := W2.out
        have hak := KA.out
        have hbk := KB.out
        clear X2 W2 KA KB cd fd
        have hsv : Hid (val (lo ++ [a - t - b]) + vf B (k + 1) = vf A (k + 1) + pw (k + 1) * 0) := less_val (t' := 0) HLL.out hak hbk (by omega) HV.out
        have hsv1 : Hid (val (lo ++ [a - t - b + 10000]) + vf B (k + 1) = vf A (k + 1) + pw (k + 1) * 1) := less_val (t' := 1) HLL.out hak hbk (by omega) HV.out
        have htop : Hid (A.length = k + 1 → 0 ≤ a - t - b) := fun h => less_top HLL.out h hBA HLE.out HLO.out hak hbk (by omega) HV.out
        have cs := hat2.cell hw2.here k (by have := HLL.out; simp; omega)
        rw [getD_mid _ _ _ _ HLL.out] at cs
        have fs := hw2.free (off + k)
        by_cases hneg : a - t - b < 0
        · have hk1 : k + 1 < A.length := by
            apply Classical.byContradiction
            intro hn
            have := htop.out (by omega)
            omega
          have hat3 := hat2.set k (a - t - b + 10000)
          rw [set_mid _ _ _ _ _ HLL.out] at hat3
          have hw3 := (hw2.set (off + k) (.int .i64 (a - t - b + 10000)))
          have dB1 : (k : Int) + 1 < (A.length : Int) := by omega
          have e3 : lo ++ (a - t - b + 10000) :: A.drop (k + 1) = (lo ++ [a - t - b + 10000]) ++ A.getD (k + 1) 0 :: A.drop (k + 1 + 1) := by rw [drop_getD A (k + 1) hk1]; simp
          have HLL3 : (lo ++ [a - t - b + 10000]).length = k + 1 := by simp; exact HLL.out
          rw [e3] at hat3
          obtain ⟨a', hak'⟩ : ∃ a', A.getD (k + 1) 0 = a' := ⟨_, rfl⟩
          have ba' := limb_getD P3.out (k + 1)
          rw [hak'] at hat3 ba'
          have e2 : lo ++ (a - t - b) :: A.drop (k + 1) = (lo ++ [a - t - b]) ++ A.getD (k + 1) 0 :: A.drop (k + 1 + 1) := by rw [drop_getD A (k + 1) hk1]; simp
          have cs3 := hat2.cell hw2.here (k + 1) (by have := HLL.out; simp; omega)
          rw [e2, getD_mid _ _ _ _ (by simp; exact HLL.out), hak'] at cs3
          have fs3 := hw2.free (off + (k + 1))
          have fs4 := hw3.free (off + (k + 1))
          have hat4 := hat3.set (k + 1) (a' - 1)
          rw [set_mid _ _ _ _ _ HLL3] at hat4
          have hw4 := hw3.set (off + (k + 1)) (.int .i64 (a' - 1))
          rw [show (lo ++ [a - t - b + 10000]) ++ (a' - 1) :: A.drop (k + 1 + 1) = (lo ++ [a - t - b + 10000]) ++ dec 1 (A.drop (k + 1)) from by rw [dec_drop A (k + 1) 1 hk1, hak']] at hat4
          have HF := hide hat4
          have HW4 := hide hw4
          clear hat2 hat3 hat4 e3 e2 hw2 hw3 hw4 HLL3 hak hak' hbk hsv htop
          go_wp2
          go_roundw
          case rel => exact ⟨k + 1, 1, lo ++ [a - t - b + 10000], _, by omega, by go_num, by omega, fun h => by omega, by simp; exact HLL.out, limb_append.2 ⟨HLO.out, limb_cons.2 ⟨by omega, limb_nil⟩⟩, hsv1.out, HW4.out, by rw [Array.size_setIfInBounds, Array.size_setIfInBounds]; exact HC2.out, HF.out⟩
          case measure => simp [intOf]; omega
        · have HF : Hid (At cur2 .i64 off ((lo ++ [a - t - b]) ++ dec 0 (A.drop (k + 1)))) := by rw [dec_zero, List.append_assoc]; exact hat2
          have HW2 := hide hw2
          have HK := hide (show k + 1 ≤ A.length by omega)
          have HD := hide hsv.out
          clear hat2 hw2 hak hbk hsv hsv1 htop
          go_wp2
          go_roundw
          case rel => exact ⟨k + 1, 0, lo ++ [a - t - b], cur2, HK.out, by go_num, by omega, fun _ => rfl, by simp; exact HLL.out, limb_append.2 ⟨HLO.out, limb_cons.2 ⟨by omega, limb_nil⟩⟩, HD.out, HW2.out, HC2.out, HF.out⟩
          case measure => simp [intOf]; omega
      · have hbk := getD_past B k hltB
        have dB : ¬ (k : Int) < (B.length : Int) := by omega
        have hat2 : At cur' .i64 off (lo ++ (a - t) :: A.drop (k + 1)) := hat
        have hw2 := hwr
        have HC2 := HC
        generalize cur' = cur2 at hat2 hw2 HC2
        clear hat hww hcs hval hlo hlol
        have hsv : Hid (val (lo ++ [a - t]) + vf B (k + 1) = vf A (k + 1) + pw (k + 1) * 0) := less_val (t' := 0) HLL.out hak hbk (by omega) HV.out
        have hsv1 : Hid (val (lo ++ [a - t + 10000]) + vf B (k + 1) = vf A (k + 1) + pw (k + 1) * 1) := less_val (t' := 1) HLL.out hak hbk (by omega) HV.out
        have htop : Hid (A.length = k + 1 → 0 ≤ a - t) := fun h => less_top HLL.out h hBA HLE.out HLO.out hak hbk (by omega) HV.out
        have cs := hat2.cell hw2.here k (by have := HLL.out; simp; omega)
        rw [getD_mid _ _ _ _ HLL.out] at cs
        have fs := hw2.free (off + k)
        by_cases hneg : a - t < 0
        · have hk1 : k + 1 < A.length := by
            apply Classical.byContradiction
            intro hn
            have := htop.out (by omega)
            omega
          have hat3 := hat2.set k (a - t + 10000)
          rw [set_mid _ _ _ _ _ HLL.out] at hat3
          have hw3 := (hw2.set (off + k) (.int .i64 (a - t + 10000)))
          have dB1 : (k : Int) + 1 < (A.length : Int) := by omega
          have e3 : lo ++ (a - t + 10000) :: A.drop (k + 1) = (lo ++ [a - t + 10000]) ++ A.getD (k + 1) 0 :: A.drop (k + 1 + 1) := by rw [drop_getD A (k + 1) hk1]; simp
          have HLL3 : (lo ++ [a - t + 10000]).length = k + 1 := by simp; exact HLL.out
          rw [e3] at hat3
          obtain ⟨a', hak'⟩ : ∃ a', A.getD (k + 1) 0 = a' := ⟨_, rfl⟩
          have ba' := limb_getD P3.out (k + 1)
          rw [hak'] at hat3 ba'
          have e2 : lo ++ (a - t) :: A.drop (k + 1) = (lo ++ [a - t]) ++ A.getD (k + 1) 0 :: A.drop (k + 1 + 1) := by rw [drop_getD A (k + 1) hk1]; simp
          have cs3 := hat2.cell hw2.here (k + 1) (by have := HLL.out; simp; omega)
          rw [e2, getD_mid _ _ _ _ (by simp; exact HLL.out), hak'] at cs3
          have fs3 := hw2.free (off + (k + 1))
          have fs4 := hw3.free (off + (k + 1))
          have hat4 := hat3.set (k + 1) (a' - 1)
          rw [set_mid _ _ _ _ _ HLL3] at hat4
          have hw4 := hw3.set (off + (k + 1)) (.int .i64 (a' - 1))
          rw [show (lo ++ [a - t + 10000]) ++ (a' - 1) :: A.drop (k + 1 + 1) = (lo ++ [a - t + 10000]) ++ dec 1 (A.drop (k + 1)) from by rw [dec_drop A (k + 1) 1 hk1, hak']] at hat4
          have HF := hide hat4
          have HW4 := hide hw4
          clear hat2 hat3 hat4 e3 e2 hw2 hw3 hw4 HLL3 hak hak' hbk hsv htop
          go_wp2
          go_roundw
          case rel => exact ⟨k + 1, 1, lo ++ [a - t + 10000], _, by omega, by go_num, by omega, fun h => by omega, by simp; exact HLL.out, limb_append.2 ⟨HLO.out, limb_cons.2 ⟨by omega, limb_nil⟩⟩, hsv1.out, HW4.out, by rw [Array.size_setIfInBounds, Array.size_setIfInBounds]; exact HC2.out, HF.out⟩
          case measure => simp [intOf]; omega
        · have HF : Hid (At cur2 .i64 off ((lo ++ [a - t]) ++ dec 0 (A.drop (k + 1)))) := by rw [dec_zero, List.append_assoc]; exact hat2
          have HW2 := hide hw2
          have HK := hide (show k + 1 ≤ A.length by omega)
          have HD := hide hsv.out
          clear hat2 hw2 hak hbk hsv hsv1 htop
          go_wp2
          go_roundw
          case rel => exact ⟨k + 1, 0, lo ++ [a - t], cur2, HK.out, by go_num, by omega, fun _ => rfl, by simp; exact HLL.out, limb_append.2 ⟨HLO.out, limb_cons.2 ⟨by omega, limb_nil⟩⟩, HD.out, HW2.out, HC2.out, HF.out⟩
          case measure => simp [intOf]; omega
    · have hkn : k = A.length := by omega
      have ht0 := hkt hkn
      have hvv : val lo = val A - val B := by
        have h9 := HV.out
        rw [ht0, Int.mul_zero, Int.add_zero, vf_all A _ (by omega), vf_all B _ (by omega)] at h9
        omega
      have how : Ow w.heap.size wr (.slice (some ⟨g, off, none⟩) A.length cap) lo := by
        rw [List.drop_of_length_le (by omega)] at hat
        simp only [dec, List.append_nil] at hat
        exact ⟨_, cap, by rw [hlol, hkn], by omega, o2', hlo, .inr ⟨g, off, cur', rfl, hg, hwr.here, by rw [hcs]; exact HSZ.out, hat⟩⟩
      have D : Hid (Dl w.heap.size wr (.slice (some ⟨g, off, none⟩) A.length cap) (val A - val B) A.length) := ⟨lo, how, hvv, by omega⟩
      have hbel : Below w.heap.size w wr := hb1.trans (hwr.below hg)
      have dA : ¬ (k : Int) < (A.length : Int) := by omega
      clear hvv how hat hwr hww hcs hval hlo hlol ht0 hkt hkn
      go_wp2
      go_ret
      exact ⟨_, rfl, D.out, hbel⟩
end Dm
end Go.Proofs.Ytpofkigboedliaa

