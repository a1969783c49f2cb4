/-
  Structs that hold the document's own numbers and fractions, and single operations on them, over a frame that is not written out. Lowest terms, as numbers: fractions that are one number have one numerator and one denominator. No program is named here. The laws of fractions in lowest terms, as numbers. No program is named here. The contracts of the reference's Uint and Small.
-/
import Derived.Test.YtkdcgnooeojjgabRMkLawM41
import Derived.Test.YtkdcgnooeojjgabRMkLawM45
import Derived.Test.YtkdcgnooeojjgabRMkLawM47
import Derived.Test.YtkdcgnooeojjgabRMkLawM40
import Derived.Test.YtkdcgnooeojjgabRMkLawM43
namespace Go.Proofs.Ytkdcgnooeojjgab
namespace Dm
open Go Go.RowKit
theorem Sl.rl {w w' : World} {v : Value} {zs : List Int} (h : Sl w v zs) (hr : Lm.Rl w w') : Sl w' v zs := by
  obtain ⟨ao, cap, rfl, h1, h2, h3, h4⟩ := h
  refine ⟨ao, cap, rfl, h1, h2, h3, ?_⟩
  rcases h4 with h4 | ⟨b, off, rfl, hc⟩
  · exact .inl h4
  · exact .inr ⟨b, off, rfl, fun i hi => hr.ints _ _ _ (hc i hi)⟩
theorem Wh.rl {w w' : World} {ng : Bool} {ao : Option Addr} {cap : Nat} {rs : List Int} {z : Int} (h : Wh w ng ao cap rs z) (hr : Lm.Rl w w') : Wh w' ng ao cap rs z := ⟨⟨h.1.1.rl hr, h.1.2⟩, h.2⟩
theorem pw_small (n : Nat) : pw n ≤ Lm.pw n := by
  induction n with
  | zero => simp [pw, Lm.pw]
  | succ n ih =>
    have := pw_pos n
    simp only [pw, Lm.pw]
    omega
theorem Wh.bound {w : World} {ng : Bool} {ao : Option Addr} {cap : Nat} {rs : List Int} {z : Int} {L : Nat} (h : Wh w ng ao cap rs z) (hl : rs.length ≤ L) : (z.natAbs : Int) < Lm.pw L := by
  have h1 := (val_bounds h.1.canon.1).2
  rw [h.1.val] at h1
  have h2 := pw_mono hl
  have h3 := pw_small L
  omega
theorem Wh.some {w : World} {ng : Bool} {ao : Option Addr} {cap : Nat} {rs : List Int} {z : Int} (h : Wh w ng ao cap rs z) (hz : z ≠ 0) : 0 < rs.length := by
  apply Classical.byContradiction
  intro hn
  exact hz (h.zero.2 (List.eq_nil_of_length_eq_zero (by omega)))
end Dm
namespace Lm
open Go Go.RowKit

/-- The document's own numbers; its fractions. -/
def N2 : BoxTy := ⟨66, .agg #[.bool false, .slice none 0 0], fun v cs => ∃ ng ao n c, v = .agg #[.bool ng, .slice ao n c] ∧ cs = #[.bool ng, .slice ao n c]⟩
theorem N2ok : BoxOk Try.prog N2 where
  noInt := by
    rintro v cs ⟨ng, ao, n, c, rfl, rfl⟩ i k z
    match i with
    | 0 => simp
    | 1 => simp
    | i + 2 => simp
  ne := by unfold N2; exact ⟨by decide, by decide⟩
  alloc := fun w => ⟨#[.bool false, .slice none 0 0], ⟨_, _, _, _, rfl, rfl⟩, by unfold N2; go_simp⟩
  box := by
    rintro w v ⟨cs, ng, ao, n, c, rfl, rfl⟩
    exact ⟨_, ⟨_, _, _, _, rfl, rfl⟩, by unfold N2; go_simp⟩
  store := by
    rintro w g v0 v ⟨cs0, ⟨m, bo, p, d, rfl, rfl⟩, hh⟩ ⟨cs, ng, ao, n, c, rfl, rfl⟩
    have hb : Dm.Box w g m (.slice bo p d) := hh
    obtain ⟨b1, b2, b3, b4⟩ := hb.facts
    refine ⟨(w.setCell ⟨g, 0, none⟩ (.bool ng)).setCell ⟨g, 1, none⟩ (.slice ao n c), ?_, ⟨_, ⟨_, _, _, _, rfl, rfl⟩, hb.set ng (.slice ao n c)⟩, ⟨rfl, rfl, rfl, by simp [World.setCell], fun k hk => ?_⟩⟩
    · unfold N2
      go_simp
    · rw [Below.heap_setCell _ _ _ _ (by simpa using hk), Below.heap_setCell _ _ _ _ (by simpa using hk)]
  load := by
    rintro w g v ⟨cs, ⟨ng, ao, n, c, rfl, rfl⟩, hh⟩
    obtain ⟨b1, b2, b3, b4⟩ := (show Dm.Box w g ng (.slice ao n c) from hh).facts
    unfold N2
    go_simp

def Q4 : BoxTy := ⟨68, .agg #[.bool false, .slice none 0 0, .bool false, .slice none 0 0], fun v cs => ∃ ng ao n c mg bo m d, v = .agg #[.bool ng, .slice ao n c, .bool mg, .slice bo m d] ∧ cs = #[.bool ng, .slice ao n c, .bool mg, .slice bo m d]⟩
theorem q4_facts {w : World} {g : Nat} {x y z u : Value} {T : TypeId} (h : w.heap[g]? = some (.cells #[x, y, z, u] T (0, 0))) : w.cell? ⟨g, 0, none⟩ = some x ∧ w.cell? ⟨g, 1, none⟩ = some y ∧ w.cell? ⟨g, 2, none⟩ = some z ∧ w.cell? ⟨g, 3, none⟩ = some u ∧ w.frozen? ⟨g, 0, none⟩ = false ∧ w.frozen? ⟨g, 1, none⟩ = false ∧ w.frozen? ⟨g, 2, none⟩ = false ∧ w.frozen? ⟨g, 3, none⟩ = false :=
  ⟨by rw [cell_of_row _ _ _ _ _ (0, 0) h]; rfl, by rw [cell_of_row _ _ _ _ _ (0, 0) h]; rfl, by rw [cell_of_row _ _ _ _ _ (0, 0) h]; rfl, by rw [cell_of_row _ _ _ _ _ (0, 0) h]; rfl, frozen_of_row _ _ _ _ _ h, frozen_of_row _ _ _ _ _ h, frozen_of_row _ _ _ _ _ h, frozen_of_row _ _ _ _ _ h⟩
theorem Q4ok : BoxOk Try.prog Q4 where
  noInt := by
    rintro v cs ⟨ng, ao, n, c, mg, bo, m, d, rfl, rfl⟩ i k z
    match i with
    | 0 => simp
    | 1 => simp
    | 2 => simp
    | 3 => simp
    | i + 4 => simp
  ne := by unfold Q4; exact ⟨by decide, by decide⟩
  alloc := fun w => ⟨#[.bool false, .slice none 0 0, .bool false, .slice none 0 0], ⟨_, _, _, _, _, _, _, _, rfl, rfl⟩, by unfold Q4; go_simp⟩
  box := by
    rintro w v ⟨cs, ng, ao, n, c, mg, bo, m, d, rfl, rfl⟩
    exact ⟨_, ⟨_, _, _, _, _, _, _, _, rfl, rfl⟩, by unfold Q4; go_simp⟩
  store := by
    rintro w g v0 v ⟨cs0, ⟨m, bo, p, d, mg, b2, d2, e2, rfl, rfl⟩, hh⟩ ⟨cs, ng, ao, n, c, m2, co, q, f, rfl, rfl⟩
    obtain ⟨b1, b2, b3, b4, b5, b6, b7, b8⟩ := q4_facts hh
    have h1 := heap_setCell_same w g 0 _ _ (.bool ng) hh
    have h2 := heap_setCell_same _ g 1 _ _ (.slice ao n c) h1
    have h3 := heap_setCell_same _ g 2 _ _ (.bool m2) h2
    have h4 := heap_setCell_same _ g 3 _ _ (.slice co q f) h3
    refine ⟨(((w.setCell ⟨g, 0, none⟩ (.bool ng)).setCell ⟨g, 1, none⟩ (.slice ao n c)).setCell ⟨g, 2, none⟩ (.bool m2)).setCell ⟨g, 3, none⟩ (.slice co q f), ?_, ⟨_, ⟨_, _, _, _, _, _, _, _, rfl, rfl⟩, h4⟩, ⟨rfl, rfl, rfl, by simp [World.setCell], fun k hk => ?_⟩⟩
    · unfold Q4
      go_simp
    · rw [Below.heap_setCell _ _ _ _ (by simpa using hk), Below.heap_setCell _ _ _ _ (by simpa using hk), Below.heap_setCell _ _ _ _ (by simpa using hk), Below.heap_setCell _ _ _ _ (by simpa using hk)]
  load := by
    rintro w g v ⟨cs, ⟨ng, ao, n, c, mg, bo, m, d, rfl, rfl⟩, hh⟩
    obtain ⟨b1, b2, b3, b4, b5, b6, b7, b8⟩ := q4_facts hh
    unfold Q4
    go_simp

def OutN (z : Int) (L : Nat) : Says := fun v w => ∃ ng ao cap rs, v = .agg #[.bool ng, .slice ao rs.length cap] ∧ Dm.Wh w ng ao cap rs z ∧ rs.length ≤ L
def OutQ (p q : Int) (L : Nat) : Says := fun v w => ∃ ng ao cap rs mg bo dap ss, v = .agg #[.bool ng, .slice ao rs.length cap, .bool mg, .slice bo ss.length dap] ∧ Dm.Wh w ng ao cap rs p ∧ Dm.Wh w mg bo dap ss q ∧ rs.length ≤ L ∧ ss.length ≤ L
theorem OutN.mono4 (z : Int) (L : Nat) : Mono4 (OutN z L) := fun _ _ _ hb ⟨ng, ao, cap, rs, e, h, l⟩ => ⟨ng, ao, cap, rs, e, h.rl hb, l⟩
theorem OutQ.mono4 (p q : Int) (L : Nat) : Mono4 (OutQ p q L) := fun _ _ _ hb ⟨ng, ao, cap, rs, mg, bo, dap, ss, e, h, h', l, l'⟩ => ⟨ng, ao, cap, rs, mg, bo, dap, ss, e, h.rl hb, h'.rl hb, l, l'⟩
theorem OutN.to {z z' : Int} {L L' : Nat} {v : Value} {w : World} (h : OutN z L v w) (e : z = z') (hl : L ≤ L') : OutN z' L' v w := by
  subst e
  obtain ⟨ng, ao, cap, rs, e', h, l⟩ := h
  exact ⟨ng, ao, cap, rs, e', h, Nat.le_trans l hl⟩
theorem OutQ.to {p q p' q' : Int} {L L' : Nat} {v : Value} {w : World} (h : OutQ p q L v w) (e : p = p') (e' : q = q') (hl : L ≤ L') : OutQ p' q' L' v w := by
  subst e e'
  obtain ⟨ng, ao, cap, rs, mg, bo, dap, ss, e, h, h', l, l'⟩ := h
  exact ⟨ng, ao, cap, rs, mg, bo, dap, ss, e, h, h', Nat.le_trans l hl, Nat.le_trans l' hl⟩
theorem OutN.cs {z : Int} {L : Nat} (v : Value) (w : World) (h : OutN z L v w) : ∃ cs, N2.Cs v cs := by
  obtain ⟨ng, ao, cap, rs, rfl, _⟩ := h
  exact ⟨_, _, _, _, _, rfl, rfl⟩
theorem OutQ.cs {p q : Int} {L : Nat} (v : Value) (w : World) (h : OutQ p q L v w) : ∃ cs, Q4.Cs v cs := by
  obtain ⟨ng, ao, cap, rs, mg, bo, dap, ss, rfl, _⟩ := h
  exact ⟨_, _, _, _, _, _, _, _, _, rfl, rfl⟩
theorem n2_cs {ng : Bool} {ao : Option Addr} {n c : Nat} : ∃ cs, N2.Cs (.agg #[.bool ng, .slice ao n c]) cs := ⟨_, _, _, _, _, rfl, rfl⟩
theorem q4_cs {ng mg : Bool} {ao bo : Option Addr} {n c m d : Nat} : ∃ cs, Q4.Cs (.agg #[.bool ng, .slice ao n c, .bool mg, .slice bo m d]) cs := ⟨_, _, _, _, _, _, _, _, _, rfl, rfl⟩
theorem outn_eq {v : Value} {w : World} {ng : Bool} {ao : Option Addr} {c : Nat} {rs : List Int} {z : Int} {L : Nat} (h : v = .agg #[.bool ng, .slice ao rs.length c]) (hA : Dm.Wh w ng ao c rs z) (hl : rs.length ≤ L) : OutN z L v w := ⟨_, _, _, _, h, hA, hl⟩
theorem outq_eq {v : Value} {w : World} {ng mg : Bool} {ao bo : Option Addr} {c d : Nat} {rs ss : List Int} {p q : Int} {L : Nat} (h : v = .agg #[.bool ng, .slice ao rs.length c, .bool mg, .slice bo ss.length d]) (hA : Dm.Wh w ng ao c rs p) (hB : Dm.Wh w mg bo d ss q) (hl : rs.length ≤ L) (hl' : ss.length ≤ L) : OutQ p q L v w := ⟨_, _, _, _, _, _, _, _, h, hA, hB, hl, hl'⟩
theorem n2_row {w : World} {g : Nat} {ng : Bool} {ao : Option Addr} {n c : Nat} (h : BoxV N2 w g (.agg #[.bool ng, .slice ao n c])) : Dm.Box w g ng (.slice ao n c) := by
  obtain ⟨cs, ⟨_, _, _, _, e, rfl⟩, h⟩ := h
  simp only [Value.agg.injEq] at e
  simp only [Array.mk.injEq, List.cons.injEq, Value.bool.injEq, Value.slice.injEq, and_true] at e
  obtain ⟨rfl, rfl, rfl, rfl⟩ := e
  exact h
theorem q4_row {w : World} {g : Nat} {ng mg : Bool} {ao bo : Option Addr} {n c m d : Nat} (h : BoxV Q4 w g (.agg #[.bool ng, .slice ao n c, .bool mg, .slice bo m d])) : w.heap[g]? = some (.cells #[.bool ng, .slice ao n c, .bool mg, .slice bo m d] 68 (0, 0)) := by
  obtain ⟨cs, ⟨_, _, _, _, _, _, _, _, e, rfl⟩, h⟩ := h
  simp only [Value.agg.injEq] at e
  simp only [Array.mk.injEq, List.cons.injEq, Value.bool.injEq, Value.slice.injEq, and_true] at e
  obtain ⟨rfl, ⟨rfl, rfl, rfl⟩, rfl, rfl, rfl, rfl⟩ := e
  exact h
theorem lv_N2 {w : World} {g : Nat} {v : Value} (h : BoxV N2 w g v) : (loadVar 66 ⟨g, 0, none⟩).run Try.prog w = .ok v w := by
  obtain ⟨cs, ⟨ng, ao, n, c, rfl, rfl⟩, hh⟩ := h
  obtain ⟨b1, b2, b3, b4⟩ := (show Dm.Box w g ng (.slice ao n c) from hh).facts
  go_simp
theorem lv_Q4 {w : World} {g : Nat} {v : Value} (h : BoxV Q4 w g v) : (loadVar 68 ⟨g, 0, none⟩).run Try.prog w = .ok v w := by
  obtain ⟨cs, ⟨ng, ao, n, c, mg, bo, m, d, rfl, rfl⟩, hh⟩ := h
  obtain ⟨b1, b2, b3, b4, b5, b6, b7, b8⟩ := q4_facts hh
  go_simp

section
variable {dst : Option Tmp} {ty : TypeId} {pos : String} {after : Array Edge} {guard : Option (Nat × Bool)} {a : Act} {w : World} {ats : Array TypeId} {i j k g : Nat} {x y z p q : Int} {L L1 L2 : Nat}
theorem op_faN {f off : Nat} (hf : ∀ w : World, (Instr.fieldAt 66 (.pointer (some ⟨g, 0, none⟩)) f).run Try.prog w = .ok (.pointer (some ⟨g, off, none⟩)) w) (hp : a.eval (.tmp k) = .pointer (some ⟨g, 0, none⟩)) :
    Does Try.prog { dst, op := .fieldAddr 66 (.tmp k) f, type := ty, pos, after, guard } a.eval w fun v' w' => Below w.heap.size w w' ∧ Eqs (.pointer (some ⟨g, off, none⟩)) v' w' := by
  refine ⟨?_⟩
  unfold Turns
  simp only [execOp, hp]
  simp [hf]
  exact ⟨Below.refl _ _, rfl⟩
theorem fa_nneg (w : World) : (Instr.fieldAt 66 (.pointer (some ⟨g, 0, none⟩)) 0).run Try.prog w = .ok (.pointer (some ⟨g, 0, none⟩)) w := by go_simp
theorem op_faQ {f off : Nat} (hf : ∀ w : World, (Instr.fieldAt 68 (.pointer (some ⟨g, 0, none⟩)) f).run Try.prog w = .ok (.pointer (some ⟨g, off, none⟩)) w) (hp : a.eval (.tmp k) = .pointer (some ⟨g, 0, none⟩)) :
    Does Try.prog { dst, op := .fieldAddr 68 (.tmp k) f, type := ty, pos, after, guard } a.eval w fun v' w' => Below w.heap.size w w' ∧ Eqs (.pointer (some ⟨g, off, none⟩)) v' w' := by
  refine ⟨?_⟩
  unfold Turns
  simp only [execOp, hp]
  simp [hf]
  exact ⟨Below.refl _ _, rfl⟩
theorem fa_q0 (w : World) : (Instr.fieldAt 68 (.pointer (some ⟨g, 0, none⟩)) 0).run Try.prog w = .ok (.pointer (some ⟨g, 0, none⟩)) w := by go_simp
theorem fa_q1 (w : World) : (Instr.fieldAt 68 (.pointer (some ⟨g, 0, none⟩)) 1).run Try.prog w = .ok (.pointer (some ⟨g, 2, none⟩)) w := by go_simp
theorem op_ldnneg {ng : Bool} {ao : Option Addr} {n c : Nat} (hp : a.eval (.tmp k) = .pointer (some ⟨g, 0, none⟩)) (hb : BoxV N2 w g (.agg #[.bool ng, .slice ao n c])) :
    Does Try.prog { dst, op := .load 4 (.tmp k), type := ty, pos, after, guard } a.eval w fun v' w' => Below w.heap.size w w' ∧ Eqs (.bool ng) v' w' := by
  obtain ⟨b1, b2, b3, b4⟩ := (n2_row hb).facts
  refine does_load (v := .bool ng) ?_ ⟨Below.refl _ _, rfl⟩
  rw [hp]
  go_simp
theorem op_ldq0 {ng mg : Bool} {ao bo : Option Addr} {n c m d : Nat} (hp : a.eval (.tmp k) = .pointer (some ⟨g, 0, none⟩)) (hb : BoxV Q4 w g (.agg #[.bool ng, .slice ao n c, .bool mg, .slice bo m d])) :
    Does Try.prog { dst, op := .load 66 (.tmp k), type := ty, pos, after, guard } a.eval w fun v' w' => Below w.heap.size w w' ∧ Eqs (.agg #[.bool ng, .slice ao n c]) v' w' := by
  obtain ⟨b1, b2, b3, b4, b5, b6, b7, b8⟩ := q4_facts (q4_row hb)
  refine does_load (v := .agg #[.bool ng, .slice ao n c]) ?_ ⟨Below.refl _ _, rfl⟩
  rw [hp]
  go_simp
theorem op_ldq1 {ng mg : Bool} {ao bo : Option Addr} {n c m d : Nat} (hp : a.eval (.tmp k) = .pointer (some ⟨g, 2, none⟩)) (hb : BoxV Q4 w g (.agg #[.bool ng, .slice ao n c, .bool mg, .slice bo m d])) :
    Does Try.prog { dst, op := .load 66 (.tmp k), type := ty, pos, after, guard } a.eval w fun v' w' => Below w.heap.size w w' ∧ Eqs (.agg #[.bool mg, .slice bo m d]) v' w' := by
  obtain ⟨b1, b2, b3, b4, b5, b6, b7, b8⟩ := q4_facts (q4_row hb)
  refine does_load (v := .agg #[.bool mg, .slice bo m d]) ?_ ⟨Below.refl _ _, rfl⟩
  rw [hp]
  go_simp
theorem op_bQ (h1 : OutN p L (a.eval (.tmp i)) w) (h2 : OutN q L (a.eval (.tmp j)) w) : Does Try.prog { dst, op := .build 68 #[(0, .tmp i), (1, .tmp j)], type := ty, pos, after, guard } a.eval w fun v' w' => Below w.heap.size w w' ∧ OutQ p q L v' w' := by
  obtain ⟨ng, ao, cap, rs, e1, W1, l1⟩ := h1
  obtain ⟨mg, bo, dap, ss, e2, W2, l2⟩ := h2
  have e : (execOp a.eval { dst, op := .build 68 #[(0, .tmp i), (1, .tmp j)], type := ty, pos, after, guard }).run Try.prog w = .ok (.value (.agg #[.bool ng, .slice ao rs.length cap, .bool mg, .slice bo ss.length dap])) w := by
    simp only [execOp, List.map_toArray, List.map_nil, List.map_cons, e1, e2]
    go_simp
  refine ⟨?_⟩
  unfold Turns
  rw [e]
  exact ⟨Below.refl _ _, outq_eq rfl W1 W2 l1 l2⟩

theorem has_nof : Has Try.prog 58 := by unfold Has; kernel_rfl
theorem op_nof (h : IsW z L (a.eval (.tmp i)) w) (hL : L ≤ 100000) :
    Does Try.prog { dst, op := .call { callee := .value (.func 58), args := #[.tmp i], argTypes := ats }, type := ty, pos, after, guard } a.eval w fun v w' => Below w.heap.size w w' ∧ OutN z (3 * L) v w' := by
  obtain ⟨n1, a1, m1, c1, xs, e1, A1, l1⟩ := h
  refine does_call has_nof _ (by simp only [List.map_toArray, List.map_cons, List.map_nil, e1]) ((Dm.nof_z w _ _ _ _ xs z A1 (by omega)).mono ?_)
  rintro e w' ⟨ng, ao, cap, rs, rfl, G, l, hb⟩
  exact ⟨_, rfl, hb, _, _, _, _, rfl, G, by omega⟩
theorem has_nint : Has Try.prog 48 := by unfold Has; kernel_rfl
theorem op_nint {v : Int} (h1 : -9223372036854775808 ≤ v) (h2 : v ≤ 9223372036854775807) :
    Does Try.prog { dst, op := .call { callee := .value (.func 48), args := #[.const (.int .i64 v)], argTypes := ats }, type := ty, pos, after, guard } a.eval w fun v' w' => Below w.heap.size w w' ∧ OutN v 5 v' w' := by
  refine does_call has_nint _ (by simp only [List.map_toArray, List.map_cons, List.map_nil, Act.eval]) ((Dm.nint_any w v h1 h2).mono ?_)
  rintro e w' ⟨ng, ao, cap, rs, rfl, G, l, hb⟩
  exact ⟨_, rfl, hb, _, _, _, _, rfl, G, l⟩
theorem has_nsign : Has Try.prog 50 := by unfold Has; kernel_rfl
theorem op_nsign (h : OutN z L (a.eval (.tmp i)) w) :
    Does Try.prog { dst, op := .call { callee := .value (.func 50), args := #[.tmp i], argTypes := ats }, type := ty, pos, after, guard } a.eval w fun v w' => Below w.heap.size w w' ∧ Eqs (.int .i64 (Int.sign z)) v w' := by
  obtain ⟨ng, ao, cap, rs, e1, W, l⟩ := h
  refine does_call has_nsign _ (by simp only [List.map_toArray, List.map_cons, List.map_nil, e1]) ((Dm.nsign_z w _ _ _ _ _ W).mono ?_)
  rintro e w' ⟨rfl, hb⟩
  exact ⟨_, rfl, hb, rfl⟩
theorem has_nminus : Has Try.prog 85 := by unfold Has; kernel_rfl
theorem op_nminus (h : OutN z L (a.eval (.tmp i)) w) (hL : L ≤ 1000000) :
    Does Try.prog { dst, op := .call { callee := .value (.func 85), args := #[.tmp i], argTypes := ats }, type := ty, pos, after, guard } a.eval w fun v w' => Below w.heap.size w w' ∧ OutN (-z) L v w' := by
  obtain ⟨ng, ao, cap, rs, e1, W, l⟩ := h
  refine does_call has_nminus _ (by simp only [List.map_toArray, List.map_cons, List.map_nil, e1]) ((Dm.minus_g w _ _ _ _ _ W (by omega)).mono ?_)
  rintro e w' ⟨ng, ao, cap, rs, rfl, G, l, hb⟩
  exact ⟨_, rfl, hb, _, _, _, _, rfl, G, by omega⟩
theorem has_ngcd : Has Try.prog 86 := by unfold Has; kernel_rfl
theorem op_ngcd (h1 : OutN x L1 (a.eval (.tmp i)) w) (h2 : OutN y L2 (a.eval (.tmp j)) w) (hL : L1 ≤ 300000) (hL' : L2 ≤ 300000) :
    Does Try.prog { dst, op := .call { callee := .value (.func 86), args := #[.tmp i, .tmp j], argTypes := ats }, type := ty, pos, after, guard } a.eval w fun v w' => Below w.heap.size w w' ∧ OutN ((Int.gcd x y : Nat) : Int) (L1 + L2) v w' := by
  obtain ⟨ng, ao, cap, rs, e1, W, l⟩ := h1
  obtain ⟨mg, bo, dap, ss, e2, W', l'⟩ := h2
  refine does_call has_ngcd _ (by simp only [List.map_toArray, List.map_cons, List.map_nil, e1, e2]) ((Dm.ngcd_g w ng ao cap rs _ W.1 mg bo dap ss _ W'.1 (by omega) (by omega)).mono ?_)
  rintro e w' ⟨ng, ao, cap, rs, rfl, G, l, hb⟩
  rw [Dm.gcd_abs] at G
  exact ⟨_, rfl, hb, _, _, _, _, rfl, G, by omega⟩
theorem has_ndivided : Has Try.prog 81 := by unfold Has; kernel_rfl
theorem op_ndivided (h1 : OutN x L1 (a.eval (.tmp i)) w) (h2 : OutN y L2 (a.eval (.tmp j)) w) (hL : L1 ≤ 300000) (hL' : L2 ≤ 300000) (h0 : y ≠ 0) :
    Does Try.prog { dst, op := .call { callee := .value (.func 81), args := #[.tmp i, .tmp j], argTypes := ats }, type := ty, pos, after, guard } a.eval w fun v w' => Below w.heap.size w w' ∧ Tup2 (OutN ((x.natAbs : Int) / (y.natAbs : Int)) L1) (OutN ((x.natAbs : Int) % (y.natAbs : Int)) L2) v w' := by
  obtain ⟨ng, ao, cap, rs, e1, W, l⟩ := h1
  obtain ⟨mg, bo, dap, ss, e2, W', l'⟩ := h2
  refine does_call has_ndivided _ (by simp only [List.map_toArray, List.map_cons, List.map_nil, e1, e2]) ((Dm.divided_g w ng ao cap rs _ W.1 mg bo dap ss _ W'.1 (by omega) (by omega) (W'.some h0)).mono ?_)
  rintro e w' ⟨nq, pq, qq, Q, nr, pr, qr, R, rfl, G, G', l1, l2, hb⟩
  exact ⟨_, rfl, hb, _, _, rfl, ⟨_, _, _, _, rfl, G, by omega⟩, ⟨_, _, _, _, rfl, G', by omega⟩⟩
theorem has_ntold : Has Try.prog 49 := by unfold Has; kernel_rfl
theorem op_ntold (h : OutN z L (a.eval (.tmp i)) w) (hL : L ≤ 1000000) :
    Does Try.prog { dst, op := .call { callee := .value (.func 49), args := #[.tmp i], argTypes := ats }, type := ty, pos, after, guard } a.eval w fun v w' => Below w.heap.size w w' ∧ OutW z L v w' := by
  obtain ⟨ng, ao, cap, rs, e1, W, l⟩ := h
  refine does_call has_ntold _ (by simp only [List.map_toArray, List.map_cons, List.map_nil, e1]) ((Dm.told_g w _ _ _ _ _ W L (W.bound l) hL (by omega)).mono ?_)
  rintro e w' ⟨bo, dap, ls, rfl, F, l2, hb⟩
  exact ⟨_, rfl, hb, _, _, _, _, rfl, F.wh, l2⟩
theorem has_nlimbs : Has Try.prog 79 := by unfold Has; kernel_rfl
theorem op_nlimbs (h : OutN z L (a.eval (.tmp i)) w) (hL : L ≤ 1000000) (hz : 0 < z) :
    Does Try.prog { dst, op := .call { callee := .value (.func 79), args := #[.tmp i], argTypes := ats }, type := ty, pos, after, guard } a.eval w fun v w' => Below w.heap.size w w' ∧ OutL z L v w' := by
  obtain ⟨ng, ao, cap, rs, e1, W, l⟩ := h
  have hb := W.bound l
  refine does_call has_nlimbs _ (by simp only [List.map_toArray, List.map_cons, List.map_nil, e1]) ((Dm.limbs_loop w ng ao cap rs _ W.1 L hb hL (by omega) (W.some (by omega))).mono ?_)
  rintro e w' ⟨v, rfl, I, hb'⟩
  obtain ⟨ao, cap, rs, rfl, G⟩ := I.got
  have e3 : ((z.natAbs : Nat) : Int) = z := by omega
  refine ⟨_, rfl, hb', _, _, _, rfl, e3 ▸ G, canon_len G.canon (by rw [G.val]; exact hb)⟩
end

end Lm
end Go.Proofs.Ytkdcgnooeojjgab

namespace Go.Proofs.Ytkdcgnooeojjgab
namespace Lm

/-- Both by the greatest common divisor. -/
theorem low_parts (p : Int) {q : Int} (hq : q ≠ 0) : ∃ g a b : Int, 0 < g ∧ p = g * a ∧ q = g * b ∧ b ≠ 0 ∧ Int.gcd a b = 1 ∧ nm p q = Int.sign b * a ∧ dn p q = Int.sign b * b := by
  have hg := gcd_pos_right (p := p) hq
  obtain ⟨a, ha⟩ : ((Int.gcd p q : Nat) : Int) ∣ p := Int.gcd_dvd_left p q
  obtain ⟨b, hb⟩ : ((Int.gcd p q : Nat) : Int) ∣ q := Int.gcd_dvd_right p q
  have ea : p / ((Int.gcd p q : Nat) : Int) = a := by
    conv => lhs; lhs; rw [ha]
    exact Int.mul_ediv_cancel_left _ (by omega)
  have eb : q / ((Int.gcd p q : Nat) : Int) = b := by
    conv => lhs; lhs; rw [hb]
    exact Int.mul_ediv_cancel_left _ (by omega)
  have hs : Int.sign q = Int.sign b := by
    rw [hb, Int.sign_mul, Int.sign_eq_one_of_pos hg, Int.one_mul]
  have hc : Int.gcd a b = 1 := by
    have := Int.gcd_ediv_gcd_ediv_gcd (i := p) (j := q) (by omega)
    rwa [ea, eb] at this
  refine ⟨_, a, b, hg, ha, hb, ?_, hc, ?_, ?_⟩
  · rintro rfl
    rw [Int.mul_zero] at hb
    exact hq hb
  · unfold nm
    rw [ea, hs]
  · unfold dn
    rw [eb, hs]

theorem sign_self_pos {b : Int} (h : b ≠ 0) : 0 < Int.sign b * b := by
  rcases Int.lt_trichotomy b 0 with h1 | h1 | h1
  · rw [Int.sign_eq_neg_one_of_neg h1]; omega
  · exact absurd h1 h
  · rw [Int.sign_eq_one_of_pos h1]; omega

theorem dn_pos (p : Int) {q : Int} (hq : q ≠ 0) : 0 < dn p q := by
  obtain ⟨g, a, b, _, _, _, hb, _, _, e⟩ := low_parts p hq
  rw [e]
  exact sign_self_pos hb
theorem dn_ne (p : Int) {q : Int} (hq : q ≠ 0) : dn p q ≠ 0 := by
  have := dn_pos p hq
  omega
theorem low_cross (p : Int) {q : Int} (hq : q ≠ 0) : nm p q * q = p * dn p q := by
  obtain ⟨g, a, b, _, hp, hq', _, _, e1, e2⟩ := low_parts p hq
  rw [e1, e2]
  grind
theorem low_cop (p : Int) {q : Int} (hq : q ≠ 0) : Int.gcd (nm p q) (dn p q) = 1 := by
  obtain ⟨g, a, b, _, _, _, hb, hc, e1, e2⟩ := low_parts p hq
  rw [e1, e2]
  rcases Int.lt_trichotomy b 0 with h1 | h1 | h1
  · rw [Int.sign_eq_neg_one_of_neg h1]; simpa using hc
  · exact absurd h1 hb
  · rw [Int.sign_eq_one_of_pos h1]; simpa using hc

theorem dvd_cop {n d k : Int} (hc : Int.gcd n d = 1) (h : d ∣ n * k) : d ∣ k := by
  have h1 : d.natAbs ∣ n.natAbs * k.natAbs := by rw [← Int.natAbs_mul]; exact Int.natAbs_dvd_natAbs.2 h
  have hc' : Nat.Coprime d.natAbs n.natAbs := by
    unfold Nat.Coprime
    rw [Nat.gcd_comm]
    exact hc
  exact Int.natAbs_dvd_natAbs.1 (hc'.dvd_of_dvd_mul_left h1)

/-- Fractions that are one number are told alike. -/
theorem low_eq {p q p' q' : Int} (hq : q ≠ 0) (hq' : q' ≠ 0) (h : p * q' = p' * q) : nm p q = nm p' q' ∧ dn p q = dn p' q' := by
  have c1 := low_cross p hq
  have c2 := low_cross p' hq'
  have d1 := dn_pos p hq
  have d2 := dn_pos p' hq'
  have hx : nm p q * dn p' q' = nm p' q' * dn p q := by
    apply Int.eq_of_mul_eq_mul_right (Int.mul_ne_zero hq hq')
    grind
  have e1 : dn p q ∣ dn p' q' := dvd_cop (low_cop p hq) ⟨nm p' q', by rw [hx, Int.mul_comm]⟩
  have e2 : dn p' q' ∣ dn p q := dvd_cop (low_cop p' hq') ⟨nm p q, by rw [← hx, Int.mul_comm]⟩
  have e : dn p q = dn p' q' := Int.dvd_antisymm (by omega) (by omega) e1 e2
  refine ⟨?_, e⟩
  rw [e] at hx
  exact Int.eq_of_mul_eq_mul_right (by omega) hx

theorem low_eq_iff {p q p' q' : Int} (hq : q ≠ 0) (hq' : q' ≠ 0) : (nm p q = nm p' q' ∧ dn p q = dn p' q') ↔ p * q' = p' * q := by
  refine ⟨fun ⟨h1, h2⟩ => ?_, low_eq hq hq'⟩
  have c1 := low_cross p hq
  have c2 := low_cross p' hq'
  have d2 := dn_ne p' hq'
  rw [h1, h2] at c1
  apply Int.eq_of_mul_eq_mul_right d2
  grind

theorem tp_low (p : Int) {q : Int} (hq : q ≠ 0) : tp (nm p q) (dn p q) = nm p q := by rw [tp, if_neg (dn_ne p hq)]
theorem tq_low (p : Int) {q : Int} (hq : q ≠ 0) : tq (dn p q) = dn p q := by rw [tq, if_neg (dn_ne p hq)]

end Lm
end Go.Proofs.Ytkdcgnooeojjgab

namespace Go.Proofs.Ytkdcgnooeojjgab
namespace Lm

theorem fld_addc {P1 Q1 P2 Q2 : Int} (h1 : Q1 ≠ 0) (h2 : Q2 ≠ 0) : nm (P1 * Q2 + P2 * Q1) (Q1 * Q2) = nm (P2 * Q1 + P1 * Q2) (Q2 * Q1) ∧ dn (P1 * Q2 + P2 * Q1) (Q1 * Q2) = dn (P2 * Q1 + P1 * Q2) (Q2 * Q1) := by
  refine low_eq (by simp_all) (by simp_all) ?_
  grind

theorem fld_mulc {P1 Q1 P2 Q2 : Int} (h1 : Q1 ≠ 0) (h2 : Q2 ≠ 0) : nm (P1 * P2) (Q1 * Q2) = nm (P2 * P1) (Q2 * Q1) ∧ dn (P1 * P2) (Q1 * Q2) = dn (P2 * P1) (Q2 * Q1) := by
  refine low_eq (by simp_all) (by simp_all) ?_
  grind

theorem fld_adda {P1 Q1 P2 Q2 P3 Q3 : Int} (h1 : Q1 ≠ 0) (h2 : Q2 ≠ 0) (h3 : Q3 ≠ 0) : nm (tp (nm (P1 * Q2 + P2 * Q1) (Q1 * Q2)) (dn (P1 * Q2 + P2 * Q1) (Q1 * Q2)) * Q3 + P3 * tq (dn (P1 * Q2 + P2 * Q1) (Q1 * Q2))) (tq (dn (P1 * Q2 + P2 * Q1) (Q1 * Q2)) * Q3) = nm (P1 * tq (dn (P2 * Q3 + P3 * Q2) (Q2 * Q3)) + tp (nm (P2 * Q3 + P3 * Q2) (Q2 * Q3)) (dn (P2 * Q3 + P3 * Q2) (Q2 * Q3)) * Q1) (Q1 * tq (dn (P2 * Q3 + P3 * Q2) (Q2 * Q3))) ∧ dn (tp (nm (P1 * Q2 + P2 * Q1) (Q1 * Q2)) (dn (P1 * Q2 + P2 * Q1) (Q1 * Q2)) * Q3 + P3 * tq (dn (P1 * Q2 + P2 * Q1) (Q1 * Q2))) (tq (dn (P1 * Q2 + P2 * Q1) (Q1 * Q2)) * Q3) = dn (P1 * tq (dn (P2 * Q3 + P3 * Q2) (Q2 * Q3)) + tp (nm (P2 * Q3 + P3 * Q2) (Q2 * Q3)) (dn (P2 * Q3 + P3 * Q2) (Q2 * Q3)) * Q1) (Q1 * tq (dn (P2 * Q3 + P3 * Q2) (Q2 * Q3))) := by
  have b0 : Q1 * Q2 ≠ 0 := (Int.mul_ne_zero h1 h2)
  have c0 := low_cross (P1 * Q2 + P2 * Q1) b0
  have d0 := dn_ne (P1 * Q2 + P2 * Q1) b0
  rw [tp_low (P1 * Q2 + P2 * Q1) b0, tq_low (P1 * Q2 + P2 * Q1) b0]
  have b1 : Q2 * Q3 ≠ 0 := (Int.mul_ne_zero h2 h3)
  have c1 := low_cross (P2 * Q3 + P3 * Q2) b1
  have d1 := dn_ne (P2 * Q3 + P3 * Q2) b1
  rw [tp_low (P2 * Q3 + P3 * Q2) b1, tq_low (P2 * Q3 + P3 * Q2) b1]
  generalize nm (P1 * Q2 + P2 * Q1) (Q1 * Q2) = N0 at *
  generalize dn (P1 * Q2 + P2 * Q1) (Q1 * Q2) = D0 at *
  generalize nm (P2 * Q3 + P3 * Q2) (Q2 * Q3) = N1 at *
  generalize dn (P2 * Q3 + P3 * Q2) (Q2 * Q3) = D1 at *
  refine low_eq (by simp_all) (by simp_all) ?_
  apply Int.eq_of_mul_eq_mul_right (show Q1 * Q2 * Q3 ≠ 0 from (Int.mul_ne_zero (Int.mul_ne_zero h1 h2) h3))
  grind

theorem fld_mula {P1 Q1 P2 Q2 P3 Q3 : Int} (h1 : Q1 ≠ 0) (h2 : Q2 ≠ 0) (h3 : Q3 ≠ 0) : nm (tp (nm (P1 * P2) (Q1 * Q2)) (dn (P1 * P2) (Q1 * Q2)) * P3) (tq (dn (P1 * P2) (Q1 * Q2)) * Q3) = nm (P1 * tp (nm (P2 * P3) (Q2 * Q3)) (dn (P2 * P3) (Q2 * Q3))) (Q1 * tq (dn (P2 * P3) (Q2 * Q3))) ∧ dn (tp (nm (P1 * P2) (Q1 * Q2)) (dn (P1 * P2) (Q1 * Q2)) * P3) (tq (dn (P1 * P2) (Q1 * Q2)) * Q3) = dn (P1 * tp (nm (P2 * P3) (Q2 * Q3)) (dn (P2 * P3) (Q2 * Q3))) (Q1 * tq (dn (P2 * P3) (Q2 * Q3))) := by
  have b0 : Q1 * Q2 ≠ 0 := (Int.mul_ne_zero h1 h2)
  have c0 := low_cross (P1 * P2) b0
  have d0 := dn_ne (P1 * P2) b0
  rw [tp_low (P1 * P2) b0, tq_low (P1 * P2) b0]
  have b1 : Q2 * Q3 ≠ 0 := (Int.mul_ne_zero h2 h3)
  have c1 := low_cross (P2 * P3) b1
  have d1 := dn_ne (P2 * P3) b1
  rw [tp_low (P2 * P3) b1, tq_low (P2 * P3) b1]
  generalize nm (P1 * P2) (Q1 * Q2) = N0 at *
  generalize dn (P1 * P2) (Q1 * Q2) = D0 at *
  generalize nm (P2 * P3) (Q2 * Q3) = N1 at *
  generalize dn (P2 * P3) (Q2 * Q3) = D1 at *
  refine low_eq (by simp_all) (by simp_all) ?_
  apply Int.eq_of_mul_eq_mul_right (show Q1 * Q2 * Q3 ≠ 0 from (Int.mul_ne_zero (Int.mul_ne_zero h1 h2) h3))
  grind

theorem fld_dist {P1 Q1 P2 Q2 P3 Q3 : Int} (h1 : Q1 ≠ 0) (h2 : Q2 ≠ 0) (h3 : Q3 ≠ 0) : nm (P1 * tp (nm (P2 * Q3 + P3 * Q2) (Q2 * Q3)) (dn (P2 * Q3 + P3 * Q2) (Q2 * Q3))) (Q1 * tq (dn (P2 * Q3 + P3 * Q2) (Q2 * Q3))) = nm (tp (nm (P1 * P2) (Q1 * Q2)) (dn (P1 * P2) (Q1 * Q2)) * tq (dn (P1 * P3) (Q1 * Q3)) + tp (nm (P1 * P3) (Q1 * Q3)) (dn (P1 * P3) (Q1 * Q3)) * tq (dn (P1 * P2) (Q1 * Q2))) (tq (dn (P1 * P2) (Q1 * Q2)) * tq (dn (P1 * P3) (Q1 * Q3))) ∧ dn (P1 * tp (nm (P2 * Q3 + P3 * Q2) (Q2 * Q3)) (dn (P2 * Q3 + P3 * Q2) (Q2 * Q3))) (Q1 * tq (dn (P2 * Q3 + P3 * Q2) (Q2 * Q3))) = dn (tp (nm (P1 * P2) (Q1 * Q2)) (dn (P1 * P2) (Q1 * Q2)) * tq (dn (P1 * P3) (Q1 * Q3)) + tp (nm (P1 * P3) (Q1 * Q3)) (dn (P1 * P3) (Q1 * Q3)) * tq (dn (P1 * P2) (Q1 * Q2))) (tq (dn (P1 * P2) (Q1 * Q2)) * tq (dn (P1 * P3) (Q1 * Q3))) := by
  have b0 : Q2 * Q3 ≠ 0 := (Int.mul_ne_zero h2 h3)
  have c0 := low_cross (P2 * Q3 + P3 * Q2) b0
  have d0 := dn_ne (P2 * Q3 + P3 * Q2) b0
  rw [tp_low (P2 * Q3 + P3 * Q2) b0, tq_low (P2 * Q3 + P3 * Q2) b0]
  have b1 : Q1 * Q2 ≠ 0 := (Int.mul_ne_zero h1 h2)
  have c1 := low_cross (P1 * P2) b1
  have d1 := dn_ne (P1 * P2) b1
  rw [tp_low (P1 * P2) b1, tq_low (P1 * P2) b1]
  have b2 : Q1 * Q3 ≠ 0 := (Int.mul_ne_zero h1 h3)
  have c2 := low_cross (P1 * P3) b2
  have d2 := dn_ne (P1 * P3) b2
  rw [tp_low (P1 * P3) b2, tq_low (P1 * P3) b2]
  generalize nm (P2 * Q3 + P3 * Q2) (Q2 * Q3) = N0 at *
  generalize dn (P2 * Q3 + P3 * Q2) (Q2 * Q3) = D0 at *
  generalize nm (P1 * P2) (Q1 * Q2) = N1 at *
  generalize dn (P1 * P2) (Q1 * Q2) = D1 at *
  generalize nm (P1 * P3) (Q1 * Q3) = N2 at *
  generalize dn (P1 * P3) (Q1 * Q3) = D2 at *
  refine low_eq (by simp_all) (by simp_all) ?_
  apply Int.eq_of_mul_eq_mul_right (show Q1 * Q2 * Q3 * Q1 ≠ 0 from (Int.mul_ne_zero (Int.mul_ne_zero (Int.mul_ne_zero h1 h2) h3) h1))
  grind

theorem fld_sub {P1 Q1 P2 Q2 : Int} (h1 : Q1 ≠ 0) (h2 : Q2 ≠ 0) : nm (tp (nm (P1 * Q2 + P2 * Q1) (Q1 * Q2)) (dn (P1 * Q2 + P2 * Q1) (Q1 * Q2)) * Q2 - P2 * tq (dn (P1 * Q2 + P2 * Q1) (Q1 * Q2))) (tq (dn (P1 * Q2 + P2 * Q1) (Q1 * Q2)) * Q2) = nm (P1) (Q1) ∧ dn (tp (nm (P1 * Q2 + P2 * Q1) (Q1 * Q2)) (dn (P1 * Q2 + P2 * Q1) (Q1 * Q2)) * Q2 - P2 * tq (dn (P1 * Q2 + P2 * Q1) (Q1 * Q2))) (tq (dn (P1 * Q2 + P2 * Q1) (Q1 * Q2)) * Q2) = dn (P1) (Q1) := by
  have b0 : Q1 * Q2 ≠ 0 := (Int.mul_ne_zero h1 h2)
  have c0 := low_cross (P1 * Q2 + P2 * Q1) b0
  have d0 := dn_ne (P1 * Q2 + P2 * Q1) b0
  rw [tp_low (P1 * Q2 + P2 * Q1) b0, tq_low (P1 * Q2 + P2 * Q1) b0]
  generalize nm (P1 * Q2 + P2 * Q1) (Q1 * Q2) = N0 at *
  generalize dn (P1 * Q2 + P2 * Q1) (Q1 * Q2) = D0 at *
  refine low_eq (by simp_all) (by simp_all) ?_
  apply Int.eq_of_mul_eq_mul_right (show Q1 * Q2 ≠ 0 from (Int.mul_ne_zero h1 h2))
  grind

theorem fld_div {P1 Q1 P2 Q2 : Int} (h1 : Q1 ≠ 0) (h2 : Q2 ≠ 0) (hp : P2 ≠ 0) : nm (tp (nm (P1 * P2) (Q1 * Q2)) (dn (P1 * P2) (Q1 * Q2)) * Q2) (tq (dn (P1 * P2) (Q1 * Q2)) * P2) = nm (P1) (Q1) ∧ dn (tp (nm (P1 * P2) (Q1 * Q2)) (dn (P1 * P2) (Q1 * Q2)) * Q2) (tq (dn (P1 * P2) (Q1 * Q2)) * P2) = dn (P1) (Q1) := by
  have b0 : Q1 * Q2 ≠ 0 := (Int.mul_ne_zero h1 h2)
  have c0 := low_cross (P1 * P2) b0
  have d0 := dn_ne (P1 * P2) b0
  rw [tp_low (P1 * P2) b0, tq_low (P1 * P2) b0]
  generalize nm (P1 * P2) (Q1 * Q2) = N0 at *
  generalize dn (P1 * P2) (Q1 * Q2) = D0 at *
  refine low_eq (by simp_all) (by simp_all) ?_
  apply Int.eq_of_mul_eq_mul_right (show Q1 * Q2 ≠ 0 from (Int.mul_ne_zero h1 h2))
  grind

theorem fld_neg {P1 Q1 : Int} (h1 : Q1 ≠ 0) : Int.sign (tp (nm (P1 * tq (dn (-(P1)) (Q1)) + tp (nm (-(P1)) (Q1)) (dn (-(P1)) (Q1)) * Q1) (Q1 * tq (dn (-(P1)) (Q1)))) (dn (P1 * tq (dn (-(P1)) (Q1)) + tp (nm (-(P1)) (Q1)) (dn (-(P1)) (Q1)) * Q1) (Q1 * tq (dn (-(P1)) (Q1))))) = 0 := by
  have c0 := low_cross (-P1) h1
  have d0 := dn_ne (-P1) h1
  rw [tp_low (-P1) h1, tq_low (-P1) h1]
  generalize nm (-P1) Q1 = N0 at *
  generalize dn (-P1) Q1 = D0 at *
  have b : Q1 * D0 ≠ 0 := Int.mul_ne_zero h1 d0
  rw [tp_low _ b]
  have e : P1 * D0 + N0 * Q1 = 0 := by grind
  rw [e]
  simp [nm]

end Lm
end Go.Proofs.Ytkdcgnooeojjgab

namespace Go.Proofs.Ytkdcgnooeojjgab
namespace Dm
open Go.RowKit
open Lm (hide lt_of_cell lt_of_heap div_of info32)

/-- What a list says as a number of 64 bits: 0, if it is longer. -/
def u64 (x : Int) : Int := if x < 18446744073709551616 then x else 0
def u64ok (x : Int) : Bool := decide (x < 18446744073709551616)

theorem long_val {rs : List Int} (h : Lm.Canon rs) (h2 : 2 < rs.length) : ¬ Lm.val rs < 18446744073709551616 := by
  have h1 := Lm.canon_low h (by intro e; subst e; simp at h2)
  have h3 := Lm.pw_mono (m := 2) (n := rs.length - 1) (by omega)
  rw [show Lm.pw 2 = 18446744073709551616 from by decide] at h3
  omega

theorem short_val {rs : List Int} (h : Lm.Limb rs) (h2 : ¬ 2 < rs.length) : Lm.val rs < 18446744073709551616 := by
  have h1 := (Lm.val_bounds h).2
  have h3 := Lm.pw_mono (m := rs.length) (n := 2) (by omega)
  rw [show Lm.pw 2 = 18446744073709551616 from by decide] at h3
  omega

theorem ret2_u64 {a b : Int} {c d : Bool} (h : a = b) (h' : c = d) : Ending.returned (.tuple #[.int .u64 a, .bool c]) = .returned (.tuple #[.int .u64 b, .bool d]) := by rw [h, h']

end Dm
end Go.Proofs.Ytkdcgnooeojjgab
