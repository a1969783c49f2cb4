/-
  Structs that hold fractions, and single operations on them, over a frame that is not written out.
-/
import Derived.Test.YtkdcgnooeojjgabInv6
namespace Go.Proofs.Ytkdcgnooeojjgab
namespace Lm
open Go Go.RowKit

/-- A fraction's struct. -/
def R3 : BoxTy := ⟨26, .agg #[.bool false, .slice none 0 0, .slice none 0 0], fun v cs => ∃ ng ao n c bo m d, v = .agg #[.bool ng, .slice ao n c, .slice bo m d] ∧ cs = #[.bool ng, .slice ao n c, .slice bo m d]⟩

theorem r3_facts {w : World} {g : Nat} {x y z : Value} {T : TypeId} (h : w.heap[g]? = some (.cells #[x, y, z] T (0, 0))) : w.cell? ⟨g, 0, none⟩ = some x ∧ w.cell? ⟨g, 1, none⟩ = some y ∧ w.cell? ⟨g, 2, none⟩ = some z ∧ w.frozen? ⟨g, 0, none⟩ = false ∧ w.frozen? ⟨g, 1, none⟩ = false ∧ w.frozen? ⟨g, 2, none⟩ = false :=
  ⟨by rw [cell_of_row _ _ _ _ _ (0, 0) h]; rfl, by rw [cell_of_row _ _ _ _ _ (0, 0) h]; rfl, by rw [cell_of_row _ _ _ _ _ (0, 0) h]; rfl, frozen_of_row _ _ _ _ _ h, frozen_of_row _ _ _ _ _ h, frozen_of_row _ _ _ _ _ h⟩

theorem R3ok : BoxOk Try.prog R3 where
  noInt := by
    rintro v cs ⟨ng, ao, n, c, bo, m, d, rfl, rfl⟩ i k z
    match i with
    | 0 => simp
    | 1 => simp
    | 2 => simp
    | i + 3 => simp
  ne := by unfold R3; exact ⟨by decide, by decide⟩
  alloc := fun w => ⟨#[.bool false, .slice none 0 0, .slice none 0 0], ⟨_, _, _, _, _, _, _, rfl, rfl⟩, by unfold R3; go_simp⟩
  box := by
    rintro w v ⟨cs, ng, ao, n, c, bo, m, d, rfl, rfl⟩
    exact ⟨_, ⟨_, _, _, _, _, _, _, rfl, rfl⟩, by unfold R3; go_simp⟩
  store := by
    rintro w g v0 v ⟨cs0, ⟨m, bo, p, d, b2, d2, e2, rfl, rfl⟩, hh⟩ ⟨cs, ng, ao, n, c, co, q, f, rfl, rfl⟩
    obtain ⟨b1, b2, b3, b4, b5, b6⟩ := r3_facts hh
    have h1 := heap_setCell_same w g 0 _ _ (.bool ng) hh
    have h2 := heap_setCell_same _ g 1 _ _ (.slice ao n c) h1
    have h3 := heap_setCell_same _ g 2 _ _ (.slice co q f) h2
    refine ⟨((w.setCell ⟨g, 0, none⟩ (.bool ng)).setCell ⟨g, 1, none⟩ (.slice ao n c)).setCell ⟨g, 2, none⟩ (.slice co q f), ?_, ⟨_, ⟨_, _, _, _, _, _, _, rfl, rfl⟩, h3⟩, ⟨rfl, rfl, rfl, by simp [World.setCell], fun k hk => ?_⟩⟩
    · unfold R3
      go_simp
    · rw [Below.heap_setCell _ _ _ _ (by simpa using hk), Below.heap_setCell _ _ _ _ (by simpa using hk), Below.heap_setCell _ _ _ _ (by simpa using hk)]
  load := by
    rintro w g v ⟨cs, ⟨ng, ao, n, c, bo, m, d, rfl, rfl⟩, hh⟩
    obtain ⟨b1, b2, b3, b4, b5, b6⟩ := r3_facts hh
    unfold R3
    go_simp

/-- A fraction, as it is handed in; as it is answered. -/
def IsR (p q : Int) (L : Nat) : Says := fun v w => ∃ ng ao n cap xs bo m dap ys, v = .agg #[.bool ng, .slice ao n cap, .slice bo m dap] ∧ Ag w ng ao n cap xs p ∧ Sl w (.slice bo m dap) ys ∧ val ys = q ∧ xs.length ≤ L ∧ ys.length ≤ L
def OutR (p q : Int) (L : Nat) : Says := fun v w => ∃ ng ao cap rs bo dap ss, v = .agg #[.bool ng, .slice ao rs.length cap, .slice bo ss.length dap] ∧ Wh w ng ao cap rs p ∧ Got w bo dap ss q ∧ rs.length ≤ L ∧ ss.length ≤ L
theorem IsR.mono4 (p q : Int) (L : Nat) : Mono4 (IsR p q L) := fun _ _ _ hr ⟨ng, ao, n, cap, xs, bo, m, dap, ys, e, h1, h2, h3, l1, l2⟩ => ⟨ng, ao, n, cap, xs, bo, m, dap, ys, e, h1.rl hr, h2.rl hr, h3, l1, l2⟩
theorem OutR.mono4 (p q : Int) (L : Nat) : Mono4 (OutR p q L) := fun _ _ _ hr ⟨ng, ao, cap, rs, bo, dap, ss, e, h1, h2, l1, l2⟩ => ⟨ng, ao, cap, rs, bo, dap, ss, e, h1.rl hr, h2.rl hr, l1, l2⟩
theorem OutR.is {p q : Int} {L : Nat} {v : Value} {w : World} : OutR p q L v w → IsR p q L v w := fun ⟨ng, ao, cap, rs, bo, dap, ss, e, h1, h2, l1, l2⟩ => ⟨ng, ao, rs.length, cap, rs, bo, ss.length, dap, ss, e, h1.ag, h2.1, h2.2.2, l1, l2⟩
theorem OutR.to {p q p' q' : Int} {L L' : Nat} {v : Value} {w : World} (h : OutR p q L v w) (e1 : p = p') (e2 : q = q') (hl : L ≤ L') : OutR p' q' L' v w := by
  subst e1 e2
  obtain ⟨ng, ao, cap, rs, bo, dap, ss, e, h1, h2, l1, l2⟩ := h
  exact ⟨ng, ao, cap, rs, bo, dap, ss, e, h1, h2, Nat.le_trans l1 hl, Nat.le_trans l2 hl⟩
theorem IsW.to {z z' : Int} {L L' : Nat} {v : Value} {w : World} (h : IsW z L v w) (e : z = z') (hl : L ≤ L') : IsW z' L' v w := by
  subst e
  obtain ⟨ng, ao, n, cap, xs, e', h, l⟩ := h
  exact ⟨ng, ao, n, cap, xs, e', h, Nat.le_trans l hl⟩
theorem IsR.cs {p q : Int} {L : Nat} (v : Value) (w : World) (h : IsR p q L v w) : ∃ cs, R3.Cs v cs := by
  obtain ⟨ng, ao, n, cap, xs, bo, m, dap, ys, rfl, _⟩ := h
  exact ⟨_, _, _, _, _, _, _, _, rfl, rfl⟩
theorem OutR.cs {p q : Int} {L : Nat} (v : Value) (w : World) (h : OutR p q L v w) : ∃ cs, R3.Cs v cs := IsR.cs v w h.is
theorem r3_cs {ng : Bool} {ao bo : Option Addr} {n c m d : Nat} : ∃ cs, R3.Cs (.agg #[.bool ng, .slice ao n c, .slice bo m d]) cs := ⟨_, _, _, _, _, _, _, _, rfl, rfl⟩
theorem isr_eq {v : Value} {w : World} {ng : Bool} {ao bo : Option Addr} {n c m d : Nat} {xs ys : List Int} {p q : Int} {L : Nat} (h : v = .agg #[.bool ng, .slice ao n c, .slice bo m d]) (hA : Ag w ng ao n c xs p) (hS : Sl w (.slice bo m d) ys) (hq : val ys = q) (hl : xs.length ≤ L) (hl' : ys.length ≤ L) : IsR p q L v w := ⟨_, _, _, _, _, _, _, _, _, h, hA, hS, hq, hl, hl'⟩
theorem outr_eq {v : Value} {w : World} {ng : Bool} {ao bo : Option Addr} {c d : Nat} {rs ss : List Int} {p q : Int} {L : Nat} (h : v = .agg #[.bool ng, .slice ao rs.length c, .slice bo ss.length d]) (hA : Wh w ng ao c rs p) (hS : Got w bo d ss q) (hl : rs.length ≤ L) (hl' : ss.length ≤ L) : OutR p q L v w := ⟨_, _, _, _, _, _, _, h, hA, hS, hl, hl'⟩

theorem lv_R3 {w : World} {g : Nat} {v : Value} (h : BoxV R3 w g v) : (loadVar 26 ⟨g, 0, none⟩).run Try.prog w = .ok v w := by
  obtain ⟨cs, ⟨ng, ao, n, c, bo, m, d, rfl, rfl⟩, hh⟩ := h
  obtain ⟨b1, b2, b3, b4, b5, b6⟩ := r3_facts hh
  go_simp

theorem r3_row {w : World} {g : Nat} {ng : Bool} {ao bo : Option Addr} {n c m d : Nat} (h : BoxV R3 w g (.agg #[.bool ng, .slice ao n c, .slice bo m d])) : w.heap[g]? = some (.cells #[.bool ng, .slice ao n c, .slice bo m d] 26 (0, 0)) := by
  obtain ⟨cs, ⟨_, _, _, _, _, _, _, e, rfl⟩, h⟩ := h
  simp only [Value.agg.injEq] at e
  simp only [Array.mk.injEq, List.cons.injEq, Value.bool.injEq, Value.slice.injEq, and_true] at e
  obtain ⟨rfl, ⟨rfl, rfl, rfl⟩, rfl, rfl, rfl⟩ := e
  exact h

section
variable {dst : Option Tmp} {ty : TypeId} {pos : String} {after : Array Edge} {guard : Option (Nat × Bool)} {a : Act} {w : World} {ats : Array TypeId} {i j k g : Nat} {x y z p q : Int} {L L1 L2 : Nat}

theorem op_faR {f off : Nat} (hf : ∀ w : World, (Instr.fieldAt 26 (.pointer (some ⟨g, 0, none⟩)) f).run Try.prog w = .ok (.pointer (some ⟨g, off, none⟩)) w) (hp : a.eval (.tmp k) = .pointer (some ⟨g, 0, none⟩)) :
    Does Try.prog { dst, op := .fieldAddr 26 (.tmp k) f, type := ty, pos, after, guard } a.eval w fun v' w' => Below w.heap.size w w' ∧ Eqs (.pointer (some ⟨g, off, none⟩)) v' w' := by
  refine ⟨?_⟩
  unfold Turns
  simp only [execOp, hp]
  simp [hf]
  exact ⟨Below.refl _ _, rfl⟩
theorem fa_num (w : World) : (Instr.fieldAt 26 (.pointer (some ⟨g, 0, none⟩)) 0).run Try.prog w = .ok (.pointer (some ⟨g, 0, none⟩)) w := by go_simp
theorem fa_den (w : World) : (Instr.fieldAt 26 (.pointer (some ⟨g, 0, none⟩)) 1).run Try.prog w = .ok (.pointer (some ⟨g, 2, none⟩)) w := by go_simp
theorem op_ldnum {ng : Bool} {ao bo : Option Addr} {n c m d : Nat} (hp : a.eval (.tmp k) = .pointer (some ⟨g, 0, none⟩)) (hb : BoxV R3 w g (.agg #[.bool ng, .slice ao n c, .slice bo m d])) :
    Does Try.prog { dst, op := .load 24 (.tmp k), type := ty, pos, after, guard } a.eval w fun v' w' => Below w.heap.size w w' ∧ Eqs (.agg #[.bool ng, .slice ao n c]) v' w' := by
  obtain ⟨b1, b2, b3, b4, b5, b6⟩ := r3_facts (r3_row hb)
  refine does_load (v := .agg #[.bool ng, .slice ao n c]) ?_ ⟨Below.refl _ _, rfl⟩
  rw [hp]
  go_simp
theorem op_ldden {ng : Bool} {ao bo : Option Addr} {n c m d : Nat} (hp : a.eval (.tmp k) = .pointer (some ⟨g, 2, none⟩)) (hb : BoxV R3 w g (.agg #[.bool ng, .slice ao n c, .slice bo m d])) :
    Does Try.prog { dst, op := .load 22 (.tmp k), type := ty, pos, after, guard } a.eval w fun v' w' => Below w.heap.size w w' ∧ Eqs (.slice bo m d) v' w' := by
  obtain ⟨b1, b2, b3, b4, b5, b6⟩ := r3_facts (r3_row hb)
  refine does_load (v := .slice bo m d) ?_ ⟨Below.refl _ _, rfl⟩
  rw [hp]
  go_simp
theorem op_bR {ng : Bool} {ao bo : Option Addr} {n c m d : Nat} (h1 : a.eval (.tmp i) = .agg #[.bool ng, .slice ao n c]) (h2 : a.eval (.tmp j) = .slice bo m d) : Does Try.prog { dst, op := .build 26 #[(0, .tmp i), (1, .tmp j)], type := ty, pos, after, guard } a.eval w fun v' w' => Below w.heap.size w w' ∧ Eqs (.agg #[.bool ng, .slice ao n c, .slice bo m d]) v' w' := by
  have e : (execOp a.eval { dst, op := .build 26 #[(0, .tmp i), (1, .tmp j)], type := ty, pos, after, guard }).run Try.prog w = .ok (.value (.agg #[.bool ng, .slice ao n c, .slice bo m d])) w := by
    simp only [execOp, List.map_toArray, List.map_nil, List.map_cons, h1, h2]
    go_simp
  refine ⟨?_⟩
  unfold Turns
  rw [e]
  exact ⟨Below.refl _ _, rfl⟩
theorem op_bR0 : Does Try.prog { dst, op := .build 26 #[], type := ty, pos, after, guard } a.eval w fun v' w' => Below w.heap.size w w' ∧ Eqs (.agg #[.bool false, .slice none 0 0, .slice none 0 0]) v' w' := by
  have e : (execOp a.eval { dst, op := .build 26 #[], type := ty, pos, after, guard }).run Try.prog w = .ok (.value (.agg #[.bool false, .slice none 0 0, .slice none 0 0])) w := by
    simp only [execOp, List.map_toArray, List.map_nil]
    go_simp
  refine ⟨?_⟩
  unfold Turns
  rw [e]
  exact ⟨Below.refl _ _, rfl⟩
theorem op_bW0 : Does Try.prog { dst, op := .build 24 #[], type := ty, pos, after, guard } a.eval w fun v' w' => Below w.heap.size w w' ∧ Eqs (.agg #[.bool false, .slice none 0 0]) v' w' := by
  have e : (execOp a.eval { dst, op := .build 24 #[], type := ty, pos, after, guard }).run Try.prog w = .ok (.value (.agg #[.bool false, .slice none 0 0])) w := by
    simp only [execOp, List.map_toArray, List.map_nil]
    go_simp
  refine ⟨?_⟩
  unfold Turns
  rw [e]
  exact ⟨Below.refl _ _, rfl⟩
theorem op_bRo (h1 : OutW p L (a.eval (.tmp i)) w) (h2 : OutL q L (a.eval (.tmp j)) w) : Does Try.prog { dst, op := .build 26 #[(0, .tmp i), (1, .tmp j)], type := ty, pos, after, guard } a.eval w fun v' w' => Below w.heap.size w w' ∧ OutR p q L v' w' := by
  obtain ⟨ng, ao, cap, rs, e1, W, l1⟩ := h1
  obtain ⟨bo, dap, ss, e2, G, l2⟩ := h2
  exact (op_bR e1 e2).mono (fun v w' ⟨hb, e⟩ => ⟨hb, outr_eq e (W.below hb) (G.below hb) l1 l2⟩)
end

end Lm
end Go.Proofs.Ytkdcgnooeojjgab
