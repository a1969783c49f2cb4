/-
  Structs that hold fractions, and single operations on them, over a frame that is not written out.
-/
import Derived.Test.YtjhhjefobbhdlaaInv6
namespace Go.Proofs.Ytjhhjefobbhdlaa
namespace Lm
open Go Go.RowKit

theorem r3_facts {w : World} {g : Nat} {x y z : Value} {T : TypeId} (h : w.heap[g]? = some (.cells #[x, y, z] T (0, 0))) : w.cell? ⟨g, 0, none⟩ = some x ∧ w.cell? ⟨g, 1, none⟩ = some y ∧ w.cell? ⟨g, 2, none⟩ = some z ∧ w.frozen? ⟨g, 0, none⟩ = false ∧ w.frozen? ⟨g, 1, none⟩ = false ∧ w.frozen? ⟨g, 2, none⟩ = false :=
  ⟨by rw [cell_of_row _ _ _ _ _ (0, 0) h]; rfl, by rw [cell_of_row _ _ _ _ _ (0, 0) h]; rfl, by rw [cell_of_row _ _ _ _ _ (0, 0) h]; rfl, frozen_of_row _ _ _ _ _ h, frozen_of_row _ _ _ _ _ h, frozen_of_row _ _ _ _ _ h⟩

/-- A fraction, as it is handed in; as it is answered. -/
def IsR (p q : Int) (L : Nat) : Says := fun v w => ∃ ng ao n cap xs bo m dap ys, v = .agg #[.bool ng, .slice ao n cap, .slice bo m dap] ∧ Ag w ng ao n cap xs p ∧ Sl w (.slice bo m dap) ys ∧ val ys = q ∧ xs.length ≤ L ∧ ys.length ≤ L
def OutR (p q : Int) (L : Nat) : Says := fun v w => ∃ ng ao cap rs bo dap ss, v = .agg #[.bool ng, .slice ao rs.length cap, .slice bo ss.length dap] ∧ Wh w ng ao cap rs p ∧ Got w bo dap ss q ∧ rs.length ≤ L ∧ ss.length ≤ L
theorem IsR.mono4 (p q : Int) (L : Nat) : Mono4 (IsR p q L) := fun _ _ _ hr ⟨ng, ao, n, cap, xs, bo, m, dap, ys, e, h1, h2, h3, l1, l2⟩ => ⟨ng, ao, n, cap, xs, bo, m, dap, ys, e, h1.rl hr, h2.rl hr, h3, l1, l2⟩
theorem OutR.mono4 (p q : Int) (L : Nat) : Mono4 (OutR p q L) := fun _ _ _ hr ⟨ng, ao, cap, rs, bo, dap, ss, e, h1, h2, l1, l2⟩ => ⟨ng, ao, cap, rs, bo, dap, ss, e, h1.rl hr, h2.rl hr, l1, l2⟩
theorem OutR.is {p q : Int} {L : Nat} {v : Value} {w : World} : OutR p q L v w → IsR p q L v w := fun ⟨ng, ao, cap, rs, bo, dap, ss, e, h1, h2, l1, l2⟩ => ⟨ng, ao, rs.length, cap, rs, bo, ss.length, dap, ss, e, h1.ag, h2.1, h2.2.2, l1, l2⟩
theorem OutR.to {p q p' q' : Int} {L L' : Nat} {v : Value} {w : World} (h : OutR p q L v w) (e1 : p = p') (e2 : q = q') (hl : L ≤ L') : OutR p' q' L' v w := by
  subst e1 e2
  obtain ⟨ng, ao, cap, rs, bo, dap, ss, e, h1, h2, l1, l2⟩ := h
  exact ⟨ng, ao, cap, rs, bo, dap, ss, e, h1, h2, Nat.le_trans l1 hl, Nat.le_trans l2 hl⟩
theorem IsW.to {z z' : Int} {L L' : Nat} {v : Value} {w : World} (h : IsW z L v w) (e : z = z') (hl : L ≤ L') : IsW z' L' v w := by
  subst e
  obtain ⟨ng, ao, n, cap, xs, e', h, l⟩ := h
  exact ⟨ng, ao, n, cap, xs, e', h, Nat.le_trans l hl⟩
theorem isr_eq {v : Value} {w : World} {ng : Bool} {ao bo : Option Addr} {n c m d : Nat} {xs ys : List Int} {p q : Int} {L : Nat} (h : v = .agg #[.bool ng, .slice ao n c, .slice bo m d]) (hA : Ag w ng ao n c xs p) (hS : Sl w (.slice bo m d) ys) (hq : val ys = q) (hl : xs.length ≤ L) (hl' : ys.length ≤ L) : IsR p q L v w := ⟨_, _, _, _, _, _, _, _, _, h, hA, hS, hq, hl, hl'⟩
theorem outr_eq {v : Value} {w : World} {ng : Bool} {ao bo : Option Addr} {c d : Nat} {rs ss : List Int} {p q : Int} {L : Nat} (h : v = .agg #[.bool ng, .slice ao rs.length c, .slice bo ss.length d]) (hA : Wh w ng ao c rs p) (hS : Got w bo d ss q) (hl : rs.length ≤ L) (hl' : ss.length ≤ L) : OutR p q L v w := ⟨_, _, _, _, _, _, _, h, hA, hS, hl, hl'⟩

section
variable {dst : Option Tmp} {ty : TypeId} {pos : String} {after : Array Edge} {guard : Option (Nat × Bool)} {a : Act} {w : World} {ats : Array TypeId} {i j k g : Nat} {x y z p q : Int} {L L1 L2 : Nat}

theorem op_bW0 : Does Try.prog { dst, op := .build 24 #[], type := ty, pos, after, guard } a.eval w fun v' w' => Below w.heap.size w w' ∧ Eqs (.agg #[.bool false, .slice none 0 0]) v' w' := by
  have e : (execOp a.eval { dst, op := .build 24 #[], type := ty, pos, after, guard }).run Try.prog w = .ok (.value (.agg #[.bool false, .slice none 0 0])) w := by
    simp only [execOp, List.map_toArray, List.map_nil]
    go_simp
  refine ⟨?_⟩
  unfold Turns
  rw [e]
  exact ⟨Below.refl _ _, rfl⟩
end

end Lm
end Go.Proofs.Ytjhhjefobbhdlaa
