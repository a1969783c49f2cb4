/-
  WholeOrder answers true, whatever three numbers it is handed.
-/
import Derived.Test.YtkdcgnooeojjgaaWH
namespace Go.Proofs.Ytkdcgnooeojjgaa
namespace Lm
open Go.RowKit

theorem boxed3a (w : World) (nx : Bool) (vx : Value) (ny : Bool) (vy : Value) (nz : Bool) (vz : Value) : ∃ w0 : World, ((w.alloc (.cells #[.bool nx, vx] 24)).alloc (.cells #[.bool ny, vy] 24)).alloc (.cells #[.bool nz, vz] 24) = w0 ∧ Box w0 w.heap.size nx vx ∧ Box w0 (w.heap.size + 1) ny vy ∧ Box w0 (w.heap.size + 1 + 1) nz vz ∧ Below w.heap.size w w0 ∧ w0.heap.size = w.heap.size + 3 := by
  obtain ⟨w2, e2, b1, b2, hb, hs⟩ := boxed2 w nx vx ny vy
  have h2 := boxed w2 nz vz
  rw [e2]
  refine ⟨_, rfl, b1.below h2.2.1, b2.below h2.2.1, ?_, hb.trans (h2.2.1.mono (by omega)), by rw [h2.2.2, hs]⟩
  have h3 := h2.1
  rw [hs] at h3
  exact h3

theorem wrap_in {x : Int} (h1 : -9223372036854775808 ≤ x) (h2 : x ≤ 9223372036854775807) : IntKind.i64.wrap x = x := by
  simp [IntKind.wrap, IntKind.bits, IntKind.signed]
  omega

theorem cmpI_not_pos {x y : Int} (h : x ≤ y) : ¬ 0 < cmpI x y := by
  rcases Int.lt_trichotomy x y with h1 | h1 | h1
  · rw [cmpI_lt h1]; omega
  · rw [cmpI_eq h1]; omega
  · omega

theorem cmpI_zero (x : Int) : cmpI x 0 = Int.sign x := by
  rcases Int.lt_trichotomy x 0 with h | h | h
  · rw [cmpI_lt h, Int.sign_eq_neg_one_of_neg h]
  · rw [h]; rfl
  · rw [cmpI_gt h, Int.sign_eq_one_of_pos h]

end Lm
end Go.Proofs.Ytkdcgnooeojjgaa
