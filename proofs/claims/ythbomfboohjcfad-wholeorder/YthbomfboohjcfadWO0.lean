/-
  WholeOrder answers true, whatever three numbers it is handed.
-/
import Derived.Test.YthbomfboohjcfadWH
namespace Go.Proofs.Ythbomfboohjcfad
namespace Lm
open Go.RowKit

theorem boxed3a (w : World) (nx : Bool) (vx : Value) (ny : Bool) (vy : Value) (nz : Bool) (vz : Value) : ∃ w0 : World, ((w.alloc (.cells #[.bool nx, vx] 24)).alloc (.cells #[.bool ny, vy] 24)).alloc (.cells #[.bool nz, vz] 24) = w0 ∧ Box w0 w.heap.size nx vx ∧ Box w0 (w.heap.size + 1) ny vy ∧ Box w0 (w.heap.size + 1 + 1) nz vz ∧ Below w.heap.size w w0 ∧ w0.heap.size = w.heap.size + 3 := by
  obtain ⟨w2, e2, b1, b2, hb, hs⟩ := boxed2 w nx vx ny vy
  have h2 := boxed w2 nz vz
  rw [e2]
  refine ⟨_, rfl, b1.below h2.2.1, b2.below h2.2.1, ?_, hb.trans (h2.2.1.mono (by omega)), by rw [h2.2.2, hs]⟩
  have h3 := h2.1
  rw [hs] at h3
  exact h3

theorem wrap_in {x : Int} (h1 : -9223372036854775808 ≤ x) (h2 : x ≤ 9223372036854775807) : IntKind.i64.wrap x = x := by
  simp [IntKind.wrap, IntKind.bits, IntKind.signed]
  omega

theorem cmpI_not_pos {x y : Int} (h : x ≤ y) : ¬ 0 < cmpI x y := by
  rcases Int.lt_trichotomy x y with h1 | h1 | h1
  · rw [cmpI_lt h1]; omega
  · rw [cmpI_eq h1]; omega
  · omega

theorem cmpI_zero (x : Int) : cmpI x 0 = Int.sign x := by
  rcases Int.lt_trichotomy x 0 with h | h | h
  · rw [cmpI_lt h, Int.sign_eq_neg_one_of_neg h]
  · rw [h]; rfl
  · rw [cmpI_gt h, Int.sign_eq_one_of_pos h]

set_option maxRecDepth 20000 in
set_option maxHeartbeats 1000000 in
theorem worder_long (w : World) (nx : Bool) (a0 : Option Addr) (n0 c0 : Nat) (xs : List Int) (zx : Int) (ny : Bool) (a1 : Option Addr) (n1 c1 : Nat) (ys : List Int) (zy : Int) (nz : Bool) (a2 : Option Addr) (n2 c2 : Nat) (us : List Int) (zz : Int) (AX : Ag w nx a0 n0 c0 xs zx) (AY : Ag w ny a1 n1 c1 ys zy) (AZ : Ag w nz a2 n2 c2 us zz) (b0 : n0 ≤ 35184372088832) (b1 : n1 ≤ 35184372088832) (b2 : n2 ≤ 35184372088832) (h : 1500 < 1 + (n0 : Int) + (1 + n1) + (1 + n2)) :
    Calls Try.prog 5 #[.agg #[.bool nx, .slice a0 n0 c0], .agg #[.bool ny, .slice a1 n1 c1], .agg #[.bool nz, .slice a2 n2 c2]] w fun e w' => e = .returned (.bool true) ∧ Below w.heap.size w w' := by
  obtain ⟨w0, e0, bx, by', bz, hb0, hs0⟩ := boxed3a w nx (.slice a0 n0 c0) ny (.slice a1 n1 c1) nz (.slice a2 n2 c2)
  have E0 := hide e0
  have HB : Below w.heap.size w w0 := hb0
  replace AX := AX.below hb0
  replace AY := AY.below hb0
  replace AZ := AZ.below hb0
  clear e0 hs0 hb0
  have hw1 : IntKind.i64.wrap (1 + (n0 : Int) + (1 + (n1 : Int))) = 1 + (n0 : Int) + (1 + (n1 : Int)) := wrap_in (by omega) (by omega)
  have hw2 : IntKind.i64.wrap (1 + (n0 : Int) + (1 + (n1 : Int)) + (1 + (n2 : Int))) = 1 + (n0 : Int) + (1 + (n1 : Int)) + (1 + (n2 : Int)) := wrap_in (by omega) (by omega)
  go_enter Try.func5, Try.ntmps5
  go_wp2_with fail
  rw [E0.out]
  clear E0
  refine (wawake_any _).mono ?_
  rintro e w1 ⟨rfl, hb1⟩
  replace HB := HB.trans (hb1.mono HB.size)
  replace AX := AX.below hb1
  replace AY := AY.below hb1
  replace AZ := AZ.below hb1
  replace bx := bx.below hb1
  replace by' := by'.below hb1
  replace bz := bz.below hb1
  clear hb1
  go_wp2
  obtain ⟨bx1, bx2, bx3, bx4⟩ := bx.facts
  obtain ⟨by1, by2, by3, by4⟩ := by'.facts
  obtain ⟨bz1, bz2, bz3, bz4⟩ := bz.facts
  go_region_held3 (fun w' => w'.cell? ⟨w.heap.size, 0, none⟩ = some (.bool nx) ∧ w'.cell? ⟨w.heap.size, 1, none⟩ = some (.slice a0 n0 c0) ∧ w'.cell? ⟨w.heap.size + 1, 0, none⟩ = some (.bool ny) ∧ w'.cell? ⟨w.heap.size + 1, 1, none⟩ = some (.slice a1 n1 c1) ∧ w'.cell? ⟨w.heap.size + 1 + 1, 0, none⟩ = some (.bool nz) ∧ w'.cell? ⟨w.heap.size + 1 + 1, 1, none⟩ = some (.slice a2 n2 c2)) (go_keep) (first
    | (go_at_call 9; have _hq := hb3'; refine (wlen_any _ _ _ _ _ b2).mono ?_; rintro e w4 ⟨rfl, hb4⟩; have hb4' : Below w3.heap.size w3 w4 := (show Below w3.heap.size w3 _ by repeat (first | exact Below.refl _ _ | refine Below.drew ?_)).trans hb4; have HB := HB.trans (hb4'.mono HB.size); replace AX := AX.below hb4'; replace AY := AY.below hb4'; replace AZ := AZ.below hb4'; replace bx := bx.below hb4'; clear bx1 bx2 bx3 bx4; obtain ⟨bx1, bx2, bx3, bx4⟩ := bx.facts; replace by' := by'.below hb4'; clear by1 by2 by3 by4; obtain ⟨by1, by2, by3, by4⟩ := by'.facts; replace bz := bz.below hb4'; clear bz1 bz2 bz3 bz4; obtain ⟨bz1, bz2, bz3, bz4⟩ := bz.facts)
    | (go_at_call 9; have _hq := hb2'; refine (wlen_any _ _ _ _ _ b1).mono ?_; rintro e w3 ⟨rfl, hb3⟩; have hb3' : Below w2.heap.size w2 w3 := (show Below w2.heap.size w2 _ by repeat (first | exact Below.refl _ _ | refine Below.drew ?_)).trans hb3; have HB := HB.trans (hb3'.mono HB.size); replace AX := AX.below hb3'; replace AY := AY.below hb3'; replace AZ := AZ.below hb3'; replace bx := bx.below hb3'; clear bx1 bx2 bx3 bx4; obtain ⟨bx1, bx2, bx3, bx4⟩ := bx.facts; replace by' := by'.below hb3'; clear by1 by2 by3 by4; obtain ⟨by1, by2, by3, by4⟩ := by'.facts; replace bz := bz.below hb3'; clear bz1 bz2 bz3 bz4; obtain ⟨bz1, bz2, bz3, bz4⟩ := bz.facts)
    | (go_at_call 9; refine (wlen_any _ _ _ _ _ b0).mono ?_; rintro e w2 ⟨rfl, hb2⟩; have hb2' : Below w1.heap.size w1 w2 := (show Below w1.heap.size w1 _ by repeat (first | exact Below.refl _ _ | refine Below.drew ?_)).trans hb2; have HB := HB.trans (hb2'.mono HB.size); replace AX := AX.below hb2'; replace AY := AY.below hb2'; replace AZ := AZ.below hb2'; replace bx := bx.below hb2'; clear bx1 bx2 bx3 bx4; obtain ⟨bx1, bx2, bx3, bx4⟩ := bx.facts; replace by' := by'.below hb2'; clear by1 by2 by3 by4; obtain ⟨by1, by2, by3, by4⟩ := by'.facts; replace bz := bz.below hb2'; clear bz1 bz2 bz3 bz4; obtain ⟨bz1, bz2, bz3, bz4⟩ := bz.facts))
  all_goals
    clear bx1 bx2 bx3 bx4 by1 by2 by3 by4 bz1 bz2 bz3 bz4
    go_wp2
    go_ret
    exact ⟨rfl, HB⟩

end Lm
end Go.Proofs.Ythbomfboohjcfad
