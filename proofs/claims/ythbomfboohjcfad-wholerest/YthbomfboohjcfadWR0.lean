/-
  WholeRest answers true, whatever two numbers it is handed.
-/
import Derived.Test.YthbomfboohjcfadWH
namespace Go.Proofs.Ythbomfboohjcfad
namespace Lm
open Go.RowKit

theorem wrap_in {x : Int} (h1 : -9223372036854775808 ≤ x) (h2 : x ≤ 9223372036854775807) : IntKind.i64.wrap x = x := by
  simp [IntKind.wrap, IntKind.bits, IntKind.signed]
  omega

set_option maxRecDepth 20000 in
set_option maxHeartbeats 1000000 in
theorem wrest_long (w : World) (nx : Bool) (a0 : Option Addr) (n0 c0 : Nat) (xs : List Int) (zx : Int) (ny : Bool) (a1 : Option Addr) (n1 c1 : Nat) (ys : List Int) (zy : Int) (AX : Ag w nx a0 n0 c0 xs zx) (AY : Ag w ny a1 n1 c1 ys zy) (b0 : n0 ≤ 35184372088832) (b1 : n1 ≤ 35184372088832) (h : 1500 < 1 + (n0 : Int) + (1 + n1)) :
    Calls Try.prog 6 #[.agg #[.bool nx, .slice a0 n0 c0], .agg #[.bool ny, .slice a1 n1 c1]] w fun e w' => e = .returned (.bool true) ∧ Below w.heap.size w w' := by
  obtain ⟨w0, e0, bx, by', hb0, hs0⟩ := boxed2 w nx (.slice a0 n0 c0) ny (.slice a1 n1 c1)
  have E0 := hide e0
  have HB : Below w.heap.size w w0 := hb0
  replace AX := AX.below hb0
  replace AY := AY.below hb0
  clear e0 hs0 hb0
  have hw1 : IntKind.i64.wrap (1 + (n0 : Int) + (1 + (n1 : Int))) = 1 + (n0 : Int) + (1 + (n1 : Int)) := wrap_in (by omega) (by omega)
  go_enter Try.func6, Try.ntmps6
  go_wp2_with fail
  rw [E0.out]
  clear E0
  refine (wawake_any _).mono ?_
  rintro e w1 ⟨rfl, hb1⟩
  replace HB := HB.trans (hb1.mono HB.size)
  replace AX := AX.below hb1
  replace AY := AY.below hb1
  replace bx := bx.below hb1
  replace by' := by'.below hb1
  clear hb1
  go_wp2
  obtain ⟨bx1, bx2, bx3, bx4⟩ := bx.facts
  obtain ⟨by1, by2, by3, by4⟩ := by'.facts
  go_region_held3 (fun w' => w'.cell? ⟨w.heap.size, 0, none⟩ = some (.bool nx) ∧ w'.cell? ⟨w.heap.size, 1, none⟩ = some (.slice a0 n0 c0) ∧ w'.cell? ⟨w.heap.size + 1, 0, none⟩ = some (.bool ny) ∧ w'.cell? ⟨w.heap.size + 1, 1, none⟩ = some (.slice a1 n1 c1)) (go_keep) (first
    | (go_at_call 9; have _hq := hb2'; refine (wlen_any _ _ _ _ _ b1).mono ?_; rintro e w3 ⟨rfl, hb3⟩; have hb3' : Below w2.heap.size w2 w3 := (show Below w2.heap.size w2 _ by repeat (first | exact Below.refl _ _ | refine Below.drew ?_)).trans hb3; have HB := HB.trans (hb3'.mono HB.size); replace AX := AX.below hb3'; replace AY := AY.below hb3'; replace bx := bx.below hb3'; clear bx1 bx2 bx3 bx4; obtain ⟨bx1, bx2, bx3, bx4⟩ := bx.facts; replace by' := by'.below hb3'; clear by1 by2 by3 by4; obtain ⟨by1, by2, by3, by4⟩ := by'.facts)
    | (go_at_call 9; refine (wlen_any _ _ _ _ _ b0).mono ?_; rintro e w2 ⟨rfl, hb2⟩; have hb2' : Below w1.heap.size w1 w2 := (show Below w1.heap.size w1 _ by repeat (first | exact Below.refl _ _ | refine Below.drew ?_)).trans hb2; have HB := HB.trans (hb2'.mono HB.size); replace AX := AX.below hb2'; replace AY := AY.below hb2'; replace bx := bx.below hb2'; clear bx1 bx2 bx3 bx4; obtain ⟨bx1, bx2, bx3, bx4⟩ := bx.facts; replace by' := by'.below hb2'; clear by1 by2 by3 by4; obtain ⟨by1, by2, by3, by4⟩ := by'.facts))
  all_goals
    clear bx1 bx2 bx3 bx4 by1 by2 by3 by4
    go_wp2
    go_ret
    exact ⟨rfl, HB⟩

theorem wh_nil (w : World) : Wh w false none 0 [] 0 := ⟨⟨sl_nil w, canon_nil, rfl⟩, rfl⟩

theorem divnone_z (w : World) (nx : Bool) (a1 : Option Addr) (n1 c1 : Nat) (xs : List Int) (x : Int) (hx : Ag w nx a1 n1 c1 xs x) (ny : Bool) (a2 : Option Addr) (n2 c2 : Nat) (ys : List Int) (hy : Ag w ny a2 n2 c2 ys 0) :
    Calls Try.prog 11 #[.agg #[.bool nx, .slice a1 n1 c1], .agg #[.bool ny, .slice a2 n2 c2]] w fun e w' => e = .returned (.tuple #[.agg #[.bool false, .slice none 0 0], .agg #[.bool false, .slice none 0 0], .bool false]) ∧ Below w.heap.size w w' := by
  refine wdivmod_none w nx a1 n1 c1 xs hx.sl ny a2 n2 c2 ys hy.sl ?_
  have := hy.worth
  cases ny <;> simp [sg] at this <;> omega

set_option maxRecDepth 20000 in
set_option maxHeartbeats 1000000 in
theorem wrest_zero (w : World) (nx : Bool) (a0 : Option Addr) (n0 c0 : Nat) (xs : List Int) (zx : Int) (ny : Bool) (a1 : Option Addr) (n1 c1 : Nat) (ys : List Int) (AX : Ag w nx a0 n0 c0 xs zx) (AY : Ag w ny a1 n1 c1 ys 0) (b0 : n0 ≤ 35184372088832) (b1 : n1 ≤ 35184372088832) (h : ¬ 1500 < 1 + (n0 : Int) + (1 + n1)) :
    Calls Try.prog 6 #[.agg #[.bool nx, .slice a0 n0 c0], .agg #[.bool ny, .slice a1 n1 c1]] w fun e w' => e = .returned (.bool true) ∧ Below w.heap.size w w' := by
  obtain ⟨e0', _, _, _⟩ := AX.sl.parts
  obtain ⟨e1', _, _, _⟩ := AY.sl.parts
  have L0 : xs.length ≤ 1500 := by omega
  have L1 : ys.length ≤ 1500 := by omega
  clear e0' e1'
  obtain ⟨w0, e0, bx, by', hb0, hs0⟩ := boxed2 w nx (.slice a0 n0 c0) ny (.slice a1 n1 c1)
  have E0 := hide e0
  have HB : Below w.heap.size w w0 := hb0
  replace AX := AX.below hb0
  replace AY := AY.below hb0
  clear e0 hs0 hb0
  have hw1 : IntKind.i64.wrap (1 + (n0 : Int) + (1 + (n1 : Int))) = 1 + (n0 : Int) + (1 + (n1 : Int)) := wrap_in (by omega) (by omega)
  go_enter Try.func6, Try.ntmps6
  go_wp2_with fail
  rw [E0.out]
  clear E0
  refine (wawake_any _).mono ?_
  rintro e w1 ⟨rfl, hb1⟩
  replace HB := HB.trans (hb1.mono HB.size)
  replace AX := AX.below hb1
  replace AY := AY.below hb1
  replace bx := bx.below hb1
  replace by' := by'.below hb1
  clear hb1
  go_wp2
  obtain ⟨bx1, bx2, bx3, bx4⟩ := bx.facts
  obtain ⟨by1, by2, by3, by4⟩ := by'.facts
  go_region_held3 (fun w' => w'.cell? ⟨w.heap.size, 0, none⟩ = some (.bool nx) ∧ w'.cell? ⟨w.heap.size, 1, none⟩ = some (.slice a0 n0 c0) ∧ w'.cell? ⟨w.heap.size + 1, 0, none⟩ = some (.bool ny) ∧ w'.cell? ⟨w.heap.size + 1, 1, none⟩ = some (.slice a1 n1 c1)) (go_keep) (first
    | (go_at_call 9; have _hq := hb2'; refine (wlen_any _ _ _ _ _ b1).mono ?_; rintro e w3 ⟨rfl, hb3⟩; have hb3' : Below w2.heap.size w2 w3 := (show Below w2.heap.size w2 _ by repeat (first | exact Below.refl _ _ | refine Below.drew ?_)).trans hb3; have HB := HB.trans (hb3'.mono HB.size); replace AX := AX.below hb3'; replace AY := AY.below hb3'; replace bx := bx.below hb3'; clear bx1 bx2 bx3 bx4; obtain ⟨bx1, bx2, bx3, bx4⟩ := bx.facts; replace by' := by'.below hb3'; clear by1 by2 by3 by4; obtain ⟨by1, by2, by3, by4⟩ := by'.facts)
    | (go_at_call 9; refine (wlen_any _ _ _ _ _ b0).mono ?_; rintro e w2 ⟨rfl, hb2⟩; have hb2' : Below w1.heap.size w1 w2 := (show Below w1.heap.size w1 _ by repeat (first | exact Below.refl _ _ | refine Below.drew ?_)).trans hb2; have HB := HB.trans (hb2'.mono HB.size); replace AX := AX.below hb2'; replace AY := AY.below hb2'; replace bx := bx.below hb2'; clear bx1 bx2 bx3 bx4; obtain ⟨bx1, bx2, bx3, bx4⟩ := bx.facts; replace by' := by'.below hb2'; clear by1 by2 by3 by4; obtain ⟨by1, by2, by3, by4⟩ := by'.facts))
  all_goals
    clear bx1 bx2 bx3 bx4 by1 by2 by3 by4
    go_wp2_with fail
    refine (divnone_z _ _ _ _ _ _ _ AX _ _ _ _ _ AY).mono ?_
    rintro e w4 ⟨rfl, hb4⟩
    replace HB := HB.trans (hb4.mono HB.size)
    replace AY := AY.below hb4
    replace by' := by'.below hb4
    obtain ⟨w5, e5, bq, br, hb5, hs5⟩ := boxed2 w4 false (.slice none 0 0) false (.slice none 0 0)
    have E5 := hide e5
    replace HB := HB.trans (hb5.mono HB.size)
    replace AY := AY.below hb5
    replace by' := by'.below hb5
    obtain ⟨ya, yb, yc, yd⟩ := by'.facts
    rw [← e5] at ya yb yc yd
    clear e5 hs5
    go_wp2_with fail
    rw [E5.out]
    refine (sign_z _ _ _ _ _ _ _ AY (by omega) 0 rfl).mono ?_
    rintro e w6 ⟨rfl, hb6⟩
    replace HB := HB.trans (hb6.mono HB.size)
    replace bq := bq.below hb6
    replace br := br.below hb6
    obtain ⟨qa, qb, qc, qd⟩ := bq.facts
    obtain ⟨ra, rb, rc, rd⟩ := br.facts
    go_wp2_with fail
    refine (same_z _ _ _ _ _ _ _ _ _ _ _ (wh_nil _) (wh_nil _) true rfl).mono ?_
    rintro e w7 ⟨rfl, hb7⟩
    replace HB := HB.trans (hb7.mono HB.size)
    replace br := br.below hb7
    obtain ⟨sa, sb, sc, sd⟩ := br.facts
    go_wp2_with fail
    refine (same_z _ _ _ _ _ _ _ _ _ _ _ (wh_nil _) (wh_nil _) true rfl).mono ?_
    rintro e w8 ⟨rfl, hb8⟩
    replace HB := HB.trans (hb8.mono HB.size)
    go_wp2
    go_ret
    exact ⟨rfl, HB⟩

end Lm
end Go.Proofs.Ythbomfboohjcfad
