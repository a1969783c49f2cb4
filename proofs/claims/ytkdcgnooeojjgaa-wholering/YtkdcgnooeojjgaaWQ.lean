/-
  WholeRing answers true, whatever three numbers it is handed.
-/
import Derived.Test.YtkdcgnooeojjgaaWQt
namespace Go.Proofs.Ytkdcgnooeojjgaa
namespace Lm
open Go.RowKit

set_option maxRecDepth 20000 in
set_option maxHeartbeats 1000000 in
theorem wring_long (w : World) (nx : Bool) (a0 : Option Addr) (n0 c0 : Nat) (xs : List Int) (zx : Int) (ny : Bool) (a1 : Option Addr) (n1 c1 : Nat) (ys : List Int) (zy : Int) (nz : Bool) (a2 : Option Addr) (n2 c2 : Nat) (us : List Int) (zz : Int) (AX : Ag w nx a0 n0 c0 xs zx) (AY : Ag w ny a1 n1 c1 ys zy) (AZ : Ag w nz a2 n2 c2 us zz) (b0 : n0 ≤ 35184372088832) (b1 : n1 ≤ 35184372088832) (b2 : n2 ≤ 35184372088832) (h : 1500 < 1 + (n0 : Int) + (1 + n1) + (1 + n2)) :
    Calls Try.prog 6 #[.agg #[.bool nx, .slice a0 n0 c0], .agg #[.bool ny, .slice a1 n1 c1], .agg #[.bool nz, .slice a2 n2 c2]] w fun e w' => e = .returned (.bool true) ∧ Below w.heap.size w w' := by
  obtain ⟨w0, e0, bx, by', bz, hb0, hs0⟩ := boxed3a w nx (.slice a0 n0 c0) ny (.slice a1 n1 c1) nz (.slice a2 n2 c2)
  have E0 := hide e0
  have HB : Below w.heap.size w w0 := hb0
  replace AX := AX.below hb0
  replace AY := AY.below hb0
  replace AZ := AZ.below hb0
  clear e0 hs0 hb0
  have hw1 : IntKind.i64.wrap (1 + (n0 : Int) + (1 + (n1 : Int))) = 1 + (n0 : Int) + (1 + (n1 : Int)) := wrap_in (by omega) (by omega)
  have hw2 : IntKind.i64.wrap (1 + (n0 : Int) + (1 + (n1 : Int)) + (1 + (n2 : Int))) = 1 + (n0 : Int) + (1 + (n1 : Int)) + (1 + (n2 : Int)) := wrap_in (by omega) (by omega)
  go_enter Try.func6, Try.ntmps6
  go_wp2_with fail
  rw [E0.out]
  clear E0
  refine (wawake_any _).mono ?_
  rintro e w1 ⟨rfl, hb1⟩
  replace HB := HB.trans (hb1.mono HB.size)
  replace AX := AX.below hb1
  replace AY := AY.below hb1
  replace AZ := AZ.below hb1
  replace bx := bx.below hb1
  replace by' := by'.below hb1
  replace bz := bz.below hb1
  clear hb1
  go_wp2
  obtain ⟨bx1, bx2, bx3, bx4⟩ := bx.facts
  obtain ⟨by1, by2, by3, by4⟩ := by'.facts
  obtain ⟨bz1, bz2, bz3, bz4⟩ := bz.facts
  go_region_held3 (fun w' => w'.cell? ⟨w.heap.size, 0, none⟩ = some (.bool nx) ∧ w'.cell? ⟨w.heap.size, 1, none⟩ = some (.slice a0 n0 c0) ∧ w'.cell? ⟨w.heap.size + 1, 0, none⟩ = some (.bool ny) ∧ w'.cell? ⟨w.heap.size + 1, 1, none⟩ = some (.slice a1 n1 c1) ∧ w'.cell? ⟨w.heap.size + 1 + 1, 0, none⟩ = some (.bool nz) ∧ w'.cell? ⟨w.heap.size + 1 + 1, 1, none⟩ = some (.slice a2 n2 c2)) (go_keep) (first
    | (go_at_call 9; have _hq := hb3'; refine (wlen_any _ _ _ _ _ b2).mono ?_; rintro e w4 ⟨rfl, hb4⟩; have hb4' : Below w3.heap.size w3 w4 := (show Below w3.heap.size w3 _ by repeat (first | exact Below.refl _ _ | refine Below.drew ?_)).trans hb4; have HB := HB.trans (hb4'.mono HB.size); replace AX := AX.below hb4'; replace AY := AY.below hb4'; replace AZ := AZ.below hb4'; replace bx := bx.below hb4'; clear bx1 bx2 bx3 bx4; obtain ⟨bx1, bx2, bx3, bx4⟩ := bx.facts; replace by' := by'.below hb4'; clear by1 by2 by3 by4; obtain ⟨by1, by2, by3, by4⟩ := by'.facts; replace bz := bz.below hb4'; clear bz1 bz2 bz3 bz4; obtain ⟨bz1, bz2, bz3, bz4⟩ := bz.facts)
    | (go_at_call 9; have _hq := hb2'; refine (wlen_any _ _ _ _ _ b1).mono ?_; rintro e w3 ⟨rfl, hb3⟩; have hb3' : Below w2.heap.size w2 w3 := (show Below w2.heap.size w2 _ by repeat (first | exact Below.refl _ _ | refine Below.drew ?_)).trans hb3; have HB := HB.trans (hb3'.mono HB.size); replace AX := AX.below hb3'; replace AY := AY.below hb3'; replace AZ := AZ.below hb3'; replace bx := bx.below hb3'; clear bx1 bx2 bx3 bx4; obtain ⟨bx1, bx2, bx3, bx4⟩ := bx.facts; replace by' := by'.below hb3'; clear by1 by2 by3 by4; obtain ⟨by1, by2, by3, by4⟩ := by'.facts; replace bz := bz.below hb3'; clear bz1 bz2 bz3 bz4; obtain ⟨bz1, bz2, bz3, bz4⟩ := bz.facts)
    | (go_at_call 9; refine (wlen_any _ _ _ _ _ b0).mono ?_; rintro e w2 ⟨rfl, hb2⟩; have hb2' : Below w1.heap.size w1 w2 := (show Below w1.heap.size w1 _ by repeat (first | exact Below.refl _ _ | refine Below.drew ?_)).trans hb2; have HB := HB.trans (hb2'.mono HB.size); replace AX := AX.below hb2'; replace AY := AY.below hb2'; replace AZ := AZ.below hb2'; replace bx := bx.below hb2'; clear bx1 bx2 bx3 bx4; obtain ⟨bx1, bx2, bx3, bx4⟩ := bx.facts; replace by' := by'.below hb2'; clear by1 by2 by3 by4; obtain ⟨by1, by2, by3, by4⟩ := by'.facts; replace bz := bz.below hb2'; clear bz1 bz2 bz3 bz4; obtain ⟨bz1, bz2, bz3, bz4⟩ := bz.facts))
  all_goals
    clear bx1 bx2 bx3 bx4 by1 by2 by3 by4 bz1 bz2 bz3 bz4
    go_wp2
    go_ret
    exact ⟨rfl, HB⟩

set_option maxRecDepth 20000 in
set_option maxHeartbeats 2000000 in
theorem wring_short (w : World) (nx : Bool) (a0 : Option Addr) (n0 c0 : Nat) (xs : List Int) (zx : Int) (ny : Bool) (a1 : Option Addr) (n1 c1 : Nat) (ys : List Int) (zy : Int) (nz : Bool) (a2 : Option Addr) (n2 c2 : Nat) (us : List Int) (zz : Int) (AX : Ag w nx a0 n0 c0 xs zx) (AY : Ag w ny a1 n1 c1 ys zy) (AZ : Ag w nz a2 n2 c2 us zz) (b0 : n0 ≤ 35184372088832) (b1 : n1 ≤ 35184372088832) (b2 : n2 ≤ 35184372088832) (h : ¬ 1500 < 1 + (n0 : Int) + (1 + n1) + (1 + n2)) :
    Calls Try.prog 6 #[.agg #[.bool nx, .slice a0 n0 c0], .agg #[.bool ny, .slice a1 n1 c1], .agg #[.bool nz, .slice a2 n2 c2]] w fun e w' => e = .returned (.bool true) ∧ Below w.heap.size w w' := by
  obtain ⟨e0', _, _, _⟩ := AX.sl.parts
  obtain ⟨e1', _, _, _⟩ := AY.sl.parts
  obtain ⟨e2', _, _, _⟩ := AZ.sl.parts
  have L0 : xs.length ≤ 1500 := by omega
  have L1 : ys.length ≤ 1500 := by omega
  have L2 : us.length ≤ 1500 := by omega
  clear e0' e1' e2'
  obtain ⟨w0, e0, bx, by', bz, hb0, hs0⟩ := boxed3a w nx (.slice a0 n0 c0) ny (.slice a1 n1 c1) nz (.slice a2 n2 c2)
  have E0 := hide e0
  have HB : Below w.heap.size w w0 := hb0
  replace AX := AX.below hb0
  replace AY := AY.below hb0
  replace AZ := AZ.below hb0
  clear e0 hs0 hb0
  have hw1 : IntKind.i64.wrap (1 + (n0 : Int) + (1 + (n1 : Int))) = 1 + (n0 : Int) + (1 + (n1 : Int)) := wrap_in (by omega) (by omega)
  have hw2 : IntKind.i64.wrap (1 + (n0 : Int) + (1 + (n1 : Int)) + (1 + (n2 : Int))) = 1 + (n0 : Int) + (1 + (n1 : Int)) + (1 + (n2 : Int)) := wrap_in (by omega) (by omega)
  go_enter Try.func6, Try.ntmps6
  go_wp2_with fail
  rw [E0.out]
  clear E0
  refine (wawake_any _).mono ?_
  rintro e w1 ⟨rfl, hb1⟩
  replace HB := HB.trans (hb1.mono HB.size)
  replace AX := AX.below hb1
  replace AY := AY.below hb1
  replace AZ := AZ.below hb1
  replace bx := bx.below hb1
  replace by' := by'.below hb1
  replace bz := bz.below hb1
  clear hb1
  go_wp2
  obtain ⟨bx1, bx2, bx3, bx4⟩ := bx.facts
  obtain ⟨by1, by2, by3, by4⟩ := by'.facts
  obtain ⟨bz1, bz2, bz3, bz4⟩ := bz.facts
  go_region_held3 (fun w' => w'.cell? ⟨w.heap.size, 0, none⟩ = some (.bool nx) ∧ w'.cell? ⟨w.heap.size, 1, none⟩ = some (.slice a0 n0 c0) ∧ w'.cell? ⟨w.heap.size + 1, 0, none⟩ = some (.bool ny) ∧ w'.cell? ⟨w.heap.size + 1, 1, none⟩ = some (.slice a1 n1 c1) ∧ w'.cell? ⟨w.heap.size + 1 + 1, 0, none⟩ = some (.bool nz) ∧ w'.cell? ⟨w.heap.size + 1 + 1, 1, none⟩ = some (.slice a2 n2 c2)) (go_keep) (first
    | (go_at_call 9; have _hq := hb3'; refine (wlen_any _ _ _ _ _ b2).mono ?_; rintro e w4 ⟨rfl, hb4⟩; have hb4' : Below w3.heap.size w3 w4 := (show Below w3.heap.size w3 _ by repeat (first | exact Below.refl _ _ | refine Below.drew ?_)).trans hb4; have HB := HB.trans (hb4'.mono HB.size); replace AX := AX.below hb4'; replace AY := AY.below hb4'; replace AZ := AZ.below hb4'; replace bx := bx.below hb4'; clear bx1 bx2 bx3 bx4; obtain ⟨bx1, bx2, bx3, bx4⟩ := bx.facts; replace by' := by'.below hb4'; clear by1 by2 by3 by4; obtain ⟨by1, by2, by3, by4⟩ := by'.facts; replace bz := bz.below hb4'; clear bz1 bz2 bz3 bz4; obtain ⟨bz1, bz2, bz3, bz4⟩ := bz.facts)
    | (go_at_call 9; have _hq := hb2'; refine (wlen_any _ _ _ _ _ b1).mono ?_; rintro e w3 ⟨rfl, hb3⟩; have hb3' : Below w2.heap.size w2 w3 := (show Below w2.heap.size w2 _ by repeat (first | exact Below.refl _ _ | refine Below.drew ?_)).trans hb3; have HB := HB.trans (hb3'.mono HB.size); replace AX := AX.below hb3'; replace AY := AY.below hb3'; replace AZ := AZ.below hb3'; replace bx := bx.below hb3'; clear bx1 bx2 bx3 bx4; obtain ⟨bx1, bx2, bx3, bx4⟩ := bx.facts; replace by' := by'.below hb3'; clear by1 by2 by3 by4; obtain ⟨by1, by2, by3, by4⟩ := by'.facts; replace bz := bz.below hb3'; clear bz1 bz2 bz3 bz4; obtain ⟨bz1, bz2, bz3, bz4⟩ := bz.facts)
    | (go_at_call 9; refine (wlen_any _ _ _ _ _ b0).mono ?_; rintro e w2 ⟨rfl, hb2⟩; have hb2' : Below w1.heap.size w1 w2 := (show Below w1.heap.size w1 _ by repeat (first | exact Below.refl _ _ | refine Below.drew ?_)).trans hb2; have HB := HB.trans (hb2'.mono HB.size); replace AX := AX.below hb2'; replace AY := AY.below hb2'; replace AZ := AZ.below hb2'; replace bx := bx.below hb2'; clear bx1 bx2 bx3 bx4; obtain ⟨bx1, bx2, bx3, bx4⟩ := bx.facts; replace by' := by'.below hb2'; clear by1 by2 by3 by4; obtain ⟨by1, by2, by3, by4⟩ := by'.facts; replace bz := bz.below hb2'; clear bz1 bz2 bz3 bz4; obtain ⟨bz1, bz2, bz3, bz4⟩ := bz.facts))
  all_goals
    clear bx1 bx2 bx3 bx4 by1 by2 by3 by4 bz1 bz2 bz3 bz4
    go_wp2_with fail
    refine (add_z _ _ _ _ _ _ _ AX _ _ _ _ _ _ AY (by omega) (by omega)).mono ?_
    rintro e w5 ⟨s5, p5, q5, r5, rfl, GS, l5, hb5⟩
    replace HB := HB.trans (hb5.mono HB.size)
    replace AX := AX.below hb5
    replace AY := AY.below hb5
    replace AZ := AZ.below hb5
    replace bx := bx.below hb5
    replace by' := by'.below hb5
    replace bz := bz.below hb5
    obtain ⟨w6, e6, bs, hb6, hs6⟩ := boxed0 w5 s5 (.slice p5 r5.length q5)
    have E6 := hide e6
    replace HB := HB.trans (hb6.mono HB.size)
    replace AX := AX.below hb6
    replace AY := AY.below hb6
    replace AZ := AZ.below hb6
    replace bx := bx.below hb6
    replace by' := by'.below hb6
    replace bz := bz.below hb6
    replace GS := GS.below hb6
    obtain ⟨xa, xb, xc, xd⟩ := bx.facts
    obtain ⟨ya, yb, yc, yd⟩ := by'.facts
    rw [← e6] at xa xb xc xd ya yb yc yd
    clear e6 hs6
    go_wp2_with fail
    rw [E6.out]
    refine (mul_z _ _ _ _ _ _ _ AX _ _ _ _ _ _ AY (by omega) (by omega)).mono ?_
    rintro e w7 ⟨s7, p7, q7, r7, rfl, GM, l7, hb7⟩
    clear xa xb xc xd ya yb yc yd E6
    replace HB := HB.trans (hb7.mono HB.size)
    replace AX := AX.below hb7
    replace AY := AY.below hb7
    replace AZ := AZ.below hb7
    replace bx := bx.below hb7
    replace by' := by'.below hb7
    replace bz := bz.below hb7
    replace GS := GS.below hb7
    replace bs := bs.below hb7
    obtain ⟨w8, e8, bm, hb8, hs8⟩ := boxed0 w7 s7 (.slice p7 r7.length q7)
    have E8 := hide e8
    replace HB := HB.trans (hb8.mono HB.size)
    replace AX := AX.below hb8
    replace AY := AY.below hb8
    replace AZ := AZ.below hb8
    replace bx := bx.below hb8
    replace by' := by'.below hb8
    replace bz := bz.below hb8
    replace GS := GS.below hb8
    replace bs := bs.below hb8
    replace GM := GM.below hb8
    clear e8 hs8
    go_wp2
    rw [E8.out]
    rename_i K hK
    clear E8
    have lx8 := lt_of_heap bx
    have ly8 := lt_of_heap by'
    have lz8 := lt_of_heap bz
    have ls8 := lt_of_heap bs
    have lm8 := lt_of_heap bm
    have hq8 : (w.heap.size = w8.heap.size) = False := eq_false (by omega)
    have hr8 : (w8.heap.size = w.heap.size) = False := eq_false (by omega)
    obtain ⟨bx1, bx2, bx3, bx4⟩ := bx.facts
    obtain ⟨by1, by2, by3, by4⟩ := by'.facts
    obtain ⟨bz1, bz2, bz3, bz4⟩ := bz.facts
    obtain ⟨bs1, bs2, bs3, bs4⟩ := bs.facts
    obtain ⟨bm1, bm2, bm3, bm4⟩ := bm.facts
    go_region_held3 (fun w' => w'.cell? ⟨w.heap.size, 0, none⟩ = some (.bool nx) ∧ w'.cell? ⟨w.heap.size, 1, none⟩ = some (.slice a0 n0 c0)) (go_keep) (first
    | (go_at_call 27; have _hq := hb9'; refine (add_z _ _ _ _ _ _ _ (AX.below (by repeat (first | exact Below.refl _ _ | refine Below.drew ?_ | refine below_al ?_ _))) _ _ _ _ _ _ (G9.below (by repeat (first | exact Below.refl _ _ | refine Below.drew ?_ | refine below_al ?_ _))).ag (by omega) (by omega)).mono ?_; rintro e w10 ⟨s10, p10, q10, r10, rfl, G10, l10, hb10⟩; have hb10' : Below w9.heap.size w9 w10 := below_then (show Below w9.heap.size w9 _ by repeat (first | exact Below.refl _ _ | refine Below.drew ?_ | refine below_al ?_ _)) hb10; have HB := HB.trans (hb10'.mono HB.size); replace AX := AX.below hb10'; replace AY := AY.below hb10'; replace AZ := AZ.below hb10'; replace GS := GS.below hb10'; replace GM := GM.below hb10'; replace bx := bx.below hb10'; clear bx1 bx2 bx3 bx4; obtain ⟨bx1, bx2, bx3, bx4⟩ := bx.facts; replace by' := by'.below hb10'; clear by1 by2 by3 by4; obtain ⟨by1, by2, by3, by4⟩ := by'.facts; replace bz := bz.below hb10'; clear bz1 bz2 bz3 bz4; obtain ⟨bz1, bz2, bz3, bz4⟩ := bz.facts; replace bs := bs.below hb10'; clear bs1 bs2 bs3 bs4; obtain ⟨bs1, bs2, bs3, bs4⟩ := bs.facts; replace bm := bm.below hb10'; clear bm1 bm2 bm3 bm4; obtain ⟨bm1, bm2, bm3, bm4⟩ := bm.facts; have lx10 := lt_of_heap bx; have hq10 : (w.heap.size = w10.heap.size) = False := eq_false (by omega); have hr10 : (w10.heap.size = w.heap.size) = False := eq_false (by omega); first | (replace bn := bn.below hb10'; clear bn1 bn2 bn3 bn4; obtain ⟨bn1, bn2, bn3, bn4⟩ := bn.facts) | (have bn := Box.below (g := w9.heap.size) (ng := false) (v := .slice none 0 0) (by exact heap_alloc_new _ _) hb10; obtain ⟨bn1, bn2, bn3, bn4⟩ := bn.facts) | skip)
    | (go_at_call 30; refine (neg_z _ _ _ _ _ _ _ (AX.below (by repeat (first | exact Below.refl _ _ | refine Below.drew ?_ | refine below_al ?_ _))) (by omega)).mono ?_; rintro e w9 ⟨s9, p9, q9, r9, rfl, G9, l9, hb9⟩; have hb9' : Below w8.heap.size w8 w9 := below_then (show Below w8.heap.size w8 _ by repeat (first | exact Below.refl _ _ | refine Below.drew ?_ | refine below_al ?_ _)) hb9; have HB := HB.trans (hb9'.mono HB.size); replace AX := AX.below hb9'; replace AY := AY.below hb9'; replace AZ := AZ.below hb9'; replace GS := GS.below hb9'; replace GM := GM.below hb9'; replace bx := bx.below hb9'; clear bx1 bx2 bx3 bx4; obtain ⟨bx1, bx2, bx3, bx4⟩ := bx.facts; replace by' := by'.below hb9'; clear by1 by2 by3 by4; obtain ⟨by1, by2, by3, by4⟩ := by'.facts; replace bz := bz.below hb9'; clear bz1 bz2 bz3 bz4; obtain ⟨bz1, bz2, bz3, bz4⟩ := bz.facts; replace bs := bs.below hb9'; clear bs1 bs2 bs3 bs4; obtain ⟨bs1, bs2, bs3, bs4⟩ := bs.facts; replace bm := bm.below hb9'; clear bm1 bm2 bm3 bm4; obtain ⟨bm1, bm2, bm3, bm4⟩ := bm.facts; have lx9 := lt_of_heap bx; have hq9 : (w.heap.size = w9.heap.size) = False := eq_false (by omega); have hr9 : (w9.heap.size = w.heap.size) = False := eq_false (by omega); first | (replace bn := bn.below hb9'; clear bn1 bn2 bn3 bn4; obtain ⟨bn1, bn2, bn3, bn4⟩ := bn.facts) | (have bn := Box.below (g := w8.heap.size) (ng := false) (v := .slice none 0 0) (by exact heap_alloc_new _ _) hb9; obtain ⟨bn1, bn2, bn3, bn4⟩ := bn.facts) | skip))
    all_goals
      have hz0 : zx + -zx = 0 := by omega
      rw [hz0] at G10
      have s89 := hb9'.size
      first
        | (have _hq := bn
           exact hK _ _ (wring_tail w _ nx a0 n0 c0 xs zx ny a1 n1 c1 ys zy nz a2 n2 c2 us zz ⟨bn.sl s10 (.slice p10 r10.length q10) AX.sl, AX.worth⟩ ⟨bn.sl s10 (.slice p10 r10.length q10) AY.sl, AY.worth⟩ ⟨bn.sl s10 (.slice p10 r10.length q10) AZ.sl, AZ.worth⟩ L0 L1 L2 (below_set2 HB (by omega) (.bool s10) (.slice p10 r10.length q10)) _ _ _ _ _ _ s5 p5 q5 r5 (bn.wh s10 (.slice p10 r10.length q10) GS) (by omega) s7 p7 q7 r7 (bn.wh s10 (.slice p10 r10.length q10) GM) (by omega) s10 p10 q10 r10 (bn.wh s10 (.slice p10 r10.length q10) G10) (by omega) (box_other bx (by omega) (.bool s10) (.slice p10 r10.length q10)) (box_other by' (by omega) (.bool s10) (.slice p10 r10.length q10)) (box_other bz (by omega) (.bool s10) (.slice p10 r10.length q10)) (box_other bs (by omega) (.bool s10) (.slice p10 r10.length q10)) (box_other bm (by omega) (.bool s10) (.slice p10 r10.length q10)) (bn.set s10 (.slice p10 r10.length q10)) _ rfl rfl rfl rfl rfl rfl rfl rfl))
        | (have hba : Below w10.heap.size w10 (w10.alloc (.cells #[.bool s10, .slice p10 r10.length q10] 24)) := (Below.refl _ _).alloc (Nat.le_refl _) _
           exact hK _ _ (wring_tail w _ nx a0 n0 c0 xs zx ny a1 n1 c1 ys zy nz a2 n2 c2 us zz (AX.below hba) (AY.below hba) (AZ.below hba) L0 L1 L2 (HB.trans (hba.mono HB.size)) _ _ _ _ _ _ s5 p5 q5 r5 (GS.below hba) (by omega) s7 p7 q7 r7 (GM.below hba) (by omega) s10 p10 q10 r10 (G10.below hba) (by omega) (bx.below hba) (by'.below hba) (bz.below hba) (bs.below hba) (bm.below hba) (heap_alloc_new w10 _) _ rfl rfl rfl rfl rfl rfl rfl rfl))

theorem wring_law (w : World) (nx : Bool) (a0 : Option Addr) (n0 c0 : Nat) (xs : List Int) (zx : Int) (ny : Bool) (a1 : Option Addr) (n1 c1 : Nat) (ys : List Int) (zy : Int) (nz : Bool) (a2 : Option Addr) (n2 c2 : Nat) (us : List Int) (zz : Int) (AX : Ag w nx a0 n0 c0 xs zx) (AY : Ag w ny a1 n1 c1 ys zy) (AZ : Ag w nz a2 n2 c2 us zz) (b0 : n0 ≤ 35184372088832) (b1 : n1 ≤ 35184372088832) (b2 : n2 ≤ 35184372088832) :
    Calls Try.prog 6 #[.agg #[.bool nx, .slice a0 n0 c0], .agg #[.bool ny, .slice a1 n1 c1], .agg #[.bool nz, .slice a2 n2 c2]] w fun e w' => e = .returned (.bool true) ∧ Below w.heap.size w w' := by
  by_cases h : 1500 < 1 + (n0 : Int) + (1 + n1) + (1 + n2)
  · exact wring_long w nx a0 n0 c0 xs zx ny a1 n1 c1 ys zy nz a2 n2 c2 us zz AX AY AZ b0 b1 b2 h
  · exact wring_short w nx a0 n0 c0 xs zx ny a1 n1 c1 ys zy nz a2 n2 c2 us zz AX AY AZ b0 b1 b2 h

end Lm
end Go.Proofs.Ytkdcgnooeojjgaa
