/-
  WholeOrder: one order of the first two numbers.
-/
import Derived.Test.YthbomfboohjcfadWO0
namespace Go.Proofs.Ythbomfboohjcfad
namespace Lm
open Go.RowKit

set_option maxRecDepth 20000 in
set_option maxHeartbeats 2000000 in
theorem worder_lt (w : World) (nx : Bool) (a0 : Option Addr) (n0 c0 : Nat) (xs : List Int) (zx : Int) (ny : Bool) (a1 : Option Addr) (n1 c1 : Nat) (ys : List Int) (zy : Int) (nz : Bool) (a2 : Option Addr) (n2 c2 : Nat) (us : List Int) (zz : Int) (AX : Ag w nx a0 n0 c0 xs zx) (AY : Ag w ny a1 n1 c1 ys zy) (AZ : Ag w nz a2 n2 c2 us zz) (b0 : n0 ≤ 35184372088832) (b1 : n1 ≤ 35184372088832) (b2 : n2 ≤ 35184372088832) (h : ¬ 1500 < 1 + (n0 : Int) + (1 + n1) + (1 + n2)) (hc : zx < zy) :
    Calls Try.prog 5 #[.agg #[.bool nx, .slice a0 n0 c0], .agg #[.bool ny, .slice a1 n1 c1], .agg #[.bool nz, .slice a2 n2 c2]] w fun e w' => e = .returned (.bool true) ∧ Below w.heap.size w w' := by
  obtain ⟨e0', _, _, _⟩ := AX.sl.parts
  obtain ⟨e1', _, _, _⟩ := AY.sl.parts
  obtain ⟨e2', _, _, _⟩ := AZ.sl.parts
  have L0 : xs.length ≤ 1500 := by omega
  have L1 : ys.length ≤ 1500 := by omega
  have L2 : us.length ≤ 1500 := by omega
  have HK1 : Hid (cmpI zx zy = -1) := cmpI_lt hc
  have HK2 : Hid (cmpI zy zx = 1) := cmpI_gt hc
  have HK3 : Hid (cmpI (-zy) (-zx) = -1) := cmpI_lt (by omega)
  have HK4 : Hid (cmpI (zx + zz) (zy + zz) = -1) := cmpI_lt (by omega)
  have HK5 : Hid (Int.sign (zx - zy) = -1) := Int.sign_eq_neg_one_of_neg (by omega)
  obtain ⟨sx, hs⟩ : ∃ sx, Int.sign zx = sx := ⟨_, rfl⟩
  have HS := hide hs
  have HS2 : Hid (cmpI zx 0 = sx) := (cmpI_zero zx).trans hs
  have HSM : Hid (decide (zx = zy) = false) := decide_eq_false (by omega)
  have HC := hide hc
  clear e0' e1' e2' hs hc
  have hv1 : IntKind.i64.wrap (-1) = -1 := by decide
  have hv2 : IntKind.i64.wrap 1 = 1 := by decide
  have hv3 : IntKind.i64.wrap 0 = 0 := by decide
  have hv4 : IntKind.i64.wrap (-(-1)) = 1 := by decide
  have hv5 : IntKind.i64.wrap (-0) = 0 := by decide
  obtain ⟨w0, e0, bx, by', bz, hb0, hs0⟩ := boxed3a w nx (.slice a0 n0 c0) ny (.slice a1 n1 c1) nz (.slice a2 n2 c2)
  have E0 := hide e0
  have HB : Below w.heap.size w w0 := hb0
  replace AX := AX.below hb0
  replace AY := AY.below hb0
  replace AZ := AZ.below hb0
  clear e0 hs0 hb0
  have hw1 : IntKind.i64.wrap (1 + (n0 : Int) + (1 + (n1 : Int))) = 1 + (n0 : Int) + (1 + (n1 : Int)) := wrap_in (by omega) (by omega)
  have hw2 : IntKind.i64.wrap (1 + (n0 : Int) + (1 + (n1 : Int)) + (1 + (n2 : Int))) = 1 + (n0 : Int) + (1 + (n1 : Int)) + (1 + (n2 : Int)) := wrap_in (by omega) (by omega)
  go_enter Try.func5, Try.ntmps5
  go_wp2_with fail
  rw [E0.out]
  clear E0
  refine (wawake_any _).mono ?_
  rintro e w1 ⟨rfl, hb1⟩
  replace HB := HB.trans (hb1.mono HB.size)
  replace AX := AX.below hb1
  replace AY := AY.below hb1
  replace AZ := AZ.below hb1
  replace bx := bx.below hb1
  replace by' := by'.below hb1
  replace bz := bz.below hb1
  clear hb1
  go_wp2
  obtain ⟨bx1, bx2, bx3, bx4⟩ := bx.facts
  obtain ⟨by1, by2, by3, by4⟩ := by'.facts
  obtain ⟨bz1, bz2, bz3, bz4⟩ := bz.facts
  go_region_held3 (fun w' => w'.cell? ⟨w.heap.size, 0, none⟩ = some (.bool nx) ∧ w'.cell? ⟨w.heap.size, 1, none⟩ = some (.slice a0 n0 c0) ∧ w'.cell? ⟨w.heap.size + 1, 0, none⟩ = some (.bool ny) ∧ w'.cell? ⟨w.heap.size + 1, 1, none⟩ = some (.slice a1 n1 c1) ∧ w'.cell? ⟨w.heap.size + 1 + 1, 0, none⟩ = some (.bool nz) ∧ w'.cell? ⟨w.heap.size + 1 + 1, 1, none⟩ = some (.slice a2 n2 c2)) (go_keep) (first
    | (go_at_call 9; have _hq := hb3'; refine (wlen_any _ _ _ _ _ b2).mono ?_; rintro e w4 ⟨rfl, hb4⟩; have hb4' : Below w3.heap.size w3 w4 := (show Below w3.heap.size w3 _ by repeat (first | exact Below.refl _ _ | refine Below.drew ?_)).trans hb4; have HB := HB.trans (hb4'.mono HB.size); replace AX := AX.below hb4'; replace AY := AY.below hb4'; replace AZ := AZ.below hb4'; replace bx := bx.below hb4'; clear bx1 bx2 bx3 bx4; obtain ⟨bx1, bx2, bx3, bx4⟩ := bx.facts; replace by' := by'.below hb4'; clear by1 by2 by3 by4; obtain ⟨by1, by2, by3, by4⟩ := by'.facts; replace bz := bz.below hb4'; clear bz1 bz2 bz3 bz4; obtain ⟨bz1, bz2, bz3, bz4⟩ := bz.facts)
    | (go_at_call 9; have _hq := hb2'; refine (wlen_any _ _ _ _ _ b1).mono ?_; rintro e w3 ⟨rfl, hb3⟩; have hb3' : Below w2.heap.size w2 w3 := (show Below w2.heap.size w2 _ by repeat (first | exact Below.refl _ _ | refine Below.drew ?_)).trans hb3; have HB := HB.trans (hb3'.mono HB.size); replace AX := AX.below hb3'; replace AY := AY.below hb3'; replace AZ := AZ.below hb3'; replace bx := bx.below hb3'; clear bx1 bx2 bx3 bx4; obtain ⟨bx1, bx2, bx3, bx4⟩ := bx.facts; replace by' := by'.below hb3'; clear by1 by2 by3 by4; obtain ⟨by1, by2, by3, by4⟩ := by'.facts; replace bz := bz.below hb3'; clear bz1 bz2 bz3 bz4; obtain ⟨bz1, bz2, bz3, bz4⟩ := bz.facts)
    | (go_at_call 9; refine (wlen_any _ _ _ _ _ b0).mono ?_; rintro e w2 ⟨rfl, hb2⟩; have hb2' : Below w1.heap.size w1 w2 := (show Below w1.heap.size w1 _ by repeat (first | exact Below.refl _ _ | refine Below.drew ?_)).trans hb2; have HB := HB.trans (hb2'.mono HB.size); replace AX := AX.below hb2'; replace AY := AY.below hb2'; replace AZ := AZ.below hb2'; replace bx := bx.below hb2'; clear bx1 bx2 bx3 bx4; obtain ⟨bx1, bx2, bx3, bx4⟩ := bx.facts; replace by' := by'.below hb2'; clear by1 by2 by3 by4; obtain ⟨by1, by2, by3, by4⟩ := by'.facts; replace bz := bz.below hb2'; clear bz1 bz2 bz3 bz4; obtain ⟨bz1, bz2, bz3, bz4⟩ := bz.facts))
  all_goals
    clear bx1 bx2 bx3 bx4 by1 by2 by3 by4 bz1 bz2 bz3 bz4
    go_wp2_with fail
    refine (cmp_z _ _ _ _ _ _ _ AX _ _ _ _ _ _ AY (by omega) (by omega) (-1) HK1.out).mono ?_
    rintro e w5 ⟨rfl, hb5⟩
    replace HB := HB.trans (hb5.mono HB.size)
    replace AX := AX.below hb5
    replace AY := AY.below hb5
    replace AZ := AZ.below hb5
    replace bx := bx.below hb5
    replace by' := by'.below hb5
    replace bz := bz.below hb5
    go_wp2
    obtain ⟨bx1, bx2, bx3, bx4⟩ := bx.facts
    obtain ⟨by1, by2, by3, by4⟩ := by'.facts
    obtain ⟨bz1, bz2, bz3, bz4⟩ := bz.facts
    go_region_held3 (fun w' => w'.cell? ⟨w.heap.size, 0, none⟩ = some (.bool nx) ∧ w'.cell? ⟨w.heap.size, 1, none⟩ = some (.slice a0 n0 c0) ∧ w'.cell? ⟨w.heap.size + 1, 0, none⟩ = some (.bool ny) ∧ w'.cell? ⟨w.heap.size + 1, 1, none⟩ = some (.slice a1 n1 c1) ∧ w'.cell? ⟨w.heap.size + 1 + 1, 0, none⟩ = some (.bool nz) ∧ w'.cell? ⟨w.heap.size + 1 + 1, 1, none⟩ = some (.slice a2 n2 c2)) (go_keep) (first
    | (go_at_call 23; have _hq := hb13'; refine (sign_z _ _ _ _ _ _ _ (G13.below (by repeat (first | exact Below.refl _ _ | refine Below.drew ?_))).ag (by omega) (-1) HK5.out).mono ?_; rintro e w14 ⟨rfl, hb14⟩; have hb14' : Below w13.heap.size w13 w14 := (show Below w13.heap.size w13 _ by repeat (first | exact Below.refl _ _ | refine Below.drew ?_)).trans hb14; have HB := HB.trans (hb14'.mono HB.size); replace AX := AX.below hb14'; replace AY := AY.below hb14'; replace AZ := AZ.below hb14'; replace bx := bx.below hb14'; clear bx1 bx2 bx3 bx4; obtain ⟨bx1, bx2, bx3, bx4⟩ := bx.facts; replace by' := by'.below hb14'; clear by1 by2 by3 by4; obtain ⟨by1, by2, by3, by4⟩ := by'.facts; replace bz := bz.below hb14'; clear bz1 bz2 bz3 bz4; obtain ⟨bz1, bz2, bz3, bz4⟩ := bz.facts)
    | (go_at_call 22; have _hq := hb12'; refine (sub_z _ _ _ _ _ _ _ (AX.below (by repeat (first | exact Below.refl _ _ | refine Below.drew ?_))) _ _ _ _ _ _ (AY.below (by repeat (first | exact Below.refl _ _ | refine Below.drew ?_))) (by omega) (by omega)).mono ?_; rintro e w13 ⟨s13, p13, q13, r13, rfl, G13, l13, hb13⟩; have hb13' : Below w12.heap.size w12 w13 := (show Below w12.heap.size w12 _ by repeat (first | exact Below.refl _ _ | refine Below.drew ?_)).trans hb13; have HB := HB.trans (hb13'.mono HB.size); replace AX := AX.below hb13'; replace AY := AY.below hb13'; replace AZ := AZ.below hb13'; replace bx := bx.below hb13'; clear bx1 bx2 bx3 bx4; obtain ⟨bx1, bx2, bx3, bx4⟩ := bx.facts; replace by' := by'.below hb13'; clear by1 by2 by3 by4; obtain ⟨by1, by2, by3, by4⟩ := by'.facts; replace bz := bz.below hb13'; clear bz1 bz2 bz3 bz4; obtain ⟨bz1, bz2, bz3, bz4⟩ := bz.facts)
    | (go_at_call 26; have _hq := hb11'; refine (cmp_z _ _ _ _ _ _ _ (G10.below (by repeat (first | exact Below.refl _ _ | refine Below.drew ?_))).ag _ _ _ _ _ _ (G11.below (by repeat (first | exact Below.refl _ _ | refine Below.drew ?_))).ag (by omega) (by omega) (-1) HK4.out).mono ?_; rintro e w12 ⟨rfl, hb12⟩; have hb12' : Below w11.heap.size w11 w12 := (show Below w11.heap.size w11 _ by repeat (first | exact Below.refl _ _ | refine Below.drew ?_)).trans hb12; have HB := HB.trans (hb12'.mono HB.size); replace AX := AX.below hb12'; replace AY := AY.below hb12'; replace AZ := AZ.below hb12'; replace bx := bx.below hb12'; clear bx1 bx2 bx3 bx4; obtain ⟨bx1, bx2, bx3, bx4⟩ := bx.facts; replace by' := by'.below hb12'; clear by1 by2 by3 by4; obtain ⟨by1, by2, by3, by4⟩ := by'.facts; replace bz := bz.below hb12'; clear bz1 bz2 bz3 bz4; obtain ⟨bz1, bz2, bz3, bz4⟩ := bz.facts)
    | (go_at_call 19; have _hq := hb10'; refine (add_z _ _ _ _ _ _ _ (AY.below (by repeat (first | exact Below.refl _ _ | refine Below.drew ?_))) _ _ _ _ _ _ (AZ.below (by repeat (first | exact Below.refl _ _ | refine Below.drew ?_))) (by omega) (by omega)).mono ?_; rintro e w11 ⟨s11, p11, q11, r11, rfl, G11, l11, hb11⟩; have hb11' : Below w10.heap.size w10 w11 := (show Below w10.heap.size w10 _ by repeat (first | exact Below.refl _ _ | refine Below.drew ?_)).trans hb11; have HB := HB.trans (hb11'.mono HB.size); replace AX := AX.below hb11'; replace AY := AY.below hb11'; replace AZ := AZ.below hb11'; replace G10 := G10.below hb11'; replace bx := bx.below hb11'; clear bx1 bx2 bx3 bx4; obtain ⟨bx1, bx2, bx3, bx4⟩ := bx.facts; replace by' := by'.below hb11'; clear by1 by2 by3 by4; obtain ⟨by1, by2, by3, by4⟩ := by'.facts; replace bz := bz.below hb11'; clear bz1 bz2 bz3 bz4; obtain ⟨bz1, bz2, bz3, bz4⟩ := bz.facts)
    | (go_at_call 19; have _hq := hb9'; refine (add_z _ _ _ _ _ _ _ (AX.below (by repeat (first | exact Below.refl _ _ | refine Below.drew ?_))) _ _ _ _ _ _ (AZ.below (by repeat (first | exact Below.refl _ _ | refine Below.drew ?_))) (by omega) (by omega)).mono ?_; rintro e w10 ⟨s10, p10, q10, r10, rfl, G10, l10, hb10⟩; have hb10' : Below w9.heap.size w9 w10 := (show Below w9.heap.size w9 _ by repeat (first | exact Below.refl _ _ | refine Below.drew ?_)).trans hb10; have HB := HB.trans (hb10'.mono HB.size); replace AX := AX.below hb10'; replace AY := AY.below hb10'; replace AZ := AZ.below hb10'; replace bx := bx.below hb10'; clear bx1 bx2 bx3 bx4; obtain ⟨bx1, bx2, bx3, bx4⟩ := bx.facts; replace by' := by'.below hb10'; clear by1 by2 by3 by4; obtain ⟨by1, by2, by3, by4⟩ := by'.facts; replace bz := bz.below hb10'; clear bz1 bz2 bz3 bz4; obtain ⟨bz1, bz2, bz3, bz4⟩ := bz.facts)
    | (go_at_call 26; have _hq := hb8'; refine (cmp_z _ _ _ _ _ _ _ (G7.below (by repeat (first | exact Below.refl _ _ | refine Below.drew ?_))).ag _ _ _ _ _ _ (G8.below (by repeat (first | exact Below.refl _ _ | refine Below.drew ?_))).ag (by omega) (by omega) (-1) HK3.out).mono ?_; rintro e w9 ⟨rfl, hb9⟩; have hb9' : Below w8.heap.size w8 w9 := (show Below w8.heap.size w8 _ by repeat (first | exact Below.refl _ _ | refine Below.drew ?_)).trans hb9; have HB := HB.trans (hb9'.mono HB.size); replace AX := AX.below hb9'; replace AY := AY.below hb9'; replace AZ := AZ.below hb9'; replace bx := bx.below hb9'; clear bx1 bx2 bx3 bx4; obtain ⟨bx1, bx2, bx3, bx4⟩ := bx.facts; replace by' := by'.below hb9'; clear by1 by2 by3 by4; obtain ⟨by1, by2, by3, by4⟩ := by'.facts; replace bz := bz.below hb9'; clear bz1 bz2 bz3 bz4; obtain ⟨bz1, bz2, bz3, bz4⟩ := bz.facts)
    | (go_at_call 21; have _hq := hb7'; refine (neg_z _ _ _ _ _ _ _ (AX.below (by repeat (first | exact Below.refl _ _ | refine Below.drew ?_))) (by omega)).mono ?_; rintro e w8 ⟨s8, p8, q8, r8, rfl, G8, l8, hb8⟩; have hb8' : Below w7.heap.size w7 w8 := (show Below w7.heap.size w7 _ by repeat (first | exact Below.refl _ _ | refine Below.drew ?_)).trans hb8; have HB := HB.trans (hb8'.mono HB.size); replace AX := AX.below hb8'; replace AY := AY.below hb8'; replace AZ := AZ.below hb8'; replace G7 := G7.below hb8'; replace bx := bx.below hb8'; clear bx1 bx2 bx3 bx4; obtain ⟨bx1, bx2, bx3, bx4⟩ := bx.facts; replace by' := by'.below hb8'; clear by1 by2 by3 by4; obtain ⟨by1, by2, by3, by4⟩ := by'.facts; replace bz := bz.below hb8'; clear bz1 bz2 bz3 bz4; obtain ⟨bz1, bz2, bz3, bz4⟩ := bz.facts)
    | (go_at_call 21; have _hq := hb6'; refine (neg_z _ _ _ _ _ _ _ (AY.below (by repeat (first | exact Below.refl _ _ | refine Below.drew ?_))) (by omega)).mono ?_; rintro e w7 ⟨s7, p7, q7, r7, rfl, G7, l7, hb7⟩; have hb7' : Below w6.heap.size w6 w7 := (show Below w6.heap.size w6 _ by repeat (first | exact Below.refl _ _ | refine Below.drew ?_)).trans hb7; have HB := HB.trans (hb7'.mono HB.size); replace AX := AX.below hb7'; replace AY := AY.below hb7'; replace AZ := AZ.below hb7'; replace bx := bx.below hb7'; clear bx1 bx2 bx3 bx4; obtain ⟨bx1, bx2, bx3, bx4⟩ := bx.facts; replace by' := by'.below hb7'; clear by1 by2 by3 by4; obtain ⟨by1, by2, by3, by4⟩ := by'.facts; replace bz := bz.below hb7'; clear bz1 bz2 bz3 bz4; obtain ⟨bz1, bz2, bz3, bz4⟩ := bz.facts)
    | (go_at_call 26; refine (cmp_z _ _ _ _ _ _ _ (AY.below (by repeat (first | exact Below.refl _ _ | refine Below.drew ?_))) _ _ _ _ _ _ (AX.below (by repeat (first | exact Below.refl _ _ | refine Below.drew ?_))) (by omega) (by omega) 1 HK2.out).mono ?_; rintro e w6 ⟨rfl, hb6⟩; have hb6' : Below w5.heap.size w5 w6 := (show Below w5.heap.size w5 _ by repeat (first | exact Below.refl _ _ | refine Below.drew ?_)).trans hb6; have HB := HB.trans (hb6'.mono HB.size); replace AX := AX.below hb6'; replace AY := AY.below hb6'; replace AZ := AZ.below hb6'; replace bx := bx.below hb6'; clear bx1 bx2 bx3 bx4; obtain ⟨bx1, bx2, bx3, bx4⟩ := bx.facts; replace by' := by'.below hb6'; clear by1 by2 by3 by4; obtain ⟨by1, by2, by3, by4⟩ := by'.facts; replace bz := bz.below hb6'; clear bz1 bz2 bz3 bz4; obtain ⟨bz1, bz2, bz3, bz4⟩ := bz.facts))
    all_goals
      clear bx1 bx2 bx3 bx4 by1 by2 by3 by4 bz1 bz2 bz3 bz4
      go_wp2
      obtain ⟨bx1, bx2, bx3, bx4⟩ := bx.facts
      obtain ⟨by1, by2, by3, by4⟩ := by'.facts
      obtain ⟨bz1, bz2, bz3, bz4⟩ := bz.facts
      go_region_held3 (fun w' => w'.cell? ⟨w.heap.size, 0, none⟩ = some (.bool nx) ∧ w'.cell? ⟨w.heap.size, 1, none⟩ = some (.slice a0 n0 c0) ∧ w'.cell? ⟨w.heap.size + 1, 0, none⟩ = some (.bool ny) ∧ w'.cell? ⟨w.heap.size + 1, 1, none⟩ = some (.slice a1 n1 c1) ∧ w'.cell? ⟨w.heap.size + 1 + 1, 0, none⟩ = some (.bool nz) ∧ w'.cell? ⟨w.heap.size + 1 + 1, 1, none⟩ = some (.slice a2 n2 c2)) (go_keep) (first
    | (go_at_call 15; have _hq := hb19'; refine (same_z _ _ _ _ _ _ _ _ _ _ _ (G18.below (by repeat (first | exact Below.refl _ _ | refine Below.drew ?_))) (G19.below (by repeat (first | exact Below.refl _ _ | refine Below.drew ?_))) false HSM.out).mono ?_; rintro e w20 ⟨rfl, hb20⟩; have hb20' : Below w19.heap.size w19 w20 := (show Below w19.heap.size w19 _ by repeat (first | exact Below.refl _ _ | refine Below.drew ?_)).trans hb20; have HB := HB.trans (hb20'.mono HB.size); replace AX := AX.below hb20'; replace AY := AY.below hb20'; replace AZ := AZ.below hb20'; replace bx := bx.below hb20'; clear bx1 bx2 bx3 bx4; obtain ⟨bx1, bx2, bx3, bx4⟩ := bx.facts; replace by' := by'.below hb20'; clear by1 by2 by3 by4; obtain ⟨by1, by2, by3, by4⟩ := by'.facts; replace bz := bz.below hb20'; clear bz1 bz2 bz3 bz4; obtain ⟨bz1, bz2, bz3, bz4⟩ := bz.facts)
    | (go_at_call 27; have _hq := hb18'; refine (trim_z _ _ _ _ _ _ _ (AY.below (by repeat (first | exact Below.refl _ _ | refine Below.drew ?_))) (by omega)).mono ?_; rintro e w19 ⟨s19, p19, q19, r19, rfl, G19, l19, hb19⟩; have hb19' : Below w18.heap.size w18 w19 := (show Below w18.heap.size w18 _ by repeat (first | exact Below.refl _ _ | refine Below.drew ?_)).trans hb19; have HB := HB.trans (hb19'.mono HB.size); replace AX := AX.below hb19'; replace AY := AY.below hb19'; replace AZ := AZ.below hb19'; replace G18 := G18.below hb19'; replace bx := bx.below hb19'; clear bx1 bx2 bx3 bx4; obtain ⟨bx1, bx2, bx3, bx4⟩ := bx.facts; replace by' := by'.below hb19'; clear by1 by2 by3 by4; obtain ⟨by1, by2, by3, by4⟩ := by'.facts; replace bz := bz.below hb19'; clear bz1 bz2 bz3 bz4; obtain ⟨bz1, bz2, bz3, bz4⟩ := bz.facts)
    | (go_at_call 27; have _hq := hb17'; refine (trim_z _ _ _ _ _ _ _ (AX.below (by repeat (first | exact Below.refl _ _ | refine Below.drew ?_))) (by omega)).mono ?_; rintro e w18 ⟨s18, p18, q18, r18, rfl, G18, l18, hb18⟩; have hb18' : Below w17.heap.size w17 w18 := (show Below w17.heap.size w17 _ by repeat (first | exact Below.refl _ _ | refine Below.drew ?_)).trans hb18; have HB := HB.trans (hb18'.mono HB.size); replace AX := AX.below hb18'; replace AY := AY.below hb18'; replace AZ := AZ.below hb18'; replace bx := bx.below hb18'; clear bx1 bx2 bx3 bx4; obtain ⟨bx1, bx2, bx3, bx4⟩ := bx.facts; replace by' := by'.below hb18'; clear by1 by2 by3 by4; obtain ⟨by1, by2, by3, by4⟩ := by'.facts; replace bz := bz.below hb18'; clear bz1 bz2 bz3 bz4; obtain ⟨bz1, bz2, bz3, bz4⟩ := bz.facts)
    | (go_at_call 26; have _hq := hb16'; refine (cmp_z _ _ _ _ _ _ _ (AX.below (by repeat (first | exact Below.refl _ _ | refine Below.drew ?_))) _ _ _ _ _ _ (G16.below (by repeat (first | exact Below.refl _ _ | refine Below.drew ?_))).ag (by omega) (by omega) sx HS2.out).mono ?_; rintro e w17 ⟨rfl, hb17⟩; have hb17' : Below w16.heap.size w16 w17 := (show Below w16.heap.size w16 _ by repeat (first | exact Below.refl _ _ | refine Below.drew ?_)).trans hb17; have HB := HB.trans (hb17'.mono HB.size); replace AX := AX.below hb17'; replace AY := AY.below hb17'; replace AZ := AZ.below hb17'; replace bx := bx.below hb17'; clear bx1 bx2 bx3 bx4; obtain ⟨bx1, bx2, bx3, bx4⟩ := bx.facts; replace by' := by'.below hb17'; clear by1 by2 by3 by4; obtain ⟨by1, by2, by3, by4⟩ := by'.facts; replace bz := bz.below hb17'; clear bz1 bz2 bz3 bz4; obtain ⟨bz1, bz2, bz3, bz4⟩ := bz.facts)
    | (go_at_call 24; have _hq := hb15'; refine (wof_g _ 0 (by omega) (by omega)).mono ?_; rintro e w16 ⟨s16, p16, q16, r16, rfl, G16, l16, hb16⟩; have hb16' : Below w15.heap.size w15 w16 := (show Below w15.heap.size w15 _ by repeat (first | exact Below.refl _ _ | refine Below.drew ?_)).trans hb16; have HB := HB.trans (hb16'.mono HB.size); replace AX := AX.below hb16'; replace AY := AY.below hb16'; replace AZ := AZ.below hb16'; replace bx := bx.below hb16'; clear bx1 bx2 bx3 bx4; obtain ⟨bx1, bx2, bx3, bx4⟩ := bx.facts; replace by' := by'.below hb16'; clear by1 by2 by3 by4; obtain ⟨by1, by2, by3, by4⟩ := by'.facts; replace bz := bz.below hb16'; clear bz1 bz2 bz3 bz4; obtain ⟨bz1, bz2, bz3, bz4⟩ := bz.facts)
    | (go_at_call 23; refine (sign_z _ _ _ _ _ _ _ (AX.below (by repeat (first | exact Below.refl _ _ | refine Below.drew ?_))) (by omega) sx HS.out).mono ?_; rintro e w15 ⟨rfl, hb15⟩; have hb15' : Below w14.heap.size w14 w15 := (show Below w14.heap.size w14 _ by repeat (first | exact Below.refl _ _ | refine Below.drew ?_)).trans hb15; have HB := HB.trans (hb15'.mono HB.size); replace AX := AX.below hb15'; replace AY := AY.below hb15'; replace AZ := AZ.below hb15'; replace bx := bx.below hb15'; clear bx1 bx2 bx3 bx4; obtain ⟨bx1, bx2, bx3, bx4⟩ := bx.facts; replace by' := by'.below hb15'; clear by1 by2 by3 by4; obtain ⟨by1, by2, by3, by4⟩ := by'.facts; replace bz := bz.below hb15'; clear bz1 bz2 bz3 bz4; obtain ⟨bz1, bz2, bz3, bz4⟩ := bz.facts))
      all_goals
        clear bx1 bx2 bx3 bx4 by1 by2 by3 by4 bz1 bz2 bz3 bz4
        by_cases hd : zz < zy
        · have HD : Hid (cmpI zy zz = 1) := cmpI_gt hd
          go_wp2_with fail
          refine (cmp_z _ _ _ _ _ _ _ AY _ _ _ _ _ _ AZ (by omega) (by omega) 1 HD.out).mono ?_
          rintro e w21 ⟨rfl, hb21⟩
          replace HB := HB.trans (hb21.mono HB.size)
          go_wp2
          go_ret
          exact ⟨rfl, HB⟩
        · obtain ⟨d1, hd1, hd2⟩ : ∃ d, cmpI zy zz = d ∧ ¬ 0 < d := ⟨_, rfl, cmpI_not_pos (by omega)⟩
          obtain ⟨d3, hd3, hd4⟩ : ∃ d, cmpI zx zz = d ∧ d ≤ 0 := ⟨_, rfl, by have := cmpI_not_pos (x := zx) (y := zz) (by have := HC.out; omega); omega⟩
          have HD1 := hide hd1
          have HD3 := hide hd3
          clear hd1 hd3
          go_wp2_with fail
          refine (cmp_z _ _ _ _ _ _ _ AY _ _ _ _ _ _ AZ (by omega) (by omega) d1 HD1.out).mono ?_
          rintro e w21 ⟨rfl, hb21⟩
          replace HB := HB.trans (hb21.mono HB.size)
          replace AX := AX.below hb21
          replace AZ := AZ.below hb21
          replace bx := bx.below hb21
          replace bz := bz.below hb21
          obtain ⟨xa, xb, xc, xd⟩ := bx.facts
          obtain ⟨za, zb, zc, zd⟩ := bz.facts
          go_wp2_with fail
          refine (cmp_z _ _ _ _ _ _ _ AX _ _ _ _ _ _ AZ (by omega) (by omega) d3 HD3.out).mono ?_
          rintro e w22 ⟨rfl, hb22⟩
          replace HB := HB.trans (hb22.mono HB.size)
          go_wp2
          go_ret
          exact ⟨rfl, HB⟩

end Lm
end Go.Proofs.Ythbomfboohjcfad
