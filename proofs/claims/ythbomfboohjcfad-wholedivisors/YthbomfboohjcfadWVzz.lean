/-
  WholeDivisors: one case.
-/
import Derived.Test.YthbomfboohjcfadWV0
namespace Go.Proofs.Ythbomfboohjcfad
namespace Lm
open Go.RowKit

set_option maxRecDepth 20000 in
set_option maxHeartbeats 2000000 in
theorem wdivs_zz (w : World) (nx : Bool) (a0 : Option Addr) (n0 c0 : Nat) (xs : List Int) (zx : Int) (ny : Bool) (a1 : Option Addr) (n1 c1 : Nat) (ys : List Int) (AX : Ag w nx a0 n0 c0 xs zx) (AY : Ag w ny a1 n1 c1 ys 0) (b0 : n0 ≤ 35184372088832) (b1 : n1 ≤ 35184372088832) (h : ¬ 1500 < 1 + (n0 : Int) + (1 + n1)) (hz : zx = 0) :
    Calls Try.prog 7 #[.agg #[.bool nx, .slice a0 n0 c0], .agg #[.bool ny, .slice a1 n1 c1]] w fun e w' => e = .returned (.bool true) ∧ Below w.heap.size w w' := by
  obtain ⟨e0', _, _, _⟩ := AX.sl.parts
  obtain ⟨e1', _, _, _⟩ := AY.sl.parts
  have L0 : xs.length ≤ 1500 := by omega
  have L1 : ys.length ≤ 1500 := by omega
  have HTG : Hid (Int.sign ((Int.gcd zx 0 : Nat) : Int) = 0) := by rw [hz]; rfl
  have HZ := hide hz
  clear hz
  clear e0' e1'
  obtain ⟨w0, e0, bx, by', hb0, hs0⟩ := boxed2 w nx (.slice a0 n0 c0) ny (.slice a1 n1 c1)
  have E0 := hide e0
  have HB : Below w.heap.size w w0 := hb0
  replace AX := AX.below hb0
  replace AY := AY.below hb0
  clear e0 hs0 hb0
  have hw1 : IntKind.i64.wrap (1 + (n0 : Int) + (1 + (n1 : Int))) = 1 + (n0 : Int) + (1 + (n1 : Int)) := wrap_in (by omega) (by omega)
  go_enter Try.func7, Try.ntmps7
  go_wp2_with fail
  rw [E0.out]
  clear E0
  refine (wawake_any _).mono ?_
  rintro e w1 ⟨rfl, hb1⟩
  replace HB := HB.trans (hb1.mono HB.size)
  replace AX := AX.below hb1
  replace AY := AY.below hb1
  replace bx := bx.below hb1
  replace by' := by'.below hb1
  clear hb1
  go_wp2
  obtain ⟨bx1, bx2, bx3, bx4⟩ := bx.facts
  obtain ⟨by1, by2, by3, by4⟩ := by'.facts
  go_region_held3 (fun w' => w'.cell? ⟨w.heap.size, 0, none⟩ = some (.bool nx) ∧ w'.cell? ⟨w.heap.size, 1, none⟩ = some (.slice a0 n0 c0) ∧ w'.cell? ⟨w.heap.size + 1, 0, none⟩ = some (.bool ny) ∧ w'.cell? ⟨w.heap.size + 1, 1, none⟩ = some (.slice a1 n1 c1)) (go_keep) (first
    | (go_at_call 9; have _hq := hb2'; refine (wlen_any _ _ _ _ _ b1).mono ?_; rintro e w3 ⟨rfl, hb3⟩; have hb3' : Below w2.heap.size w2 w3 := (show Below w2.heap.size w2 _ by repeat (first | exact Below.refl _ _ | refine Below.drew ?_)).trans hb3; have HB := HB.trans (hb3'.mono HB.size); replace AX := AX.below hb3'; replace AY := AY.below hb3'; replace bx := bx.below hb3'; clear bx1 bx2 bx3 bx4; obtain ⟨bx1, bx2, bx3, bx4⟩ := bx.facts; replace by' := by'.below hb3'; clear by1 by2 by3 by4; obtain ⟨by1, by2, by3, by4⟩ := by'.facts)
    | (go_at_call 9; refine (wlen_any _ _ _ _ _ b0).mono ?_; rintro e w2 ⟨rfl, hb2⟩; have hb2' : Below w1.heap.size w1 w2 := (show Below w1.heap.size w1 _ by repeat (first | exact Below.refl _ _ | refine Below.drew ?_)).trans hb2; have HB := HB.trans (hb2'.mono HB.size); replace AX := AX.below hb2'; replace AY := AY.below hb2'; replace bx := bx.below hb2'; clear bx1 bx2 bx3 bx4; obtain ⟨bx1, bx2, bx3, bx4⟩ := bx.facts; replace by' := by'.below hb2'; clear by1 by2 by3 by4; obtain ⟨by1, by2, by3, by4⟩ := by'.facts))
  all_goals
    clear bx1 bx2 bx3 bx4 by1 by2 by3 by4
    go_wp2_with fail
    refine (gcd_z _ _ _ _ _ _ _ AX _ _ _ _ _ _ AY (by omega) (by omega)).mono ?_
    rintro e w4 ⟨sg0, pg, qg, rg, rfl, G, lg, hb4⟩
    replace HB := HB.trans (hb4.mono HB.size)
    replace AX := AX.below hb4
    replace AY := AY.below hb4
    replace bx := bx.below hb4
    replace by' := by'.below hb4
    obtain ⟨w5, e5, bg, hb5, hs5⟩ := boxed0 w4 sg0 (.slice pg rg.length qg)
    have E5 := hide e5
    clear e5 hs5
    go_wp2
    rw [E5.out]
    clear E5
    replace HB := HB.trans (hb5.mono HB.size)
    replace AX := AX.below hb5
    replace AY := AY.below hb5
    replace bx := bx.below hb5
    replace by' := by'.below hb5
    replace G := G.below hb5
    obtain ⟨bx1, bx2, bx3, bx4⟩ := bx.facts
    obtain ⟨by1, by2, by3, by4⟩ := by'.facts
    obtain ⟨bg1, bg2, bg3, bg4⟩ := bg.facts
    go_region_held3 (fun w' => w'.cell? ⟨w.heap.size, 0, none⟩ = some (.bool nx) ∧ w'.cell? ⟨w.heap.size, 1, none⟩ = some (.slice a0 n0 c0) ∧ w'.cell? ⟨w.heap.size + 1, 0, none⟩ = some (.bool ny) ∧ w'.cell? ⟨w.heap.size + 1, 1, none⟩ = some (.slice a1 n1 c1) ∧ w'.cell? ⟨w4.heap.size, 0, none⟩ = some (.bool sg0) ∧ w'.cell? ⟨w4.heap.size, 1, none⟩ = some (.slice pg rg.length qg)) (go_keep) (first
    | (go_at_call 15; have _hq := hb10'; refine (same_z _ _ _ _ _ _ _ _ _ _ _ (G.below (by repeat (first | exact Below.refl _ _ | refine Below.drew ?_))) (G10.below (by repeat (first | exact Below.refl _ _ | refine Below.drew ?_))) true (decide_eq_true (by rw [Int.neg_gcd]))).mono ?_; rintro e w11 ⟨rfl, hb11⟩; have hb11' : Below w10.heap.size w10 w11 := (show Below w10.heap.size w10 _ by repeat (first | exact Below.refl _ _ | refine Below.drew ?_)).trans hb11; have HB := HB.trans (hb11'.mono HB.size); replace AX := AX.below hb11'; replace AY := AY.below hb11'; replace G := G.below hb11'; replace bx := bx.below hb11'; clear bx1 bx2 bx3 bx4; obtain ⟨bx1, bx2, bx3, bx4⟩ := bx.facts; replace by' := by'.below hb11'; clear by1 by2 by3 by4; obtain ⟨by1, by2, by3, by4⟩ := by'.facts; replace bg := bg.below hb11'; clear bg1 bg2 bg3 bg4; obtain ⟨bg1, bg2, bg3, bg4⟩ := bg.facts)
    | (go_at_call 12; have _hq := hb9'; refine (gcd_z _ _ _ _ _ _ _ (G9.below (by repeat (first | exact Below.refl _ _ | refine Below.drew ?_))).ag _ _ _ _ _ _ (AY.below (by repeat (first | exact Below.refl _ _ | refine Below.drew ?_))) (by omega) (by omega)).mono ?_; rintro e w10 ⟨s10, p10, q10, r10, rfl, G10, l10, hb10⟩; have hb10' : Below w9.heap.size w9 w10 := (show Below w9.heap.size w9 _ by repeat (first | exact Below.refl _ _ | refine Below.drew ?_)).trans hb10; have HB := HB.trans (hb10'.mono HB.size); replace AX := AX.below hb10'; replace AY := AY.below hb10'; replace G := G.below hb10'; replace bx := bx.below hb10'; clear bx1 bx2 bx3 bx4; obtain ⟨bx1, bx2, bx3, bx4⟩ := bx.facts; replace by' := by'.below hb10'; clear by1 by2 by3 by4; obtain ⟨by1, by2, by3, by4⟩ := by'.facts; replace bg := bg.below hb10'; clear bg1 bg2 bg3 bg4; obtain ⟨bg1, bg2, bg3, bg4⟩ := bg.facts)
    | (go_at_call 21; have _hq := hb8'; refine (neg_z _ _ _ _ _ _ _ (AX.below (by repeat (first | exact Below.refl _ _ | refine Below.drew ?_))) (by omega)).mono ?_; rintro e w9 ⟨s9, p9, q9, r9, rfl, G9, l9, hb9⟩; have hb9' : Below w8.heap.size w8 w9 := (show Below w8.heap.size w8 _ by repeat (first | exact Below.refl _ _ | refine Below.drew ?_)).trans hb9; have HB := HB.trans (hb9'.mono HB.size); replace AX := AX.below hb9'; replace AY := AY.below hb9'; replace G := G.below hb9'; replace bx := bx.below hb9'; clear bx1 bx2 bx3 bx4; obtain ⟨bx1, bx2, bx3, bx4⟩ := bx.facts; replace by' := by'.below hb9'; clear by1 by2 by3 by4; obtain ⟨by1, by2, by3, by4⟩ := by'.facts; replace bg := bg.below hb9'; clear bg1 bg2 bg3 bg4; obtain ⟨bg1, bg2, bg3, bg4⟩ := bg.facts)
    | (go_at_call 15; have _hq := hb7'; refine (same_z _ _ _ _ _ _ _ _ _ _ _ (G.below (by repeat (first | exact Below.refl _ _ | refine Below.drew ?_))) (G7.below (by repeat (first | exact Below.refl _ _ | refine Below.drew ?_))) true (decide_eq_true (by rw [Int.gcd_comm]))).mono ?_; rintro e w8 ⟨rfl, hb8⟩; have hb8' : Below w7.heap.size w7 w8 := (show Below w7.heap.size w7 _ by repeat (first | exact Below.refl _ _ | refine Below.drew ?_)).trans hb8; have HB := HB.trans (hb8'.mono HB.size); replace AX := AX.below hb8'; replace AY := AY.below hb8'; replace G := G.below hb8'; replace bx := bx.below hb8'; clear bx1 bx2 bx3 bx4; obtain ⟨bx1, bx2, bx3, bx4⟩ := bx.facts; replace by' := by'.below hb8'; clear by1 by2 by3 by4; obtain ⟨by1, by2, by3, by4⟩ := by'.facts; replace bg := bg.below hb8'; clear bg1 bg2 bg3 bg4; obtain ⟨bg1, bg2, bg3, bg4⟩ := bg.facts)
    | (go_at_call 12; have _hq := hb6'; refine (gcd_z _ _ _ _ _ _ _ (AY.below (by repeat (first | exact Below.refl _ _ | refine Below.drew ?_))) _ _ _ _ _ _ (AX.below (by repeat (first | exact Below.refl _ _ | refine Below.drew ?_))) (by omega) (by omega)).mono ?_; rintro e w7 ⟨s7, p7, q7, r7, rfl, G7, l7, hb7⟩; have hb7' : Below w6.heap.size w6 w7 := (show Below w6.heap.size w6 _ by repeat (first | exact Below.refl _ _ | refine Below.drew ?_)).trans hb7; have HB := HB.trans (hb7'.mono HB.size); replace AX := AX.below hb7'; replace AY := AY.below hb7'; replace G := G.below hb7'; replace bx := bx.below hb7'; clear bx1 bx2 bx3 bx4; obtain ⟨bx1, bx2, bx3, bx4⟩ := bx.facts; replace by' := by'.below hb7'; clear by1 by2 by3 by4; obtain ⟨by1, by2, by3, by4⟩ := by'.facts; replace bg := bg.below hb7'; clear bg1 bg2 bg3 bg4; obtain ⟨bg1, bg2, bg3, bg4⟩ := bg.facts)
    | (go_at_call 23; refine (sign_z _ _ _ _ _ _ _ (G.below (by repeat (first | exact Below.refl _ _ | refine Below.drew ?_))).ag (by omega) 0 HTG.out).mono ?_; rintro e w6 ⟨rfl, hb6⟩; have hb6' : Below w5.heap.size w5 w6 := (show Below w5.heap.size w5 _ by repeat (first | exact Below.refl _ _ | refine Below.drew ?_)).trans hb6; have HB := HB.trans (hb6'.mono HB.size); replace AX := AX.below hb6'; replace AY := AY.below hb6'; replace G := G.below hb6'; replace bx := bx.below hb6'; clear bx1 bx2 bx3 bx4; obtain ⟨bx1, bx2, bx3, bx4⟩ := bx.facts; replace by' := by'.below hb6'; clear by1 by2 by3 by4; obtain ⟨by1, by2, by3, by4⟩ := by'.facts; replace bg := bg.below hb6'; clear bg1 bg2 bg3 bg4; obtain ⟨bg1, bg2, bg3, bg4⟩ := bg.facts))
    all_goals
      clear bx3 bx4 by3 by4 bg1 bg2 bg3 bg4
      go_wp2_with fail
      refine (divnone_z _ _ _ _ _ _ _ AX _ _ _ _ _ AY).mono ?_
      rintro e w12 ⟨rfl, hb12⟩
      replace HB := HB.trans (hb12.mono HB.size)
      replace AX := AX.below hb12
      replace AY := AY.below hb12
      replace bx := bx.below hb12
      replace by' := by'.below hb12
      replace bg := bg.below hb12
      replace G := G.below hb12
      obtain ⟨w13, e13, bq, br, hb13, hs13⟩ := boxed2 w12 false (.slice none 0 0) false (.slice none 0 0)
      have E13 := hide e13
      replace HB := HB.trans (hb13.mono HB.size)
      replace AX := AX.below hb13
      replace AY := AY.below hb13
      replace bx := bx.below hb13
      replace by' := by'.below hb13
      replace bg := bg.below hb13
      replace G := G.below hb13
      clear bx1 bx2 by1 by2 e13 hs13
      go_wp2
      rw [E13.out]
      clear E13
      obtain ⟨bx1, bx2, bx3, bx4⟩ := bx.facts
      obtain ⟨by1, by2, by3, by4⟩ := by'.facts
      obtain ⟨bg1, bg2, bg3, bg4⟩ := bg.facts
      obtain ⟨br1, br2, br3, br4⟩ := br.facts
      go_quiet (fail)
      all_goals
        clear bx1 bx2 bx3 bx4 by1 by2 by3 by4 bg1 bg2 bg3 bg4 br1 br2 br3 br4
        have hb15 : Below w13.heap.size w13 (w13.drewN nq) := below_drewN (Below.refl _ _) nq
        replace HB := HB.trans (hb15.mono HB.size)
        replace AX := AX.below hb15
        replace AY := AY.below hb15
        replace bx := bx.below hb15
        replace by' := by'.below hb15
        replace bg := bg.below hb15
        replace G := G.below hb15
        generalize w13.drewN nq = w15 at HB AX AY bx by' bg G hb15 ⊢
        obtain ⟨ga, gb, gc, gd⟩ := bg.facts
        go_wp2_with fail
        refine (sign_z _ _ _ _ _ _ _ G.ag (by omega) 0 HTG.out).mono ?_
        rintro e w16 ⟨rfl, hb16⟩
        replace HB := HB.trans (hb16.mono HB.size)
        replace AX := AX.below hb16
        replace AY := AY.below hb16
        replace bx := bx.below hb16
        replace by' := by'.below hb16
        replace bg := bg.below hb16
        replace G := G.below hb16
        clear ga gb gc gd
        obtain ⟨xa, xb, xc, xd⟩ := bx.facts
        go_wp2_with fail
        refine (sign_z _ _ _ _ _ _ _ AX (by omega) 0 (by rw [HZ.out]; rfl)).mono ?_
        rintro e w17 ⟨rfl, hb17⟩
        replace HB := HB.trans (hb17.mono HB.size)
        replace AY := AY.below hb17
        replace by' := by'.below hb17
        obtain ⟨ya, yb, yc, yd⟩ := by'.facts
        go_wp2_with fail
        refine (sign_z _ _ _ _ _ _ _ AY (by omega) 0 rfl).mono ?_
        rintro e w18 ⟨rfl, hb18⟩
        replace HB := HB.trans (hb18.mono HB.size)
        go_wp2
        go_ret
        exact ⟨rfl, HB⟩

end Lm
end Go.Proofs.Ythbomfboohjcfad
