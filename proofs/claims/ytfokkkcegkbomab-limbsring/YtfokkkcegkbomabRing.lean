/-
  LimbsRing answers true, whatever three lists of limbs it is handed.
-/
import Derived.Test.YtfokkkcegkbomabWrap
namespace Go.Proofs.Ytfokkkcegkbomab
namespace Lm
open Go.RowKit

set_option maxHeartbeats 400000 in
theorem ring_long (w : World) (a0 a1 a2 : Option Addr) (n0 n1 n2 c0 c1 c2 : Nat) (h : 1500 < (n0 : Int) + n1 + n2) (b0 : n0 ≤ 35184372088832) (b1 : n1 ≤ 35184372088832) (b2 : n2 ≤ 35184372088832) :
    Calls Try.prog 5 #[.slice a0 n0 c0, .slice a1 n1 c1, .slice a2 n2 c2] w fun e w' => e = .returned (.bool true) ∧ Below w.heap.size w w' := by
  go_enter Try.func5, Try.ntmps5
  go_wp2_with fail
  refine (awake_any _).mono ?_
  rintro e w1 ⟨rfl, hb⟩
  go_wp2
  go_ret
  exact ⟨rfl, hb⟩

set_option maxHeartbeats 1000000 in
theorem ring_short (w : World) (a0 a1 a2 : Option Addr) (n0 n1 n2 c0 c1 c2 : Nat) (xs ys us : List Int) (hx : Sl w (.slice a0 n0 c0) xs) (hy : Sl w (.slice a1 n1 c1) ys) (hu : Sl w (.slice a2 n2 c2) us)
    (h : ¬ 1500 < (n0 : Int) + n1 + n2) :
    Calls Try.prog 5 #[.slice a0 n0 c0, .slice a1 n1 c1, .slice a2 n2 c2] w fun e w' => e = .returned (.bool true) ∧ Below w.heap.size w w' := by
  obtain ⟨rfl, _, _, lx⟩ := hx.parts
  obtain ⟨rfl, _, _, ly⟩ := hy.parts
  obtain ⟨rfl, _, _, lu⟩ := hu.parts
  have HX := hide lx
  have HB := Below.refl w.heap.size w
  have vx0 := hide (val_bounds lx).1
  clear lx ly lu
  go_enter Try.func5, Try.ntmps5
  go_wp2_with fail
  refine (awake_any _).mono ?_
  rintro e w1 ⟨rfl, hb1⟩
  replace HB := HB.trans (hb1.mono HB.size)
  replace hx := hx.below hb1
  replace hy := hy.below hb1
  replace hu := hu.below hb1
  go_wp2_with fail
  refine (add_g _ _ _ _ _ _ _ xs ys hx hy (by omega) (by omega)).mono ?_
  rintro e w2 ⟨p2, q2, r2, rfl, G2, l2, hb2⟩
  replace HB := HB.trans (hb2.mono HB.size)
  replace hx := hx.below hb2
  replace hy := hy.below hb2
  replace hu := hu.below hb2
  go_wp2_with fail
  refine (mul_g _ _ _ _ _ _ _ xs ys hx hy (by omega) (by omega)).mono ?_
  rintro e w3 ⟨p3, q3, r3, rfl, G3, l3, hb3⟩
  replace HB := HB.trans (hb3.mono HB.size)
  replace hx := hx.below hb3
  replace hy := hy.below hb3
  replace hu := hu.below hb3
  replace G2 := G2.below hb3
  go_wp2_with fail
  refine (sub_g _ _ _ _ _ _ _ r2 ys G2.sl hy (by omega) (by rw [G2.val]; have := vx0.out; omega)).mono ?_
  rintro e w4 ⟨p4, q4, r4, rfl, G4, l4, hb4⟩
  replace HB := HB.trans (hb4.mono HB.size)
  replace hx := hx.below hb4
  replace hy := hy.below hb4
  replace hu := hu.below hb4
  replace G2 := G2.below hb4
  replace G3 := G3.below hb4
  go_wp2_with fail
  refine (add_g _ _ _ _ _ _ _ ys xs hy hx (by omega) (by omega)).mono ?_
  rintro e w5 ⟨p5, q5, r5, rfl, G5, l5, hb5⟩
  replace HB := HB.trans (hb5.mono HB.size)
  replace hx := hx.below hb5
  replace hy := hy.below hb5
  replace hu := hu.below hb5
  replace G2 := G2.below hb5
  replace G3 := G3.below hb5
  replace G4 := G4.below hb5
  go_wp2_with fail
  refine (same_g _ _ _ _ _ r2 r5 _ _ G2 G5 (by omega)).mono ?_
  rintro e w6 ⟨rfl, hb6⟩
  replace HB := HB.trans (hb6.mono HB.size)
  replace hx := hx.below hb6
  replace hy := hy.below hb6
  replace hu := hu.below hb6
  replace G2 := G2.below hb6
  replace G3 := G3.below hb6
  replace G4 := G4.below hb6
  go_wp2_with fail
  refine (mul_g _ _ _ _ _ _ _ ys xs hy hx (by omega) (by omega)).mono ?_
  rintro e w7 ⟨p7, q7, r7, rfl, G7, l7, hb7⟩
  replace HB := HB.trans (hb7.mono HB.size)
  replace hx := hx.below hb7
  replace hy := hy.below hb7
  replace hu := hu.below hb7
  replace G2 := G2.below hb7
  replace G3 := G3.below hb7
  replace G4 := G4.below hb7
  go_wp2_with fail
  refine (same_g _ _ _ _ _ r3 r7 _ _ G3 G7 (Int.mul_comm _ _)).mono ?_
  rintro e w8 ⟨rfl, hb8⟩
  replace HB := HB.trans (hb8.mono HB.size)
  replace hx := hx.below hb8
  replace hy := hy.below hb8
  replace hu := hu.below hb8
  replace G2 := G2.below hb8
  replace G3 := G3.below hb8
  replace G4 := G4.below hb8
  go_wp2_with fail
  refine (add_g _ _ _ _ _ _ _ r2 us G2.sl hu (by omega) (by omega)).mono ?_
  rintro e w9 ⟨p9, q9, r9, rfl, G9, l9, hb9⟩
  replace HB := HB.trans (hb9.mono HB.size)
  replace hx := hx.below hb9
  replace hy := hy.below hb9
  replace hu := hu.below hb9
  replace G2 := G2.below hb9
  replace G3 := G3.below hb9
  replace G4 := G4.below hb9
  go_wp2_with fail
  refine (add_g _ _ _ _ _ _ _ ys us hy hu (by omega) (by omega)).mono ?_
  rintro e w10 ⟨p10, q10, r10, rfl, G10, l10, hb10⟩
  replace HB := HB.trans (hb10.mono HB.size)
  replace hx := hx.below hb10
  replace hy := hy.below hb10
  replace hu := hu.below hb10
  replace G2 := G2.below hb10
  replace G3 := G3.below hb10
  replace G4 := G4.below hb10
  replace G9 := G9.below hb10
  go_wp2_with fail
  refine (add_g _ _ _ _ _ _ _ xs r10 hx G10.sl (by omega) (by omega)).mono ?_
  rintro e w11 ⟨p11, q11, r11, rfl, G11, l11, hb11⟩
  replace HB := HB.trans (hb11.mono HB.size)
  replace hx := hx.below hb11
  replace hy := hy.below hb11
  replace hu := hu.below hb11
  replace G2 := G2.below hb11
  replace G3 := G3.below hb11
  replace G4 := G4.below hb11
  replace G9 := G9.below hb11
  go_wp2_with fail
  refine (same_g _ _ _ _ _ r9 r11 _ _ G9 G11 (by rw [G2.val, G10.val]; omega)).mono ?_
  rintro e w12 ⟨rfl, hb12⟩
  replace HB := HB.trans (hb12.mono HB.size)
  replace hx := hx.below hb12
  replace hy := hy.below hb12
  replace hu := hu.below hb12
  replace G2 := G2.below hb12
  replace G3 := G3.below hb12
  replace G4 := G4.below hb12
  go_wp2_with fail
  refine (mul_g _ _ _ _ _ _ _ r3 us G3.sl hu (by omega) (by omega)).mono ?_
  rintro e w13 ⟨p13, q13, r13, rfl, G13, l13, hb13⟩
  replace HB := HB.trans (hb13.mono HB.size)
  replace hx := hx.below hb13
  replace hy := hy.below hb13
  replace hu := hu.below hb13
  replace G2 := G2.below hb13
  replace G3 := G3.below hb13
  replace G4 := G4.below hb13
  go_wp2_with fail
  refine (mul_g _ _ _ _ _ _ _ ys us hy hu (by omega) (by omega)).mono ?_
  rintro e w14 ⟨p14, q14, r14, rfl, G14, l14, hb14⟩
  replace HB := HB.trans (hb14.mono HB.size)
  replace hx := hx.below hb14
  replace hy := hy.below hb14
  replace hu := hu.below hb14
  replace G2 := G2.below hb14
  replace G3 := G3.below hb14
  replace G4 := G4.below hb14
  replace G13 := G13.below hb14
  go_wp2_with fail
  refine (mul_g _ _ _ _ _ _ _ xs r14 hx G14.sl (by omega) (by omega)).mono ?_
  rintro e w15 ⟨p15, q15, r15, rfl, G15, l15, hb15⟩
  replace HB := HB.trans (hb15.mono HB.size)
  replace hx := hx.below hb15
  replace hy := hy.below hb15
  replace hu := hu.below hb15
  replace G2 := G2.below hb15
  replace G3 := G3.below hb15
  replace G4 := G4.below hb15
  replace G13 := G13.below hb15
  go_wp2_with fail
  refine (same_g _ _ _ _ _ r13 r15 _ _ G13 G15 (by rw [G3.val, G14.val, Int.mul_assoc])).mono ?_
  rintro e w16 ⟨rfl, hb16⟩
  replace HB := HB.trans (hb16.mono HB.size)
  replace hx := hx.below hb16
  replace hy := hy.below hb16
  replace hu := hu.below hb16
  replace G2 := G2.below hb16
  replace G3 := G3.below hb16
  replace G4 := G4.below hb16
  go_wp2_with fail
  refine (add_g _ _ _ _ _ _ _ ys us hy hu (by omega) (by omega)).mono ?_
  rintro e w17 ⟨p17, q17, r17, rfl, G17, l17, hb17⟩
  replace HB := HB.trans (hb17.mono HB.size)
  replace hx := hx.below hb17
  replace hy := hy.below hb17
  replace hu := hu.below hb17
  replace G3 := G3.below hb17
  replace G4 := G4.below hb17
  go_wp2_with fail
  refine (mul_g _ _ _ _ _ _ _ xs r17 hx G17.sl (by omega) (by omega)).mono ?_
  rintro e w18 ⟨p18, q18, r18, rfl, G18, l18, hb18⟩
  replace HB := HB.trans (hb18.mono HB.size)
  replace hx := hx.below hb18
  replace hy := hy.below hb18
  replace hu := hu.below hb18
  replace G3 := G3.below hb18
  replace G4 := G4.below hb18
  go_wp2_with fail
  refine (mul_g _ _ _ _ _ _ _ xs us hx hu (by omega) (by omega)).mono ?_
  rintro e w19 ⟨p19, q19, r19, rfl, G19, l19, hb19⟩
  replace HB := HB.trans (hb19.mono HB.size)
  replace hx := hx.below hb19
  replace hy := hy.below hb19
  replace hu := hu.below hb19
  replace G3 := G3.below hb19
  replace G4 := G4.below hb19
  replace G18 := G18.below hb19
  go_wp2_with fail
  refine (add_g _ _ _ _ _ _ _ r3 r19 G3.sl G19.sl (by omega) (by omega)).mono ?_
  rintro e w20 ⟨p20, q20, r20, rfl, G20, l20, hb20⟩
  replace HB := HB.trans (hb20.mono HB.size)
  replace hx := hx.below hb20
  replace hy := hy.below hb20
  replace hu := hu.below hb20
  replace G4 := G4.below hb20
  replace G18 := G18.below hb20
  go_wp2_with fail
  refine (same_g _ _ _ _ _ r18 r20 _ _ G18 G20 (by rw [G17.val, G3.val, G19.val, Int.mul_add])).mono ?_
  rintro e w21 ⟨rfl, hb21⟩
  replace HB := HB.trans (hb21.mono HB.size)
  replace hx := hx.below hb21
  replace hy := hy.below hb21
  replace hu := hu.below hb21
  replace G4 := G4.below hb21
  go_wp2_with fail
  refine (trim_g _ _ _ _ xs hx (by omega)).mono ?_
  rintro e w22 ⟨p22, q22, r22, rfl, G22, l22, hb22⟩
  replace HB := HB.trans (hb22.mono HB.size)
  replace hx := hx.below hb22
  replace G4 := G4.below hb22
  go_wp2_with fail
  refine (same_g _ _ _ _ _ r4 r22 _ _ G4 G22 (by rw [G2.val]; omega)).mono ?_
  rintro e w23 ⟨rfl, hb23⟩
  replace HB := HB.trans (hb23.mono HB.size)
  replace hx := hx.below hb23
  go_wp2_with fail
  have s24 := sl_one w23 1 (limb_lits (by decide))
  have hb24 : Below w23.heap.size w23 (w23.alloc (.cells #[.int .u32 1] 45)) := (Below.refl _ _).alloc (Nat.le_refl _) _
  replace HB := HB.trans (hb24.mono HB.size)
  replace hx := hx.below hb24
  go_wp2_with fail
  refine (mul_g _ _ _ _ _ _ _ xs [1] hx s24 (by omega) (by simp)).mono ?_
  rintro e w25 ⟨p25, q25, r25, rfl, G25, l25, hb25⟩
  replace HB := HB.trans (hb25.mono HB.size)
  replace hx := hx.below hb25
  clear s24 hb24
  go_wp2_with fail
  refine (trim_g _ _ _ _ xs hx (by omega)).mono ?_
  rintro e w26 ⟨p26, q26, r26, rfl, G26, l26, hb26⟩
  replace HB := HB.trans (hb26.mono HB.size)
  replace hx := hx.below hb26
  replace G25 := G25.below hb26
  go_wp2_with fail
  refine (same_g _ _ _ _ _ r25 r26 _ _ G25 G26 (by simp [val])).mono ?_
  rintro e w27 ⟨rfl, hb27⟩
  replace HB := HB.trans (hb27.mono HB.size)
  replace hx := hx.below hb27
  go_wp2_with fail
  refine (mul_g _ _ _ _ _ _ _ xs [] hx (sl_nil _) (by omega) (by simp)).mono ?_
  rintro e w28 ⟨p28, q28, r28, rfl, G28, l28, hb28⟩
  replace HB := HB.trans (hb28.mono HB.size)
  replace hx := hx.below hb28
  have e28 : ((r28.length : Int) == 0) = true := by
    have : r28 = [] := (canon_zero G28.canon).1 (by rw [G28.val]; simp [val])
    rw [this]; rfl
  go_wp2_with fail
  refine (add_g _ _ _ _ _ _ _ xs [] hx (sl_nil _) (by omega) (by simp)).mono ?_
  rintro e w29 ⟨p29, q29, r29, rfl, G29, l29, hb29⟩
  replace HB := HB.trans (hb29.mono HB.size)
  replace hx := hx.below hb29
  go_wp2_with fail
  refine (trim_g _ _ _ _ xs hx (by omega)).mono ?_
  rintro e w30 ⟨p30, q30, r30, rfl, G30, l30, hb30⟩
  replace HB := HB.trans (hb30.mono HB.size)
  replace G29 := G29.below hb30
  go_wp2_with fail
  refine (same_g _ _ _ _ _ r29 r30 _ _ G29 G30 (by simp [val])).mono ?_
  rintro e w31 ⟨rfl, hb31⟩
  replace HB := HB.trans (hb31.mono HB.size)
  go_wp2
  go_ret
  exact ⟨rfl, HB⟩

theorem ring_law (w : World) (a0 : Option Addr) (n0 c0 : Nat) (xs : List Int) (a1 : Option Addr) (n1 c1 : Nat) (ys : List Int) (a2 : Option Addr) (n2 c2 : Nat) (us : List Int)
    (hx : Sl w (.slice a0 n0 c0) xs) (b0 : n0 ≤ 35184372088832) (hy : Sl w (.slice a1 n1 c1) ys) (b1 : n1 ≤ 35184372088832) (hu : Sl w (.slice a2 n2 c2) us) (b2 : n2 ≤ 35184372088832) :
    Calls Try.prog 5 #[.slice a0 n0 c0, .slice a1 n1 c1, .slice a2 n2 c2] w fun e w' => e = .returned (.bool true) ∧ Below w.heap.size w w' := by
  by_cases h : 1500 < (n0 : Int) + n1 + n2
  · exact ring_long w a0 a1 a2 n0 n1 n2 c0 c1 c2 h b0 b1 b2
  · exact ring_short w a0 a1 a2 n0 n1 n2 c0 c1 c2 xs ys us hx hy hu h

end Lm
end Go.Proofs.Ytfokkkcegkbomab
