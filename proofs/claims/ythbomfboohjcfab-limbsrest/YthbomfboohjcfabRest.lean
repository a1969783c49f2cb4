/-
  LimbsRest answers true, whatever three lists of limbs it is handed.
-/
import Derived.Test.YthbomfboohjcfabDivL
namespace Go.Proofs.Ythbomfboohjcfab
namespace Lm
open Go.RowKit

set_option maxHeartbeats 400000 in
theorem rest_long (w : World) (a0 a1 a2 : Option Addr) (n0 n1 n2 c0 c1 c2 : Nat) (h : 1500 < (n0 : Int) + n1 + n2) (b0 : n0 ≤ 35184372088832) (b1 : n1 ≤ 35184372088832) (b2 : n2 ≤ 35184372088832) :
    Calls Try.prog 6 #[.slice a0 n0 c0, .slice a1 n1 c1, .slice a2 n2 c2] w fun e w' => e = .returned (.bool true) ∧ Below w.heap.size w w' := by
  go_enter Try.func6, Try.ntmps6
  go_wp2_with fail
  refine (awake_any _).mono ?_
  rintro e w1 ⟨rfl, hb⟩
  go_wp2
  go_ret
  exact ⟨rfl, hb⟩

set_option maxHeartbeats 400000 in
theorem rest_zero (w : World) (a0 a1 a2 : Option Addr) (n0 n1 n2 c0 c1 c2 : Nat) (xs ys : List Int) (hx : Sl w (.slice a0 n0 c0) xs) (hy : Sl w (.slice a1 n1 c1) ys)
    (h : ¬ 1500 < (n0 : Int) + n1 + n2) (hz : val ys = 0) :
    Calls Try.prog 6 #[.slice a0 n0 c0, .slice a1 n1 c1, .slice a2 n2 c2] w fun e w' => e = .returned (.bool true) ∧ Below w.heap.size w w' := by
  obtain ⟨rfl, _, _, lx⟩ := hx.parts
  obtain ⟨rfl, _, _, ly⟩ := hy.parts
  have HZ := hide hz
  have HB := Below.refl w.heap.size w
  clear lx ly hz
  go_enter Try.func6, Try.ntmps6
  go_wp2_with fail
  refine (awake_any _).mono ?_
  rintro e w1 ⟨rfl, hb1⟩
  replace HB := HB.trans (hb1.mono HB.size)
  replace hx := hx.below hb1
  replace hy := hy.below hb1
  go_wp2_with fail
  refine (divmod_none _ _ _ _ _ _ _ xs ys hx hy HZ.out).mono ?_
  rintro e w2 ⟨rfl, hb2⟩
  replace HB := HB.trans (hb2.mono HB.size)
  replace hx := hx.below hb2
  replace hy := hy.below hb2
  go_wp2_with fail
  refine (bits_any _ _ _ _ ys hy (by omega)).mono ?_
  rintro e w3 ⟨l1, rfl, t1, rfl⟩
  rw [HZ.out] at t1
  have hl1 := isBits_zero t1
  subst hl1
  clear t1
  go_wp2
  go_ret
  exact ⟨rfl, HB⟩

set_option maxHeartbeats 1000000 in
theorem rest_pos (w : World) (a0 a1 a2 : Option Addr) (n0 n1 n2 c0 c1 c2 : Nat) (xs ys us : List Int) (hx : Sl w (.slice a0 n0 c0) xs) (hy : Sl w (.slice a1 n1 c1) ys) (hu : Sl w (.slice a2 n2 c2) us)
    (h : ¬ 1500 < (n0 : Int) + n1 + n2) (hz : val ys ≠ 0) :
    Calls Try.prog 6 #[.slice a0 n0 c0, .slice a1 n1 c1, .slice a2 n2 c2] w fun e w' => e = .returned (.bool true) ∧ Below w.heap.size w w' := by
  obtain ⟨rfl, _, _, lx⟩ := hx.parts
  obtain ⟨rfl, _, _, ly⟩ := hy.parts
  obtain ⟨rfl, _, _, lu⟩ := hu.parts
  have HZ := hide hz
  have PY : Hid (0 < val ys) := by have := (val_bounds ly).1; show _ < _; omega
  have HB := Below.refl w.heap.size w
  clear lx ly lu hz
  go_enter Try.func6, Try.ntmps6
  go_wp2_with fail
  refine (awake_any _).mono ?_
  rintro e w1 ⟨rfl, hb1⟩
  replace HB := HB.trans (hb1.mono HB.size)
  replace hx := hx.below hb1
  replace hy := hy.below hb1
  replace hu := hu.below hb1
  go_wp2_with fail
  refine (divmod_g _ _ _ _ _ _ _ xs ys hx hy (by omega) HZ.out).mono ?_
  rintro e w2 ⟨p2, q2, r2, p3, q3, r3, rfl, G2, G3, l2, l3, hb2⟩
  replace HB := HB.trans (hb2.mono HB.size)
  replace hx := hx.below hb2
  replace hy := hy.below hb2
  replace hu := hu.below hb2
  go_wp2_with fail
  refine (bits_any _ _ _ _ ys hy (by omega)).mono ?_
  rintro e w3 ⟨lb, rfl, t1, rfl⟩
  have hlb : ((lb : Int) == 0) = false := by
    have := isBits_pos t1 PY.out
    simp
    omega
  clear t1
  have R3 : Hid (0 ≤ val r3 ∧ val r3 < val ys) := by
    show _ ∧ _
    rw [G3.val]
    exact ⟨Int.emod_nonneg _ HZ.out, Int.emod_lt_of_pos _ PY.out⟩
  have k4 := hide (cmpI_lt R3.out.2)
  go_wp2_with fail
  refine (cmp_any _ _ _ _ _ _ _ r3 ys G3.sl hy).mono ?_
  rintro e w4 ⟨rfl, hb4⟩
  replace HB := HB.trans (hb4.mono HB.size)
  replace hx := hx.below hb4
  replace hy := hy.below hb4
  replace hu := hu.below hb4
  replace G2 := G2.below hb4
  replace G3 := G3.below hb4
  rw [k4.out]
  go_wp2_with fail
  refine (mul_g _ _ _ _ _ _ _ r2 ys G2.sl hy (by omega) (by omega)).mono ?_
  rintro e w5 ⟨p5, q5, r5, rfl, G5, l5, hb5⟩
  replace HB := HB.trans (hb5.mono HB.size)
  replace hx := hx.below hb5
  replace hy := hy.below hb5
  replace hu := hu.below hb5
  replace G2 := G2.below hb5
  replace G3 := G3.below hb5
  go_wp2_with fail
  refine (add_g _ _ _ _ _ _ _ r5 r3 G5.sl G3.sl (by omega) (by omega)).mono ?_
  rintro e w6 ⟨p6, q6, r6, rfl, G6, l6, hb6⟩
  replace HB := HB.trans (hb6.mono HB.size)
  replace hx := hx.below hb6
  replace hy := hy.below hb6
  replace hu := hu.below hb6
  replace G3 := G3.below hb6
  go_wp2_with fail
  refine (trim_g _ _ _ _ xs hx (by omega)).mono ?_
  rintro e w7 ⟨p7, q7, r7, rfl, G7, l7, hb7⟩
  replace HB := HB.trans (hb7.mono HB.size)
  replace hy := hy.below hb7
  replace hu := hu.below hb7
  replace G3 := G3.below hb7
  replace G6 := G6.below hb7
  go_wp2_with fail
  refine (same_g _ _ _ _ _ r6 r7 _ _ G6 G7 (by rw [G5.val, G2.val, G3.val, Int.mul_comm, Int.mul_ediv_add_emod])).mono ?_
  rintro e w8 ⟨rfl, hb8⟩
  replace HB := HB.trans (hb8.mono HB.size)
  replace hy := hy.below hb8
  replace hu := hu.below hb8
  replace G3 := G3.below hb8
  go_wp2_with fail
  refine (mul_g _ _ _ _ _ _ _ us ys hu hy (by omega) (by omega)).mono ?_
  rintro e w9 ⟨p9, q9, r9, rfl, G9, l9, hb9⟩
  replace HB := HB.trans (hb9.mono HB.size)
  replace hy := hy.below hb9
  replace hu := hu.below hb9
  replace G3 := G3.below hb9
  go_wp2_with fail
  refine (add_g _ _ _ _ _ _ _ r9 r3 G9.sl G3.sl (by omega) (by omega)).mono ?_
  rintro e w10 ⟨p10, q10, r10, rfl, G10, l10, hb10⟩
  replace HB := HB.trans (hb10.mono HB.size)
  replace hy := hy.below hb10
  replace hu := hu.below hb10
  replace G3 := G3.below hb10
  have D10 : Hid (val r10 / val ys = val us ∧ val r10 % val ys = val r3) := div_of PY.out (by rw [G10.val, G9.val]) R3.out.1 R3.out.2
  go_wp2_with fail
  refine (divmod_g _ _ _ _ _ _ _ r10 ys G10.sl hy (by omega) HZ.out).mono ?_
  rintro e w11 ⟨p11, q11, r11, p12, q12, r12, rfl, G11, G12, l11, l12, hb11⟩
  replace HB := HB.trans (hb11.mono HB.size)
  replace hu := hu.below hb11
  replace G3 := G3.below hb11
  go_wp2_with fail
  refine (trim_g _ _ _ _ us hu (by omega)).mono ?_
  rintro e w13 ⟨p13, q13, r13, rfl, G13, l13, hb13⟩
  replace HB := HB.trans (hb13.mono HB.size)
  replace G3 := G3.below hb13
  replace G11 := G11.below hb13
  replace G12 := G12.below hb13
  go_wp2_with fail
  refine (same_g _ _ _ _ _ r11 r13 _ _ G11 G13 D10.out.1).mono ?_
  rintro e w14 ⟨rfl, hb14⟩
  replace HB := HB.trans (hb14.mono HB.size)
  replace G3 := G3.below hb14
  replace G12 := G12.below hb14
  go_wp2_with fail
  refine (same_g _ _ _ _ _ r12 r3 _ _ G12 G3 (by rw [← G3.val]; exact D10.out.2)).mono ?_
  rintro e w15 ⟨rfl, hb15⟩
  replace HB := HB.trans (hb15.mono HB.size)
  go_wp2
  go_ret
  exact ⟨rfl, HB⟩

theorem rest_law (w : World) (a0 : Option Addr) (n0 c0 : Nat) (xs : List Int) (a1 : Option Addr) (n1 c1 : Nat) (ys : List Int) (a2 : Option Addr) (n2 c2 : Nat) (us : List Int)
    (hx : Sl w (.slice a0 n0 c0) xs) (b0 : n0 ≤ 35184372088832) (hy : Sl w (.slice a1 n1 c1) ys) (b1 : n1 ≤ 35184372088832) (hu : Sl w (.slice a2 n2 c2) us) (b2 : n2 ≤ 35184372088832) :
    Calls Try.prog 6 #[.slice a0 n0 c0, .slice a1 n1 c1, .slice a2 n2 c2] w fun e w' => e = .returned (.bool true) ∧ Below w.heap.size w w' := by
  by_cases h : 1500 < (n0 : Int) + n1 + n2
  · exact rest_long w a0 a1 a2 n0 n1 n2 c0 c1 c2 h b0 b1 b2
  · by_cases hz : val ys = 0
    · exact rest_zero w a0 a1 a2 n0 n1 n2 c0 c1 c2 xs ys hx hy h hz
    · exact rest_pos w a0 a1 a2 n0 n1 n2 c0 c1 c2 xs ys us hx hy hu h hz

end Lm
end Go.Proofs.Ythbomfboohjcfab
