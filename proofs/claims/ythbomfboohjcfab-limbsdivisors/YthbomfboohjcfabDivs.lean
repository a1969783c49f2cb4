/-
  LimbsDivisors answers true, whatever three lists of limbs it is handed.
-/
import Derived.Test.YthbomfboohjcfabLhG
namespace Go.Proofs.Ythbomfboohjcfab
namespace Lm
open Go.RowKit

theorem gcd_small {X Y : Int} (hX : 0 ≤ X) (hY : 0 ≤ Y) : ((Int.gcd X Y : Nat) : Int) ≤ X + Y := by
  by_cases h : X = 0
  · subst h
    rw [Int.gcd_zero_left]
    omega
  · have h9 : Int.gcd X Y ≤ X.natAbs := Int.gcd_le_natAbs_left _ h
    omega

theorem gcd_g (w : World) (a1 a2 : Option Addr) (n1 n2 c1 c2 : Nat) (xs ys : List Int) (hx : Sl w (.slice a1 n1 c1) xs) (hy : Sl w (.slice a2 n2 c2) ys) (hm1 : xs.length ≤ 400000) (hm2 : ys.length ≤ 400000) :
    Calls Try.prog 30 #[.slice a1 n1 c1, .slice a2 n2 c2] w fun e w' => ∃ ao cap rs, e = .returned (.slice ao rs.length cap) ∧ Got w' ao cap rs (Int.gcd (val xs) (val ys)) ∧ rs.length ≤ xs.length + ys.length + 1 ∧ Below w.heap.size w w' := by
  refine (gcd_any w a1 a2 n1 n2 c1 c2 xs ys hx hy hm1 hm2).mono ?_
  rintro e w' ⟨v, rfl, hi, hb⟩
  obtain ⟨ao, cap, rs, rfl, hg⟩ := hi.got
  refine ⟨ao, cap, rs, rfl, hg, canon_len hg.canon ?_, hb⟩
  rw [hg.val]
  have b1 := val_bounds hx.parts.2.2.2
  have b2 := val_bounds hy.parts.2.2.2
  have h1 := gcd_small b1.1 b2.1
  have m1 := pw_mono (m := xs.length) (n := xs.length + ys.length) (by omega)
  have m2 := pw_mono (m := ys.length) (n := xs.length + ys.length) (by omega)
  rw [pw]
  have := pw_pos (xs.length + ys.length)
  omega

theorem gcd_times {A B C : Int} (hC : 0 ≤ C) : ((Int.gcd (A * C) (B * C) : Nat) : Int) = ((Int.gcd A B : Nat) : Int) * C := by
  rw [Int.gcd_mul_right, Int.natCast_mul]
  congr 1
  omega

set_option maxRecDepth 20000 in
set_option maxHeartbeats 400000 in
theorem divs_long (w : World) (a0 a1 a2 : Option Addr) (n0 n1 n2 c0 c1 c2 : Nat) (h : 1500 < (n0 : Int) + n1 + n2) (b0 : n0 ≤ 35184372088832) (b1 : n1 ≤ 35184372088832) (b2 : n2 ≤ 35184372088832) :
    Calls Try.prog 8 #[.slice a0 n0 c0, .slice a1 n1 c1, .slice a2 n2 c2] w fun e w' => e = .returned (.bool true) ∧ Below w.heap.size w w' := by
  go_enter Try.func8, Try.ntmps8
  go_wp2_with fail
  refine (awake_any _).mono ?_
  rintro e w1 ⟨rfl, hb⟩
  go_wp2
  go_ret
  exact ⟨rfl, hb⟩

set_option maxRecDepth 20000 in
set_option maxHeartbeats 1000000 in
theorem divs_short (w : World) (a0 a1 a2 : Option Addr) (n0 n1 n2 c0 c1 c2 : Nat) (xs ys us : List Int) (hx : Sl w (.slice a0 n0 c0) xs) (hy : Sl w (.slice a1 n1 c1) ys) (hu : Sl w (.slice a2 n2 c2) us)
    (h : ¬ 1500 < (n0 : Int) + n1 + n2) :
    Calls Try.prog 8 #[.slice a0 n0 c0, .slice a1 n1 c1, .slice a2 n2 c2] w fun e w' => e = .returned (.bool true) ∧ Below w.heap.size w w' := by
  obtain ⟨rfl, _, _, lx⟩ := hx.parts
  obtain ⟨rfl, _, _, ly⟩ := hy.parts
  obtain ⟨rfl, _, _, lu⟩ := hu.parts
  have U0 := hide (val_bounds lu).1
  have HB := Below.refl w.heap.size w
  clear lx ly lu
  go_enter Try.func8, Try.ntmps8
  go_wp2_with fail
  refine (awake_any _).mono ?_
  rintro e w1 ⟨rfl, hb1⟩
  replace HB := HB.trans (hb1.mono HB.size)
  replace hx := hx.below hb1
  replace hy := hy.below hb1
  replace hu := hu.below hb1
  go_wp2_with fail
  refine (mul_g _ _ _ _ _ _ _ xs us hx hu (by omega) (by omega)).mono ?_
  rintro e w2 ⟨p2, q2, r2, rfl, G2, l2, hb2⟩
  replace HB := HB.trans (hb2.mono HB.size)
  replace hx := hx.below hb2
  replace hy := hy.below hb2
  replace hu := hu.below hb2
  go_wp2_with fail
  refine (mul_g _ _ _ _ _ _ _ ys us hy hu (by omega) (by omega)).mono ?_
  rintro e w3 ⟨p3, q3, r3, rfl, G3, l3, hb3⟩
  replace HB := HB.trans (hb3.mono HB.size)
  replace hx := hx.below hb3
  replace hy := hy.below hb3
  replace hu := hu.below hb3
  replace G2 := G2.below hb3
  go_wp2_with fail
  refine (gcd_g _ _ _ _ _ _ _ r2 r3 G2.sl G3.sl (by omega) (by omega)).mono ?_
  rintro e w4 ⟨p4, q4, r4, rfl, G4, l4, hb4⟩
  replace HB := HB.trans (hb4.mono HB.size)
  replace hx := hx.below hb4
  replace hy := hy.below hb4
  replace hu := hu.below hb4
  go_wp2_with fail
  refine (gcd_g _ _ _ _ _ _ _ xs ys hx hy (by omega) (by omega)).mono ?_
  rintro e w5 ⟨p5, q5, r5, rfl, G5, l5, hb5⟩
  replace HB := HB.trans (hb5.mono HB.size)
  replace hx := hx.below hb5
  replace hy := hy.below hb5
  replace hu := hu.below hb5
  replace G4 := G4.below hb5
  go_wp2_with fail
  refine (mul_g _ _ _ _ _ _ _ r5 us G5.sl hu (by omega) (by omega)).mono ?_
  rintro e w6 ⟨p6, q6, r6, rfl, G6, l6, hb6⟩
  replace HB := HB.trans (hb6.mono HB.size)
  replace hx := hx.below hb6
  replace hy := hy.below hb6
  replace hu := hu.below hb6
  replace G4 := G4.below hb6
  have V4 : Hid (((Int.gcd (val r2) (val r3) : Nat) : Int) = ((Int.gcd (val xs * val us) (val ys * val us) : Nat) : Int)) := by rw [G2.val, G3.val]; rfl
  go_wp2_with fail
  refine (same_g _ _ _ _ _ r4 r6 _ _ G4 G6 (by rw [V4.out, G5.val]; exact gcd_times U0.out)).mono ?_
  rintro e w7 ⟨rfl, hb7⟩
  replace HB := HB.trans (hb7.mono HB.size)
  replace hx := hx.below hb7
  replace hy := hy.below hb7
  replace hu := hu.below hb7
  replace G4 := G4.below hb7
  go_wp2_with fail
  refine (gcd_g _ _ _ _ _ _ _ xs ys hx hy (by omega) (by omega)).mono ?_
  rintro e w8 ⟨p8, q8, r8, rfl, G8, l8, hb8⟩
  replace HB := HB.trans (hb8.mono HB.size)
  replace hx := hx.below hb8
  replace hy := hy.below hb8
  replace hu := hu.below hb8
  replace G4 := G4.below hb8
  go_wp2_with fail
  refine (gcd_g _ _ _ _ _ _ _ ys xs hy hx (by omega) (by omega)).mono ?_
  rintro e w9 ⟨p9, q9, r9, rfl, G9, l9, hb9⟩
  replace HB := HB.trans (hb9.mono HB.size)
  replace hx := hx.below hb9
  replace hy := hy.below hb9
  replace hu := hu.below hb9
  replace G4 := G4.below hb9
  replace G8 := G8.below hb9
  go_wp2_with fail
  refine (same_g _ _ _ _ _ r8 r9 _ _ G8 G9 (by rw [Int.gcd_comm])).mono ?_
  rintro e w10 ⟨rfl, hb10⟩
  replace HB := HB.trans (hb10.mono HB.size)
  replace hx := hx.below hb10
  replace hy := hy.below hb10
  replace hu := hu.below hb10
  replace G4 := G4.below hb10
  have E4 : Hid (val r4 = ((Int.gcd (val xs * val us) (val ys * val us) : Nat) : Int)) := G4.val.trans V4.out
  by_cases h0 : r4.length = 0
  · have hz : ((r4.length : Int) == 0) = true := by simp [h0]
    have Z : Hid (val xs * val us = 0 ∧ val ys * val us = 0) := by
      have e9 := E4.out
      rw [List.eq_nil_of_length_eq_zero h0] at e9
      have : Int.gcd (val xs * val us) (val ys * val us) = 0 := by simp [val] at e9; omega
      exact Int.gcd_eq_zero_iff.1 this
    clear h0
    go_wp2_with fail
    refine (mul_g _ _ _ _ _ _ _ xs us hx hu (by omega) (by omega)).mono ?_
    rintro e w11 ⟨p11, q11, r11, rfl, G11, l11, hb11⟩
    replace HB := HB.trans (hb11.mono HB.size)
    replace hx := hx.below hb11
    replace hy := hy.below hb11
    replace hu := hu.below hb11
    go_wp2_with fail
    refine (bits_any _ _ _ _ r11 G11.sl (by omega)).mono ?_
    rintro e w12 ⟨l1, rfl, t1, rfl⟩
    rw [G11.val, Z.out.1] at t1
    have hl1 := isBits_zero t1
    subst hl1
    clear t1
    go_wp2_with fail
    refine (mul_g _ _ _ _ _ _ _ ys us hy hu (by omega) (by omega)).mono ?_
    rintro e w13 ⟨p13, q13, r13, rfl, G13, l13, hb13⟩
    replace HB := HB.trans (hb13.mono HB.size)
    replace hx := hx.below hb13
    replace hy := hy.below hb13
    replace hu := hu.below hb13
    go_wp2_with fail
    refine (bits_any _ _ _ _ r13 G13.sl (by omega)).mono ?_
    rintro e w14 ⟨l2', rfl, t1, rfl⟩
    rw [G13.val, Z.out.2] at t1
    have hl1 := isBits_zero t1
    subst hl1
    clear t1
    go_wp2
    go_ret
    exact ⟨rfl, HB⟩
  · have hz : ((r4.length : Int) == 0) = false := by simp [h0]
    have N4 : Hid (val r4 ≠ 0) := fun e => h0 (by rw [(canon_zero G4.canon).1 e]; rfl)
    clear h0
    go_wp2_with fail
    refine (mul_g _ _ _ _ _ _ _ xs us hx hu (by omega) (by omega)).mono ?_
    rintro e w11 ⟨p11, q11, r11, rfl, G11, l11, hb11⟩
    replace HB := HB.trans (hb11.mono HB.size)
    replace hx := hx.below hb11
    replace hy := hy.below hb11
    replace hu := hu.below hb11
    replace G4 := G4.below hb11
    go_wp2_with fail
    refine (divmod_g _ _ _ _ _ _ _ r11 r4 G11.sl G4.sl (by omega) N4.out).mono ?_
    rintro e w12 ⟨p12, q12, r12, p13, q13, r13, rfl, G12, G13, l12, l13, hb12⟩
    replace HB := HB.trans (hb12.mono HB.size)
    replace hy := hy.below hb12
    replace hu := hu.below hb12
    replace G4 := G4.below hb12
    go_wp2_with fail
    refine (mul_g _ _ _ _ _ _ _ ys us hy hu (by omega) (by omega)).mono ?_
    rintro e w14 ⟨p14, q14, r14, rfl, G14, l14, hb14⟩
    replace HB := HB.trans (hb14.mono HB.size)
    replace hy := hy.below hb14
    replace hu := hu.below hb14
    replace G4 := G4.below hb14
    replace G13 := G13.below hb14
    go_wp2_with fail
    refine (divmod_g _ _ _ _ _ _ _ r14 r4 G14.sl G4.sl (by omega) N4.out).mono ?_
    rintro e w15 ⟨p15, q15, r15, p16, q16, r16, rfl, G15, G16, l15, l16, hb15⟩
    replace HB := HB.trans (hb15.mono HB.size)
    replace G13 := G13.below hb15
    have e13 : ((r13.length : Int) == 0) = true := by
      have : r13 = [] := (canon_zero G13.canon).1 (by rw [G13.val, G11.val, E4.out]; exact Int.emod_eq_zero_of_dvd (Int.gcd_dvd_left _ _))
      rw [this]; rfl
    have e16 : ((r16.length : Int) == 0) = true := by
      have : r16 = [] := (canon_zero G16.canon).1 (by rw [G16.val, G14.val, E4.out]; exact Int.emod_eq_zero_of_dvd (Int.gcd_dvd_right _ _))
      rw [this]; rfl
    go_wp2
    go_ret
    exact ⟨rfl, HB⟩

theorem divs_law (w : World) (a0 : Option Addr) (n0 c0 : Nat) (xs : List Int) (a1 : Option Addr) (n1 c1 : Nat) (ys : List Int) (a2 : Option Addr) (n2 c2 : Nat) (us : List Int)
    (hx : Sl w (.slice a0 n0 c0) xs) (b0 : n0 ≤ 35184372088832) (hy : Sl w (.slice a1 n1 c1) ys) (b1 : n1 ≤ 35184372088832) (hu : Sl w (.slice a2 n2 c2) us) (b2 : n2 ≤ 35184372088832) :
    Calls Try.prog 8 #[.slice a0 n0 c0, .slice a1 n1 c1, .slice a2 n2 c2] w fun e w' => e = .returned (.bool true) ∧ Below w.heap.size w w' := by
  by_cases h : 1500 < (n0 : Int) + n1 + n2
  · exact divs_long w a0 a1 a2 n0 n1 n2 c0 c1 c2 h b0 b1 b2
  · exact divs_short w a0 a1 a2 n0 n1 n2 c0 c1 c2 xs ys us hx hy hu h

end Lm
end Go.Proofs.Ythbomfboohjcfab
