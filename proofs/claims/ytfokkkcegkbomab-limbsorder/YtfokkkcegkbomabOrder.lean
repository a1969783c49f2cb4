/-
  LimbsOrder answers true, whatever three lists of limbs it is handed.
-/
import Derived.Test.YtfokkkcegkbomabAwake
import Derived.Test.YtfokkkcegkbomabBits
namespace Go.Proofs.Ytfokkkcegkbomab
namespace Lm
open Go.RowKit

theorem Is.open {B : Nat} {w : World} {v : Value} {x : Int} (h : Is B w v x) : ∃ ao cap rs, v = .slice ao rs.length cap ∧ Sl w (.slice ao rs.length cap) rs ∧ Canon rs ∧ val rs = x ∧ rs.length ≤ cap ∧ cap ≤ 9223372036854775807 := by
  obtain ⟨rs, ho, hc, hv⟩ := h
  obtain ⟨ao, cap, rfl, h1, h2, h3, h4⟩ := ho.sl
  exact ⟨ao, cap, rs, rfl, ⟨ao, cap, rfl, h1, h2, h3, h4⟩, hc, hv, h1, h2⟩

/-- How long a list without limbs 0 on top can be. -/
theorem canon_len {rs : List Int} (h : Canon rs) {m : Nat} (hv : val rs < pw m) : rs.length ≤ m := by
  apply Classical.byContradiction
  intro hn
  have h1 := canon_low h (by intro e; subst e; simp at hn)
  have h2 := pw_mono (m := m) (n := rs.length - 1) (by omega)
  omega

theorem len_of_val {xs : List Int} (h : Limb xs) {m : Nat} (hm : xs.length ≤ m) : val xs < pw m := by
  have := (val_bounds h).2
  have := pw_mono hm
  omega

theorem add_len {xs ys rs : List Int} (hx : Limb xs) (hy : Limb ys) (hr : Canon rs) (hv : val rs = val xs + val ys) {m : Nat} (h1 : xs.length ≤ m) (h2 : ys.length ≤ m) : rs.length ≤ m + 1 := by
  apply canon_len hr
  have a1 := len_of_val hx h1
  have a2 := len_of_val hy h2
  rw [hv, pw]
  have := pw_pos m
  omega

set_option maxHeartbeats 400000 in
theorem order_long (w : World) (a0 a1 a2 : Option Addr) (n0 n1 n2 c0 c1 c2 : Nat) (h : 1500 < (n0 : Int) + n1 + n2) (b0 : n0 ≤ 35184372088832) (b1 : n1 ≤ 35184372088832) (b2 : n2 ≤ 35184372088832) :
    Calls Try.prog 7 #[.slice a0 n0 c0, .slice a1 n1 c1, .slice a2 n2 c2] w fun e w' => e = .returned (.bool true) ∧ Below w.heap.size w w' := by
  go_enter Try.func7, Try.ntmps7
  go_wp2_with fail
  refine (awake_any _).mono ?_
  rintro e w1 ⟨rfl, hb⟩
  go_wp2
  go_ret
  exact ⟨rfl, hb⟩

theorem canons_differ {xs ys : List Int} (h : val xs ≠ val ys) : sameB xs ys = false := by
  simp only [sameB, decide_eq_false_iff_not]
  intro e
  exact h (by rw [e])

theorem canons_same {xs ys : List Int} (hx : Canon xs) (hy : Canon ys) (h : val xs = val ys) : sameB xs ys = true := sameB_of (canon_one hx hy h)

theorem trim_is (w : World) (ao : Option Addr) (n cap : Nat) (zs : List Int) (h : Sl w (.slice ao n cap) zs) (hz : zs.length ≤ 1000000) :
    Calls Try.prog 26 #[.slice ao n cap] w fun e w' => ∃ v, e = .returned v ∧ Is w.heap.size w' v (val zs) ∧ Below w.heap.size w w' := by
  refine (trim_any w ao n cap zs h hz).mono ?_
  rintro e w' ⟨v, rfl, ho, hb⟩
  exact ⟨v, rfl, ⟨_, ho, canon_trim h.parts.2.2.2, val_take_tl zs⟩, hb⟩

theorem Ow.open {B : Nat} {w : World} {v : Value} {rs : List Int} (h : Ow B w v rs) : ∃ ao cap, v = .slice ao rs.length cap ∧ Sl w (.slice ao rs.length cap) rs ∧ rs.length ≤ cap ∧ cap ≤ 9223372036854775807 := by
  obtain ⟨ao, cap, rfl, h1, h2, h3, h4⟩ := h.sl
  exact ⟨ao, cap, rfl, ⟨ao, cap, rfl, h1, h2, h3, h4⟩, h1, h2⟩

theorem cmpI_le {x y : Int} (h : x ≤ y) : cmpI x y ≤ 0 := by
  unfold cmpI
  by_cases h1 : x < y
  · rw [if_pos h1]; omega
  · rw [if_neg h1, if_neg (by omega)]; omega

set_option maxHeartbeats 400000 in
theorem order_gt (w : World) (a0 a1 a2 : Option Addr) (n0 n1 n2 c0 c1 c2 : Nat) (xs ys us : List Int) (hx : Sl w (.slice a0 n0 c0) xs) (hy : Sl w (.slice a1 n1 c1) ys) (hu : Sl w (.slice a2 n2 c2) us)
    (h : ¬ 1500 < (n0 : Int) + n1 + n2) (hc : val ys < val xs) :
    Calls Try.prog 7 #[.slice a0 n0 c0, .slice a1 n1 c1, .slice a2 n2 c2] w fun e w' => e = .returned (.bool true) ∧ Below w.heap.size w w' := by
  obtain ⟨rfl, _, _, lx⟩ := hx.parts
  obtain ⟨rfl, _, _, ly⟩ := hy.parts
  obtain ⟨rfl, _, _, lu⟩ := hu.parts
  have HX := hide lx
  have HY := hide ly
  have HU := hide lu
  have HC := hide hc
  have k1 := hide (cmpI_gt hc)
  have k2 := hide (cmpI_lt hc)
  have HB := Below.refl w.heap.size w
  clear lx ly lu hc
  go_enter Try.func7, Try.ntmps7
  go_wp2_with fail
  refine (awake_any _).mono ?_
  rintro e w1 ⟨rfl, hb1⟩
  replace HB := HB.trans (hb1.mono HB.size)
  replace hx := hx.below hb1
  replace hy := hy.below hb1
  replace hu := hu.below hb1
  go_wp2_with fail
  refine (cmp_any _ _ _ _ _ _ _ xs ys hx hy).mono ?_
  rintro e w2 ⟨rfl, hb2⟩
  replace HB := HB.trans (hb2.mono HB.size)
  replace hx := hx.below hb2
  replace hy := hy.below hb2
  replace hu := hu.below hb2
  rw [k1.out]
  go_wp2_with fail
  refine (sub_yes _ _ _ _ _ _ _ xs ys hx hy (by omega) (by have := HC.out; omega)).mono ?_
  rintro e w3 ⟨v3, rfl, i3, hb3⟩
  replace HB := HB.trans (hb3.mono HB.size)
  replace hx := hx.below hb3
  replace hy := hy.below hb3
  replace hu := hu.below hb3
  go_wp2_with fail
  refine (cmp_any _ _ _ _ _ _ _ ys xs hy hx).mono ?_
  rintro e w4 ⟨rfl, hb4⟩
  replace HB := HB.trans (hb4.mono HB.size)
  replace hx := hx.below hb4
  replace hy := hy.below hb4
  replace hu := hu.below hb4
  rw [k2.out]
  go_wp2_with fail
  refine (add_any _ _ _ _ _ _ _ xs us hx hu (by omega) (by omega)).mono ?_
  rintro e w5 ⟨v5, rfl, i5, hb5⟩
  replace HB := HB.trans (hb5.mono HB.size)
  replace hx := hx.below hb5
  replace hy := hy.below hb5
  replace hu := hu.below hb5
  go_wp2_with fail
  refine (add_any _ _ _ _ _ _ _ ys us hy hu (by omega) (by omega)).mono ?_
  rintro e w6 ⟨v6, rfl, i6, hb6⟩
  replace HB := HB.trans (hb6.mono HB.size)
  replace hx := hx.below hb6
  replace hy := hy.below hb6
  replace hu := hu.below hb6
  replace i5 := i5.below hb6
  obtain ⟨p5, q5, r5, rfl, s5, n5, e5, _, _⟩ := i5.open
  obtain ⟨p6, q6, r6, rfl, s6, n6, e6, _, _⟩ := i6.open
  have k3 := hide (show cmpI (val r5) (val r6) = 1 by rw [e5, e6]; exact cmpI_gt (by have := HC.out; omega))
  clear e5 e6 n5 n6 i5 i6
  go_wp2_with fail
  refine (cmp_any _ _ _ _ _ _ _ r5 r6 s5 s6).mono ?_
  rintro e w7 ⟨rfl, hb7⟩
  replace HB := HB.trans (hb7.mono HB.size)
  replace hx := hx.below hb7
  replace hy := hy.below hb7
  replace hu := hu.below hb7
  rw [k3.out]
  go_wp2_with fail
  refine (trim_is _ _ _ _ xs hx (by omega)).mono ?_
  rintro e w8 ⟨v8, rfl, i8, hb8⟩
  replace HB := HB.trans (hb8.mono HB.size)
  replace hx := hx.below hb8
  replace hy := hy.below hb8
  replace hu := hu.below hb8
  go_wp2_with fail
  refine (trim_is _ _ _ _ ys hy (by omega)).mono ?_
  rintro e w9 ⟨v9, rfl, i9, hb9⟩
  replace HB := HB.trans (hb9.mono HB.size)
  replace hx := hx.below hb9
  replace hy := hy.below hb9
  replace hu := hu.below hb9
  replace i8 := i8.below hb9
  obtain ⟨p8, q8, r8, rfl, s8, n8, e8, _, _⟩ := i8.open
  obtain ⟨p9, q9, r9, rfl, s9, n9, e9, _, _⟩ := i9.open
  have k4 := hide (show sameB r8 r9 = false from canons_differ (by rw [e8, e9]; have := HC.out; omega))
  clear e8 e9 n8 n9 i8 i9
  go_wp2_with fail
  refine (same_any _ _ _ _ _ _ _ r8 r9 s8 s9).mono ?_
  rintro e w10 ⟨rfl, hb10⟩
  replace HB := HB.trans (hb10.mono HB.size)
  replace hx := hx.below hb10
  replace hy := hy.below hb10
  replace hu := hu.below hb10
  rw [k4.out]
  go_wp2
  go_ret
  exact ⟨rfl, HB⟩
set_option maxHeartbeats 400000 in
theorem order_eq (w : World) (a0 a1 a2 : Option Addr) (n0 n1 n2 c0 c1 c2 : Nat) (xs ys us : List Int) (hx : Sl w (.slice a0 n0 c0) xs) (hy : Sl w (.slice a1 n1 c1) ys) (hu : Sl w (.slice a2 n2 c2) us)
    (h : ¬ 1500 < (n0 : Int) + n1 + n2) (hc : val xs = val ys) :
    Calls Try.prog 7 #[.slice a0 n0 c0, .slice a1 n1 c1, .slice a2 n2 c2] w fun e w' => e = .returned (.bool true) ∧ Below w.heap.size w w' := by
  obtain ⟨rfl, _, _, lx⟩ := hx.parts
  obtain ⟨rfl, _, _, ly⟩ := hy.parts
  obtain ⟨rfl, _, _, lu⟩ := hu.parts
  have HX := hide lx
  have HY := hide ly
  have HU := hide lu
  have HC := hide hc
  have k1 := hide (cmpI_eq hc)
  have k2 := hide (cmpI_eq hc.symm)
  have HB := Below.refl w.heap.size w
  clear lx ly lu hc
  go_enter Try.func7, Try.ntmps7
  go_wp2_with fail
  refine (awake_any _).mono ?_
  rintro e w1 ⟨rfl, hb1⟩
  replace HB := HB.trans (hb1.mono HB.size)
  replace hx := hx.below hb1
  replace hy := hy.below hb1
  replace hu := hu.below hb1
  go_wp2_with fail
  refine (cmp_any _ _ _ _ _ _ _ xs ys hx hy).mono ?_
  rintro e w2 ⟨rfl, hb2⟩
  replace HB := HB.trans (hb2.mono HB.size)
  replace hx := hx.below hb2
  replace hy := hy.below hb2
  replace hu := hu.below hb2
  rw [k1.out]
  go_wp2_with fail
  refine (sub_yes _ _ _ _ _ _ _ xs ys hx hy (by omega) (by have := HC.out; omega)).mono ?_
  rintro e w3 ⟨v3, rfl, i3, hb3⟩
  replace HB := HB.trans (hb3.mono HB.size)
  replace hx := hx.below hb3
  replace hy := hy.below hb3
  replace hu := hu.below hb3
  go_wp2_with fail
  refine (cmp_any _ _ _ _ _ _ _ ys xs hy hx).mono ?_
  rintro e w4 ⟨rfl, hb4⟩
  replace HB := HB.trans (hb4.mono HB.size)
  replace hx := hx.below hb4
  replace hy := hy.below hb4
  replace hu := hu.below hb4
  rw [k2.out]
  go_wp2_with fail
  refine (add_any _ _ _ _ _ _ _ xs us hx hu (by omega) (by omega)).mono ?_
  rintro e w5 ⟨v5, rfl, i5, hb5⟩
  replace HB := HB.trans (hb5.mono HB.size)
  replace hx := hx.below hb5
  replace hy := hy.below hb5
  replace hu := hu.below hb5
  go_wp2_with fail
  refine (add_any _ _ _ _ _ _ _ ys us hy hu (by omega) (by omega)).mono ?_
  rintro e w6 ⟨v6, rfl, i6, hb6⟩
  replace HB := HB.trans (hb6.mono HB.size)
  replace hx := hx.below hb6
  replace hy := hy.below hb6
  replace hu := hu.below hb6
  replace i5 := i5.below hb6
  obtain ⟨p5, q5, r5, rfl, s5, n5, e5, _, _⟩ := i5.open
  obtain ⟨p6, q6, r6, rfl, s6, n6, e6, _, _⟩ := i6.open
  have k3 := hide (show cmpI (val r5) (val r6) = 0 by rw [e5, e6]; exact cmpI_eq (by have := HC.out; omega))
  clear e5 e6 n5 n6 i5 i6
  go_wp2_with fail
  refine (cmp_any _ _ _ _ _ _ _ r5 r6 s5 s6).mono ?_
  rintro e w7 ⟨rfl, hb7⟩
  replace HB := HB.trans (hb7.mono HB.size)
  replace hx := hx.below hb7
  replace hy := hy.below hb7
  replace hu := hu.below hb7
  rw [k3.out]
  go_wp2_with fail
  refine (trim_is _ _ _ _ xs hx (by omega)).mono ?_
  rintro e w8 ⟨v8, rfl, i8, hb8⟩
  replace HB := HB.trans (hb8.mono HB.size)
  replace hx := hx.below hb8
  replace hy := hy.below hb8
  replace hu := hu.below hb8
  go_wp2_with fail
  refine (trim_is _ _ _ _ ys hy (by omega)).mono ?_
  rintro e w9 ⟨v9, rfl, i9, hb9⟩
  replace HB := HB.trans (hb9.mono HB.size)
  replace hx := hx.below hb9
  replace hy := hy.below hb9
  replace hu := hu.below hb9
  replace i8 := i8.below hb9
  obtain ⟨p8, q8, r8, rfl, s8, n8, e8, _, _⟩ := i8.open
  obtain ⟨p9, q9, r9, rfl, s9, n9, e9, _, _⟩ := i9.open
  have k4 := hide (show sameB r8 r9 = true from canons_same n8 n9 (by rw [e8, e9]; exact HC.out))
  clear e8 e9 n8 n9 i8 i9
  go_wp2_with fail
  refine (same_any _ _ _ _ _ _ _ r8 r9 s8 s9).mono ?_
  rintro e w10 ⟨rfl, hb10⟩
  replace HB := HB.trans (hb10.mono HB.size)
  replace hx := hx.below hb10
  replace hy := hy.below hb10
  replace hu := hu.below hb10
  rw [k4.out]
  go_wp2_with fail
  refine (bits_any _ _ _ _ xs hx (by omega)).mono ?_
  rintro e w11 ⟨l1, rfl, t1, rfl⟩
  go_wp2_with fail
  refine (bits_any _ _ _ _ ys hy (by omega)).mono ?_
  rintro e w11 ⟨l2, rfl, t2, rfl⟩
  have hl := isBits_mono t1 t2 (by have := HC.out; omega)
  clear t1 t2
  by_cases hd : val us < val ys
  · have k5 := hide (cmpI_gt hd)
    go_wp2_with fail
    refine (cmp_any _ _ _ _ _ _ _ ys us hy hu).mono ?_
    rintro e w12 ⟨rfl, hb12⟩
    replace HB := HB.trans (hb12.mono HB.size)
    rw [k5.out]
    go_wp2
    go_ret
    exact ⟨rfl, HB⟩
  · have k5 := cmpI_le (show val ys ≤ val us by omega)
    have k6 := cmpI_le (show val xs ≤ val us by have := HC.out; omega)
    have K1 := hide (fun w hy hu => cmp_any w a1 a2 ys.length us.length c1 c2 ys us hy hu)
    have K2 := hide (fun w hx hu => cmp_any w a0 a2 xs.length us.length c0 c2 xs us hx hu)
    generalize cmpI (val ys) (val us) = x5 at k5 K1
    generalize cmpI (val xs) (val us) = x6 at k6 K2
    clear hd
    go_wp2_with fail
    refine (K1.out _ hy hu).mono ?_
    rintro e w12 ⟨rfl, hb12⟩
    replace HB := HB.trans (hb12.mono HB.size)
    replace hx := hx.below hb12
    replace hu := hu.below hb12
    go_wp2_with fail
    refine (K2.out _ hx hu).mono ?_
    rintro e w13 ⟨rfl, hb13⟩
    replace HB := HB.trans (hb13.mono HB.size)
    go_wp2
    go_ret
    exact ⟨rfl, HB⟩
set_option maxHeartbeats 400000 in
theorem order_lt (w : World) (a0 a1 a2 : Option Addr) (n0 n1 n2 c0 c1 c2 : Nat) (xs ys us : List Int) (hx : Sl w (.slice a0 n0 c0) xs) (hy : Sl w (.slice a1 n1 c1) ys) (hu : Sl w (.slice a2 n2 c2) us)
    (h : ¬ 1500 < (n0 : Int) + n1 + n2) (hc : val xs < val ys) :
    Calls Try.prog 7 #[.slice a0 n0 c0, .slice a1 n1 c1, .slice a2 n2 c2] w fun e w' => e = .returned (.bool true) ∧ Below w.heap.size w w' := by
  obtain ⟨rfl, _, _, lx⟩ := hx.parts
  obtain ⟨rfl, _, _, ly⟩ := hy.parts
  obtain ⟨rfl, _, _, lu⟩ := hu.parts
  have HX := hide lx
  have HY := hide ly
  have HU := hide lu
  have HC := hide hc
  have k1 := hide (cmpI_lt hc)
  have k2 := hide (cmpI_gt hc)
  have HB := Below.refl w.heap.size w
  clear lx ly lu hc
  go_enter Try.func7, Try.ntmps7
  go_wp2_with fail
  refine (awake_any _).mono ?_
  rintro e w1 ⟨rfl, hb1⟩
  replace HB := HB.trans (hb1.mono HB.size)
  replace hx := hx.below hb1
  replace hy := hy.below hb1
  replace hu := hu.below hb1
  go_wp2_with fail
  refine (cmp_any _ _ _ _ _ _ _ xs ys hx hy).mono ?_
  rintro e w2 ⟨rfl, hb2⟩
  replace HB := HB.trans (hb2.mono HB.size)
  replace hx := hx.below hb2
  replace hy := hy.below hb2
  replace hu := hu.below hb2
  rw [k1.out]
  go_wp2_with fail
  refine (sub_no _ _ _ _ _ _ _ xs ys hx hy HC.out).mono ?_
  rintro e w3 ⟨rfl, hb3⟩
  replace HB := HB.trans (hb3.mono HB.size)
  replace hx := hx.below hb3
  replace hy := hy.below hb3
  replace hu := hu.below hb3
  go_wp2_with fail
  refine (cmp_any _ _ _ _ _ _ _ ys xs hy hx).mono ?_
  rintro e w4 ⟨rfl, hb4⟩
  replace HB := HB.trans (hb4.mono HB.size)
  replace hx := hx.below hb4
  replace hy := hy.below hb4
  replace hu := hu.below hb4
  rw [k2.out]
  go_wp2_with fail
  refine (add_any _ _ _ _ _ _ _ xs us hx hu (by omega) (by omega)).mono ?_
  rintro e w5 ⟨v5, rfl, i5, hb5⟩
  replace HB := HB.trans (hb5.mono HB.size)
  replace hx := hx.below hb5
  replace hy := hy.below hb5
  replace hu := hu.below hb5
  go_wp2_with fail
  refine (add_any _ _ _ _ _ _ _ ys us hy hu (by omega) (by omega)).mono ?_
  rintro e w6 ⟨v6, rfl, i6, hb6⟩
  replace HB := HB.trans (hb6.mono HB.size)
  replace hx := hx.below hb6
  replace hy := hy.below hb6
  replace hu := hu.below hb6
  replace i5 := i5.below hb6
  obtain ⟨p5, q5, r5, rfl, s5, n5, e5, _, _⟩ := i5.open
  obtain ⟨p6, q6, r6, rfl, s6, n6, e6, _, _⟩ := i6.open
  have k3 := hide (show cmpI (val r5) (val r6) = -1 by rw [e5, e6]; exact cmpI_lt (by have := HC.out; omega))
  clear e5 e6 n5 n6 i5 i6
  go_wp2_with fail
  refine (cmp_any _ _ _ _ _ _ _ r5 r6 s5 s6).mono ?_
  rintro e w7 ⟨rfl, hb7⟩
  replace HB := HB.trans (hb7.mono HB.size)
  replace hx := hx.below hb7
  replace hy := hy.below hb7
  replace hu := hu.below hb7
  rw [k3.out]
  go_wp2_with fail
  refine (trim_is _ _ _ _ xs hx (by omega)).mono ?_
  rintro e w8 ⟨v8, rfl, i8, hb8⟩
  replace HB := HB.trans (hb8.mono HB.size)
  replace hx := hx.below hb8
  replace hy := hy.below hb8
  replace hu := hu.below hb8
  go_wp2_with fail
  refine (trim_is _ _ _ _ ys hy (by omega)).mono ?_
  rintro e w9 ⟨v9, rfl, i9, hb9⟩
  replace HB := HB.trans (hb9.mono HB.size)
  replace hx := hx.below hb9
  replace hy := hy.below hb9
  replace hu := hu.below hb9
  replace i8 := i8.below hb9
  obtain ⟨p8, q8, r8, rfl, s8, n8, e8, _, _⟩ := i8.open
  obtain ⟨p9, q9, r9, rfl, s9, n9, e9, _, _⟩ := i9.open
  have k4 := hide (show sameB r8 r9 = false from canons_differ (by rw [e8, e9]; have := HC.out; omega))
  clear e8 e9 n8 n9 i8 i9
  go_wp2_with fail
  refine (same_any _ _ _ _ _ _ _ r8 r9 s8 s9).mono ?_
  rintro e w10 ⟨rfl, hb10⟩
  replace HB := HB.trans (hb10.mono HB.size)
  replace hx := hx.below hb10
  replace hy := hy.below hb10
  replace hu := hu.below hb10
  rw [k4.out]
  go_wp2_with fail
  refine (bits_any _ _ _ _ xs hx (by omega)).mono ?_
  rintro e w11 ⟨l1, rfl, t1, rfl⟩
  go_wp2_with fail
  refine (bits_any _ _ _ _ ys hy (by omega)).mono ?_
  rintro e w11 ⟨l2, rfl, t2, rfl⟩
  have hl := isBits_mono t1 t2 (by have := HC.out; omega)
  clear t1 t2
  by_cases hd : val us < val ys
  · have k5 := hide (cmpI_gt hd)
    go_wp2_with fail
    refine (cmp_any _ _ _ _ _ _ _ ys us hy hu).mono ?_
    rintro e w12 ⟨rfl, hb12⟩
    replace HB := HB.trans (hb12.mono HB.size)
    rw [k5.out]
    go_wp2
    go_ret
    exact ⟨rfl, HB⟩
  · have k5 := cmpI_le (show val ys ≤ val us by omega)
    have k6 := cmpI_le (show val xs ≤ val us by have := HC.out; omega)
    have K1 := hide (fun w hy hu => cmp_any w a1 a2 ys.length us.length c1 c2 ys us hy hu)
    have K2 := hide (fun w hx hu => cmp_any w a0 a2 xs.length us.length c0 c2 xs us hx hu)
    generalize cmpI (val ys) (val us) = x5 at k5 K1
    generalize cmpI (val xs) (val us) = x6 at k6 K2
    clear hd
    go_wp2_with fail
    refine (K1.out _ hy hu).mono ?_
    rintro e w12 ⟨rfl, hb12⟩
    replace HB := HB.trans (hb12.mono HB.size)
    replace hx := hx.below hb12
    replace hu := hu.below hb12
    go_wp2_with fail
    refine (K2.out _ hx hu).mono ?_
    rintro e w13 ⟨rfl, hb13⟩
    replace HB := HB.trans (hb13.mono HB.size)
    go_wp2
    go_ret
    exact ⟨rfl, HB⟩

theorem order_law (w : World) (a0 : Option Addr) (n0 c0 : Nat) (xs : List Int) (a1 : Option Addr) (n1 c1 : Nat) (ys : List Int) (a2 : Option Addr) (n2 c2 : Nat) (us : List Int)
    (hx : Sl w (.slice a0 n0 c0) xs) (b0 : n0 ≤ 35184372088832) (hy : Sl w (.slice a1 n1 c1) ys) (b1 : n1 ≤ 35184372088832) (hu : Sl w (.slice a2 n2 c2) us) (b2 : n2 ≤ 35184372088832) :
    Calls Try.prog 7 #[.slice a0 n0 c0, .slice a1 n1 c1, .slice a2 n2 c2] w fun e w' => e = .returned (.bool true) ∧ Below w.heap.size w w' := by
  by_cases h : 1500 < (n0 : Int) + n1 + n2
  · exact order_long w a0 a1 a2 n0 n1 n2 c0 c1 c2 h b0 b1 b2
  · rcases Int.lt_trichotomy (val xs) (val ys) with hc | hc | hc
    · exact order_lt w a0 a1 a2 n0 n1 n2 c0 c1 c2 xs ys us hx hy hu h hc
    · exact order_eq w a0 a1 a2 n0 n1 n2 c0 c1 c2 xs ys us hx hy hu h hc
    · exact order_gt w a0 a1 a2 n0 n1 n2 c0 c1 c2 xs ys us hx hy hu h hc

end Lm
end Go.Proofs.Ytfokkkcegkbomab
