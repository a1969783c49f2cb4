/-
  The contracts of the reference's Add, Sub and Mul on lists of limbs.
-/
import Derived.Test.YthbomfboohjcfaaDTrim
import Derived.Test.YthbomfboohjcfaaDCmp
import Derived.Test.YthbomfboohjcfaaDSub
import Derived.Test.YthbomfboohjcfaaDMul
namespace Go.Proofs.Ythbomfboohjcfaa
namespace Dm
open Go.RowKit
open Lm (hide lt_of_cell lt_of_heap cmpI cmpI_lt cmpI_gt)

/-- A natural, as a number with a sign. -/
theorem Wh.nat {w : World} {ao : Option Addr} {cap : Nat} {rs : List Int} {x : Int} (h : Got w ao cap rs x) : Wh w false ao cap rs x := by
  have := Wh.of false h
  simpa [sg] using this

theorem natAbs_of {x : Int} (h : 0 ≤ x) : ((x.natAbs : Nat) : Int) = x := by omega

theorem add_pw {x y : Int} {m n : Nat} (hx : 0 ≤ x ∧ x < Lm.pw m) (hy : 0 ≤ y ∧ y < Lm.pw n) : x + y < Lm.pw (m + n + 1) := by
  have a1 := Lm.pw_mono (m := m) (n := m + n) (by omega)
  have a2 := Lm.pw_mono (m := n) (n := m + n) (by omega)
  rw [Lm.pw]
  have := Lm.pw_pos (m + n)
  omega

theorem mul_pw {x y : Int} {m n : Nat} (hx : 0 ≤ x ∧ x < Lm.pw m) (hy : 0 ≤ y ∧ y < Lm.pw n) : x * y < Lm.pw (m + n) := by
  rw [Lm.pw_add]
  have h1 : x * y ≤ x * Lm.pw n := Int.mul_le_mul_of_nonneg_left (by omega) hx.1
  have h2 : x * Lm.pw n < Lm.pw m * Lm.pw n := Int.mul_lt_mul_of_pos_right hx.2 (by have := Lm.pw_pos n; omega)
  omega

set_option maxRecDepth 20000 in
set_option maxHeartbeats 400000 in
theorem radd_any (w : World) (a1 a2 : Option Addr) (n1 n2 c1 c2 : Nat) (xs ys : List Int) (hx : Lm.Sl w (.slice a1 n1 c1) xs) (hy : Lm.Sl w (.slice a2 n2 c2) ys) (l1 : xs.length ≤ 100000) (l2 : ys.length ≤ 100000) :
    Calls Try.prog 20 #[.slice a1 n1 c1, .slice a2 n2 c2] w fun e w' => ∃ v, e = .returned v ∧ Lm.Is w.heap.size w' v (Lm.val xs + Lm.val ys) ∧ Below w.heap.size w w' := by
  have hvx := hide (Lm.val_bounds hx.parts.2.2.2)
  have hvy := hide (Lm.val_bounds hy.parts.2.2.2)
  go_enter Try.func20, Try.ntmps20
  go_wp2_with fail
  refine (fromLimbs_any w a1 n1 c1 xs hx (by omega)).mono ?_
  rintro e w1 ⟨p1, q1, D1, rfl, g1, d1, hb1⟩
  go_wp2_with fail
  refine (fromLimbs_any w1 a2 n2 c2 ys (hy.below hb1) (by omega)).mono ?_
  rintro e w2 ⟨p2, q2, D2, rfl, g2, d2, hb2⟩
  go_wp2_with fail
  refine (nadd_g w2 _ p1 q1 D1 _ (Wh.nat (g1.below hb2)) _ p2 q2 D2 _ (Wh.nat g2) (by omega) (by omega)).mono ?_
  rintro e w3 ⟨n3, p3, q3, D3, rfl, G3, l3, hb3⟩
  go_wp2_with fail
  refine (limbs_any w3 _ _ _ D3 _ G3.1 (xs.length + ys.length + 1) (by have := add_pw hvx.out hvy.out; rw [natAbs_of (by have := hvx.out; have := hvy.out; omega)]; exact this) (by omega) (by omega)).mono ?_
  rintro e w4 ⟨v4, rfl, i4, hb4⟩
  have HB := (hb1.trans (hb2.mono hb1.size))
  replace HB := HB.trans (hb3.mono HB.size)
  have s3 := HB.size
  replace HB := HB.trans (hb4.mono HB.size)
  rw [natAbs_of (by first | (have := hvx.out; have := hvy.out; omega) | exact Int.mul_nonneg hvx.out.1 hvy.out.1)] at i4
  clear hb1 hb2 hb3 hb4
  go_wp2
  go_ret
  exact ⟨_, rfl, i4.mono s3, HB⟩
set_option maxRecDepth 20000 in
set_option maxHeartbeats 400000 in
theorem rmul_any (w : World) (a1 a2 : Option Addr) (n1 n2 c1 c2 : Nat) (xs ys : List Int) (hx : Lm.Sl w (.slice a1 n1 c1) xs) (hy : Lm.Sl w (.slice a2 n2 c2) ys) (l1 : xs.length ≤ 100000) (l2 : ys.length ≤ 100000) :
    Calls Try.prog 25 #[.slice a1 n1 c1, .slice a2 n2 c2] w fun e w' => ∃ v, e = .returned v ∧ Lm.Is w.heap.size w' v (Lm.val xs * Lm.val ys) ∧ Below w.heap.size w w' := by
  have hvx := hide (Lm.val_bounds hx.parts.2.2.2)
  have hvy := hide (Lm.val_bounds hy.parts.2.2.2)
  go_enter Try.func25, Try.ntmps25
  go_wp2_with fail
  refine (fromLimbs_any w a1 n1 c1 xs hx (by omega)).mono ?_
  rintro e w1 ⟨p1, q1, D1, rfl, g1, d1, hb1⟩
  go_wp2_with fail
  refine (fromLimbs_any w1 a2 n2 c2 ys (hy.below hb1) (by omega)).mono ?_
  rintro e w2 ⟨p2, q2, D2, rfl, g2, d2, hb2⟩
  go_wp2_with fail
  refine (nmul_g w2 _ p1 q1 D1 _ (Wh.nat (g1.below hb2)) _ p2 q2 D2 _ (Wh.nat g2) (by omega) (by omega)).mono ?_
  rintro e w3 ⟨n3, p3, q3, D3, rfl, G3, l3, hb3⟩
  go_wp2_with fail
  refine (limbs_any w3 _ _ _ D3 _ G3.1 (xs.length + ys.length) (by have := mul_pw hvx.out hvy.out; rw [natAbs_of (Int.mul_nonneg hvx.out.1 hvy.out.1)]; exact this) (by omega) (by omega)).mono ?_
  rintro e w4 ⟨v4, rfl, i4, hb4⟩
  have HB := (hb1.trans (hb2.mono hb1.size))
  replace HB := HB.trans (hb3.mono HB.size)
  have s3 := HB.size
  replace HB := HB.trans (hb4.mono HB.size)
  rw [natAbs_of (by first | (have := hvx.out; have := hvy.out; omega) | exact Int.mul_nonneg hvx.out.1 hvy.out.1)] at i4
  clear hb1 hb2 hb3 hb4
  go_wp2
  go_ret
  exact ⟨_, rfl, i4.mono s3, HB⟩

theorem is_nil (B : Nat) (w : World) : Lm.Is B w (.slice none 0 0) 0 := ⟨[], ⟨none, 0, rfl, Nat.le_refl _, by simp [maxLen], Lm.limb_nil, .inl rfl⟩, Lm.canon_nil, rfl⟩

set_option maxRecDepth 20000 in
set_option maxHeartbeats 400000 in
theorem rsub_any (w : World) (a1 a2 : Option Addr) (n1 n2 c1 c2 : Nat) (xs ys : List Int) (hx : Lm.Sl w (.slice a1 n1 c1) xs) (hy : Lm.Sl w (.slice a2 n2 c2) ys) (l1 : xs.length ≤ 100000) (l2 : ys.length ≤ 100000) :
    Calls Try.prog 19 #[.slice a1 n1 c1, .slice a2 n2 c2] w fun e w' => ∃ v, e = .returned (.tuple #[v, .bool (decide (Lm.val ys ≤ Lm.val xs))]) ∧ Lm.Is w.heap.size w' v (if Lm.val ys ≤ Lm.val xs then Lm.val xs - Lm.val ys else 0) ∧ Below w.heap.size w w' := by
  have hvx := hide (Lm.val_bounds hx.parts.2.2.2)
  have hvy := hide (Lm.val_bounds hy.parts.2.2.2)
  have K := hide (fun w hx hy => rcmp_any w a1 a2 n1 n2 c1 c2 xs ys hx hy (by omega) (by omega))
  by_cases hle : Lm.val ys ≤ Lm.val xs
  · have hc : ¬ cmpI (Lm.val xs) (Lm.val ys) < 0 := by
      intro h
      rcases Int.lt_or_eq_of_le hle with h1 | h1
      · rw [cmpI_gt h1] at h; omega
      · rw [h1] at h; simp [Lm.cmpI] at h
    generalize cmpI (Lm.val xs) (Lm.val ys) = cv at K hc
    have HL := hide hle
    rw [if_pos hle, decide_eq_true hle]
    clear hle
    go_enter Try.func19, Try.ntmps19
    go_wp2_with fail
    refine (K.out w hx hy).mono ?_
    rintro e w0 ⟨rfl, hb0⟩
    go_wp2_with fail
    refine (fromLimbs_any _ a1 n1 c1 xs (hx.below hb0) (by omega)).mono ?_
    rintro e w1 ⟨p1, q1, D1, rfl, g1, d1, hb1⟩
    go_wp2_with fail
    refine (fromLimbs_any w1 a2 n2 c2 ys ((hy.below hb0).below hb1) (by omega)).mono ?_
    rintro e w2 ⟨p2, q2, D2, rfl, g2, d2, hb2⟩
    go_wp2_with fail
    refine (nsub_g w2 _ p1 q1 D1 _ (Wh.nat (g1.below hb2)) _ p2 q2 D2 _ (Wh.nat g2) (by omega) (by omega)).mono ?_
    rintro e w3 ⟨n3, p3, q3, D3, rfl, G3, l3, hb3⟩
    go_wp2_with fail
    refine (limbs_any w3 _ _ _ D3 _ G3.1 xs.length (by have := hvx.out; have := hvy.out; have := HL.out; rw [natAbs_of (by omega)]; omega) (by omega) (by omega)).mono ?_
    rintro e w4 ⟨v4, rfl, i4, hb4⟩
    have HB := (hb0.trans (hb1.mono hb0.size))
    replace HB := HB.trans (hb2.mono HB.size)
    replace HB := HB.trans (hb3.mono HB.size)
    have s3 := HB.size
    replace HB := HB.trans (hb4.mono HB.size)
    rw [natAbs_of (by have := HL.out; omega)] at i4
    clear hb0 hb1 hb2 hb3 hb4
    go_wp2
    go_ret2
    exact ⟨v4, rfl, i4.mono s3, HB⟩
  · have hc : cmpI (Lm.val xs) (Lm.val ys) < 0 := by rw [cmpI_lt (by omega)]; omega
    generalize cmpI (Lm.val xs) (Lm.val ys) = cv at K hc
    rw [if_neg hle, decide_eq_false hle]
    clear hle
    go_enter Try.func19, Try.ntmps19
    go_wp2_with fail
    refine (K.out w hx hy).mono ?_
    rintro e w0 ⟨rfl, hb0⟩
    go_wp2
    go_ret2
    exact ⟨.slice none 0 0, rfl, is_nil _ _, hb0⟩

end Dm
namespace Lm
open Go.RowKit
theorem sub_is (w : World) (a1 a2 : Option Addr) (n1 n2 c1 c2 : Nat) (xs ys : List Int) (hx : Sl w (.slice a1 n1 c1) xs) (hy : Sl w (.slice a2 n2 c2) ys) (hm1 : xs.length ≤ 1000000) :
    Calls Try.prog 22 #[.slice a1 n1 c1, .slice a2 n2 c2] w fun e w' => ∃ v, e = .returned (.tuple #[v, .bool (decide (val ys ≤ val xs))]) ∧ Is w.heap.size w' v (if val ys ≤ val xs then val xs - val ys else 0) ∧ Below w.heap.size w w' := by
  by_cases h : val ys ≤ val xs
  · refine (sub_yes w a1 a2 n1 n2 c1 c2 xs ys hx hy hm1 h).mono ?_
    rintro e w' ⟨v, rfl, hi, hb⟩
    exact ⟨v, by simp [h], by rw [if_pos h]; exact hi, hb⟩
  · refine (sub_no w a1 a2 n1 n2 c1 c2 xs ys hx hy (by omega)).mono ?_
    rintro e w' ⟨rfl, hb⟩
    exact ⟨.slice none 0 0, by simp [h], by rw [if_neg h]; exact Dm.is_nil _ _, hb⟩
end Lm
end Go.Proofs.Ythbomfboohjcfaa
