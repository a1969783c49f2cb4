/-
  The contract of window.
-/
import Derived.Test.YtjhhjefobbhdlaaDivL
namespace Go.Proofs.Ytjhhjefobbhdlaa
namespace Lm
open Go.RowKit

/-- Two limbs are what is left of the list's value above them, but for what lies higher. -/
theorem two_limbs {zs : List Int} (hz : Limb zs) (i : Nat) : ∃ t : Int, val zs / pw i = (zs.getD (i + 1) 0 * 4294967296 + zs.getD i 0) + 18446744073709551616 * t := by
  have h0 : val zs / pw i = val (zs.drop i) := by
    by_cases hi : i ≤ zs.length
    · have e := val_append (zs.take i) (zs.drop i)
      rw [List.take_append_drop, List.length_take, Nat.min_eq_left hi] at e
      have b := val_bounds (limb_take hz i)
      rw [List.length_take, Nat.min_eq_left hi] at b
      exact (div_of (a := val zs) (b := pw i) (by have := pw_pos i; omega) (by rw [e, Int.mul_comm]; omega) b.1 b.2).1
    · rw [List.drop_of_length_le (by omega)]
      have b := val_bounds hz
      have hm := pw_mono (m := zs.length) (n := i) (by omega)
      exact Int.ediv_eq_zero_of_lt b.1 (by omega)
  refine ⟨val (zs.drop (i + 2)), ?_⟩
  rw [h0]
  by_cases h1 : i < zs.length
  · rw [drop_getD zs i h1, val]
    by_cases h2 : i + 1 < zs.length
    · rw [drop_getD zs (i + 1) h2, val, show i + 2 = i + 1 + 1 from rfl]
      omega
    · have e1 : zs.drop (i + 1) = [] := List.drop_of_length_le (by omega)
      have e2 : zs.drop (i + 2) = [] := List.drop_of_length_le (by omega)
      have e3 : zs.getD (i + 1) 0 = 0 := by rw [List.getD_eq_getElem?_getD, List.getElem?_eq_none (by omega)]; rfl
      rw [e1, e2, e3]
      simp [val]
  · have e1 : zs.drop i = [] := List.drop_of_length_le (by omega)
    have e2 : zs.drop (i + 2) = [] := List.drop_of_length_le (by omega)
    have e3 : zs.getD (i + 1) 0 = 0 := by rw [List.getD_eq_getElem?_getD, List.getElem?_eq_none (by omega)]; rfl
    have e4 : zs.getD i 0 = 0 := by rw [List.getD_eq_getElem?_getD, List.getElem?_eq_none (by omega)]; rfl
    rw [e1, e2, e3, e4]
    simp [val]

theorem mask30 {x : Int} (h0 : 0 ≤ x) (h1 : x < 4294967296) : bits .and .u32 x 1073741823 = x % 1073741824 := by
  rw [u32_and _ _ h0 h1 (by omega) (by omega)]
  have : (1073741823 : Int).toNat = 2 ^ 30 - 1 := by decide
  rw [this, Nat.and_two_pow_sub_one_eq_mod]
  omega

/-- The bits from 32 i + s on, of which 30 are wanted. -/
theorem window_val {V r t : Int} {s : Nat} (hs : s ≤ 31) (hV : V = r + 18446744073709551616 * t) : r / p2 s % 4294967296 % 1073741824 = V / p2 s % 1073741824 := by
  have hp := p2_pos s
  have e1 : (18446744073709551616 : Int) = p2 s * (1073741824 * p2 (34 - s)) := by
    have h9 : p2 s * (p2 30 * p2 (34 - s)) = p2 64 := by rw [← p2_add, ← p2_add, show s + (30 + (34 - s)) = 64 by omega]
    rw [show p2 30 = 1073741824 from by decide, show p2 64 = 18446744073709551616 from by decide] at h9
    exact h9.symm
  have e2 : V / p2 s = r / p2 s + 1073741824 * (p2 (34 - s) * t) := by
    rw [hV, e1, Int.mul_assoc, Int.add_mul_ediv_left _ _ (by omega), Int.mul_assoc]
  rw [e2, Int.add_mul_emod_self_left]
  omega

set_option maxRecDepth 20000 in
set_option maxHeartbeats 400000 in
theorem window_any (w : World) (ao : Option Addr) (n cap : Nat) (zs : List Int) (h : Sl w (.slice ao n cap) zs) (low : Nat) (hlow : low ≤ 100000000) :
    Calls Try.prog 98 #[.slice ao n cap, .int .i64 low] w fun e w' => e = .returned (.int .u32 (val zs / p2 low % 1073741824)) ∧ w' = w := by
  obtain ⟨rfl, x1, x2, x3⟩ := h.parts
  obtain ⟨i, hi⟩ : ∃ i, i = low / 32 := ⟨_, rfl⟩
  obtain ⟨s, hs⟩ : ∃ s, s = low % 32 := ⟨_, rfl⟩
  have e1 : (low : Int) / 32 = (i : Nat) := by omega
  have e2 : (low : Int) % 32 = (s : Nat) := by omega
  have hs31 : s ≤ 31 := by omega
  have hib : i ≤ 100000000 := by omega
  have HPL : Hid (p2 low = pw i * p2 s) := by
    show _ = _
    rw [pw_p2, ← p2_add]
    congr 1
    omega
  have bA := limb_getD x3 i
  have bC := limb_getD x3 (i + 1)
  obtain ⟨t, ht⟩ := two_limbs x3 i
  have k1 : Hid (∀ w' : World, Sl w' (.slice ao zs.length cap) zs → Calls Try.prog 70 #[.slice ao zs.length cap, .int .i64 ((i : Int) + 1)] w' fun e w'' => e = .returned (.int .u32 (zs.getD (i + 1) 0)) ∧ w'' = w') := by
    intro w' h'
    have h9 := limb_any w' _ zs h' ((i : Int) + 1) (by omega)
    rwa [show ((i : Int) + 1).toNat = i + 1 by omega] at h9
  have k2 : Hid (∀ w' : World, Sl w' (.slice ao zs.length cap) zs → Calls Try.prog 70 #[.slice ao zs.length cap, .int .i64 (i : Int)] w' fun e w'' => e = .returned (.int .u32 (zs.getD i 0)) ∧ w'' = w') := fun w' h' => limb_nat w' _ zs h' i
  have HT := hide ht
  generalize zs.getD (i + 1) 0 = C at bC k1 HT
  generalize zs.getD i 0 = A at bA k2 HT
  have hor := or_join C A bC.1 bC.2 bA.1 bA.2
  obtain ⟨M, hM⟩ : ∃ M, M = C * 4294967296 + A := ⟨_, rfl⟩
  rw [← hM] at hor HT
  have hM0 : 0 ≤ M := by omega
  have hM1 : M < 18446744073709551616 := by omega
  have hpw := p2_pow s
  have hp1 := p2_pos s
  have hd0 : 0 ≤ M / p2 s := Int.ediv_nonneg hM0 (by omega)
  have hmk : bits .and .u32 (M / p2 s % 4294967296) 1073741823 = M / p2 s % 4294967296 % 1073741824 := mask30 (by omega) (by omega)
  have HV : Hid (M / p2 s % 1073741824 = val zs / p2 low % 1073741824) := by
    have h9 := window_val hs31 HT.out
    rw [Int.ediv_ediv_of_nonneg (by have := pw_pos i; omega), ← HPL.out] at h9
    show _ = _
    omega
  clear x3 ht hM hi hs
  go_enter Try.func98, Try.ntmps98
  go_wp2_with fail
  refine (k1.out _ h).mono ?_
  rintro e w1 ⟨rfl, rfl⟩
  go_wp2_with fail
  refine (k2.out _ h).mono ?_
  rintro e w1 ⟨rfl, rfl⟩
  go_wp2
  go_ret
  exact ⟨by rw [← HV.out]; rfl, rfl⟩

end Lm
end Go.Proofs.Ytjhhjefobbhdlaa
