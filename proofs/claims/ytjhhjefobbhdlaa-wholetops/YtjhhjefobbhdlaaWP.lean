/-
  Plain facts on signs and order.
-/
import Derived.Test.YtjhhjefobbhdlaaWB
namespace Go.Proofs.Ytjhhjefobbhdlaa
namespace Lm

theorem cmpI_three (x y : Int) : cmpI x y = -1 ∨ cmpI x y = 0 ∨ cmpI x y = 1 := by
  unfold cmpI
  split
  · exact .inl rfl
  · split
    · exact .inr (.inr rfl)
    · exact .inr (.inl rfl)

theorem sign_three (z : Int) : -1 ≤ Int.sign z ∧ Int.sign z ≤ 1 := by
  rcases Int.lt_trichotomy z 0 with h | h | h
  · rw [Int.sign_eq_neg_one_of_neg h]; omega
  · rw [h]; simp
  · rw [Int.sign_eq_one_of_pos h]; omega

theorem cmpI_minus (x y : Int) : cmpI (-x) (-y) = -cmpI x y := by
  rcases Int.lt_trichotomy x y with h | h | h
  · rw [cmpI_lt h, cmpI_gt (by omega)]; rfl
  · rw [cmpI_eq h, cmpI_eq (by omega)]; rfl
  · rw [cmpI_gt h, cmpI_lt (by omega)]

/-- How the signs tell two numbers' order. -/
theorem cmp_sign (nx ny : Bool) {x y : Int} (hx : 0 ≤ x) (hy : 0 ≤ y) : (Int.sign (sg nx x) < Int.sign (sg ny y) → cmpI (sg nx x) (sg ny y) = -1) ∧ (Int.sign (sg ny y) < Int.sign (sg nx x) → cmpI (sg nx x) (sg ny y) = 1) ∧
    (Int.sign (sg nx x) = Int.sign (sg ny y) → cmpI (sg nx x) (sg ny y) = Int.sign (sg nx x) * cmpI x y) := by
  have hs : ∀ (n : Bool) (z : Int), 0 ≤ z → (z = 0 ∧ Int.sign (sg n z) = 0 ∧ sg n z = 0) ∨ (0 < z ∧ n = false ∧ Int.sign (sg n z) = 1 ∧ sg n z = z) ∨ (0 < z ∧ n = true ∧ Int.sign (sg n z) = -1 ∧ sg n z = -z) := by
    intro n z hz
    by_cases h0 : z = 0
    · exact .inl ⟨h0, by subst h0; cases n <;> simp [sg], by subst h0; cases n <;> simp [sg]⟩
    · cases n with
      | false => exact .inr (.inl ⟨by omega, rfl, by simp only [sg]; exact Int.sign_eq_one_of_pos (by simp; omega), by simp [sg]⟩)
      | true => exact .inr (.inr ⟨by omega, rfl, by simp only [sg]; exact Int.sign_eq_neg_one_of_neg (by simp; omega), by simp [sg]⟩)
  rcases hs nx x hx with ⟨a1, a2, a3⟩ | ⟨a1, a4, a2, a3⟩ | ⟨a1, a4, a2, a3⟩
  all_goals
    rcases hs ny y hy with ⟨b1, b2, b3⟩ | ⟨b1, b4, b2, b3⟩ | ⟨b1, b4, b2, b3⟩
    all_goals
      rw [a2, b2, a3, b3]
      refine ⟨fun h => ?_, fun h => ?_, fun h => ?_⟩
      all_goals first
        | (exfalso; omega)
        | exact cmpI_lt (by omega)
        | exact cmpI_gt (by omega)
        | exact cmpI_eq (by omega)
        | (rw [Int.one_mul])
        | (rw [Int.zero_mul]; exact cmpI_eq (by omega))
        | (rw [Int.neg_mul, Int.one_mul]; exact cmpI_minus x y)

end Lm
end Go.Proofs.Ytjhhjefobbhdlaa
