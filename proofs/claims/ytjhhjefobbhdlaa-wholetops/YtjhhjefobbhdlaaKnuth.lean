/-
  Plain facts on the long division: what the guess of a limb is worth. No program is named here.
-/
import Derived.Test.YtjhhjefobbhdlaaPlain
namespace Go.Proofs.Ytjhhjefobbhdlaa
namespace Lm

/-- The list's value by its upper limb. -/
theorem val_top {zs : List Int} {n : Nat} (hl : zs.length = n + 1) : val zs = val (zs.take n) + pw n * zs.getD n 0 := by
  have e1 : zs = zs.take n ++ [zs.getD n 0] := by
    rw [← take_succ_getD zs n (by omega), List.take_of_length_le (by omega)]
  have e2 := val_append (zs.take n) [zs.getD n 0]
  rw [← e1, List.length_take, Nat.min_eq_left (by omega)] at e2
  rw [e2]
  simp [val]

/-- Two upper limbs. -/
theorem val_top2 {zs : List Int} {n : Nat} (hl : zs.length = n + 2) : val zs = val (zs.take n) + pw n * (zs.getD (n + 1) 0 * 4294967296 + zs.getD n 0) := by
  rw [val_top (n := n + 1) hl, val_top (zs := zs.take (n + 1)) (n := n) (by rw [List.length_take]; omega), List.take_take, Nat.min_eq_left (by omega)]
  have e : (zs.take (n + 1)).getD n 0 = zs.getD n 0 := by
    rw [List.getD_eq_getElem?_getD, List.getD_eq_getElem?_getD, List.getElem?_take, if_pos (by omega)]
  rw [e, pw, Int.mul_add, Int.mul_comm (zs.getD (n + 1) 0) 4294967296, ← Int.mul_assoc, Int.mul_comm (pw n) 4294967296]
  omega

/-- Three upper limbs. -/
theorem val_top3 {zs : List Int} {n : Nat} (hl : zs.length = n + 3) : val zs = val (zs.take n) + pw n * ((zs.getD (n + 2) 0 * 4294967296 + zs.getD (n + 1) 0) * 4294967296 + zs.getD n 0) := by
  rw [val_top (n := n + 2) hl, val_top2 (zs := zs.take (n + 2)) (n := n) (by rw [List.length_take]; omega), List.take_take, Nat.min_eq_left (by omega)]
  have e : ∀ i, i < n + 2 → (zs.take (n + 2)).getD i 0 = zs.getD i 0 := by
    intro i hi
    rw [List.getD_eq_getElem?_getD, List.getD_eq_getElem?_getD, List.getElem?_take, if_pos hi]
  rw [e (n + 1) (by omega), e n (by omega)]
  have e2 : pw (n + 2) = pw n * (4294967296 * 4294967296) := by
    simp only [pw]
    rw [Int.mul_comm (pw n), Int.mul_assoc]
  have e3 : pw n * ((zs.getD (n + 2) 0 * 4294967296 + zs.getD (n + 1) 0) * 4294967296 + zs.getD n 0) = pw n * (4294967296 * 4294967296) * zs.getD (n + 2) 0 + pw n * (zs.getD (n + 1) 0 * 4294967296 + zs.getD n 0) := by
    rw [Int.mul_assoc, ← Int.mul_add]
    congr 1
    omega
  rw [e2, e3]
  omega

theorem top_le {W Y : List Int} {n : Nat} (hW : Limb W) (hY : Limb Y) (h1 : W.length = n + 1) (h2 : Y.length = n + 1) (h : val W < val Y) : W.getD n 0 ≤ Y.getD n 0 := by
  apply Classical.byContradiction
  intro hn
  rw [val_top h1, val_top h2] at h
  have b1 := val_bounds (limb_take hW n)
  have b2 := val_bounds (limb_take hY n)
  rw [List.length_take, Nat.min_eq_left (by omega)] at b1 b2
  have hp := pw_pos n
  have e : pw n * (Y.getD n 0 + 1) ≤ pw n * W.getD n 0 := Int.mul_le_mul_of_nonneg_left (by omega) (by omega)
  rw [Int.mul_add] at e
  omega

/-- The guess is the limb of the quotient, or one more. -/
theorem guess_near {ps Y : List Int} {n : Nat} {g P U : Int} (hp : Limb ps) (hy : Limb Y) (h1 : ps.length = n + 3) (h2 : Y.length = n + 2) (hP : val ps = P) (hU : val Y = U) (htop : 1 ≤ Y.getD (n + 1) 0) (hlt : P < 4294967296 * U) (hg : 0 ≤ g ∧ g < 4294967296)
    (hA : g * (Y.getD (n + 1) 0 * 4294967296 + Y.getD n 0) ≤ (ps.getD (n + 2) 0 * 4294967296 + ps.getD (n + 1) 0) * 4294967296 + ps.getD n 0)
    (hB : 4294967296 ≤ g + 1 ∨ (ps.getD (n + 2) 0 * 4294967296 + ps.getD (n + 1) 0) * 4294967296 + ps.getD n 0 < (g + 1) * (Y.getD (n + 1) 0 * 4294967296 + Y.getD n 0)) :
    P < (g + 1) * U ∧ (g - 1) * U ≤ P := by
  have eP := val_top3 h1
  have eU := val_top2 h2
  have bP := val_bounds (limb_take hp n)
  have bU := val_bounds (limb_take hy n)
  rw [List.length_take, Nat.min_eq_left (by omega)] at bP bU
  rw [hP] at eP
  rw [hU] at eU
  have hv2 := (limb_getD hy n).1
  generalize (ps.getD (n + 2) 0 * 4294967296 + ps.getD (n + 1) 0) * 4294967296 + ps.getD n 0 = P3 at *
  have hU2 : 4294967296 ≤ Y.getD (n + 1) 0 * 4294967296 + Y.getD n 0 := by omega
  generalize Y.getD (n + 1) 0 * 4294967296 + Y.getD n 0 = U2 at *
  generalize val (ps.take n) = Pl at *
  generalize val (Y.take n) = Ul at *
  have hp1 := pw_pos n
  have hUp : 4294967296 * pw n ≤ pw n * U2 := by
    have : pw n * 4294967296 ≤ pw n * U2 := Int.mul_le_mul_of_nonneg_left hU2 (by omega)
    omega
  constructor
  · rcases hB with hB | hB
    · have : 4294967296 * U ≤ (g + 1) * U := Int.mul_le_mul_of_nonneg_right (by omega) (by omega)
      omega
    · have e1 : pw n * (P3 + 1) ≤ pw n * ((g + 1) * U2) := Int.mul_le_mul_of_nonneg_left (by omega) (by omega)
      have e2 : (g + 1) * U = (g + 1) * Ul + pw n * ((g + 1) * U2) := by
        rw [eU, Int.mul_add, ← Int.mul_assoc (g + 1) (pw n), Int.mul_comm (g + 1) (pw n), Int.mul_assoc]
      have e3 : 0 ≤ (g + 1) * Ul := Int.mul_nonneg (by omega) bU.1
      rw [Int.mul_add] at e1
      omega
  · have e1 : pw n * (g * U2) ≤ pw n * P3 := Int.mul_le_mul_of_nonneg_left hA (by omega)
    have e2 : g * U = g * Ul + pw n * (g * U2) := by
      rw [eU, Int.mul_add, ← Int.mul_assoc g (pw n), Int.mul_comm g (pw n), Int.mul_assoc]
    have e3 : g * Ul ≤ 4294967295 * Ul := Int.mul_le_mul_of_nonneg_right (by omega) bU.1
    rw [Int.sub_mul]
    omega

/-- What is left is below the divisor, whether or not it was taken back. -/
theorem rest_near {P U g A b p A2 c : Int} (_hU : 0 < U) (_hp : U < p) (hlow : P < (g + 1) * U) (hhigh : (g - 1) * U ≤ P) (hA : 0 ≤ A ∧ A < p) (_hb : 0 ≤ b ∧ b ≤ 1) (h : A - p * b = P - g * U) :
    (b = 0 → 0 ≤ A ∧ A < U ∧ P = g * U + A) ∧ (b = 1 → 0 ≤ A2 ∧ A2 < p → 0 ≤ c ∧ c ≤ 1 → A2 + p * c = A + U → 0 ≤ A2 ∧ A2 < U ∧ P = (g - 1) * U + A2) := by
  rw [Int.add_mul] at hlow
  rw [Int.sub_mul] at hhigh ⊢
  constructor
  · intro hb0
    rw [hb0, Int.mul_zero] at h
    omega
  · intro hb1 hA2 hc hs
    rw [hb1, Int.mul_one] at h
    have hc01 : c = 0 ∨ c = 1 := by omega
    rcases hc01 with hc0 | hc0
    · rw [hc0, Int.mul_zero] at hs; omega
    · rw [hc0, Int.mul_one] at hs; omega

/-- The window's value is below the base times the divisor. -/
theorem part_lt {W : List Int} {x U : Int} (hx : x < 4294967296) (h : val W < U) : val (x :: W) < 4294967296 * U := by
  rw [val]
  omega

/-- One round of the long division keeps the whole. -/
theorem long_step {lo W W' Q : List Int} {x q U T : Int} (hinv : val (lo ++ [x]) + pw (lo.length + 1) * val W + U * (pw (lo.length + 1) * val Q) = T) (hp : val (x :: W) = q * U + val W') :
    val lo + pw lo.length * val W' + U * (pw lo.length * val (q :: Q)) = T := by
  rw [val_append] at hinv
  have e1 : val [x] = x := by simp [val]
  rw [e1] at hinv
  rw [val] at hp ⊢
  rw [pw] at hinv
  generalize pw lo.length = p at *
  have e2 : p * (x + 4294967296 * val W) = p * (q * U + val W') := by rw [hp]
  have e3 : 4294967296 * p * val W = p * (4294967296 * val W) := by rw [Int.mul_comm 4294967296 p, Int.mul_assoc]
  have e4 : U * (p * (q + 4294967296 * val Q)) = p * (q * U) + U * (4294967296 * p * val Q) := by
    rw [Int.mul_add, Int.mul_add, Int.mul_comm 4294967296 p, Int.mul_assoc p 4294967296, ← Int.mul_assoc U p q, Int.mul_comm U p, Int.mul_assoc p U q, Int.mul_comm U q]
  rw [Int.mul_add, Int.mul_add] at e2
  omega

/-- What is below a power has a nought on top. -/
theorem top_zero {W : List Int} {n : Nat} (hW : Limb W) (hl : W.length = n + 1) (h : val W < pw n) : val (W.take n) = val W ∧ W.getD n 0 = 0 := by
  have e := val_top hl
  have b := val_bounds (limb_take hW n)
  have h0 := (limb_getD hW n).1
  have hp := pw_pos n
  have hz : W.getD n 0 = 0 := by
    apply Classical.byContradiction
    intro hn
    have : pw n * 1 ≤ pw n * W.getD n 0 := Int.mul_le_mul_of_nonneg_left (by omega) (by omega)
    omega
  rw [hz, Int.mul_zero] at e
  exact ⟨by omega, hz⟩

end Lm
end Go.Proofs.Ytjhhjefobbhdlaa
