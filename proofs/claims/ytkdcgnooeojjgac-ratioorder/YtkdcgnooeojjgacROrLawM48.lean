/-
  The laws of fractions in lowest terms, as numbers. No program is named here. The order of fractions, as numbers; single operations on what is asked of it. RatioOrder answers true, whatever three fractions it is handed. The given statement on RatioOrder, for every input: the call answers true, and each argument reads behind it as it read before. No condition beyond the statement's own.
-/
import Derived.Test.YtkdcgnooeojjgacROrLawM47
import Derived.Test.YtkdcgnooeojjgacRows
import Derived.ProofKit
import Derived.OpenShut
import Derived.ShutString
import Derived.ChangeOld
import Derived.SizedLaws
import Derived.Lib.SmallJoins
namespace Go.Proofs.Ytkdcgnooeojjgac
namespace Lm

theorem fld_addc {P1 Q1 P2 Q2 : Int} (h1 : Q1 ≠ 0) (h2 : Q2 ≠ 0) : nm (P1 * Q2 + P2 * Q1) (Q1 * Q2) = nm (P2 * Q1 + P1 * Q2) (Q2 * Q1) ∧ dn (P1 * Q2 + P2 * Q1) (Q1 * Q2) = dn (P2 * Q1 + P1 * Q2) (Q2 * Q1) := by
  refine low_eq (by simp_all) (by simp_all) ?_
  grind

theorem fld_mulc {P1 Q1 P2 Q2 : Int} (h1 : Q1 ≠ 0) (h2 : Q2 ≠ 0) : nm (P1 * P2) (Q1 * Q2) = nm (P2 * P1) (Q2 * Q1) ∧ dn (P1 * P2) (Q1 * Q2) = dn (P2 * P1) (Q2 * Q1) := by
  refine low_eq (by simp_all) (by simp_all) ?_
  grind

theorem fld_adda {P1 Q1 P2 Q2 P3 Q3 : Int} (h1 : Q1 ≠ 0) (h2 : Q2 ≠ 0) (h3 : Q3 ≠ 0) : nm (tp (nm (P1 * Q2 + P2 * Q1) (Q1 * Q2)) (dn (P1 * Q2 + P2 * Q1) (Q1 * Q2)) * Q3 + P3 * tq (dn (P1 * Q2 + P2 * Q1) (Q1 * Q2))) (tq (dn (P1 * Q2 + P2 * Q1) (Q1 * Q2)) * Q3) = nm (P1 * tq (dn (P2 * Q3 + P3 * Q2) (Q2 * Q3)) + tp (nm (P2 * Q3 + P3 * Q2) (Q2 * Q3)) (dn (P2 * Q3 + P3 * Q2) (Q2 * Q3)) * Q1) (Q1 * tq (dn (P2 * Q3 + P3 * Q2) (Q2 * Q3))) ∧ dn (tp (nm (P1 * Q2 + P2 * Q1) (Q1 * Q2)) (dn (P1 * Q2 + P2 * Q1) (Q1 * Q2)) * Q3 + P3 * tq (dn (P1 * Q2 + P2 * Q1) (Q1 * Q2))) (tq (dn (P1 * Q2 + P2 * Q1) (Q1 * Q2)) * Q3) = dn (P1 * tq (dn (P2 * Q3 + P3 * Q2) (Q2 * Q3)) + tp (nm (P2 * Q3 + P3 * Q2) (Q2 * Q3)) (dn (P2 * Q3 + P3 * Q2) (Q2 * Q3)) * Q1) (Q1 * tq (dn (P2 * Q3 + P3 * Q2) (Q2 * Q3))) := by
  have b0 : Q1 * Q2 ≠ 0 := (Int.mul_ne_zero h1 h2)
  have c0 := low_cross (P1 * Q2 + P2 * Q1) b0
  have d0 := dn_ne (P1 * Q2 + P2 * Q1) b0
  rw [tp_low (P1 * Q2 + P2 * Q1) b0, tq_low (P1 * Q2 + P2 * Q1) b0]
  have b1 : Q2 * Q3 ≠ 0 := (Int.mul_ne_zero h2 h3)
  have c1 := low_cross (P2 * Q3 + P3 * Q2) b1
  have d1 := dn_ne (P2 * Q3 + P3 * Q2) b1
  rw [tp_low (P2 * Q3 + P3 * Q2) b1, tq_low (P2 * Q3 + P3 * Q2) b1]
  generalize nm (P1 * Q2 + P2 * Q1) (Q1 * Q2) = N0 at *
  generalize dn (P1 * Q2 + P2 * Q1) (Q1 * Q2) = D0 at *
  generalize nm (P2 * Q3 + P3 * Q2) (Q2 * Q3) = N1 at *
  generalize dn (P2 * Q3 + P3 * Q2) (Q2 * Q3) = D1 at *
  refine low_eq (by simp_all) (by simp_all) ?_
  apply Int.eq_of_mul_eq_mul_right (show Q1 * Q2 * Q3 ≠ 0 from (Int.mul_ne_zero (Int.mul_ne_zero h1 h2) h3))
  grind

theorem fld_mula {P1 Q1 P2 Q2 P3 Q3 : Int} (h1 : Q1 ≠ 0) (h2 : Q2 ≠ 0) (h3 : Q3 ≠ 0) : nm (tp (nm (P1 * P2) (Q1 * Q2)) (dn (P1 * P2) (Q1 * Q2)) * P3) (tq (dn (P1 * P2) (Q1 * Q2)) * Q3) = nm (P1 * tp (nm (P2 * P3) (Q2 * Q3)) (dn (P2 * P3) (Q2 * Q3))) (Q1 * tq (dn (P2 * P3) (Q2 * Q3))) ∧ dn (tp (nm (P1 * P2) (Q1 * Q2)) (dn (P1 * P2) (Q1 * Q2)) * P3) (tq (dn (P1 * P2) (Q1 * Q2)) * Q3) = dn (P1 * tp (nm (P2 * P3) (Q2 * Q3)) (dn (P2 * P3) (Q2 * Q3))) (Q1 * tq (dn (P2 * P3) (Q2 * Q3))) := by
  have b0 : Q1 * Q2 ≠ 0 := (Int.mul_ne_zero h1 h2)
  have c0 := low_cross (P1 * P2) b0
  have d0 := dn_ne (P1 * P2) b0
  rw [tp_low (P1 * P2) b0, tq_low (P1 * P2) b0]
  have b1 : Q2 * Q3 ≠ 0 := (Int.mul_ne_zero h2 h3)
  have c1 := low_cross (P2 * P3) b1
  have d1 := dn_ne (P2 * P3) b1
  rw [tp_low (P2 * P3) b1, tq_low (P2 * P3) b1]
  generalize nm (P1 * P2) (Q1 * Q2) = N0 at *
  generalize dn (P1 * P2) (Q1 * Q2) = D0 at *
  generalize nm (P2 * P3) (Q2 * Q3) = N1 at *
  generalize dn (P2 * P3) (Q2 * Q3) = D1 at *
  refine low_eq (by simp_all) (by simp_all) ?_
  apply Int.eq_of_mul_eq_mul_right (show Q1 * Q2 * Q3 ≠ 0 from (Int.mul_ne_zero (Int.mul_ne_zero h1 h2) h3))
  grind

theorem fld_dist {P1 Q1 P2 Q2 P3 Q3 : Int} (h1 : Q1 ≠ 0) (h2 : Q2 ≠ 0) (h3 : Q3 ≠ 0) : nm (P1 * tp (nm (P2 * Q3 + P3 * Q2) (Q2 * Q3)) (dn (P2 * Q3 + P3 * Q2) (Q2 * Q3))) (Q1 * tq (dn (P2 * Q3 + P3 * Q2) (Q2 * Q3))) = nm (tp (nm (P1 * P2) (Q1 * Q2)) (dn (P1 * P2) (Q1 * Q2)) * tq (dn (P1 * P3) (Q1 * Q3)) + tp (nm (P1 * P3) (Q1 * Q3)) (dn (P1 * P3) (Q1 * Q3)) * tq (dn (P1 * P2) (Q1 * Q2))) (tq (dn (P1 * P2) (Q1 * Q2)) * tq (dn (P1 * P3) (Q1 * Q3))) ∧ dn (P1 * tp (nm (P2 * Q3 + P3 * Q2) (Q2 * Q3)) (dn (P2 * Q3 + P3 * Q2) (Q2 * Q3))) (Q1 * tq (dn (P2 * Q3 + P3 * Q2) (Q2 * Q3))) = dn (tp (nm (P1 * P2) (Q1 * Q2)) (dn (P1 * P2) (Q1 * Q2)) * tq (dn (P1 * P3) (Q1 * Q3)) + tp (nm (P1 * P3) (Q1 * Q3)) (dn (P1 * P3) (Q1 * Q3)) * tq (dn (P1 * P2) (Q1 * Q2))) (tq (dn (P1 * P2) (Q1 * Q2)) * tq (dn (P1 * P3) (Q1 * Q3))) := by
  have b0 : Q2 * Q3 ≠ 0 := (Int.mul_ne_zero h2 h3)
  have c0 := low_cross (P2 * Q3 + P3 * Q2) b0
  have d0 := dn_ne (P2 * Q3 + P3 * Q2) b0
  rw [tp_low (P2 * Q3 + P3 * Q2) b0, tq_low (P2 * Q3 + P3 * Q2) b0]
  have b1 : Q1 * Q2 ≠ 0 := (Int.mul_ne_zero h1 h2)
  have c1 := low_cross (P1 * P2) b1
  have d1 := dn_ne (P1 * P2) b1
  rw [tp_low (P1 * P2) b1, tq_low (P1 * P2) b1]
  have b2 : Q1 * Q3 ≠ 0 := (Int.mul_ne_zero h1 h3)
  have c2 := low_cross (P1 * P3) b2
  have d2 := dn_ne (P1 * P3) b2
  rw [tp_low (P1 * P3) b2, tq_low (P1 * P3) b2]
  generalize nm (P2 * Q3 + P3 * Q2) (Q2 * Q3) = N0 at *
  generalize dn (P2 * Q3 + P3 * Q2) (Q2 * Q3) = D0 at *
  generalize nm (P1 * P2) (Q1 * Q2) = N1 at *
  generalize dn (P1 * P2) (Q1 * Q2) = D1 at *
  generalize nm (P1 * P3) (Q1 * Q3) = N2 at *
  generalize dn (P1 * P3) (Q1 * Q3) = D2 at *
  refine low_eq (by simp_all) (by simp_all) ?_
  apply Int.eq_of_mul_eq_mul_right (show Q1 * Q2 * Q3 * Q1 ≠ 0 from (Int.mul_ne_zero (Int.mul_ne_zero (Int.mul_ne_zero h1 h2) h3) h1))
  grind

theorem fld_sub {P1 Q1 P2 Q2 : Int} (h1 : Q1 ≠ 0) (h2 : Q2 ≠ 0) : nm (tp (nm (P1 * Q2 + P2 * Q1) (Q1 * Q2)) (dn (P1 * Q2 + P2 * Q1) (Q1 * Q2)) * Q2 - P2 * tq (dn (P1 * Q2 + P2 * Q1) (Q1 * Q2))) (tq (dn (P1 * Q2 + P2 * Q1) (Q1 * Q2)) * Q2) = nm (P1) (Q1) ∧ dn (tp (nm (P1 * Q2 + P2 * Q1) (Q1 * Q2)) (dn (P1 * Q2 + P2 * Q1) (Q1 * Q2)) * Q2 - P2 * tq (dn (P1 * Q2 + P2 * Q1) (Q1 * Q2))) (tq (dn (P1 * Q2 + P2 * Q1) (Q1 * Q2)) * Q2) = dn (P1) (Q1) := by
  have b0 : Q1 * Q2 ≠ 0 := (Int.mul_ne_zero h1 h2)
  have c0 := low_cross (P1 * Q2 + P2 * Q1) b0
  have d0 := dn_ne (P1 * Q2 + P2 * Q1) b0
  rw [tp_low (P1 * Q2 + P2 * Q1) b0, tq_low (P1 * Q2 + P2 * Q1) b0]
  generalize nm (P1 * Q2 + P2 * Q1) (Q1 * Q2) = N0 at *
  generalize dn (P1 * Q2 + P2 * Q1) (Q1 * Q2) = D0 at *
  refine low_eq (by simp_all) (by simp_all) ?_
  apply Int.eq_of_mul_eq_mul_right (show Q1 * Q2 ≠ 0 from (Int.mul_ne_zero h1 h2))
  grind

theorem fld_div {P1 Q1 P2 Q2 : Int} (h1 : Q1 ≠ 0) (h2 : Q2 ≠ 0) (hp : P2 ≠ 0) : nm (tp (nm (P1 * P2) (Q1 * Q2)) (dn (P1 * P2) (Q1 * Q2)) * Q2) (tq (dn (P1 * P2) (Q1 * Q2)) * P2) = nm (P1) (Q1) ∧ dn (tp (nm (P1 * P2) (Q1 * Q2)) (dn (P1 * P2) (Q1 * Q2)) * Q2) (tq (dn (P1 * P2) (Q1 * Q2)) * P2) = dn (P1) (Q1) := by
  have b0 : Q1 * Q2 ≠ 0 := (Int.mul_ne_zero h1 h2)
  have c0 := low_cross (P1 * P2) b0
  have d0 := dn_ne (P1 * P2) b0
  rw [tp_low (P1 * P2) b0, tq_low (P1 * P2) b0]
  generalize nm (P1 * P2) (Q1 * Q2) = N0 at *
  generalize dn (P1 * P2) (Q1 * Q2) = D0 at *
  refine low_eq (by simp_all) (by simp_all) ?_
  apply Int.eq_of_mul_eq_mul_right (show Q1 * Q2 ≠ 0 from (Int.mul_ne_zero h1 h2))
  grind

theorem fld_neg {P1 Q1 : Int} (h1 : Q1 ≠ 0) : Int.sign (tp (nm (P1 * tq (dn (-(P1)) (Q1)) + tp (nm (-(P1)) (Q1)) (dn (-(P1)) (Q1)) * Q1) (Q1 * tq (dn (-(P1)) (Q1)))) (dn (P1 * tq (dn (-(P1)) (Q1)) + tp (nm (-(P1)) (Q1)) (dn (-(P1)) (Q1)) * Q1) (Q1 * tq (dn (-(P1)) (Q1))))) = 0 := by
  have c0 := low_cross (-P1) h1
  have d0 := dn_ne (-P1) h1
  rw [tp_low (-P1) h1, tq_low (-P1) h1]
  generalize nm (-P1) Q1 = N0 at *
  generalize dn (-P1) Q1 = D0 at *
  have b : Q1 * D0 ≠ 0 := Int.mul_ne_zero h1 d0
  rw [tp_low _ b]
  have e : P1 * D0 + N0 * Q1 = 0 := by grind
  rw [e]
  simp [nm]

end Lm
end Go.Proofs.Ytkdcgnooeojjgac

namespace Go.Proofs.Ytkdcgnooeojjgac
namespace Lm
open Go Go.RowKit

theorem cmpI_sign (x y : Int) : cmpI x y = Int.sign (x - y) := by
  rcases Int.lt_trichotomy x y with h | h | h
  · rw [cmpI_lt h, Int.sign_eq_neg_one_of_neg (by omega)]
  · rw [h, cmpI_eq rfl, Int.sub_self]; rfl
  · rw [cmpI_gt h, Int.sign_eq_one_of_pos (by omega)]

theorem sign_of {c d x y : Int} (hc : 0 < c) (hd : 0 < d) (h : c * x = d * y) : Int.sign x = Int.sign y := by
  have h1 : Int.sign (c * x) = Int.sign x := by rw [Int.sign_mul, Int.sign_eq_one_of_pos hc, Int.one_mul]
  have h2 : Int.sign (d * y) = Int.sign y := by rw [Int.sign_mul, Int.sign_eq_one_of_pos hd, Int.one_mul]
  rw [← h1, h, h2]

theorem ord_anti (x y : Int) : cmpI y x = -cmpI x y := by
  rw [cmpI_sign, cmpI_sign, ← Int.sign_neg, Int.neg_sub]

theorem mul_pos3 {a b : Int} (h1 : 0 < a) (h2 : 0 < b) : 0 < a * b := Int.mul_pos h1 h2

theorem ord_add {P1 Q1 P2 Q2 P3 Q3 : Int} (h1 : 0 < Q1) (h2 : 0 < Q2) (h3 : 0 < Q3) :
    cmpI (tp (nm (P1 * Q3 + P3 * Q1) (Q1 * Q3)) (dn (P1 * Q3 + P3 * Q1) (Q1 * Q3)) * tq (dn (P2 * Q3 + P3 * Q2) (Q2 * Q3))) (tp (nm (P2 * Q3 + P3 * Q2) (Q2 * Q3)) (dn (P2 * Q3 + P3 * Q2) (Q2 * Q3)) * tq (dn (P1 * Q3 + P3 * Q1) (Q1 * Q3))) = cmpI (P1 * Q2) (P2 * Q1) := by
  have b0 : Q1 * Q3 ≠ 0 := Int.mul_ne_zero (by omega) (by omega)
  have b1 : Q2 * Q3 ≠ 0 := Int.mul_ne_zero (by omega) (by omega)
  have c0 := low_cross (P1 * Q3 + P3 * Q1) b0
  have c1 := low_cross (P2 * Q3 + P3 * Q2) b1
  have d0 := dn_pos (P1 * Q3 + P3 * Q1) b0
  have d1 := dn_pos (P2 * Q3 + P3 * Q2) b1
  rw [tp_low _ b0, tq_low _ b1, tp_low _ b1, tq_low _ b0, cmpI_sign, cmpI_sign]
  generalize nm (P1 * Q3 + P3 * Q1) (Q1 * Q3) = N0 at *
  generalize dn (P1 * Q3 + P3 * Q1) (Q1 * Q3) = D0 at *
  generalize nm (P2 * Q3 + P3 * Q2) (Q2 * Q3) = N1 at *
  generalize dn (P2 * Q3 + P3 * Q2) (Q2 * Q3) = D1 at *
  refine sign_of (c := (Q1 * Q3) * (Q2 * Q3)) (d := (D0 * D1) * (Q3 * Q3)) (Int.mul_pos (Int.mul_pos h1 h3) (Int.mul_pos h2 h3)) (Int.mul_pos (Int.mul_pos d0 d1) (Int.mul_pos h3 h3)) ?_
  grind

theorem ord_mul {P1 Q1 P2 Q2 P3 Q3 : Int} (h1 : 0 < Q1) (h2 : 0 < Q2) (h3 : 0 < Q3) :
    cmpI (tp (nm (P1 * P3) (Q1 * Q3)) (dn (P1 * P3) (Q1 * Q3)) * tq (dn (P2 * P3) (Q2 * Q3))) (tp (nm (P2 * P3) (Q2 * Q3)) (dn (P2 * P3) (Q2 * Q3)) * tq (dn (P1 * P3) (Q1 * Q3))) = cmpI (P1 * Q2) (P2 * Q1) * Int.sign P3 := by
  have b0 : Q1 * Q3 ≠ 0 := Int.mul_ne_zero (by omega) (by omega)
  have b1 : Q2 * Q3 ≠ 0 := Int.mul_ne_zero (by omega) (by omega)
  have c0 := low_cross (P1 * P3) b0
  have c1 := low_cross (P2 * P3) b1
  have d0 := dn_pos (P1 * P3) b0
  have d1 := dn_pos (P2 * P3) b1
  rw [tp_low _ b0, tq_low _ b1, tp_low _ b1, tq_low _ b0, cmpI_sign, cmpI_sign, ← Int.sign_mul]
  generalize nm (P1 * P3) (Q1 * Q3) = N0 at *
  generalize dn (P1 * P3) (Q1 * Q3) = D0 at *
  generalize nm (P2 * P3) (Q2 * Q3) = N1 at *
  generalize dn (P2 * P3) (Q2 * Q3) = D1 at *
  refine sign_of (c := (Q1 * Q3) * (Q2 * Q3)) (d := (D0 * D1) * Q3) (Int.mul_pos (Int.mul_pos h1 h3) (Int.mul_pos h2 h3)) (Int.mul_pos (Int.mul_pos d0 d1) h3) ?_
  grind

theorem ord_sub {P1 Q1 P2 Q2 : Int} (h1 : 0 < Q1) (h2 : 0 < Q2) :
    Int.sign (tp (nm (P1 * Q2 - P2 * Q1) (Q1 * Q2)) (dn (P1 * Q2 - P2 * Q1) (Q1 * Q2))) = cmpI (P1 * Q2) (P2 * Q1) := by
  have b0 : Q1 * Q2 ≠ 0 := Int.mul_ne_zero (by omega) (by omega)
  have c0 := low_cross (P1 * Q2 - P2 * Q1) b0
  have d0 := dn_pos (P1 * Q2 - P2 * Q1) b0
  rw [tp_low _ b0, cmpI_sign]
  generalize nm (P1 * Q2 - P2 * Q1) (Q1 * Q2) = N0 at *
  generalize dn (P1 * Q2 - P2 * Q1) (Q1 * Q2) = D0 at *
  refine sign_of (c := Q1 * Q2) (d := D0) (Int.mul_pos h1 h2) d0 ?_
  grind

theorem ord_same {P1 Q1 P2 Q2 : Int} (h1 : 0 < Q1) (h2 : 0 < Q2) : decide (cmpI (P1 * Q2) (P2 * Q1) = 0) = decide (nm P1 Q1 = nm P2 Q2 ∧ dn P1 Q1 = dn P2 Q2) := by
  refine decide_eq_decide.2 ?_
  rw [low_eq_iff (by omega) (by omega), cmpI_sign, sign_zero_iff]
  omega

theorem ord_trans {P1 Q1 P2 Q2 P3 Q3 : Int} (h1 : 0 < Q1) (h2 : 0 < Q2) (h3 : 0 < Q3) (a : ¬ 0 < cmpI (P1 * Q2) (P2 * Q1)) (b : ¬ 0 < cmpI (P2 * Q3) (P3 * Q2)) : cmpI (P1 * Q3) (P3 * Q1) ≤ 0 := by
  have key : ∀ x y, ¬ 0 < cmpI x y ↔ x ≤ y := by
    intro x y
    rcases Int.lt_trichotomy x y with h | h | h
    · rw [cmpI_lt h]; omega
    · rw [cmpI_eq h]; omega
    · rw [cmpI_gt h]; omega
  rw [key] at a b
  have hh : ¬ 0 < cmpI (P1 * Q3) (P3 * Q1) := by
    rw [key]
    have e1 : P1 * Q2 * Q3 ≤ P2 * Q1 * Q3 := Int.mul_le_mul_of_nonneg_right a (by omega)
    have e2 : P2 * Q3 * Q1 ≤ P3 * Q2 * Q1 := Int.mul_le_mul_of_nonneg_right b (by omega)
    have e3 : P1 * Q3 * Q2 ≤ P3 * Q1 * Q2 := by
      have x1 : P1 * Q2 * Q3 = P1 * Q3 * Q2 := by grind
      have x2 : P2 * Q1 * Q3 = P2 * Q3 * Q1 := by grind
      have x3 : P3 * Q2 * Q1 = P3 * Q1 * Q2 := by grind
      omega
    exact Int.le_of_mul_le_mul_right e3 h2
  omega

section
variable {dst : Option Tmp} {ty : TypeId} {pos : String} {after : Array Edge} {guard : Option (Nat × Bool)} {a : Act} {w : World} {i j : Nat} {u v : Int}
theorem op_neqf (h1 : a.eval (.tmp i) = .int .i64 u) (h2 : a.eval (.tmp j) = .int .i64 v) (h : u = v) :
    Does Try.prog { dst, op := .binOp .neq 3 (.tmp i) (.tmp j) 3, type := ty, pos, after, guard } a.eval w fun v w' => Below w.heap.size w w' ∧ Eqs (.bool false) v w' := by
  refine does_bin (v := .bool false) ?_ ?_ ⟨Below.refl _ _, rfl⟩
  · rw [h1, h2]; simp [go_sem]
  · rw [h1, h2]; simp [go_sem, h]
theorem op_negi (h1 : a.eval (.tmp i) = .int .i64 u) (h : -1 ≤ u ∧ u ≤ 1) :
    Does Try.prog { dst, op := .unOp .neg 3 (.tmp i), type := ty, pos, after, guard } a.eval w fun v w' => Below w.heap.size w w' ∧ Eqs (.int .i64 (-u)) v w' := by
  refine does_un (v := .int .i64 (-u)) ?_ ⟨Below.refl _ _, rfl⟩
  rw [h1]
  simp [go_sem]
  exact wrap64 (by omega) (by omega)
theorem op_timesi {z : Int} (h1 : a.eval (.tmp i) = .int .i64 u) (h2 : a.eval (.tmp j) = .int .i64 v) (h : z = u * v) (hz : -1 ≤ z ∧ z ≤ 1) :
    Does Try.prog { dst, op := .binOp .mul 3 (.tmp i) (.tmp j) 3, type := ty, pos, after, guard } a.eval w fun v' w' => Below w.heap.size w w' ∧ Eqs (.int .i64 z) v' w' :=
  (op_times h1 h2).mono (fun v' w' ⟨hb, e⟩ => ⟨hb, by rw [Eqs, show v' = _ from e, ← h, wrap64 (by omega) (by omega)]⟩)
theorem op_gtrt (h1 : a.eval (.tmp i) = .int .i64 u) (h : v < u) :
    Does Try.prog { dst, op := .binOp .gtr 3 (.tmp i) (.const (.int .i64 v)) 3, type := ty, pos, after, guard } a.eval w fun v' w' => Below w.heap.size w w' ∧ Eqs (.bool true) v' w' :=
  (op_gtrk h1).mono (fun v' w' ⟨hb, e⟩ => ⟨hb, by rw [Eqs, show v' = _ from e, decide_eq_true h]⟩)
theorem op_gtrf (h1 : a.eval (.tmp i) = .int .i64 u) (h : ¬ v < u) :
    Does Try.prog { dst, op := .binOp .gtr 3 (.tmp i) (.const (.int .i64 v)) 3, type := ty, pos, after, guard } a.eval w fun v' w' => Below w.heap.size w w' ∧ Eqs (.bool false) v' w' :=
  (op_gtrk h1).mono (fun v' w' ⟨hb, e⟩ => ⟨hb, by rw [Eqs, show v' = _ from e, decide_eq_false h]⟩)
theorem op_leqt (h1 : a.eval (.tmp i) = .int .i64 u) (h : u ≤ v) :
    Does Try.prog { dst, op := .binOp .leq 3 (.tmp i) (.const (.int .i64 v)) 3, type := ty, pos, after, guard } a.eval w fun v' w' => Below w.heap.size w w' ∧ Eqs (.bool true) v' w' := by
  refine does_bin (v := .bool true) ?_ ?_ ⟨Below.refl _ _, rfl⟩
  · rw [h1]; simp [go_sem, Act.eval]
  · rw [h1]; simp [go_sem, Act.eval, h]
theorem op_leqf (h1 : a.eval (.tmp i) = .int .i64 u) (h : ¬ u ≤ v) :
    Does Try.prog { dst, op := .binOp .leq 3 (.tmp i) (.const (.int .i64 v)) 3, type := ty, pos, after, guard } a.eval w fun v' w' => Below w.heap.size w w' ∧ Eqs (.bool false) v' w' := by
  refine does_bin (v := .bool false) ?_ ?_ ⟨Below.refl _ _, rfl⟩
  · rw [h1]; simp [go_sem, Act.eval]
  · rw [h1]; simp [go_sem, Act.eval]; omega
theorem op_eqlbt {b c : Bool} (h1 : a.eval (.tmp i) = .bool b) (h2 : a.eval (.tmp j) = .bool c) (h : b = c) :
    Does Try.prog { dst, op := .binOp .eql 4 (.tmp i) (.tmp j) 4, type := ty, pos, after, guard } a.eval w fun v w' => Below w.heap.size w w' ∧ Eqs (.bool true) v w' :=
  (op_eqlb h1 h2).mono (fun v' w' ⟨hb, e⟩ => ⟨hb, by rw [Eqs, show v' = _ from e, h]; simp⟩)
theorem op_neqbf {b c : Bool} (h1 : a.eval (.tmp i) = .bool b) (h2 : a.eval (.tmp j) = .bool c) (h : b = c) :
    Does Try.prog { dst, op := .binOp .neq 4 (.tmp i) (.tmp j) 4, type := ty, pos, after, guard } a.eval w fun v w' => Below w.heap.size w w' ∧ Eqs (.bool false) v w' :=
  (op_neqb h1 h2).mono (fun v' w' ⟨hb, e⟩ => ⟨hb, by rw [Eqs, show v' = _ from e, h]; simp⟩)
end
theorem cmpI_range (x y : Int) : -1 ≤ cmpI x y ∧ cmpI x y ≤ 1 := by
  rw [cmpI_sign]
  exact sign_three _

end Lm
end Go.Proofs.Ytkdcgnooeojjgac

namespace Go.Proofs.Ytkdcgnooeojjgac
namespace Lm
open Go Go.RowKit

set_option maxRecDepth 20000 in
set_option maxHeartbeats 4000000 in
theorem rorder_law (w : World) (nr : Bool) (ar : Option Addr) (mr cr : Nat) (rs : List Int) (pr : Int) (br : Option Addr) (kr dr : Nat) (rt : List Int) (qr : Int) (nu : Bool) (au : Option Addr) (mu cu : Nat) (us : List Int) (pu : Int) (bu : Option Addr) (ku du : Nat) (ut : List Int) (qu : Int) (nv : Bool) (av : Option Addr) (mv cv : Nat) (vs : List Int) (pv : Int) (bv : Option Addr) (kv dv : Nat) (vt : List Int) (qv : Int) (Ar : Ag w nr ar mr cr rs pr) (Sr : Sl w (.slice br kr dr) rt) (Vr : val rt = qr) (Au : Ag w nu au mu cu us pu) (Su : Sl w (.slice bu ku du) ut) (Vu : val ut = qu) (Av : Ag w nv av mv cv vs pv) (Sv : Sl w (.slice bv kv dv) vt) (Vv : val vt = qv) (gr : mr ≤ 35184372088832) (jr : kr ≤ 35184372088832) (gu : mu ≤ 35184372088832) (ju : ku ≤ 35184372088832) (gv : mv ≤ 35184372088832) (jv : kv ≤ 35184372088832) :
    Calls Try.prog 4 #[.agg #[.bool nr, .slice ar mr cr, .slice br kr dr], .agg #[.bool nu, .slice au mu cu, .slice bu ku du], .agg #[.bool nv, .slice av mv cv, .slice bv kv dv]] w fun e w' => e = .returned (.bool true) ∧ Below w.heap.size w w' := by
  go_enter Try.func4, Try.ntmps4
  generalize hA : (Act.mk _ _) = aa
  have hn : aa.tmps.size = 85 := by rw [← hA]; rfl
  have hd : aa.defers = [] := by rw [← hA]
  have f0 : aa.eval (.tmp 0) = .agg #[.bool nr, .slice ar mr cr, .slice br kr dr] := by rw [← hA]; rfl
  have f1 : aa.eval (.tmp 1) = .agg #[.bool nu, .slice au mu cu, .slice bu ku du] := by rw [← hA]; rfl
  have f2 : aa.eval (.tmp 2) = .agg #[.bool nv, .slice av mv cv, .slice bv kv dv] := by rw [← hA]; rfl
  clear hA
  have HB : Below w.heap.size w w := Below.refl _ _
  have Dr : Ag w false br kr dr rt qr := ⟨Sr, Vr⟩
  have Du : Ag w false bu ku du ut qu := ⟨Su, Vu⟩
  have Dv : Ag w false bv kv dv vt qv := ⟨Sv, Vv⟩
  have Qr : 0 < tq qr := tq_pos (by rw [← Vr]; exact (val_bounds Sr.parts.2.2.2).1)
  have Qu : 0 < tq qu := tq_pos (by rw [← Vu]; exact (val_bounds Su.parts.2.2.2).1)
  have Qv : 0 < tq qv := tq_pos (by rw [← Vv]; exact (val_bounds Sv.parts.2.2.2).1)
  refine wp_seq ?_
  refine region4 [some 3, some 4, some 5, some 6] [(fun _ _ => True), (fun _ _ => True), (fun _ _ => True), Eqs ((.bool false))] [⟨R3, some 0, 0, 3, .agg #[.bool nr, .slice ar mr cr, .slice br kr dr], none, []⟩, ⟨R3, some 1, 0, 4, .agg #[.bool nu, .slice au mu cu, .slice bu ku du], none, []⟩, ⟨R3, some 2, 0, 5, .agg #[.bool nv, .slice av mv cv, .slice bv kv dv], none, []⟩] [] (by kernel_rfl) hn rfl (by kernel_rfl) (by kernel_rfl) (by kernel_rfl) (by kernel_rfl) (by kernel_rfl) (by kernel_rfl) ⟨True.mono4, True.mono4, True.mono4, Eqs.mono4 _, trivial⟩ (ok_cons R3ok (ok_cons R3ok (ok_cons R3ok ok_nil))) (IsOld.all (bx := [⟨R3, some 0, 0, 3, .agg #[.bool nr, .slice ar mr cr, .slice br kr dr], none, []⟩, ⟨R3, some 1, 0, 4, .agg #[.bool nu, .slice au mu cu, .slice bu ku du], none, []⟩, ⟨R3, some 2, 0, 5, .agg #[.bool nv, .slice av mv cv, .slice bv kv dv], none, []⟩]) ⟨someNe, someNe, someNe, trivial⟩) (DisOld.all (bx := [⟨R3, some 0, 0, 3, .agg #[.bool nr, .slice ar mr cr, .slice br kr dr], none, []⟩, ⟨R3, some 1, 0, 4, .agg #[.bool nu, .slice au mu cu, .slice bu ku du], none, []⟩, ⟨R3, some 2, 0, 5, .agg #[.bool nv, .slice av mv cv, .slice bv kv dv], none, []⟩]) ⟨someNe, someNe, someNe, trivial⟩) ?_ ?_
  · exact ⟨.alloc 0 _ rfl rfl (.inr ⟨_, rfl, r3_cs, fun a_ hR => (hR 0 rfl).trans f0⟩) rfl rfl rfl rfl rfl,
      .alloc 1 _ rfl rfl (.inr ⟨_, rfl, r3_cs, fun a_ hR => (hR 1 rfl).trans f1⟩) rfl rfl rfl rfl rfl,
      .alloc 2 _ rfl rfl (.inr ⟨_, rfl, r3_cs, fun a_ hR => (hR 2 rfl).trans f2⟩) rfl rfl rfl rfl rfl,
      .norm 6 rfl rfl rfl (fun a_ w_ hn_ hBt hr hR hD hO hS => op_assign rfl),
      trivial⟩
  · intro a1 w1 gs1 hn1 hd1 hBt hr hR hP hX hU
    replace hn := hn1; replace hd := hd1.trans hd
    have b3 : BoxV R3 w1 (gs1 0) (.agg #[.bool nr, .slice ar mr cr, .slice br kr dr]) := (hX 0 _ rfl).2.2.2
    have f3 := (hX 0 _ rfl).1
    have u3 : w.heap.size ≤ gs1 0 := Nat.le_trans HB.size ((hX 0 _ rfl).2.2.1 (by simp))
    have b4 : BoxV R3 w1 (gs1 1) (.agg #[.bool nu, .slice au mu cu, .slice bu ku du]) := (hX 1 _ rfl).2.2.2
    have f4 := (hX 1 _ rfl).1
    have u4 : w.heap.size ≤ gs1 1 := Nat.le_trans HB.size ((hX 1 _ rfl).2.2.1 (by simp))
    have b5 : BoxV R3 w1 (gs1 2) (.agg #[.bool nv, .slice av mv cv, .slice bv kv dv]) := (hX 2 _ rfl).2.2.2
    have f5 := (hX 2 _ rfl).1
    have u5 : w.heap.size ≤ gs1 2 := Nat.le_trans HB.size ((hX 2 _ rfl).2.2.1 (by simp))
    have e6 : a1.eval (.tmp 6) = (.bool false) := hP 3 (by decide)
    have f6 := e6
    replace Ar := Ar.rl hr
    replace Sr := Sr.rl hr
    replace Dr := Dr.rl hr
    replace Au := Au.rl hr
    replace Su := Su.rl hr
    replace Du := Du.rl hr
    replace Av := Av.rl hr
    replace Sv := Sv.rl hr
    replace Dv := Dv.rl hr
    replace HB := HB.trans (hBt.below HB.size (UpOld.all (bx := [⟨R3, some 0, 0, 3, .agg #[.bool nr, .slice ar mr cr, .slice br kr dr], none, []⟩, ⟨R3, some 1, 0, 4, .agg #[.bool nu, .slice au mu cu, .slice bu ku du], none, []⟩, ⟨R3, some 2, 0, 5, .agg #[.bool nv, .slice av mv cv, .slice bv kv dv], none, []⟩]) ⟨someNe, someNe, someNe, trivial⟩))
    clear hBt hr hR hP hX hU
    refine wp_seq ?_
    refine wp_seq ?_
    refine region4 [some 8, some 9] [Eqs (.bool true), Eqs (.bool false)] [] [] (by kernel_rfl) hn rfl (by kernel_rfl) (by kernel_rfl) (by kernel_rfl) (by kernel_rfl) (by kernel_rfl) (by kernel_rfl) ⟨Eqs.mono4 _, Eqs.mono4 _, trivial⟩ ok_nil (IsOld.all (bx := []) trivial) (DisOld.all (bx := []) trivial) ?_ ?_
    · exact ⟨.norm 8 rfl rfl rfl (fun a_ w_ hn_ hBt hr hR hD hO hS => op_rawake),
        .norm 9 rfl rfl rfl (fun a_ w_ hn_ hBt hr hR hD hO hS => op_not (show a_.eval (.tmp 8) = .bool true from hD 0 rfl)),
        trivial⟩
    · intro a2 w2 gs2 hn2 hd2 hBt hr hR hP hX hU
      replace hn := hn2; replace hd := hd2.trans hd
      replace b3 := b3.keep hBt trivial
      replace b4 := b4.keep hBt trivial
      replace b5 := b5.keep hBt trivial
      replace f3 := (hR 3 rfl).trans f3
      replace f4 := (hR 4 rfl).trans f4
      replace f5 := (hR 5 rfl).trans f5
      replace f6 := (hR 6 rfl).trans f6
      have e9 : a2.eval (.tmp 9) = .bool false := hP 1 (by decide)
      have f9 := e9
      replace Ar := Ar.rl hr
      replace Sr := Sr.rl hr
      replace Dr := Dr.rl hr
      replace Au := Au.rl hr
      replace Su := Su.rl hr
      replace Du := Du.rl hr
      replace Av := Av.rl hr
      replace Sv := Sv.rl hr
      replace Dv := Dv.rl hr
      replace HB := HB.trans (hBt.below HB.size (UpOld.all (bx := []) trivial))
      clear hBt hr hR hP hX hU
      refine wp_cond_false f9 ?_
      refine wp_skip ?_
      refine wp_seq ?_
      refine wp_seq ?_
      refine region4 [some 10, some 11, some 12, some 13, some 14, some 15, some 16, some 17, some 18] [Eqs (.agg #[.bool nr, .slice ar mr cr, .slice br kr dr]), Eqs (.int .i64 (1 + (mr : Int) + (kr : Int))), Eqs (.agg #[.bool nu, .slice au mu cu, .slice bu ku du]), Eqs (.int .i64 (1 + (mu : Int) + (ku : Int))), Eqs (.int .i64 ((1 + (mr : Int) + (kr : Int)) + (1 + (mu : Int) + (ku : Int)))), Eqs (.agg #[.bool nv, .slice av mv cv, .slice bv kv dv]), Eqs (.int .i64 (1 + (mv : Int) + (kv : Int))), Eqs (.int .i64 (((1 + (mr : Int) + (kr : Int)) + (1 + (mu : Int) + (ku : Int))) + (1 + (mv : Int) + (kv : Int)))), Eqs (.bool (decide (1500 < (((1 + (mr : Int) + (kr : Int)) + (1 + (mu : Int) + (ku : Int))) + (1 + (mv : Int) + (kv : Int))))))] [] [] (by kernel_rfl) hn rfl (by kernel_rfl) (by kernel_rfl) (by kernel_rfl) (by kernel_rfl) (by kernel_rfl) (by kernel_rfl) ⟨Eqs.mono4 _, Eqs.mono4 _, Eqs.mono4 _, Eqs.mono4 _, Eqs.mono4 _, Eqs.mono4 _, Eqs.mono4 _, Eqs.mono4 _, Eqs.mono4 _, trivial⟩ ok_nil (IsOld.all (bx := []) trivial) (DisOld.all (bx := []) trivial) ?_ ?_
      · exact ⟨.norm 10 rfl rfl rfl (fun a_ w_ hn_ hBt hr hR hD hO hS => op_loadv R3ok ((hR 3 rfl).trans f3) (b3.keep hBt trivial)),
          .norm 11 rfl rfl rfl (fun a_ w_ hn_ hBt hr hR hD hO hS => op_rlen (show a_.eval (.tmp 10) = .agg #[.bool nr, .slice ar mr cr, .slice br kr dr] from hD 0 rfl) (by omega) (by omega)),
          .norm 12 rfl rfl rfl (fun a_ w_ hn_ hBt hr hR hD hO hS => op_loadv R3ok ((hR 4 rfl).trans f4) (b4.keep hBt trivial)),
          .norm 13 rfl rfl rfl (fun a_ w_ hn_ hBt hr hR hD hO hS => op_rlen (show a_.eval (.tmp 12) = .agg #[.bool nu, .slice au mu cu, .slice bu ku du] from hD 2 rfl) (by omega) (by omega)),
          .norm 14 rfl rfl rfl (fun a_ w_ hn_ hBt hr hR hD hO hS => op_plus (show a_.eval (.tmp 11) = .int .i64 (1 + (mr : Int) + (kr : Int)) from hD 1 rfl) (show a_.eval (.tmp 13) = .int .i64 (1 + (mu : Int) + (ku : Int)) from hD 3 rfl) (by omega)),
          .norm 15 rfl rfl rfl (fun a_ w_ hn_ hBt hr hR hD hO hS => op_loadv R3ok ((hR 5 rfl).trans f5) (b5.keep hBt trivial)),
          .norm 16 rfl rfl rfl (fun a_ w_ hn_ hBt hr hR hD hO hS => op_rlen (show a_.eval (.tmp 15) = .agg #[.bool nv, .slice av mv cv, .slice bv kv dv] from hD 5 rfl) (by omega) (by omega)),
          .norm 17 rfl rfl rfl (fun a_ w_ hn_ hBt hr hR hD hO hS => op_plus (show a_.eval (.tmp 14) = .int .i64 ((1 + (mr : Int) + (kr : Int)) + (1 + (mu : Int) + (ku : Int))) from hD 4 rfl) (show a_.eval (.tmp 16) = .int .i64 (1 + (mv : Int) + (kv : Int)) from hD 6 rfl) (by omega)),
          .norm 18 rfl rfl rfl (fun a_ w_ hn_ hBt hr hR hD hO hS => op_gtrk (show a_.eval (.tmp 17) = .int .i64 (((1 + (mr : Int) + (kr : Int)) + (1 + (mu : Int) + (ku : Int))) + (1 + (mv : Int) + (kv : Int))) from hD 7 rfl)),
          trivial⟩
      · intro a3 w3 gs3 hn3 hd3 hBt hr hR hP hX hU
        replace hn := hn3; replace hd := hd3.trans hd
        replace b3 := b3.keep hBt trivial
        replace b4 := b4.keep hBt trivial
        replace b5 := b5.keep hBt trivial
        replace f3 := (hR 3 rfl).trans f3
        replace f4 := (hR 4 rfl).trans f4
        replace f5 := (hR 5 rfl).trans f5
        replace f6 := (hR 6 rfl).trans f6
        have e18 : a3.eval (.tmp 18) = .bool (decide (1500 < (((1 + (mr : Int) + (kr : Int)) + (1 + (mu : Int) + (ku : Int))) + (1 + (mv : Int) + (kv : Int))))) := hP 8 (by decide)
        have f18 := e18
        replace Ar := Ar.rl hr
        replace Sr := Sr.rl hr
        replace Dr := Dr.rl hr
        replace Au := Au.rl hr
        replace Su := Su.rl hr
        replace Du := Du.rl hr
        replace Av := Av.rl hr
        replace Sv := Sv.rl hr
        replace Dv := Dv.rl hr
        replace HB := HB.trans (hBt.below HB.size (UpOld.all (bx := []) trivial))
        clear hBt hr hR hP hX hU
        refine wp_cond_split f18 (fun hc18 => ?_) (fun hc18 => ?_)
        · skip
          refine wp_seq ?_
          refine region4 [some 6] [Eqs ((.bool true))] [] [] (by kernel_rfl) hn rfl (by kernel_rfl) (by kernel_rfl) (by kernel_rfl) (by kernel_rfl) (by kernel_rfl) (by kernel_rfl) ⟨Eqs.mono4 _, trivial⟩ ok_nil (IsOld.all (bx := []) trivial) (DisOld.all (bx := []) trivial) ?_ ?_
          · exact ⟨.norm 6 rfl rfl rfl (fun a_ w_ hn_ hBt hr hR hD hO hS => op_assign rfl),
              trivial⟩
          · intro a4 w4 gs4 hn4 hd4 hBt hr hR hP hX hU
            replace hn := hn4; replace hd := hd4.trans hd
            replace b3 := b3.keep hBt trivial
            replace b4 := b4.keep hBt trivial
            replace b5 := b5.keep hBt trivial
            replace f3 := (hR 3 rfl).trans f3
            replace f4 := (hR 4 rfl).trans f4
            replace f5 := (hR 5 rfl).trans f5
            have e6 : a4.eval (.tmp 6) = (.bool true) := hP 0 (by decide)
            have f6 := e6
            replace Ar := Ar.rl hr
            replace Sr := Sr.rl hr
            replace Dr := Dr.rl hr
            replace Au := Au.rl hr
            replace Su := Su.rl hr
            replace Du := Du.rl hr
            replace Av := Av.rl hr
            replace Sv := Sv.rl hr
            replace Dv := Dv.rl hr
            replace HB := HB.trans (hBt.below HB.size (UpOld.all (bx := []) trivial))
            clear hBt hr hR hP hX hU
            refine wp_ret ?_
            repeat (first | refine then_ret ?_ | refine scope_ret ?_ | refine block_ret ?_)
            exact bodyPost_ret (v := .bool true) (res_t rfl f6) hd ⟨rfl, HB⟩
        · skip
          have hlen := of_decide_eq_false hc18
          have or := Ar.sl.parts.1; have Lr : rs.length ≤ 1500 := by omega
          have yr := Sr.parts.1; have Mr : rt.length ≤ 1500 := by omega
          have ou := Au.sl.parts.1; have Lu : us.length ≤ 1500 := by omega
          have yu := Su.parts.1; have Mu : ut.length ≤ 1500 := by omega
          have ov := Av.sl.parts.1; have Lv : vs.length ≤ 1500 := by omega
          have yv := Sv.parts.1; have Mv : vt.length ≤ 1500 := by omega
          refine wp_skip ?_
          refine wp_seq ?_
          refine region4 [some 19, some 20, some 21, some 7] [Eqs (.agg #[.bool nr, .slice ar mr cr, .slice br kr dr]), Eqs (.agg #[.bool nu, .slice au mu cu, .slice bu ku du]), Eqs (.int .i64 (cmpI (tp pr qr * tq qu) (tp pu qu * tq qr))), Eqs (.int .i64 (cmpI (tp pr qr * tq qu) (tp pu qu * tq qr)))] [] [] (by kernel_rfl) hn rfl (by kernel_rfl) (by kernel_rfl) (by kernel_rfl) (by kernel_rfl) (by kernel_rfl) (by kernel_rfl) ⟨Eqs.mono4 _, Eqs.mono4 _, Eqs.mono4 _, Eqs.mono4 _, trivial⟩ ok_nil (IsOld.all (bx := []) trivial) (DisOld.all (bx := []) trivial) ?_ ?_
          · exact ⟨.norm 19 rfl rfl rfl (fun a_ w_ hn_ hBt hr hR hD hO hS => op_loadv R3ok ((hR 3 rfl).trans f3) (b3.keep hBt trivial)),
              .norm 20 rfl rfl rfl (fun a_ w_ hn_ hBt hr hR hD hO hS => op_loadv R3ok ((hR 4 rfl).trans f4) (b4.keep hBt trivial)),
              .norm 21 rfl rfl rfl (fun a_ w_ hn_ hBt hr hR hD hO hS => op_rcmp (isr_eq (show a_.eval (.tmp 19) = .agg #[.bool nr, .slice ar mr cr, .slice br kr dr] from hD 0 rfl) (Ar.rl hr) (Sr.rl hr) Vr Lr Mr) (isr_eq (show a_.eval (.tmp 20) = .agg #[.bool nu, .slice au mu cu, .slice bu ku du] from hD 1 rfl) (Au.rl hr) (Su.rl hr) Vu Lu Mu) (by omega)),
              .norm 7 rfl rfl rfl (fun a_ w_ hn_ hBt hr hR hD hO hS => op_assign (show a_.eval (.tmp 21) = .int .i64 (cmpI (tp pr qr * tq qu) (tp pu qu * tq qr)) from hD 2 rfl)),
              trivial⟩
          · intro a5 w5 gs5 hn5 hd5 hBt hr hR hP hX hU
            replace hn := hn5; replace hd := hd5.trans hd
            replace b3 := b3.keep hBt trivial
            replace b4 := b4.keep hBt trivial
            replace b5 := b5.keep hBt trivial
            replace f3 := (hR 3 rfl).trans f3
            replace f4 := (hR 4 rfl).trans f4
            replace f5 := (hR 5 rfl).trans f5
            replace f6 := (hR 6 rfl).trans f6
            have e7 : a5.eval (.tmp 7) = .int .i64 (cmpI (tp pr qr * tq qu) (tp pu qu * tq qr)) := hP 3 (by decide)
            have f7 := e7
            replace Ar := Ar.rl hr
            replace Sr := Sr.rl hr
            replace Dr := Dr.rl hr
            replace Au := Au.rl hr
            replace Su := Su.rl hr
            replace Du := Du.rl hr
            replace Av := Av.rl hr
            replace Sv := Sv.rl hr
            replace Dv := Dv.rl hr
            replace HB := HB.trans (hBt.below HB.size (UpOld.all (bx := []) trivial))
            clear hBt hr hR hP hX hU
            refine wp_seq ?_
            refine wp_seq ?_
            refine region4 [some 22, some 23, some 24, some 25, some 26, some 27, some 28, some 29, some 30, some 31, some 32, some 33, some 34, some 35, some 36, some 37, some 38, some 39, some 40, some 41, some 42, some 43, some 44, some 45, some 46, some 47, some 48, some 49, some 50, some 51, some 52, some 53, some 54, some 55, some 56, some 57, some 58, some 59, some 60] [Eqs (.agg #[.bool nu, .slice au mu cu, .slice bu ku du]), Eqs (.agg #[.bool nr, .slice ar mr cr, .slice br kr dr]), Eqs (.int .i64 (cmpI (tp pu qu * tq qr) (tp pr qr * tq qu))), Eqs (.int .i64 (cmpI (tp pr qr * tq qu) (tp pu qu * tq qr))), Eqs (.int .i64 (-((cmpI (tp pr qr * tq qu) (tp pu qu * tq qr))))), Eqs (.bool false), Eqs (.bool false), Eqs (.agg #[.bool nr, .slice ar mr cr, .slice br kr dr]), Eqs (.agg #[.bool nv, .slice av mv cv, .slice bv kv dv]), OutR ((nm (tp pr qr * tq qv + tp pv qv * tq qr) (tq qr * tq qv))) ((dn (tp pr qr * tq qv + tp pv qv * tq qr) (tq qr * tq qv))) (3 * ((1500) + (1500) + 4) + 1), Eqs (.agg #[.bool nu, .slice au mu cu, .slice bu ku du]), Eqs (.agg #[.bool nv, .slice av mv cv, .slice bv kv dv]), OutR ((nm (tp pu qu * tq qv + tp pv qv * tq qu) (tq qu * tq qv))) ((dn (tp pu qu * tq qv + tp pv qv * tq qu) (tq qu * tq qv))) (3 * ((1500) + (1500) + 4) + 1), Eqs (.int .i64 (cmpI (tp (nm (tp pr qr * tq qv + tp pv qv * tq qr) (tq qr * tq qv)) (dn (tp pr qr * tq qv + tp pv qv * tq qr) (tq qr * tq qv)) * tq (dn (tp pu qu * tq qv + tp pv qv * tq qu) (tq qu * tq qv))) (tp (nm (tp pu qu * tq qv + tp pv qv * tq qu) (tq qu * tq qv)) (dn (tp pu qu * tq qv + tp pv qv * tq qu) (tq qu * tq qv)) * tq (dn (tp pr qr * tq qv + tp pv qv * tq qr) (tq qr * tq qv))))), Eqs (.int .i64 (cmpI (tp pr qr * tq qu) (tp pu qu * tq qr))), Eqs (.bool false), Eqs (.bool false), Eqs (.bool false), Eqs (.agg #[.bool nr, .slice ar mr cr, .slice br kr dr]), Eqs (.agg #[.bool nv, .slice av mv cv, .slice bv kv dv]), OutR ((nm (tp pr qr * tp pv qv) (tq qr * tq qv))) ((dn (tp pr qr * tp pv qv) (tq qr * tq qv))) (2 * ((1500) + (1500) + 4)), Eqs (.agg #[.bool nu, .slice au mu cu, .slice bu ku du]), Eqs (.agg #[.bool nv, .slice av mv cv, .slice bv kv dv]), OutR ((nm (tp pu qu * tp pv qv) (tq qu * tq qv))) ((dn (tp pu qu * tp pv qv) (tq qu * tq qv))) (2 * ((1500) + (1500) + 4)), Eqs (.int .i64 (cmpI (tp (nm (tp pr qr * tp pv qv) (tq qr * tq qv)) (dn (tp pr qr * tp pv qv) (tq qr * tq qv)) * tq (dn (tp pu qu * tp pv qv) (tq qu * tq qv))) (tp (nm (tp pu qu * tp pv qv) (tq qu * tq qv)) (dn (tp pu qu * tp pv qv) (tq qu * tq qv)) * tq (dn (tp pr qr * tp pv qv) (tq qr * tq qv))))), Eqs (.int .i64 (cmpI (tp pr qr * tq qu) (tp pu qu * tq qr))), Eqs (.agg #[.bool nv, .slice av mv cv, .slice bv kv dv]), Eqs (.int .i64 (Int.sign (tp pv qv))), Eqs (.int .i64 (cmpI (tp pr qr * tq qu) (tp pu qu * tq qr) * Int.sign (tp pv qv))), Eqs (.bool false), Eqs (.bool false), Eqs (.bool false), Eqs (.agg #[.bool nr, .slice ar mr cr, .slice br kr dr]), Eqs (.agg #[.bool nu, .slice au mu cu, .slice bu ku du]), OutR ((nm (tp pr qr * tq qu - tp pu qu * tq qr) (tq qr * tq qu))) ((dn (tp pr qr * tq qu - tp pu qu * tq qr) (tq qr * tq qu))) (3 * ((1500) + (1500) + 4) + 1), Eqs (.int .i64 (Int.sign (tp (nm (tp pr qr * tq qu - tp pu qu * tq qr) (tq qr * tq qu)) (dn (tp pr qr * tq qu - tp pu qu * tq qr) (tq qr * tq qu))))), Eqs (.int .i64 (cmpI (tp pr qr * tq qu) (tp pu qu * tq qr))), Eqs (.bool false), Eqs (.bool false)] [] [] (by kernel_rfl) hn rfl (by kernel_rfl) (by kernel_rfl) (by kernel_rfl) (by kernel_rfl) (by kernel_rfl) (by kernel_rfl) ⟨Eqs.mono4 _, Eqs.mono4 _, Eqs.mono4 _, Eqs.mono4 _, Eqs.mono4 _, Eqs.mono4 _, Eqs.mono4 _, Eqs.mono4 _, Eqs.mono4 _, OutR.mono4 _ _ _, Eqs.mono4 _, Eqs.mono4 _, OutR.mono4 _ _ _, Eqs.mono4 _, Eqs.mono4 _, Eqs.mono4 _, Eqs.mono4 _, Eqs.mono4 _, Eqs.mono4 _, Eqs.mono4 _, OutR.mono4 _ _ _, Eqs.mono4 _, Eqs.mono4 _, OutR.mono4 _ _ _, Eqs.mono4 _, Eqs.mono4 _, Eqs.mono4 _, Eqs.mono4 _, Eqs.mono4 _, Eqs.mono4 _, Eqs.mono4 _, Eqs.mono4 _, Eqs.mono4 _, Eqs.mono4 _, OutR.mono4 _ _ _, Eqs.mono4 _, Eqs.mono4 _, Eqs.mono4 _, Eqs.mono4 _, trivial⟩ ok_nil (IsOld.all (bx := []) trivial) (DisOld.all (bx := []) trivial) ?_ ?_
            · exact ⟨.norm 22 rfl rfl rfl (fun a_ w_ hn_ hBt hr hR hD hO hS => op_loadv R3ok ((hR 4 rfl).trans f4) (b4.keep hBt trivial)),
                .norm 23 rfl rfl rfl (fun a_ w_ hn_ hBt hr hR hD hO hS => op_loadv R3ok ((hR 3 rfl).trans f3) (b3.keep hBt trivial)),
                .norm 24 rfl rfl rfl (fun a_ w_ hn_ hBt hr hR hD hO hS => op_rcmp (isr_eq (show a_.eval (.tmp 22) = .agg #[.bool nu, .slice au mu cu, .slice bu ku du] from hD 0 rfl) (Au.rl hr) (Su.rl hr) Vu Lu Mu) (isr_eq (show a_.eval (.tmp 23) = .agg #[.bool nr, .slice ar mr cr, .slice br kr dr] from hD 1 rfl) (Ar.rl hr) (Sr.rl hr) Vr Lr Mr) (by omega)),
                .norm 25 rfl rfl rfl (fun a_ w_ hn_ hBt hr hR hD hO hS => op_mv ((hR 7 rfl).trans f7)),
                .norm 26 rfl rfl rfl (fun a_ w_ hn_ hBt hr hR hD hO hS => op_negi (show a_.eval (.tmp 25) = .int .i64 (cmpI (tp pr qr * tq qu) (tp pu qu * tq qr)) from hD 3 rfl) (cmpI_range _ _)),
                .norm 27 rfl rfl rfl (fun a_ w_ hn_ hBt hr hR hD hO hS => op_neqf (show a_.eval (.tmp 24) = .int .i64 (cmpI (tp pu qu * tq qr) (tp pr qr * tq qu)) from hD 2 rfl) (show a_.eval (.tmp 26) = .int .i64 (-((cmpI (tp pr qr * tq qu) (tp pu qu * tq qr)))) from hD 4 rfl) (ord_anti _ _)),
                .norm 28 rfl rfl rfl (fun a_ w_ hn_ hBt hr hR hD hO hS => op_mv (show a_.eval (.tmp 27) = .bool false from hD 5 rfl)),
                .norm 29 rfl rfl rfl (fun a_ w_ hn_ hBt hr hR hD hO hS => ⟨⟨_, rfl⟩, fun _ => op_loadv R3ok ((hR 3 rfl).trans f3) (b3.keep hBt trivial), fun hne => absurd (hD 6 rfl) hne⟩),
                .norm 30 rfl rfl rfl (fun a_ w_ hn_ hBt hr hR hD hO hS => ⟨⟨_, rfl⟩, fun _ => op_loadv R3ok ((hR 5 rfl).trans f5) (b5.keep hBt trivial), fun hne => absurd (hD 6 rfl) hne⟩),
                .norm 31 rfl rfl rfl (fun a_ w_ hn_ hBt hr hR hD hO hS => ⟨⟨_, rfl⟩, fun _ => op_radd (isr_eq (show a_.eval (.tmp 29) = .agg #[.bool nr, .slice ar mr cr, .slice br kr dr] from hD 7 rfl) (Ar.rl hr) (Sr.rl hr) Vr Lr Mr) (isr_eq (show a_.eval (.tmp 30) = .agg #[.bool nv, .slice av mv cv, .slice bv kv dv] from hD 8 rfl) (Av.rl hr) (Sv.rl hr) Vv Lv Mv) (by omega), fun hne => absurd (hD 6 rfl) hne⟩),
                .norm 32 rfl rfl rfl (fun a_ w_ hn_ hBt hr hR hD hO hS => ⟨⟨_, rfl⟩, fun _ => op_loadv R3ok ((hR 4 rfl).trans f4) (b4.keep hBt trivial), fun hne => absurd (hD 6 rfl) hne⟩),
                .norm 33 rfl rfl rfl (fun a_ w_ hn_ hBt hr hR hD hO hS => ⟨⟨_, rfl⟩, fun _ => op_loadv R3ok ((hR 5 rfl).trans f5) (b5.keep hBt trivial), fun hne => absurd (hD 6 rfl) hne⟩),
                .norm 34 rfl rfl rfl (fun a_ w_ hn_ hBt hr hR hD hO hS => ⟨⟨_, rfl⟩, fun _ => op_radd (isr_eq (show a_.eval (.tmp 32) = .agg #[.bool nu, .slice au mu cu, .slice bu ku du] from hD 10 rfl) (Au.rl hr) (Su.rl hr) Vu Lu Mu) (isr_eq (show a_.eval (.tmp 33) = .agg #[.bool nv, .slice av mv cv, .slice bv kv dv] from hD 11 rfl) (Av.rl hr) (Sv.rl hr) Vv Lv Mv) (by omega), fun hne => absurd (hD 6 rfl) hne⟩),
                .norm 35 rfl rfl rfl (fun a_ w_ hn_ hBt hr hR hD hO hS => ⟨⟨_, rfl⟩, fun _ => op_rcmp (show OutR ((nm (tp pr qr * tq qv + tp pv qv * tq qr) (tq qr * tq qv))) ((dn (tp pr qr * tq qv + tp pv qv * tq qr) (tq qr * tq qv))) (3 * ((1500) + (1500) + 4) + 1) (a_.eval (.tmp 31)) w_ from hD 9 rfl).is (show OutR ((nm (tp pu qu * tq qv + tp pv qv * tq qu) (tq qu * tq qv))) ((dn (tp pu qu * tq qv + tp pv qv * tq qu) (tq qu * tq qv))) (3 * ((1500) + (1500) + 4) + 1) (a_.eval (.tmp 34)) w_ from hD 12 rfl).is (by omega), fun hne => absurd (hD 6 rfl) hne⟩),
                .norm 36 rfl rfl rfl (fun a_ w_ hn_ hBt hr hR hD hO hS => ⟨⟨_, rfl⟩, fun _ => op_mv ((hR 7 rfl).trans f7), fun hne => absurd (hD 6 rfl) hne⟩),
                .norm 37 rfl rfl rfl (fun a_ w_ hn_ hBt hr hR hD hO hS => ⟨⟨_, rfl⟩, fun _ => op_neqf (show a_.eval (.tmp 35) = .int .i64 (cmpI (tp (nm (tp pr qr * tq qv + tp pv qv * tq qr) (tq qr * tq qv)) (dn (tp pr qr * tq qv + tp pv qv * tq qr) (tq qr * tq qv)) * tq (dn (tp pu qu * tq qv + tp pv qv * tq qu) (tq qu * tq qv))) (tp (nm (tp pu qu * tq qv + tp pv qv * tq qu) (tq qu * tq qv)) (dn (tp pu qu * tq qv + tp pv qv * tq qu) (tq qu * tq qv)) * tq (dn (tp pr qr * tq qv + tp pv qv * tq qr) (tq qr * tq qv)))) from hD 13 rfl) (show a_.eval (.tmp 36) = .int .i64 (cmpI (tp pr qr * tq qu) (tp pu qu * tq qr)) from hD 14 rfl) (ord_add Qr Qu Qv), fun hne => absurd (hD 6 rfl) hne⟩),
                .norm 38 rfl rfl rfl (fun a_ w_ hn_ hBt hr hR hD hO hS => op_pickb (show a_.eval (.tmp 28) = .bool false from hD 6 rfl) (show a_.eval (.tmp 37) = .bool false from hD 15 rfl)),
                .norm 39 rfl rfl rfl (fun a_ w_ hn_ hBt hr hR hD hO hS => op_mv (show a_.eval (.tmp 38) = .bool false from hD 16 rfl)),
                .norm 40 rfl rfl rfl (fun a_ w_ hn_ hBt hr hR hD hO hS => ⟨⟨_, rfl⟩, fun _ => op_loadv R3ok ((hR 3 rfl).trans f3) (b3.keep hBt trivial), fun hne => absurd (hD 17 rfl) hne⟩),
                .norm 41 rfl rfl rfl (fun a_ w_ hn_ hBt hr hR hD hO hS => ⟨⟨_, rfl⟩, fun _ => op_loadv R3ok ((hR 5 rfl).trans f5) (b5.keep hBt trivial), fun hne => absurd (hD 17 rfl) hne⟩),
                .norm 42 rfl rfl rfl (fun a_ w_ hn_ hBt hr hR hD hO hS => ⟨⟨_, rfl⟩, fun _ => op_rmul (isr_eq (show a_.eval (.tmp 40) = .agg #[.bool nr, .slice ar mr cr, .slice br kr dr] from hD 18 rfl) (Ar.rl hr) (Sr.rl hr) Vr Lr Mr) (isr_eq (show a_.eval (.tmp 41) = .agg #[.bool nv, .slice av mv cv, .slice bv kv dv] from hD 19 rfl) (Av.rl hr) (Sv.rl hr) Vv Lv Mv) (by omega), fun hne => absurd (hD 17 rfl) hne⟩),
                .norm 43 rfl rfl rfl (fun a_ w_ hn_ hBt hr hR hD hO hS => ⟨⟨_, rfl⟩, fun _ => op_loadv R3ok ((hR 4 rfl).trans f4) (b4.keep hBt trivial), fun hne => absurd (hD 17 rfl) hne⟩),
                .norm 44 rfl rfl rfl (fun a_ w_ hn_ hBt hr hR hD hO hS => ⟨⟨_, rfl⟩, fun _ => op_loadv R3ok ((hR 5 rfl).trans f5) (b5.keep hBt trivial), fun hne => absurd (hD 17 rfl) hne⟩),
                .norm 45 rfl rfl rfl (fun a_ w_ hn_ hBt hr hR hD hO hS => ⟨⟨_, rfl⟩, fun _ => op_rmul (isr_eq (show a_.eval (.tmp 43) = .agg #[.bool nu, .slice au mu cu, .slice bu ku du] from hD 21 rfl) (Au.rl hr) (Su.rl hr) Vu Lu Mu) (isr_eq (show a_.eval (.tmp 44) = .agg #[.bool nv, .slice av mv cv, .slice bv kv dv] from hD 22 rfl) (Av.rl hr) (Sv.rl hr) Vv Lv Mv) (by omega), fun hne => absurd (hD 17 rfl) hne⟩),
                .norm 46 rfl rfl rfl (fun a_ w_ hn_ hBt hr hR hD hO hS => ⟨⟨_, rfl⟩, fun _ => op_rcmp (show OutR ((nm (tp pr qr * tp pv qv) (tq qr * tq qv))) ((dn (tp pr qr * tp pv qv) (tq qr * tq qv))) (2 * ((1500) + (1500) + 4)) (a_.eval (.tmp 42)) w_ from hD 20 rfl).is (show OutR ((nm (tp pu qu * tp pv qv) (tq qu * tq qv))) ((dn (tp pu qu * tp pv qv) (tq qu * tq qv))) (2 * ((1500) + (1500) + 4)) (a_.eval (.tmp 45)) w_ from hD 23 rfl).is (by omega), fun hne => absurd (hD 17 rfl) hne⟩),
                .norm 47 rfl rfl rfl (fun a_ w_ hn_ hBt hr hR hD hO hS => ⟨⟨_, rfl⟩, fun _ => op_mv ((hR 7 rfl).trans f7), fun hne => absurd (hD 17 rfl) hne⟩),
                .norm 48 rfl rfl rfl (fun a_ w_ hn_ hBt hr hR hD hO hS => ⟨⟨_, rfl⟩, fun _ => op_loadv R3ok ((hR 5 rfl).trans f5) (b5.keep hBt trivial), fun hne => absurd (hD 17 rfl) hne⟩),
                .norm 49 rfl rfl rfl (fun a_ w_ hn_ hBt hr hR hD hO hS => ⟨⟨_, rfl⟩, fun _ => op_rsign (isr_eq (show a_.eval (.tmp 48) = .agg #[.bool nv, .slice av mv cv, .slice bv kv dv] from hD 26 rfl) (Av.rl hr) (Sv.rl hr) Vv Lv Mv) (by omega), fun hne => absurd (hD 17 rfl) hne⟩),
                .norm 50 rfl rfl rfl (fun a_ w_ hn_ hBt hr hR hD hO hS => ⟨⟨_, rfl⟩, fun _ => op_timesi (show a_.eval (.tmp 47) = .int .i64 (cmpI (tp pr qr * tq qu) (tp pu qu * tq qr)) from hD 25 rfl) (show a_.eval (.tmp 49) = .int .i64 (Int.sign (tp pv qv)) from hD 27 rfl) rfl (by rw [cmpI_sign, ← Int.sign_mul]; exact sign_three _), fun hne => absurd (hD 17 rfl) hne⟩),
                .norm 51 rfl rfl rfl (fun a_ w_ hn_ hBt hr hR hD hO hS => ⟨⟨_, rfl⟩, fun _ => op_neqf (show a_.eval (.tmp 46) = .int .i64 (cmpI (tp (nm (tp pr qr * tp pv qv) (tq qr * tq qv)) (dn (tp pr qr * tp pv qv) (tq qr * tq qv)) * tq (dn (tp pu qu * tp pv qv) (tq qu * tq qv))) (tp (nm (tp pu qu * tp pv qv) (tq qu * tq qv)) (dn (tp pu qu * tp pv qv) (tq qu * tq qv)) * tq (dn (tp pr qr * tp pv qv) (tq qr * tq qv)))) from hD 24 rfl) (show a_.eval (.tmp 50) = .int .i64 (cmpI (tp pr qr * tq qu) (tp pu qu * tq qr) * Int.sign (tp pv qv)) from hD 28 rfl) (ord_mul Qr Qu Qv), fun hne => absurd (hD 17 rfl) hne⟩),
                .norm 52 rfl rfl rfl (fun a_ w_ hn_ hBt hr hR hD hO hS => op_pickb (show a_.eval (.tmp 39) = .bool false from hD 17 rfl) (show a_.eval (.tmp 51) = .bool false from hD 29 rfl)),
                .norm 53 rfl rfl rfl (fun a_ w_ hn_ hBt hr hR hD hO hS => op_mv (show a_.eval (.tmp 52) = .bool false from hD 30 rfl)),
                .norm 54 rfl rfl rfl (fun a_ w_ hn_ hBt hr hR hD hO hS => ⟨⟨_, rfl⟩, fun _ => op_loadv R3ok ((hR 3 rfl).trans f3) (b3.keep hBt trivial), fun hne => absurd (hD 31 rfl) hne⟩),
                .norm 55 rfl rfl rfl (fun a_ w_ hn_ hBt hr hR hD hO hS => ⟨⟨_, rfl⟩, fun _ => op_loadv R3ok ((hR 4 rfl).trans f4) (b4.keep hBt trivial), fun hne => absurd (hD 31 rfl) hne⟩),
                .norm 56 rfl rfl rfl (fun a_ w_ hn_ hBt hr hR hD hO hS => ⟨⟨_, rfl⟩, fun _ => op_rsub (isr_eq (show a_.eval (.tmp 54) = .agg #[.bool nr, .slice ar mr cr, .slice br kr dr] from hD 32 rfl) (Ar.rl hr) (Sr.rl hr) Vr Lr Mr) (isr_eq (show a_.eval (.tmp 55) = .agg #[.bool nu, .slice au mu cu, .slice bu ku du] from hD 33 rfl) (Au.rl hr) (Su.rl hr) Vu Lu Mu) (by omega), fun hne => absurd (hD 31 rfl) hne⟩),
                .norm 57 rfl rfl rfl (fun a_ w_ hn_ hBt hr hR hD hO hS => ⟨⟨_, rfl⟩, fun _ => op_rsign (show OutR ((nm (tp pr qr * tq qu - tp pu qu * tq qr) (tq qr * tq qu))) ((dn (tp pr qr * tq qu - tp pu qu * tq qr) (tq qr * tq qu))) (3 * ((1500) + (1500) + 4) + 1) (a_.eval (.tmp 56)) w_ from hD 34 rfl).is (by omega), fun hne => absurd (hD 31 rfl) hne⟩),
                .norm 58 rfl rfl rfl (fun a_ w_ hn_ hBt hr hR hD hO hS => ⟨⟨_, rfl⟩, fun _ => op_mv ((hR 7 rfl).trans f7), fun hne => absurd (hD 31 rfl) hne⟩),
                .norm 59 rfl rfl rfl (fun a_ w_ hn_ hBt hr hR hD hO hS => ⟨⟨_, rfl⟩, fun _ => op_neqf (show a_.eval (.tmp 57) = .int .i64 (Int.sign (tp (nm (tp pr qr * tq qu - tp pu qu * tq qr) (tq qr * tq qu)) (dn (tp pr qr * tq qu - tp pu qu * tq qr) (tq qr * tq qu)))) from hD 35 rfl) (show a_.eval (.tmp 58) = .int .i64 (cmpI (tp pr qr * tq qu) (tp pu qu * tq qr)) from hD 36 rfl) (ord_sub Qr Qu), fun hne => absurd (hD 31 rfl) hne⟩),
                .norm 60 rfl rfl rfl (fun a_ w_ hn_ hBt hr hR hD hO hS => op_pickb (show a_.eval (.tmp 53) = .bool false from hD 31 rfl) (show a_.eval (.tmp 59) = .bool false from hD 37 rfl)),
                trivial⟩
            · intro a6 w6 gs6 hn6 hd6 hBt hr hR hP hX hU
              replace hn := hn6; replace hd := hd6.trans hd
              replace b3 := b3.keep hBt trivial
              replace b4 := b4.keep hBt trivial
              replace b5 := b5.keep hBt trivial
              replace f3 := (hR 3 rfl).trans f3
              replace f4 := (hR 4 rfl).trans f4
              replace f5 := (hR 5 rfl).trans f5
              replace f6 := (hR 6 rfl).trans f6
              replace f7 := (hR 7 rfl).trans f7
              have e60 : a6.eval (.tmp 60) = .bool false := hP 38 (by decide)
              have f60 := e60
              replace Ar := Ar.rl hr
              replace Sr := Sr.rl hr
              replace Dr := Dr.rl hr
              replace Au := Au.rl hr
              replace Su := Su.rl hr
              replace Du := Du.rl hr
              replace Av := Av.rl hr
              replace Sv := Sv.rl hr
              replace Dv := Dv.rl hr
              replace HB := HB.trans (hBt.below HB.size (UpOld.all (bx := []) trivial))
              clear hBt hr hR hP hX hU
              refine wp_cond_false f60 ?_
              refine wp_skip ?_
              by_cases hk : 0 < cmpI (tp pr qr * tq qu) (tp pu qu * tq qr)
              · skip
                refine wp_seq ?_
                refine region4 [some 61, some 62, some 63, some 64, some 65, some 66, some 67, some 68, some 69, some 70, some 71, some 72, some 73, some 74, some 75, some 76, some 77, some 78, some 79, some 80, some 81, some 82, some 83, some 84, some 6] [Eqs (.int .i64 (cmpI (tp pr qr * tq qu) (tp pu qu * tq qr))), Eqs (.bool (decide ((cmpI (tp pr qr * tq qu) (tp pu qu * tq qr)) = 0))), Eqs (.agg #[.bool nr, .slice ar mr cr, .slice br kr dr]), OutR ((nm (tp pr qr) (tq qr))) ((dn (tp pr qr) (tq qr))) (2 * ((1500) + 2)), Eqs (.agg #[.bool nu, .slice au mu cu, .slice bu ku du]), OutR ((nm (tp pu qu) (tq qu))) ((dn (tp pu qu) (tq qu))) (2 * ((1500) + 2)), Eqs (.bool (decide ((nm (tp pr qr) (tq qr)) = (nm (tp pu qu) (tq qu)) ∧ (dn (tp pr qr) (tq qr)) = (dn (tp pu qu) (tq qu))))), Eqs (.bool true), Eqs (.bool true), Eqs (.int .i64 (cmpI (tp pr qr * tq qu) (tp pu qu * tq qr))), Eqs (.bool true), Eqs (.bool true), (fun _ _ => True), (fun _ _ => True), (fun _ _ => True), (fun _ _ => True), Eqs (.bool true), Eqs (.bool true), (fun _ _ => True), (fun _ _ => True), (fun _ _ => True), (fun _ _ => True), Eqs (.bool true), Eqs (.bool true), Eqs (.bool true)] [] [] (by kernel_rfl) hn rfl (by kernel_rfl) (by kernel_rfl) (by kernel_rfl) (by kernel_rfl) (by kernel_rfl) (by kernel_rfl) ⟨Eqs.mono4 _, Eqs.mono4 _, Eqs.mono4 _, OutR.mono4 _ _ _, Eqs.mono4 _, OutR.mono4 _ _ _, Eqs.mono4 _, Eqs.mono4 _, Eqs.mono4 _, Eqs.mono4 _, Eqs.mono4 _, Eqs.mono4 _, True.mono4, True.mono4, True.mono4, True.mono4, Eqs.mono4 _, Eqs.mono4 _, True.mono4, True.mono4, True.mono4, True.mono4, Eqs.mono4 _, Eqs.mono4 _, Eqs.mono4 _, trivial⟩ ok_nil (IsOld.all (bx := []) trivial) (DisOld.all (bx := []) trivial) ?_ ?_
                · exact ⟨.norm 61 rfl rfl rfl (fun a_ w_ hn_ hBt hr hR hD hO hS => op_mv ((hR 7 rfl).trans f7)),
                    .norm 62 rfl rfl rfl (fun a_ w_ hn_ hBt hr hR hD hO hS => op_eqlk (show a_.eval (.tmp 61) = .int .i64 (cmpI (tp pr qr * tq qu) (tp pu qu * tq qr)) from hD 0 rfl)),
                    .norm 63 rfl rfl rfl (fun a_ w_ hn_ hBt hr hR hD hO hS => op_loadv R3ok ((hR 3 rfl).trans f3) (b3.keep hBt trivial)),
                    .norm 64 rfl rfl rfl (fun a_ w_ hn_ hBt hr hR hD hO hS => op_rtrim (isr_eq (show a_.eval (.tmp 63) = .agg #[.bool nr, .slice ar mr cr, .slice br kr dr] from hD 2 rfl) (Ar.rl hr) (Sr.rl hr) Vr Lr Mr) (by omega)),
                    .norm 65 rfl rfl rfl (fun a_ w_ hn_ hBt hr hR hD hO hS => op_loadv R3ok ((hR 4 rfl).trans f4) (b4.keep hBt trivial)),
                    .norm 66 rfl rfl rfl (fun a_ w_ hn_ hBt hr hR hD hO hS => op_rtrim (isr_eq (show a_.eval (.tmp 65) = .agg #[.bool nu, .slice au mu cu, .slice bu ku du] from hD 4 rfl) (Au.rl hr) (Su.rl hr) Vu Lu Mu) (by omega)),
                    .norm 67 rfl rfl rfl (fun a_ w_ hn_ hBt hr hR hD hO hS => op_samerb (show OutR ((nm (tp pr qr) (tq qr))) ((dn (tp pr qr) (tq qr))) (2 * ((1500) + 2)) (a_.eval (.tmp 64)) w_ from hD 3 rfl) (show OutR ((nm (tp pu qu) (tq qu))) ((dn (tp pu qu) (tq qu))) (2 * ((1500) + 2)) (a_.eval (.tmp 66)) w_ from hD 5 rfl)),
                    .norm 68 rfl rfl rfl (fun a_ w_ hn_ hBt hr hR hD hO hS => op_eqlbt (show a_.eval (.tmp 62) = .bool (decide ((cmpI (tp pr qr * tq qu) (tp pu qu * tq qr)) = 0)) from hD 1 rfl) (show a_.eval (.tmp 67) = .bool (decide ((nm (tp pr qr) (tq qr)) = (nm (tp pu qu) (tq qu)) ∧ (dn (tp pr qr) (tq qr)) = (dn (tp pu qu) (tq qu)))) from hD 6 rfl) (ord_same Qr Qu)),
                    .norm 69 rfl rfl rfl (fun a_ w_ hn_ hBt hr hR hD hO hS => op_mv (show a_.eval (.tmp 68) = .bool true from hD 7 rfl)),
                    .norm 70 rfl rfl rfl (fun a_ w_ hn_ hBt hr hR hD hO hS => ⟨⟨_, rfl⟩, fun _ => op_mv ((hR 7 rfl).trans f7), fun hne => absurd (hD 8 rfl) hne⟩),
                    .norm 71 rfl rfl rfl (fun a_ w_ hn_ hBt hr hR hD hO hS => ⟨⟨_, rfl⟩, fun _ => op_gtrt (show a_.eval (.tmp 70) = .int .i64 (cmpI (tp pr qr * tq qu) (tp pu qu * tq qr)) from hD 9 rfl) hk, fun hne => absurd (hD 8 rfl) hne⟩),
                    .norm 72 rfl rfl rfl (fun a_ w_ hn_ hBt hr hR hD hO hS => ⟨⟨_, rfl⟩, fun _ => op_mv (show a_.eval (.tmp 71) = .bool true from hD 10 rfl), fun hne => absurd (hD 8 rfl) hne⟩),
                    .norm 73 rfl rfl rfl (fun a_ w_ hn_ hBt hr hR hD hO hS => ⟨⟨_, rfl⟩, fun h => absurd ((show _ = Value.bool true from hD 11 rfl).symm.trans h) (by simp), fun _ => trivial⟩),
                    .norm 74 rfl rfl rfl (fun a_ w_ hn_ hBt hr hR hD hO hS => ⟨⟨_, rfl⟩, fun h => absurd ((show _ = Value.bool true from hD 11 rfl).symm.trans h) (by simp), fun _ => trivial⟩),
                    .norm 75 rfl rfl rfl (fun a_ w_ hn_ hBt hr hR hD hO hS => ⟨⟨_, rfl⟩, fun h => absurd ((show _ = Value.bool true from hD 11 rfl).symm.trans h) (by simp), fun _ => trivial⟩),
                    .norm 76 rfl rfl rfl (fun a_ w_ hn_ hBt hr hR hD hO hS => ⟨⟨_, rfl⟩, fun h => absurd ((show _ = Value.bool true from hD 11 rfl).symm.trans h) (by simp), fun _ => trivial⟩),
                    .norm 77 rfl rfl rfl (fun a_ w_ hn_ hBt hr hR hD hO hS => ⟨⟨_, rfl⟩, fun _ => op_pickb (show a_.eval (.tmp 72) = .bool true from hD 11 rfl) rfl, fun hne => absurd (hD 8 rfl) hne⟩),
                    .norm 78 rfl rfl rfl (fun a_ w_ hn_ hBt hr hR hD hO hS => ⟨⟨_, rfl⟩, fun _ => op_mv (show a_.eval (.tmp 77) = .bool true from hD 16 rfl), fun hne => absurd (hD 8 rfl) hne⟩),
                    .norm 79 rfl rfl rfl (fun a_ w_ hn_ hBt hr hR hD hO hS => ⟨⟨_, rfl⟩, fun h => absurd ((show _ = Value.bool true from hD 17 rfl).symm.trans h) (by simp), fun _ => trivial⟩),
                    .norm 80 rfl rfl rfl (fun a_ w_ hn_ hBt hr hR hD hO hS => ⟨⟨_, rfl⟩, fun h => absurd ((show _ = Value.bool true from hD 17 rfl).symm.trans h) (by simp), fun _ => trivial⟩),
                    .norm 81 rfl rfl rfl (fun a_ w_ hn_ hBt hr hR hD hO hS => ⟨⟨_, rfl⟩, fun h => absurd ((show _ = Value.bool true from hD 17 rfl).symm.trans h) (by simp), fun _ => trivial⟩),
                    .norm 82 rfl rfl rfl (fun a_ w_ hn_ hBt hr hR hD hO hS => ⟨⟨_, rfl⟩, fun h => absurd ((show _ = Value.bool true from hD 17 rfl).symm.trans h) (by simp), fun _ => trivial⟩),
                    .norm 83 rfl rfl rfl (fun a_ w_ hn_ hBt hr hR hD hO hS => ⟨⟨_, rfl⟩, fun _ => op_pickb (show a_.eval (.tmp 78) = .bool true from hD 17 rfl) rfl, fun hne => absurd (hD 8 rfl) hne⟩),
                    .norm 84 rfl rfl rfl (fun a_ w_ hn_ hBt hr hR hD hO hS => op_pickb (show a_.eval (.tmp 69) = .bool true from hD 8 rfl) (show a_.eval (.tmp 83) = .bool true from hD 22 rfl)),
                    .norm 6 rfl rfl rfl (fun a_ w_ hn_ hBt hr hR hD hO hS => op_assign (show a_.eval (.tmp 84) = .bool true from hD 23 rfl)),
                    trivial⟩
                · intro a7 w7 gs7 hn7 hd7 hBt hr hR hP hX hU
                  replace hn := hn7; replace hd := hd7.trans hd
                  have e6 : a7.eval (.tmp 6) = .bool true := hP 24 (by decide)
                  have f6 := e6
                  replace Ar := Ar.rl hr
                  replace Sr := Sr.rl hr
                  replace Dr := Dr.rl hr
                  replace Au := Au.rl hr
                  replace Su := Su.rl hr
                  replace Du := Du.rl hr
                  replace Av := Av.rl hr
                  replace Sv := Sv.rl hr
                  replace Dv := Dv.rl hr
                  replace HB := HB.trans (hBt.below HB.size (UpOld.all (bx := []) trivial))
                  clear hBt hr hR hP hX hU
                  refine wp_ret ?_
                  repeat (first | refine then_ret ?_ | refine scope_ret ?_ | refine block_ret ?_)
                  exact bodyPost_ret (v := .bool true) (res_t rfl f6) hd ⟨rfl, HB⟩
              · by_cases hk2 : 0 < cmpI (tp pu qu * tq qv) (tp pv qv * tq qu)
                · skip
                  refine wp_seq ?_
                  refine region4 [some 61, some 62, some 63, some 64, some 65, some 66, some 67, some 68, some 69, some 70, some 71, some 72, some 73, some 74, some 75, some 76, some 77, some 78, some 79, some 80, some 81, some 82, some 83, some 84, some 6] [Eqs (.int .i64 (cmpI (tp pr qr * tq qu) (tp pu qu * tq qr))), Eqs (.bool (decide ((cmpI (tp pr qr * tq qu) (tp pu qu * tq qr)) = 0))), Eqs (.agg #[.bool nr, .slice ar mr cr, .slice br kr dr]), OutR ((nm (tp pr qr) (tq qr))) ((dn (tp pr qr) (tq qr))) (2 * ((1500) + 2)), Eqs (.agg #[.bool nu, .slice au mu cu, .slice bu ku du]), OutR ((nm (tp pu qu) (tq qu))) ((dn (tp pu qu) (tq qu))) (2 * ((1500) + 2)), Eqs (.bool (decide ((nm (tp pr qr) (tq qr)) = (nm (tp pu qu) (tq qu)) ∧ (dn (tp pr qr) (tq qr)) = (dn (tp pu qu) (tq qu))))), Eqs (.bool true), Eqs (.bool true), Eqs (.int .i64 (cmpI (tp pr qr * tq qu) (tp pu qu * tq qr))), Eqs (.bool false), Eqs (.bool false), Eqs (.agg #[.bool nu, .slice au mu cu, .slice bu ku du]), Eqs (.agg #[.bool nv, .slice av mv cv, .slice bv kv dv]), Eqs (.int .i64 (cmpI (tp pu qu * tq qv) (tp pv qv * tq qu))), Eqs (.bool true), Eqs (.bool true), Eqs (.bool true), (fun _ _ => True), (fun _ _ => True), (fun _ _ => True), (fun _ _ => True), Eqs (.bool true), Eqs (.bool true), Eqs (.bool true)] [] [] (by kernel_rfl) hn rfl (by kernel_rfl) (by kernel_rfl) (by kernel_rfl) (by kernel_rfl) (by kernel_rfl) (by kernel_rfl) ⟨Eqs.mono4 _, Eqs.mono4 _, Eqs.mono4 _, OutR.mono4 _ _ _, Eqs.mono4 _, OutR.mono4 _ _ _, Eqs.mono4 _, Eqs.mono4 _, Eqs.mono4 _, Eqs.mono4 _, Eqs.mono4 _, Eqs.mono4 _, Eqs.mono4 _, Eqs.mono4 _, Eqs.mono4 _, Eqs.mono4 _, Eqs.mono4 _, Eqs.mono4 _, True.mono4, True.mono4, True.mono4, True.mono4, Eqs.mono4 _, Eqs.mono4 _, Eqs.mono4 _, trivial⟩ ok_nil (IsOld.all (bx := []) trivial) (DisOld.all (bx := []) trivial) ?_ ?_
                  · exact ⟨.norm 61 rfl rfl rfl (fun a_ w_ hn_ hBt hr hR hD hO hS => op_mv ((hR 7 rfl).trans f7)),
                      .norm 62 rfl rfl rfl (fun a_ w_ hn_ hBt hr hR hD hO hS => op_eqlk (show a_.eval (.tmp 61) = .int .i64 (cmpI (tp pr qr * tq qu) (tp pu qu * tq qr)) from hD 0 rfl)),
                      .norm 63 rfl rfl rfl (fun a_ w_ hn_ hBt hr hR hD hO hS => op_loadv R3ok ((hR 3 rfl).trans f3) (b3.keep hBt trivial)),
                      .norm 64 rfl rfl rfl (fun a_ w_ hn_ hBt hr hR hD hO hS => op_rtrim (isr_eq (show a_.eval (.tmp 63) = .agg #[.bool nr, .slice ar mr cr, .slice br kr dr] from hD 2 rfl) (Ar.rl hr) (Sr.rl hr) Vr Lr Mr) (by omega)),
                      .norm 65 rfl rfl rfl (fun a_ w_ hn_ hBt hr hR hD hO hS => op_loadv R3ok ((hR 4 rfl).trans f4) (b4.keep hBt trivial)),
                      .norm 66 rfl rfl rfl (fun a_ w_ hn_ hBt hr hR hD hO hS => op_rtrim (isr_eq (show a_.eval (.tmp 65) = .agg #[.bool nu, .slice au mu cu, .slice bu ku du] from hD 4 rfl) (Au.rl hr) (Su.rl hr) Vu Lu Mu) (by omega)),
                      .norm 67 rfl rfl rfl (fun a_ w_ hn_ hBt hr hR hD hO hS => op_samerb (show OutR ((nm (tp pr qr) (tq qr))) ((dn (tp pr qr) (tq qr))) (2 * ((1500) + 2)) (a_.eval (.tmp 64)) w_ from hD 3 rfl) (show OutR ((nm (tp pu qu) (tq qu))) ((dn (tp pu qu) (tq qu))) (2 * ((1500) + 2)) (a_.eval (.tmp 66)) w_ from hD 5 rfl)),
                      .norm 68 rfl rfl rfl (fun a_ w_ hn_ hBt hr hR hD hO hS => op_eqlbt (show a_.eval (.tmp 62) = .bool (decide ((cmpI (tp pr qr * tq qu) (tp pu qu * tq qr)) = 0)) from hD 1 rfl) (show a_.eval (.tmp 67) = .bool (decide ((nm (tp pr qr) (tq qr)) = (nm (tp pu qu) (tq qu)) ∧ (dn (tp pr qr) (tq qr)) = (dn (tp pu qu) (tq qu)))) from hD 6 rfl) (ord_same Qr Qu)),
                      .norm 69 rfl rfl rfl (fun a_ w_ hn_ hBt hr hR hD hO hS => op_mv (show a_.eval (.tmp 68) = .bool true from hD 7 rfl)),
                      .norm 70 rfl rfl rfl (fun a_ w_ hn_ hBt hr hR hD hO hS => ⟨⟨_, rfl⟩, fun _ => op_mv ((hR 7 rfl).trans f7), fun hne => absurd (hD 8 rfl) hne⟩),
                      .norm 71 rfl rfl rfl (fun a_ w_ hn_ hBt hr hR hD hO hS => ⟨⟨_, rfl⟩, fun _ => op_gtrf (show a_.eval (.tmp 70) = .int .i64 (cmpI (tp pr qr * tq qu) (tp pu qu * tq qr)) from hD 9 rfl) hk, fun hne => absurd (hD 8 rfl) hne⟩),
                      .norm 72 rfl rfl rfl (fun a_ w_ hn_ hBt hr hR hD hO hS => ⟨⟨_, rfl⟩, fun _ => op_mv (show a_.eval (.tmp 71) = .bool false from hD 10 rfl), fun hne => absurd (hD 8 rfl) hne⟩),
                      .norm 73 rfl rfl rfl (fun a_ w_ hn_ hBt hr hR hD hO hS => ⟨⟨_, rfl⟩, fun _ => op_loadv R3ok ((hR 4 rfl).trans f4) (b4.keep hBt trivial), fun hne => absurd (hD 11 rfl) hne⟩),
                      .norm 74 rfl rfl rfl (fun a_ w_ hn_ hBt hr hR hD hO hS => ⟨⟨_, rfl⟩, fun _ => op_loadv R3ok ((hR 5 rfl).trans f5) (b5.keep hBt trivial), fun hne => absurd (hD 11 rfl) hne⟩),
                      .norm 75 rfl rfl rfl (fun a_ w_ hn_ hBt hr hR hD hO hS => ⟨⟨_, rfl⟩, fun _ => op_rcmp (isr_eq (show a_.eval (.tmp 73) = .agg #[.bool nu, .slice au mu cu, .slice bu ku du] from hD 12 rfl) (Au.rl hr) (Su.rl hr) Vu Lu Mu) (isr_eq (show a_.eval (.tmp 74) = .agg #[.bool nv, .slice av mv cv, .slice bv kv dv] from hD 13 rfl) (Av.rl hr) (Sv.rl hr) Vv Lv Mv) (by omega), fun hne => absurd (hD 11 rfl) hne⟩),
                      .norm 76 rfl rfl rfl (fun a_ w_ hn_ hBt hr hR hD hO hS => ⟨⟨_, rfl⟩, fun _ => op_gtrt (show a_.eval (.tmp 75) = .int .i64 (cmpI (tp pu qu * tq qv) (tp pv qv * tq qu)) from hD 14 rfl) hk2, fun hne => absurd (hD 11 rfl) hne⟩),
                      .norm 77 rfl rfl rfl (fun a_ w_ hn_ hBt hr hR hD hO hS => ⟨⟨_, rfl⟩, fun _ => op_pickb (show a_.eval (.tmp 72) = .bool false from hD 11 rfl) (show a_.eval (.tmp 76) = .bool true from hD 15 rfl), fun hne => absurd (hD 8 rfl) hne⟩),
                      .norm 78 rfl rfl rfl (fun a_ w_ hn_ hBt hr hR hD hO hS => ⟨⟨_, rfl⟩, fun _ => op_mv (show a_.eval (.tmp 77) = .bool true from hD 16 rfl), fun hne => absurd (hD 8 rfl) hne⟩),
                      .norm 79 rfl rfl rfl (fun a_ w_ hn_ hBt hr hR hD hO hS => ⟨⟨_, rfl⟩, fun h => absurd ((show _ = Value.bool true from hD 17 rfl).symm.trans h) (by simp), fun _ => trivial⟩),
                      .norm 80 rfl rfl rfl (fun a_ w_ hn_ hBt hr hR hD hO hS => ⟨⟨_, rfl⟩, fun h => absurd ((show _ = Value.bool true from hD 17 rfl).symm.trans h) (by simp), fun _ => trivial⟩),
                      .norm 81 rfl rfl rfl (fun a_ w_ hn_ hBt hr hR hD hO hS => ⟨⟨_, rfl⟩, fun h => absurd ((show _ = Value.bool true from hD 17 rfl).symm.trans h) (by simp), fun _ => trivial⟩),
                      .norm 82 rfl rfl rfl (fun a_ w_ hn_ hBt hr hR hD hO hS => ⟨⟨_, rfl⟩, fun h => absurd ((show _ = Value.bool true from hD 17 rfl).symm.trans h) (by simp), fun _ => trivial⟩),
                      .norm 83 rfl rfl rfl (fun a_ w_ hn_ hBt hr hR hD hO hS => ⟨⟨_, rfl⟩, fun _ => op_pickb (show a_.eval (.tmp 78) = .bool true from hD 17 rfl) rfl, fun hne => absurd (hD 8 rfl) hne⟩),
                      .norm 84 rfl rfl rfl (fun a_ w_ hn_ hBt hr hR hD hO hS => op_pickb (show a_.eval (.tmp 69) = .bool true from hD 8 rfl) (show a_.eval (.tmp 83) = .bool true from hD 22 rfl)),
                      .norm 6 rfl rfl rfl (fun a_ w_ hn_ hBt hr hR hD hO hS => op_assign (show a_.eval (.tmp 84) = .bool true from hD 23 rfl)),
                      trivial⟩
                  · intro a8 w8 gs8 hn8 hd8 hBt hr hR hP hX hU
                    replace hn := hn8; replace hd := hd8.trans hd
                    have e6 : a8.eval (.tmp 6) = .bool true := hP 24 (by decide)
                    have f6 := e6
                    replace Ar := Ar.rl hr
                    replace Sr := Sr.rl hr
                    replace Dr := Dr.rl hr
                    replace Au := Au.rl hr
                    replace Su := Su.rl hr
                    replace Du := Du.rl hr
                    replace Av := Av.rl hr
                    replace Sv := Sv.rl hr
                    replace Dv := Dv.rl hr
                    replace HB := HB.trans (hBt.below HB.size (UpOld.all (bx := []) trivial))
                    clear hBt hr hR hP hX hU
                    refine wp_ret ?_
                    repeat (first | refine then_ret ?_ | refine scope_ret ?_ | refine block_ret ?_)
                    exact bodyPost_ret (v := .bool true) (res_t rfl f6) hd ⟨rfl, HB⟩
                · skip
                  refine wp_seq ?_
                  refine region4 [some 61, some 62, some 63, some 64, some 65, some 66, some 67, some 68, some 69, some 70, some 71, some 72, some 73, some 74, some 75, some 76, some 77, some 78, some 79, some 80, some 81, some 82, some 83, some 84, some 6] [Eqs (.int .i64 (cmpI (tp pr qr * tq qu) (tp pu qu * tq qr))), Eqs (.bool (decide ((cmpI (tp pr qr * tq qu) (tp pu qu * tq qr)) = 0))), Eqs (.agg #[.bool nr, .slice ar mr cr, .slice br kr dr]), OutR ((nm (tp pr qr) (tq qr))) ((dn (tp pr qr) (tq qr))) (2 * ((1500) + 2)), Eqs (.agg #[.bool nu, .slice au mu cu, .slice bu ku du]), OutR ((nm (tp pu qu) (tq qu))) ((dn (tp pu qu) (tq qu))) (2 * ((1500) + 2)), Eqs (.bool (decide ((nm (tp pr qr) (tq qr)) = (nm (tp pu qu) (tq qu)) ∧ (dn (tp pr qr) (tq qr)) = (dn (tp pu qu) (tq qu))))), Eqs (.bool true), Eqs (.bool true), Eqs (.int .i64 (cmpI (tp pr qr * tq qu) (tp pu qu * tq qr))), Eqs (.bool false), Eqs (.bool false), Eqs (.agg #[.bool nu, .slice au mu cu, .slice bu ku du]), Eqs (.agg #[.bool nv, .slice av mv cv, .slice bv kv dv]), Eqs (.int .i64 (cmpI (tp pu qu * tq qv) (tp pv qv * tq qu))), Eqs (.bool false), Eqs (.bool false), Eqs (.bool false), Eqs (.agg #[.bool nr, .slice ar mr cr, .slice br kr dr]), Eqs (.agg #[.bool nv, .slice av mv cv, .slice bv kv dv]), Eqs (.int .i64 (cmpI (tp pr qr * tq qv) (tp pv qv * tq qr))), Eqs (.bool true), Eqs (.bool true), Eqs (.bool true), Eqs (.bool true)] [] [] (by kernel_rfl) hn rfl (by kernel_rfl) (by kernel_rfl) (by kernel_rfl) (by kernel_rfl) (by kernel_rfl) (by kernel_rfl) ⟨Eqs.mono4 _, Eqs.mono4 _, Eqs.mono4 _, OutR.mono4 _ _ _, Eqs.mono4 _, OutR.mono4 _ _ _, Eqs.mono4 _, Eqs.mono4 _, Eqs.mono4 _, Eqs.mono4 _, Eqs.mono4 _, Eqs.mono4 _, Eqs.mono4 _, Eqs.mono4 _, Eqs.mono4 _, Eqs.mono4 _, Eqs.mono4 _, Eqs.mono4 _, Eqs.mono4 _, Eqs.mono4 _, Eqs.mono4 _, Eqs.mono4 _, Eqs.mono4 _, Eqs.mono4 _, Eqs.mono4 _, trivial⟩ ok_nil (IsOld.all (bx := []) trivial) (DisOld.all (bx := []) trivial) ?_ ?_
                  · exact ⟨.norm 61 rfl rfl rfl (fun a_ w_ hn_ hBt hr hR hD hO hS => op_mv ((hR 7 rfl).trans f7)),
                      .norm 62 rfl rfl rfl (fun a_ w_ hn_ hBt hr hR hD hO hS => op_eqlk (show a_.eval (.tmp 61) = .int .i64 (cmpI (tp pr qr * tq qu) (tp pu qu * tq qr)) from hD 0 rfl)),
                      .norm 63 rfl rfl rfl (fun a_ w_ hn_ hBt hr hR hD hO hS => op_loadv R3ok ((hR 3 rfl).trans f3) (b3.keep hBt trivial)),
                      .norm 64 rfl rfl rfl (fun a_ w_ hn_ hBt hr hR hD hO hS => op_rtrim (isr_eq (show a_.eval (.tmp 63) = .agg #[.bool nr, .slice ar mr cr, .slice br kr dr] from hD 2 rfl) (Ar.rl hr) (Sr.rl hr) Vr Lr Mr) (by omega)),
                      .norm 65 rfl rfl rfl (fun a_ w_ hn_ hBt hr hR hD hO hS => op_loadv R3ok ((hR 4 rfl).trans f4) (b4.keep hBt trivial)),
                      .norm 66 rfl rfl rfl (fun a_ w_ hn_ hBt hr hR hD hO hS => op_rtrim (isr_eq (show a_.eval (.tmp 65) = .agg #[.bool nu, .slice au mu cu, .slice bu ku du] from hD 4 rfl) (Au.rl hr) (Su.rl hr) Vu Lu Mu) (by omega)),
                      .norm 67 rfl rfl rfl (fun a_ w_ hn_ hBt hr hR hD hO hS => op_samerb (show OutR ((nm (tp pr qr) (tq qr))) ((dn (tp pr qr) (tq qr))) (2 * ((1500) + 2)) (a_.eval (.tmp 64)) w_ from hD 3 rfl) (show OutR ((nm (tp pu qu) (tq qu))) ((dn (tp pu qu) (tq qu))) (2 * ((1500) + 2)) (a_.eval (.tmp 66)) w_ from hD 5 rfl)),
                      .norm 68 rfl rfl rfl (fun a_ w_ hn_ hBt hr hR hD hO hS => op_eqlbt (show a_.eval (.tmp 62) = .bool (decide ((cmpI (tp pr qr * tq qu) (tp pu qu * tq qr)) = 0)) from hD 1 rfl) (show a_.eval (.tmp 67) = .bool (decide ((nm (tp pr qr) (tq qr)) = (nm (tp pu qu) (tq qu)) ∧ (dn (tp pr qr) (tq qr)) = (dn (tp pu qu) (tq qu)))) from hD 6 rfl) (ord_same Qr Qu)),
                      .norm 69 rfl rfl rfl (fun a_ w_ hn_ hBt hr hR hD hO hS => op_mv (show a_.eval (.tmp 68) = .bool true from hD 7 rfl)),
                      .norm 70 rfl rfl rfl (fun a_ w_ hn_ hBt hr hR hD hO hS => ⟨⟨_, rfl⟩, fun _ => op_mv ((hR 7 rfl).trans f7), fun hne => absurd (hD 8 rfl) hne⟩),
                      .norm 71 rfl rfl rfl (fun a_ w_ hn_ hBt hr hR hD hO hS => ⟨⟨_, rfl⟩, fun _ => op_gtrf (show a_.eval (.tmp 70) = .int .i64 (cmpI (tp pr qr * tq qu) (tp pu qu * tq qr)) from hD 9 rfl) hk, fun hne => absurd (hD 8 rfl) hne⟩),
                      .norm 72 rfl rfl rfl (fun a_ w_ hn_ hBt hr hR hD hO hS => ⟨⟨_, rfl⟩, fun _ => op_mv (show a_.eval (.tmp 71) = .bool false from hD 10 rfl), fun hne => absurd (hD 8 rfl) hne⟩),
                      .norm 73 rfl rfl rfl (fun a_ w_ hn_ hBt hr hR hD hO hS => ⟨⟨_, rfl⟩, fun _ => op_loadv R3ok ((hR 4 rfl).trans f4) (b4.keep hBt trivial), fun hne => absurd (hD 11 rfl) hne⟩),
                      .norm 74 rfl rfl rfl (fun a_ w_ hn_ hBt hr hR hD hO hS => ⟨⟨_, rfl⟩, fun _ => op_loadv R3ok ((hR 5 rfl).trans f5) (b5.keep hBt trivial), fun hne => absurd (hD 11 rfl) hne⟩),
                      .norm 75 rfl rfl rfl (fun a_ w_ hn_ hBt hr hR hD hO hS => ⟨⟨_, rfl⟩, fun _ => op_rcmp (isr_eq (show a_.eval (.tmp 73) = .agg #[.bool nu, .slice au mu cu, .slice bu ku du] from hD 12 rfl) (Au.rl hr) (Su.rl hr) Vu Lu Mu) (isr_eq (show a_.eval (.tmp 74) = .agg #[.bool nv, .slice av mv cv, .slice bv kv dv] from hD 13 rfl) (Av.rl hr) (Sv.rl hr) Vv Lv Mv) (by omega), fun hne => absurd (hD 11 rfl) hne⟩),
                      .norm 76 rfl rfl rfl (fun a_ w_ hn_ hBt hr hR hD hO hS => ⟨⟨_, rfl⟩, fun _ => op_gtrf (show a_.eval (.tmp 75) = .int .i64 (cmpI (tp pu qu * tq qv) (tp pv qv * tq qu)) from hD 14 rfl) hk2, fun hne => absurd (hD 11 rfl) hne⟩),
                      .norm 77 rfl rfl rfl (fun a_ w_ hn_ hBt hr hR hD hO hS => ⟨⟨_, rfl⟩, fun _ => op_pickb (show a_.eval (.tmp 72) = .bool false from hD 11 rfl) (show a_.eval (.tmp 76) = .bool false from hD 15 rfl), fun hne => absurd (hD 8 rfl) hne⟩),
                      .norm 78 rfl rfl rfl (fun a_ w_ hn_ hBt hr hR hD hO hS => ⟨⟨_, rfl⟩, fun _ => op_mv (show a_.eval (.tmp 77) = .bool false from hD 16 rfl), fun hne => absurd (hD 8 rfl) hne⟩),
                      .norm 79 rfl rfl rfl (fun a_ w_ hn_ hBt hr hR hD hO hS => ⟨⟨_, rfl⟩, fun _ => op_loadv R3ok ((hR 3 rfl).trans f3) (b3.keep hBt trivial), fun hne => absurd (hD 17 rfl) hne⟩),
                      .norm 80 rfl rfl rfl (fun a_ w_ hn_ hBt hr hR hD hO hS => ⟨⟨_, rfl⟩, fun _ => op_loadv R3ok ((hR 5 rfl).trans f5) (b5.keep hBt trivial), fun hne => absurd (hD 17 rfl) hne⟩),
                      .norm 81 rfl rfl rfl (fun a_ w_ hn_ hBt hr hR hD hO hS => ⟨⟨_, rfl⟩, fun _ => op_rcmp (isr_eq (show a_.eval (.tmp 79) = .agg #[.bool nr, .slice ar mr cr, .slice br kr dr] from hD 18 rfl) (Ar.rl hr) (Sr.rl hr) Vr Lr Mr) (isr_eq (show a_.eval (.tmp 80) = .agg #[.bool nv, .slice av mv cv, .slice bv kv dv] from hD 19 rfl) (Av.rl hr) (Sv.rl hr) Vv Lv Mv) (by omega), fun hne => absurd (hD 17 rfl) hne⟩),
                      .norm 82 rfl rfl rfl (fun a_ w_ hn_ hBt hr hR hD hO hS => ⟨⟨_, rfl⟩, fun _ => op_leqt (show a_.eval (.tmp 81) = .int .i64 (cmpI (tp pr qr * tq qv) (tp pv qv * tq qr)) from hD 20 rfl) (ord_trans Qr Qu Qv hk hk2), fun hne => absurd (hD 17 rfl) hne⟩),
                      .norm 83 rfl rfl rfl (fun a_ w_ hn_ hBt hr hR hD hO hS => ⟨⟨_, rfl⟩, fun _ => op_pickb (show a_.eval (.tmp 78) = .bool false from hD 17 rfl) (show a_.eval (.tmp 82) = .bool true from hD 21 rfl), fun hne => absurd (hD 8 rfl) hne⟩),
                      .norm 84 rfl rfl rfl (fun a_ w_ hn_ hBt hr hR hD hO hS => op_pickb (show a_.eval (.tmp 69) = .bool true from hD 8 rfl) (show a_.eval (.tmp 83) = .bool true from hD 22 rfl)),
                      .norm 6 rfl rfl rfl (fun a_ w_ hn_ hBt hr hR hD hO hS => op_assign (show a_.eval (.tmp 84) = .bool true from hD 23 rfl)),
                      trivial⟩
                  · intro a9 w9 gs9 hn9 hd9 hBt hr hR hP hX hU
                    replace hn := hn9; replace hd := hd9.trans hd
                    have e6 : a9.eval (.tmp 6) = .bool true := hP 24 (by decide)
                    have f6 := e6
                    replace Ar := Ar.rl hr
                    replace Sr := Sr.rl hr
                    replace Dr := Dr.rl hr
                    replace Au := Au.rl hr
                    replace Su := Su.rl hr
                    replace Du := Du.rl hr
                    replace Av := Av.rl hr
                    replace Sv := Sv.rl hr
                    replace Dv := Dv.rl hr
                    replace HB := HB.trans (hBt.below HB.size (UpOld.all (bx := []) trivial))
                    clear hBt hr hR hP hX hU
                    refine wp_ret ?_
                    repeat (first | refine then_ret ?_ | refine scope_ret ?_ | refine block_ret ?_)
                    exact bodyPost_ret (v := .bool true) (res_t rfl f6) hd ⟨rfl, HB⟩

end Lm
end Go.Proofs.Ytkdcgnooeojjgac

namespace Go.Proofs.Ytkdcgnooeojjgac
namespace ratioOrderLaw
open Go.ChangeShapes Go.WideShapes Go.ChangeAt Go.RowKit
open Go.ChangeMaps (open_string shut_string)

theorem own : ownKnob Try.prog.godebug = none := by kernel_rfl
theorem laidOut : laidOutB Try.prog = true := by kernel_rfl
theorem bytes4 : Try.prog.bytesOf 32 = 4 := by kernel_rfl

theorem sl_of {w : World} {x : Addr} {l c : Nat} {zs : List Int} (hl : l ≤ c) (hm : c ≤ maxLen) (hz : zs.length = c) (hcell : ∀ i, i < zs.length → w.cell? (x.add i) = some (.int .u32 (zs.getD i 0))) (hwz : ∀ n ∈ zs, (Lit.int .u32 n).wf = true) : Lm.Sl w (.slice (some x) l c) (zs.take l) := by
  have hll : (zs.take l).length = l := by rw [List.length_take]; omega
  refine ⟨some x, c, by rw [hll], by omega, hm, fun n hn => ?_, ?_⟩
  · have := bounds_u32 (hwz n (List.mem_of_mem_take hn))
    omega
  · by_cases h0 : l = 0
    · exact .inl (List.eq_nil_of_length_eq_zero (by omega))
    · obtain ⟨b, off, spot⟩ := x
      have h1 := hcell 0 (by omega)
      have hspot : spot = none := by simpa [Addr.add] using World.cell?_spot h1
      subst hspot
      refine .inr ⟨b, off, rfl, fun i hi => ?_⟩
      have h2 := hcell i (by omega)
      rw [Lm.getD_take _ _ _ (by omega)]
      have e : (⟨b, off, none⟩ : Addr).add i = ⟨b, off + i, none⟩ := by
        by_cases hi0 : i = 0
        · subst hi0; simp [Addr.add]
        · simp [Addr.add, hi0]
      rwa [e] at h2

set_option linter.unusedVariables false in
set_option maxRecDepth 100000 in
theorem lifted (os : Os) (started : os.Started) (H : Type) (enc : TypeId × Value → H) :
    ReturnsInHanded {} Try.checked os 4 .any (Rows.ratioOrderSpec.pre6 enc Try.prog Try.f4 Rows.ratioOrderRow.domain false) (Rows.ratioOrderSpec.post enc Try.prog Try.f4 false true false false) := by
  refine returnsInHanded_of_change_sized (C := Try.checked) own started (by kernel_rfl) Try.func4
    (ChangeSpec.witness6 (enc := enc) (C := Try.checked) false ⟨#[], #[.agg #[.bool false, .slice none 0 0, .slice none 0 0], .agg #[.bool false, .slice none 0 0, .slice none 0 0], .agg #[.bool false, .slice none 0 0, .slice none 0 0]], []⟩ 8 (by kernel_rfl) (by kernel_rfl) (by kernel_rfl) (by kernel_rfl)) ?_
  intro W base args ds gs before hval0 hW hcnd hsz0 _
  have hval : ∀ (j : Nat) t v, Try.f4.params[j]? = some t → args[j]? = some v → Value.okWide Try.prog W .any base t v := hval0
  have hW' := hW
  obtain ⟨p, q, hA0, hV, rfl, hfz, hnd⟩ := hW
  have hA : DataW.TrodAll enc Try.prog W 0 (fun _ => true) true Try.f4.params.toList args.toList ds p := hA0
  have hsz : (DataW.weightsEach Try.prog (Try.f4.params.toList ++ Rows.ratioOrderSpec.plain.varTypes Try.prog) (ds ++ gs)).all (· ≤ reachBytes) = true := hsz0
  rw [Try.params4] at hA hval hsz
  obtain ⟨v0, vs0, d0, ds0, p0, q0, hargs, rfl, rfl, h0, r0⟩ := trodAll_cons hA
  obtain ⟨v1, vs1, d1, ds1, p1, q1, rfl, rfl, rfl, h1, r1⟩ := trodAll_cons r0
  obtain ⟨v2, vs2, d2, ds2, p2, q2, rfl, rfl, rfl, h2, r2⟩ := trodAll_cons r1
  obtain ⟨rfl, rfl, rfl⟩ := trodAll_nil r2
  obtain rfl : args = #[v0, v1, v2] := by cases args; simp_all
  obtain ⟨rfl, rfl⟩ := trodVars_none hV
  have k0 := h0
  have lt0 : ∀ x ∈ p0, x.block < W.heap.size := by obtain ⟨m, hm⟩ := k0; exact DataW.trod_lt m _ _ _ hm
  obtain ⟨g0, a0, len0, cap0, z0, e0, l0, c0, y0, hv0, w0, b0, u0, m0⟩ : ∃ ng ao n cap zs bo m dap ys, v0 = .agg #[.bool ng, .slice ao n cap, .slice bo m dap] ∧ Lm.Sl W (.slice ao n cap) zs ∧ n ≤ 35184372088832 ∧ Lm.Sl W (.slice bo m dap) ys ∧ m ≤ 35184372088832 := by
    obtain ⟨cs, hv, hsz2⟩ := okWide_struct Try.underlying28 (hval 0 28 v0 rfl rfl)
    obtain ⟨c0, c1, c2, rfl⟩ := Go.Joins.array3 (hsz2.trans (by kernel_rfl : Try.prog.cellsOf 28 = 3))
    subst hv
    obtain ⟨fuel, hf⟩ := h0
    obtain ⟨y0, y1, n, hx, _, t0, t1⟩ := trod_struct2 Try.underlying28 hf
    obtain ⟨z0, z1, n2, hx2, _, s0, s1⟩ := trod_struct2 Try.underlying24 t0
    have kW : Try.prog.cellsOf 24 = 2 := by kernel_rfl
    have kS : Try.prog.cellsOf 22 = 1 := by kernel_rfl
    have kB : Try.prog.cellsOf 4 = 1 := by kernel_rfl
    have s0' : DataW.trod enc Try.prog W 0 (fun _ => true) true n2 4 [c0] = some z0 := by simpa [Value.cells, kW, kB] using s0
    have s1' : DataW.trod enc Try.prog W 0 (fun _ => true) true n2 22 [c1] = some z1 := by simpa [Value.cells, kW, kS] using s1
    have t1' : DataW.trod enc Try.prog W 0 (fun _ => true) true n 22 [c2] = some y1 := by simpa [Value.cells, kS] using t1
    have hd : d0 = .agg [.agg [z0.1, z1.1], y1.1] := by
      have h1 := congrArg Prod.fst hx
      have h2 := congrArg Prod.fst hx2
      simp only at h1 h2
      rw [h1, h2]
    clear s0 s1 t1 t0 hx hx2 hf
    obtain ⟨b, hb0, _⟩ := DataW.trod_bool Try.underlying4 s0'
    obtain rfl : c0 = .bool b := by simpa using hb0
    have num : ∃ ao n cap zs, c1 = .slice ao n cap ∧ Lm.Sl W (.slice ao n cap) zs ∧ n ≤ 35184372088832 := by
      rcases open_ints Try.underlying22 Try.underlying32 (by kernel_rfl) s1' with ⟨hcs, _⟩ | ⟨x, l, c, zs, hcs, _, hl, hm, hz, hx, hcell, hwz⟩
      · obtain rfl : c1 = .slice none 0 0 := by simpa using hcs
        exact ⟨none, 0, 0, [], rfl, ⟨none, 0, rfl, Nat.le_refl _, by simp [maxLen], Lm.limb_nil, .inl rfl⟩, by omega⟩
      · obtain rfl : c1 = .slice (some x) l c := by simpa using hcs
        have hz' : zs.length = c := by simpa using hz
        have hx1 : z1.1 = .slice (lits .u32 (zs.take l)) (lits .u32 (zs.drop l)) := congrArg Prod.fst hx
        refine ⟨some x, l, c, _, rfl, sl_of hl hm hz' hcell hwz, ?_⟩
        have hs := List.all_eq_true.1 hsz _ (DataW.weights_mem_each (j := 0) (t := 28) rfl (congrArg some hd) (((lits .u32 (zs.take l) : List (DataW H)).length + (lits .u32 (zs.drop l) : List (DataW H)).length) * Try.prog.bytesOf 32) (by rw [hx1]; simp [DataW.weights, DataW.weightsEach, Try.underlying28, Try.underlying24, Try.underlying22]))
        rw [bytes4] at hs
        simp only [lits, List.length_map, List.length_take, List.length_drop, reachBytes, decide_eq_true_eq] at hs
        omega
    have den : ∃ ao n cap zs, c2 = .slice ao n cap ∧ Lm.Sl W (.slice ao n cap) zs ∧ n ≤ 35184372088832 := by
      rcases open_ints Try.underlying22 Try.underlying32 (by kernel_rfl) t1' with ⟨hcs, _⟩ | ⟨x, l, c, zs, hcs, _, hl, hm, hz, hx, hcell, hwz⟩
      · obtain rfl : c2 = .slice none 0 0 := by simpa using hcs
        exact ⟨none, 0, 0, [], rfl, ⟨none, 0, rfl, Nat.le_refl _, by simp [maxLen], Lm.limb_nil, .inl rfl⟩, by omega⟩
      · obtain rfl : c2 = .slice (some x) l c := by simpa using hcs
        have hz' : zs.length = c := by simpa using hz
        have hx1 : y1.1 = .slice (lits .u32 (zs.take l)) (lits .u32 (zs.drop l)) := congrArg Prod.fst hx
        refine ⟨some x, l, c, _, rfl, sl_of hl hm hz' hcell hwz, ?_⟩
        have hs := List.all_eq_true.1 hsz _ (DataW.weights_mem_each (j := 0) (t := 28) rfl (congrArg some hd) (((lits .u32 (zs.take l) : List (DataW H)).length + (lits .u32 (zs.drop l) : List (DataW H)).length) * Try.prog.bytesOf 32) (by rw [hx1]; simp [DataW.weights, DataW.weightsEach, Try.underlying28, Try.underlying24, Try.underlying22]))
        rw [bytes4] at hs
        simp only [lits, List.length_map, List.length_take, List.length_drop, reachBytes, decide_eq_true_eq] at hs
        omega
    obtain ⟨ao, n1, cap, zs, rfl, hS1, hn1⟩ := num
    obtain ⟨bo, m1, dap, ys, rfl, hS2, hn2⟩ := den
    exact ⟨b, ao, n1, cap, zs, bo, m1, dap, ys, rfl, hS1, hn1, hS2, hn2⟩
  subst hv0
  have k1 := h1
  have lt1 : ∀ x ∈ p1, x.block < W.heap.size := by obtain ⟨m, hm⟩ := k1; exact DataW.trod_lt m _ _ _ hm
  obtain ⟨g1, a1, len1, cap1, z1, e1, l1, c1, y1, hv1, w1, b1, u1, m1⟩ : ∃ ng ao n cap zs bo m dap ys, v1 = .agg #[.bool ng, .slice ao n cap, .slice bo m dap] ∧ Lm.Sl W (.slice ao n cap) zs ∧ n ≤ 35184372088832 ∧ Lm.Sl W (.slice bo m dap) ys ∧ m ≤ 35184372088832 := by
    obtain ⟨cs, hv, hsz2⟩ := okWide_struct Try.underlying28 (hval 1 28 v1 rfl rfl)
    obtain ⟨c0, c1, c2, rfl⟩ := Go.Joins.array3 (hsz2.trans (by kernel_rfl : Try.prog.cellsOf 28 = 3))
    subst hv
    obtain ⟨fuel, hf⟩ := h1
    obtain ⟨y0, y1, n, hx, _, t0, t1⟩ := trod_struct2 Try.underlying28 hf
    obtain ⟨z0, z1, n2, hx2, _, s0, s1⟩ := trod_struct2 Try.underlying24 t0
    have kW : Try.prog.cellsOf 24 = 2 := by kernel_rfl
    have kS : Try.prog.cellsOf 22 = 1 := by kernel_rfl
    have kB : Try.prog.cellsOf 4 = 1 := by kernel_rfl
    have s0' : DataW.trod enc Try.prog W 0 (fun _ => true) true n2 4 [c0] = some z0 := by simpa [Value.cells, kW, kB] using s0
    have s1' : DataW.trod enc Try.prog W 0 (fun _ => true) true n2 22 [c1] = some z1 := by simpa [Value.cells, kW, kS] using s1
    have t1' : DataW.trod enc Try.prog W 0 (fun _ => true) true n 22 [c2] = some y1 := by simpa [Value.cells, kS] using t1
    have hd : d1 = .agg [.agg [z0.1, z1.1], y1.1] := by
      have h1 := congrArg Prod.fst hx
      have h2 := congrArg Prod.fst hx2
      simp only at h1 h2
      rw [h1, h2]
    clear s0 s1 t1 t0 hx hx2 hf
    obtain ⟨b, hb0, _⟩ := DataW.trod_bool Try.underlying4 s0'
    obtain rfl : c0 = .bool b := by simpa using hb0
    have num : ∃ ao n cap zs, c1 = .slice ao n cap ∧ Lm.Sl W (.slice ao n cap) zs ∧ n ≤ 35184372088832 := by
      rcases open_ints Try.underlying22 Try.underlying32 (by kernel_rfl) s1' with ⟨hcs, _⟩ | ⟨x, l, c, zs, hcs, _, hl, hm, hz, hx, hcell, hwz⟩
      · obtain rfl : c1 = .slice none 0 0 := by simpa using hcs
        exact ⟨none, 0, 0, [], rfl, ⟨none, 0, rfl, Nat.le_refl _, by simp [maxLen], Lm.limb_nil, .inl rfl⟩, by omega⟩
      · obtain rfl : c1 = .slice (some x) l c := by simpa using hcs
        have hz' : zs.length = c := by simpa using hz
        have hx1 : z1.1 = .slice (lits .u32 (zs.take l)) (lits .u32 (zs.drop l)) := congrArg Prod.fst hx
        refine ⟨some x, l, c, _, rfl, sl_of hl hm hz' hcell hwz, ?_⟩
        have hs := List.all_eq_true.1 hsz _ (DataW.weights_mem_each (j := 1) (t := 28) rfl (congrArg some hd) (((lits .u32 (zs.take l) : List (DataW H)).length + (lits .u32 (zs.drop l) : List (DataW H)).length) * Try.prog.bytesOf 32) (by rw [hx1]; simp [DataW.weights, DataW.weightsEach, Try.underlying28, Try.underlying24, Try.underlying22]))
        rw [bytes4] at hs
        simp only [lits, List.length_map, List.length_take, List.length_drop, reachBytes, decide_eq_true_eq] at hs
        omega
    have den : ∃ ao n cap zs, c2 = .slice ao n cap ∧ Lm.Sl W (.slice ao n cap) zs ∧ n ≤ 35184372088832 := by
      rcases open_ints Try.underlying22 Try.underlying32 (by kernel_rfl) t1' with ⟨hcs, _⟩ | ⟨x, l, c, zs, hcs, _, hl, hm, hz, hx, hcell, hwz⟩
      · obtain rfl : c2 = .slice none 0 0 := by simpa using hcs
        exact ⟨none, 0, 0, [], rfl, ⟨none, 0, rfl, Nat.le_refl _, by simp [maxLen], Lm.limb_nil, .inl rfl⟩, by omega⟩
      · obtain rfl : c2 = .slice (some x) l c := by simpa using hcs
        have hz' : zs.length = c := by simpa using hz
        have hx1 : y1.1 = .slice (lits .u32 (zs.take l)) (lits .u32 (zs.drop l)) := congrArg Prod.fst hx
        refine ⟨some x, l, c, _, rfl, sl_of hl hm hz' hcell hwz, ?_⟩
        have hs := List.all_eq_true.1 hsz _ (DataW.weights_mem_each (j := 1) (t := 28) rfl (congrArg some hd) (((lits .u32 (zs.take l) : List (DataW H)).length + (lits .u32 (zs.drop l) : List (DataW H)).length) * Try.prog.bytesOf 32) (by rw [hx1]; simp [DataW.weights, DataW.weightsEach, Try.underlying28, Try.underlying24, Try.underlying22]))
        rw [bytes4] at hs
        simp only [lits, List.length_map, List.length_take, List.length_drop, reachBytes, decide_eq_true_eq] at hs
        omega
    obtain ⟨ao, n1, cap, zs, rfl, hS1, hn1⟩ := num
    obtain ⟨bo, m1, dap, ys, rfl, hS2, hn2⟩ := den
    exact ⟨b, ao, n1, cap, zs, bo, m1, dap, ys, rfl, hS1, hn1, hS2, hn2⟩
  subst hv1
  have k2 := h2
  have lt2 : ∀ x ∈ p2, x.block < W.heap.size := by obtain ⟨m, hm⟩ := k2; exact DataW.trod_lt m _ _ _ hm
  obtain ⟨g2, a2, len2, cap2, z2, e2, l2, c2, y2, hv2, w2, b2, u2, m2⟩ : ∃ ng ao n cap zs bo m dap ys, v2 = .agg #[.bool ng, .slice ao n cap, .slice bo m dap] ∧ Lm.Sl W (.slice ao n cap) zs ∧ n ≤ 35184372088832 ∧ Lm.Sl W (.slice bo m dap) ys ∧ m ≤ 35184372088832 := by
    obtain ⟨cs, hv, hsz2⟩ := okWide_struct Try.underlying28 (hval 2 28 v2 rfl rfl)
    obtain ⟨c0, c1, c2, rfl⟩ := Go.Joins.array3 (hsz2.trans (by kernel_rfl : Try.prog.cellsOf 28 = 3))
    subst hv
    obtain ⟨fuel, hf⟩ := h2
    obtain ⟨y0, y1, n, hx, _, t0, t1⟩ := trod_struct2 Try.underlying28 hf
    obtain ⟨z0, z1, n2, hx2, _, s0, s1⟩ := trod_struct2 Try.underlying24 t0
    have kW : Try.prog.cellsOf 24 = 2 := by kernel_rfl
    have kS : Try.prog.cellsOf 22 = 1 := by kernel_rfl
    have kB : Try.prog.cellsOf 4 = 1 := by kernel_rfl
    have s0' : DataW.trod enc Try.prog W 0 (fun _ => true) true n2 4 [c0] = some z0 := by simpa [Value.cells, kW, kB] using s0
    have s1' : DataW.trod enc Try.prog W 0 (fun _ => true) true n2 22 [c1] = some z1 := by simpa [Value.cells, kW, kS] using s1
    have t1' : DataW.trod enc Try.prog W 0 (fun _ => true) true n 22 [c2] = some y1 := by simpa [Value.cells, kS] using t1
    have hd : d2 = .agg [.agg [z0.1, z1.1], y1.1] := by
      have h1 := congrArg Prod.fst hx
      have h2 := congrArg Prod.fst hx2
      simp only at h1 h2
      rw [h1, h2]
    clear s0 s1 t1 t0 hx hx2 hf
    obtain ⟨b, hb0, _⟩ := DataW.trod_bool Try.underlying4 s0'
    obtain rfl : c0 = .bool b := by simpa using hb0
    have num : ∃ ao n cap zs, c1 = .slice ao n cap ∧ Lm.Sl W (.slice ao n cap) zs ∧ n ≤ 35184372088832 := by
      rcases open_ints Try.underlying22 Try.underlying32 (by kernel_rfl) s1' with ⟨hcs, _⟩ | ⟨x, l, c, zs, hcs, _, hl, hm, hz, hx, hcell, hwz⟩
      · obtain rfl : c1 = .slice none 0 0 := by simpa using hcs
        exact ⟨none, 0, 0, [], rfl, ⟨none, 0, rfl, Nat.le_refl _, by simp [maxLen], Lm.limb_nil, .inl rfl⟩, by omega⟩
      · obtain rfl : c1 = .slice (some x) l c := by simpa using hcs
        have hz' : zs.length = c := by simpa using hz
        have hx1 : z1.1 = .slice (lits .u32 (zs.take l)) (lits .u32 (zs.drop l)) := congrArg Prod.fst hx
        refine ⟨some x, l, c, _, rfl, sl_of hl hm hz' hcell hwz, ?_⟩
        have hs := List.all_eq_true.1 hsz _ (DataW.weights_mem_each (j := 2) (t := 28) rfl (congrArg some hd) (((lits .u32 (zs.take l) : List (DataW H)).length + (lits .u32 (zs.drop l) : List (DataW H)).length) * Try.prog.bytesOf 32) (by rw [hx1]; simp [DataW.weights, DataW.weightsEach, Try.underlying28, Try.underlying24, Try.underlying22]))
        rw [bytes4] at hs
        simp only [lits, List.length_map, List.length_take, List.length_drop, reachBytes, decide_eq_true_eq] at hs
        omega
    have den : ∃ ao n cap zs, c2 = .slice ao n cap ∧ Lm.Sl W (.slice ao n cap) zs ∧ n ≤ 35184372088832 := by
      rcases open_ints Try.underlying22 Try.underlying32 (by kernel_rfl) t1' with ⟨hcs, _⟩ | ⟨x, l, c, zs, hcs, _, hl, hm, hz, hx, hcell, hwz⟩
      · obtain rfl : c2 = .slice none 0 0 := by simpa using hcs
        exact ⟨none, 0, 0, [], rfl, ⟨none, 0, rfl, Nat.le_refl _, by simp [maxLen], Lm.limb_nil, .inl rfl⟩, by omega⟩
      · obtain rfl : c2 = .slice (some x) l c := by simpa using hcs
        have hz' : zs.length = c := by simpa using hz
        have hx1 : y1.1 = .slice (lits .u32 (zs.take l)) (lits .u32 (zs.drop l)) := congrArg Prod.fst hx
        refine ⟨some x, l, c, _, rfl, sl_of hl hm hz' hcell hwz, ?_⟩
        have hs := List.all_eq_true.1 hsz _ (DataW.weights_mem_each (j := 2) (t := 28) rfl (congrArg some hd) (((lits .u32 (zs.take l) : List (DataW H)).length + (lits .u32 (zs.drop l) : List (DataW H)).length) * Try.prog.bytesOf 32) (by rw [hx1]; simp [DataW.weights, DataW.weightsEach, Try.underlying28, Try.underlying24, Try.underlying22]))
        rw [bytes4] at hs
        simp only [lits, List.length_map, List.length_take, List.length_drop, reachBytes, decide_eq_true_eq] at hs
        omega
    obtain ⟨ao, n1, cap, zs, rfl, hS1, hn1⟩ := num
    obtain ⟨bo, m1, dap, ys, rfl, hS2, hn2⟩ := den
    exact ⟨b, ao, n1, cap, zs, bo, m1, dap, ys, rfl, hS1, hn1, hS2, hn2⟩
  subst hv2
  clear hA0 hval0
  refine (Lm.rorder_law W g0 a0 len0 cap0 z0 _ e0 l0 c0 y0 _ g1 a1 len1 cap1 z1 _ e1 l1 c1 y1 _ g2 a2 len2 cap2 z2 _ e2 l2 c2 y2 _ ⟨w0, rfl⟩ u0 rfl ⟨w1, rfl⟩ u1 rfl ⟨w2, rfl⟩ u2 rfl b0 m0 b1 m1 b2 m2).mono fun e W' ⟨he, bel⟩ => ?_
  subst he
  exact ⟨_, rfl, _, _, _, [], _, [], hW', trodAll_mk1 (shut_bool Try.underlying4 _), (trodAll_cons_mk (Below.trod laidOut (by kernel_rfl) (of_decide_eq_true (by kernel_rfl)) k0 bel lt0) (trodAll_cons_mk (Below.trod laidOut (by kernel_rfl) (of_decide_eq_true (by kernel_rfl)) k1 bel lt1) (trodAll_cons_mk (Below.trod laidOut (by kernel_rfl) (of_decide_eq_true (by kernel_rfl)) k2 bel lt2) trodAll_mk0))), rfl, bel.frame _, fun h => by cases h⟩

theorem over : Rows.ratioOrderRow.holds Try.pinned (OpenSpec.ofChange Rows.ratioOrderSpec) :=
  OpenClaim.holds_of_wide 4 Try.f4 rfl rfl rfl rfl rfl rfl rfl ⟨rfl, rfl, rfl, rfl, rfl⟩ rfl rfl rfl rfl rfl (by kernel_rfl) Try.func4 (by kernel_rfl)
    (of_decide_eq_true (by kernel_rfl)) (by unfold Func.isWrapper; first | (rw [if_pos (by decide +kernel)]; kernel_rfl) | (rw [if_neg (by decide +kernel)]; exact ⟨rfl, rfl⟩))
    (fun os started H enc _ => lifted os started H enc)
end ratioOrderLaw

theorem ratioOrder_holds : Rows.RatioOrderSaid := ratioOrderLaw.over
#print axioms ratioOrder_holds
end Go.Proofs.Ytkdcgnooeojjgac
