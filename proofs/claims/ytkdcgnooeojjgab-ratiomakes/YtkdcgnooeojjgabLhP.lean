/-
  Plain facts on Lehmer's steps: what the upper bits tell of two numbers. No program is named here.
-/
import Derived.Test.YtkdcgnooeojjgabDivL
namespace Go.Proofs.Ytkdcgnooeojjgab
namespace Lm

/-- What stands ahead of a step: the factors' signs, and what they make of the upper bits and of the numbers. -/
structure Lh (x0 y0 X Y a b c d x y : Int) : Prop where
  ex : x = a * x0 + b * y0
  ey : y = c * x0 + d * y0
  sig : (0 ≤ a ∧ b ≤ 0 ∧ c ≤ 0 ∧ 0 ≤ d ∧ d * x - b * y = x0 ∧ a * y - c * x = y0) ∨ (a ≤ 0 ∧ 0 ≤ b ∧ 0 ≤ c ∧ d ≤ 0 ∧ b * y - d * x = x0 ∧ c * x - a * y = y0)
  xa : 0 ≤ x + a
  xb : 0 ≤ x + b
  yc : 0 ≤ y + c
  yd : 0 ≤ y + d
  x1 : 1 ≤ x
  y0' : 0 ≤ y
  ba : -1073741824 ≤ a ∧ a ≤ 1073741824
  bb : -1073741824 ≤ b ∧ b ≤ 1073741824
  bc : -1073741824 ≤ c ∧ c ≤ 1073741824
  bd : -1073741824 ≤ d ∧ d ≤ 1073741824
  bx : x < 1073741824
  by' : y < 1073741824
  le : c * X + d * Y ≤ a * X + b * Y
  nn : 0 ≤ c * X + d * Y
  top : a * X + b * Y ≤ X
  low : c * X + d * Y ≤ Y
  bz : b ≠ 0 → c * X + d * Y < Y
  gcd : Int.gcd (a * X + b * Y) (c * X + d * Y) = Int.gcd X Y

theorem mul_le {a b c : Int} (h : a ≤ b) (hc : 0 ≤ c) : a * c ≤ b * c := Int.mul_le_mul_of_nonneg_right h hc

/-- The number that the factors make lies between the two bounds. -/
theorem lh_between {x0 y0 X Y L a b x : Int} (hX : x0 * L ≤ X) (hX2 : X ≤ (x0 + 1) * L) (hY : y0 * L ≤ Y) (hY2 : Y ≤ (y0 + 1) * L) (ex : x = a * x0 + b * y0) (ha : 0 ≤ a) (hb : b ≤ 0) :
    (x + b) * L ≤ a * X + b * Y ∧ a * X + b * Y ≤ (x + a) * L := by
  have e1 : a * (x0 * L) ≤ a * X := Int.mul_le_mul_of_nonneg_left hX ha
  have e2 : a * X ≤ a * ((x0 + 1) * L) := Int.mul_le_mul_of_nonneg_left hX2 ha
  have e3 : (-b) * (y0 * L) ≤ (-b) * Y := Int.mul_le_mul_of_nonneg_left hY (by omega)
  have e4 : (-b) * Y ≤ (-b) * ((y0 + 1) * L) := Int.mul_le_mul_of_nonneg_left hY2 (by omega)
  rw [Int.add_mul, Int.one_mul, Int.mul_add] at e2 e4
  rw [Int.neg_mul, Int.neg_mul] at e3
  rw [Int.neg_mul, Int.neg_mul, Int.neg_mul] at e4
  rw [ex, Int.add_mul, Int.add_mul, Int.add_mul, Int.add_mul, Int.mul_assoc, Int.mul_assoc]
  constructor <;> omega

theorem lh_between' {x0 y0 X Y L a b x : Int} (hX : x0 * L ≤ X) (hX2 : X ≤ (x0 + 1) * L) (hY : y0 * L ≤ Y) (hY2 : Y ≤ (y0 + 1) * L) (ex : x = a * x0 + b * y0) (ha : a ≤ 0) (hb : 0 ≤ b) :
    (x + a) * L ≤ a * X + b * Y ∧ a * X + b * Y ≤ (x + b) * L := by
  have h := lh_between hY hY2 hX hX2 (a := b) (b := a) (x := x) (by omega) hb ha
  constructor <;> omega

/-- A quotient that fits both bounds is that of the numbers. -/
theorem euclid_between {L X1 Y1 q u v s t : Int} (hL : 0 < L) (hu : X1 ≤ u * L) (hv : v * L ≤ X1) (hs : s * L ≤ Y1) (ht : Y1 ≤ t * L) (h1 : q * t ≤ v) (h2 : u < (q + 1) * s) (hq : 0 ≤ q) : q * Y1 ≤ X1 ∧ X1 < (q + 1) * Y1 := by
  constructor
  · have e1 : q * Y1 ≤ q * (t * L) := Int.mul_le_mul_of_nonneg_left ht hq
    have e2 : q * t * L ≤ v * L := Int.mul_le_mul_of_nonneg_right h1 (by omega)
    rw [Int.mul_assoc] at e2
    omega
  · have e1 : (q + 1) * (s * L) ≤ (q + 1) * Y1 := Int.mul_le_mul_of_nonneg_left hs (by omega)
    have e2 : (u + 1) * L ≤ (q + 1) * s * L := Int.mul_le_mul_of_nonneg_right (by omega) (by omega)
    rw [Int.mul_assoc, Int.add_mul, Int.one_mul] at e2
    omega

theorem gcd_step (X Y q : Int) : Int.gcd Y (X - q * Y) = Int.gcd X Y := by
  apply Nat.dvd_antisymm
  · apply Int.dvd_gcd
    · have h1 := Int.gcd_dvd_left Y (X - q * Y)
      have h2 := Int.gcd_dvd_right Y (X - q * Y)
      have h4 := Int.dvd_add h2 (Int.dvd_mul_of_dvd_right (b := q) h1)
      have h3 : (X - q * Y) + q * Y = X := by omega
      rw [h3] at h4
      exact h4
    · exact Int.gcd_dvd_left _ _
  · apply Int.dvd_gcd
    · exact Int.gcd_dvd_right _ _
    · exact Int.dvd_sub (Int.gcd_dvd_left _ _) (Int.dvd_mul_of_dvd_right (Int.gcd_dvd_right _ _))

theorem fac_bound {c y x0 : Int} (hy : 1 ≤ y) (hc : 0 ≤ c) (h : c * y ≤ x0) : c ≤ x0 := by
  have : c * 1 ≤ c * y := Int.mul_le_mul_of_nonneg_left hy hc
  omega

/-- One step of Euclid's on the upper bits is one on the numbers. -/
theorem Lh.step {x0 y0 X Y L a b c d x y q : Int} (H : Lh x0 y0 X Y a b c d x y) (hL : 0 < L) (hX : x0 * L ≤ X) (hX2 : X ≤ (x0 + 1) * L) (hY : y0 * L ≤ Y) (hY2 : Y ≤ (y0 + 1) * L) (hx0 : x0 < 1073741824) (hy0 : y0 < 1073741824)
    (hc : 0 < y + c) (hd : 0 < y + d) (q1 : q * (y + c) ≤ x + a) (q2 : x + a < (q + 1) * (y + c)) (q3 : q * (y + d) ≤ x + b) (q4 : x + b < (q + 1) * (y + d)) (hq : 0 ≤ q) :
    Lh x0 y0 X Y c d (a - q * c) (b - q * d) y (x - q * y) := by
  have hqy : 0 ≤ q * y := Int.mul_nonneg hq H.y0'
  have m1 : q * (y + c) = q * y + q * c := Int.mul_add _ _ _
  have m2 : q * (y + d) = q * y + q * d := Int.mul_add _ _ _
  have eXY : (a - q * c) * X + (b - q * d) * Y = (a * X + b * Y) - q * (c * X + d * Y) := by
    rw [Int.sub_mul, Int.sub_mul, Int.mul_add, Int.mul_assoc, Int.mul_assoc]; omega
  have ey' : x - q * y = (a - q * c) * x0 + (b - q * d) * y0 := by
    rw [Int.sub_mul, Int.sub_mul, Int.mul_assoc, Int.mul_assoc, H.ex, H.ey, Int.mul_add]; omega
  have n1 : d * (x - q * y) = d * x - q * d * y := by rw [Int.mul_sub, ← Int.mul_assoc, Int.mul_comm d q]
  have n2 : (b - q * d) * y = b * y - q * d * y := Int.sub_mul _ _ _
  have n3 : c * (x - q * y) = c * x - q * c * y := by rw [Int.mul_sub, ← Int.mul_assoc, Int.mul_comm c q]
  have n4 : (a - q * c) * y = a * y - q * c * y := Int.sub_mul _ _ _
  have key : q * (c * X + d * Y) ≤ a * X + b * Y ∧ a * X + b * Y < (q + 1) * (c * X + d * Y) := by
    rcases H.sig with ⟨s1, s2, s3, s4, _, _⟩ | ⟨s1, s2, s3, s4, _, _⟩
    · have b1 := lh_between hX hX2 hY hY2 H.ex s1 s2
      have b2 := lh_between' hX hX2 hY hY2 H.ey s3 s4
      exact euclid_between hL b1.2 b1.1 b2.1 b2.2 q3 q2 hq
    · have b1 := lh_between' hX hX2 hY hY2 H.ex s1 s2
      have b2 := lh_between hX hX2 hY hY2 H.ey s3 s4
      exact euclid_between hL b1.2 b1.1 b2.1 b2.2 q1 q4 hq
  have key2 : (q + 1) * (c * X + d * Y) = q * (c * X + d * Y) + (c * X + d * Y) := by rw [Int.add_mul, Int.one_mul]
  have hle := H.le
  have hnn := H.nn
  have htop := H.top
  have hlow := H.low
  have hg := gcd_step (a * X + b * Y) (c * X + d * Y) q
  rw [H.gcd, ← eXY] at hg
  have hsig : ((0 ≤ c ∧ d ≤ 0 ∧ a - q * c ≤ 0 ∧ 0 ≤ b - q * d ∧ (b - q * d) * y - d * (x - q * y) = x0 ∧ c * (x - q * y) - (a - q * c) * y = y0) ∨ (c ≤ 0 ∧ 0 ≤ d ∧ 0 ≤ a - q * c ∧ b - q * d ≤ 0 ∧ d * (x - q * y) - (b - q * d) * y = x0 ∧ (a - q * c) * y - c * (x - q * y) = y0)) ∧ 1 ≤ y ∧ 0 ≤ x - q * y := by
    rcases H.sig with ⟨s1, s2, s3, s4, s5, s6⟩ | ⟨s1, s2, s3, s4, s5, s6⟩
    · have p1 : q * c ≤ 0 := by
        have : q * c ≤ q * 0 := Int.mul_le_mul_of_nonneg_left s3 hq
        omega
      have p2 : 0 ≤ q * d := Int.mul_nonneg hq s4
      exact ⟨.inr ⟨s3, s4, by omega, by omega, by omega, by omega⟩, by omega, by omega⟩
    · have p1 : 0 ≤ q * c := Int.mul_nonneg hq s3
      have p2 : q * d ≤ 0 := by
        have : q * d ≤ q * 0 := Int.mul_le_mul_of_nonneg_left s4 hq
        omega
      exact ⟨.inl ⟨s3, s4, by omega, by omega, by omega, by omega⟩, by omega, by omega⟩
  obtain ⟨hsg, hy1, hyy⟩ := hsig
  have hbnd : (-1073741824 ≤ a - q * c ∧ a - q * c ≤ 1073741824) ∧ (-1073741824 ≤ b - q * d ∧ b - q * d ≤ 1073741824) := by
    rcases hsg with ⟨s1, s2, s3, s4, s5, s6⟩ | ⟨s1, s2, s3, s4, s5, s6⟩
    · have p1 : 0 ≤ c * (x - q * y) := Int.mul_nonneg s1 hyy
      have p2 : 0 ≤ (-d) * (x - q * y) := Int.mul_nonneg (by omega) hyy
      rw [Int.neg_mul] at p2
      have f1 := fac_bound (c := -(a - q * c)) (x0 := y0) hy1 (by omega) (by rw [Int.neg_mul]; omega)
      have f2 := fac_bound (c := b - q * d) (x0 := x0) hy1 (by omega) (by omega)
      omega
    · have p1 : 0 ≤ (-c) * (x - q * y) := Int.mul_nonneg (by omega) hyy
      have p2 : 0 ≤ d * (x - q * y) := Int.mul_nonneg s2 hyy
      rw [Int.neg_mul] at p1
      have f1 := fac_bound (c := a - q * c) (x0 := y0) hy1 (by omega) (by omega)
      have f2 := fac_bound (c := -(b - q * d)) (x0 := x0) hy1 (by omega) (by rw [Int.neg_mul]; omega)
      omega
  refine ⟨H.ey, ey', ?_, H.yc, H.yd, by omega, by omega, hy1, hyy, H.bc, H.bd, hbnd.1, hbnd.2, H.by', ?_, ?_, ?_, ?_, ?_, ?_, hg⟩
  · rcases hsg with h | h
    · exact .inl ⟨h.1, h.2.1, h.2.2.1, h.2.2.2.1, h.2.2.2.2.1, h.2.2.2.2.2⟩
    · exact .inr ⟨h.1, h.2.1, h.2.2.1, h.2.2.2.1, h.2.2.2.2.1, h.2.2.2.2.2⟩
  · have := H.bx; omega
  · rw [eXY]; omega
  · rw [eXY]; omega
  · omega
  · rw [eXY]; omega
  · intro _; rw [eXY]; omega

/-- What stands at the beginning. -/
theorem Lh.start {x0 y0 X Y : Int} (h1 : 1 ≤ x0) (h2 : 0 ≤ y0) (h3 : x0 < 1073741824) (h4 : y0 < 1073741824) (hY : 0 ≤ Y) (hle : Y ≤ X) : Lh x0 y0 X Y 1 0 0 1 x0 y0 := by
  refine ⟨by omega, by omega, .inl ⟨by omega, by omega, by omega, by omega, by omega, by omega⟩, by omega, by omega, by omega, by omega, h1, h2, by omega, by omega, by omega, by omega, h3, h4, by omega, by omega, by omega, by omega, fun h => absurd rfl h, ?_⟩
  rw [Int.one_mul, Int.zero_mul, Int.zero_mul, Int.one_mul, Int.add_zero, Int.zero_add]

end Lm
end Go.Proofs.Ytkdcgnooeojjgab
