/-
  Plain facts on Lehmer's steps: what the upper bits tell of two numbers. No program is named here. The contract of lookAhead. The contract of shrink. The contracts of Uint, gcdShort and Gcd. Whole numbers: the contract of Gcd. Single operations on lists of limbs, over a frame that is not written out; lowest terms. Lowest terms.
-/
import Derived.Test.YtkdcgnooeojjgabDivL
import Derived.Deep.QuietTactic
import Derived.BigQuiet
import Derived.Deep.RegionWith
import Derived.Deep.RegionHeld3
import Derived.Test.YtkdcgnooeojjgabLhW
import Derived.Test.YtkdcgnooeojjgabLhC
import Derived.Test.YtkdcgnooeojjgabWH
import Derived.Test.YtkdcgnooeojjgabRT
import Derived.Test.YtkdcgnooeojjgabWF
import Derived.Deep.LoopGhost
namespace Go.Proofs.Ytkdcgnooeojjgab
namespace Lm

/-- What stands ahead of a step: the factors' signs, and what they make of the upper bits and of the numbers. -/
structure Lh (x0 y0 X Y a b c d x y : Int) : Prop where
  ex : x = a * x0 + b * y0
  ey : y = c * x0 + d * y0
  sig : (0 ≤ a ∧ b ≤ 0 ∧ c ≤ 0 ∧ 0 ≤ d ∧ d * x - b * y = x0 ∧ a * y - c * x = y0) ∨ (a ≤ 0 ∧ 0 ≤ b ∧ 0 ≤ c ∧ d ≤ 0 ∧ b * y - d * x = x0 ∧ c * x - a * y = y0)
  xa : 0 ≤ x + a
  xb : 0 ≤ x + b
  yc : 0 ≤ y + c
  yd : 0 ≤ y + d
  x1 : 1 ≤ x
  y0' : 0 ≤ y
  ba : -1073741824 ≤ a ∧ a ≤ 1073741824
  bb : -1073741824 ≤ b ∧ b ≤ 1073741824
  bc : -1073741824 ≤ c ∧ c ≤ 1073741824
  bd : -1073741824 ≤ d ∧ d ≤ 1073741824
  bx : x < 1073741824
  by' : y < 1073741824
  le : c * X + d * Y ≤ a * X + b * Y
  nn : 0 ≤ c * X + d * Y
  top : a * X + b * Y ≤ X
  low : c * X + d * Y ≤ Y
  bz : b ≠ 0 → c * X + d * Y < Y
  gcd : Int.gcd (a * X + b * Y) (c * X + d * Y) = Int.gcd X Y

theorem mul_le {a b c : Int} (h : a ≤ b) (hc : 0 ≤ c) : a * c ≤ b * c := Int.mul_le_mul_of_nonneg_right h hc

/-- The number that the factors make lies between the two bounds. -/
theorem lh_between {x0 y0 X Y L a b x : Int} (hX : x0 * L ≤ X) (hX2 : X ≤ (x0 + 1) * L) (hY : y0 * L ≤ Y) (hY2 : Y ≤ (y0 + 1) * L) (ex : x = a * x0 + b * y0) (ha : 0 ≤ a) (hb : b ≤ 0) :
    (x + b) * L ≤ a * X + b * Y ∧ a * X + b * Y ≤ (x + a) * L := by
  have e1 : a * (x0 * L) ≤ a * X := Int.mul_le_mul_of_nonneg_left hX ha
  have e2 : a * X ≤ a * ((x0 + 1) * L) := Int.mul_le_mul_of_nonneg_left hX2 ha
  have e3 : (-b) * (y0 * L) ≤ (-b) * Y := Int.mul_le_mul_of_nonneg_left hY (by omega)
  have e4 : (-b) * Y ≤ (-b) * ((y0 + 1) * L) := Int.mul_le_mul_of_nonneg_left hY2 (by omega)
  rw [Int.add_mul, Int.one_mul, Int.mul_add] at e2 e4
  rw [Int.neg_mul, Int.neg_mul] at e3
  rw [Int.neg_mul, Int.neg_mul, Int.neg_mul] at e4
  rw [ex, Int.add_mul, Int.add_mul, Int.add_mul, Int.add_mul, Int.mul_assoc, Int.mul_assoc]
  constructor <;> omega

theorem lh_between' {x0 y0 X Y L a b x : Int} (hX : x0 * L ≤ X) (hX2 : X ≤ (x0 + 1) * L) (hY : y0 * L ≤ Y) (hY2 : Y ≤ (y0 + 1) * L) (ex : x = a * x0 + b * y0) (ha : a ≤ 0) (hb : 0 ≤ b) :
    (x + a) * L ≤ a * X + b * Y ∧ a * X + b * Y ≤ (x + b) * L := by
  have h := lh_between hY hY2 hX hX2 (a := b) (b := a) (x := x) (by omega) hb ha
  constructor <;> omega

/-- A quotient that fits both bounds is that of the numbers. -/
theorem euclid_between {L X1 Y1 q u v s t : Int} (hL : 0 < L) (hu : X1 ≤ u * L) (hv : v * L ≤ X1) (hs : s * L ≤ Y1) (ht : Y1 ≤ t * L) (h1 : q * t ≤ v) (h2 : u < (q + 1) * s) (hq : 0 ≤ q) : q * Y1 ≤ X1 ∧ X1 < (q + 1) * Y1 := by
  constructor
  · have e1 : q * Y1 ≤ q * (t * L) := Int.mul_le_mul_of_nonneg_left ht hq
    have e2 : q * t * L ≤ v * L := Int.mul_le_mul_of_nonneg_right h1 (by omega)
    rw [Int.mul_assoc] at e2
    omega
  · have e1 : (q + 1) * (s * L) ≤ (q + 1) * Y1 := Int.mul_le_mul_of_nonneg_left hs (by omega)
    have e2 : (u + 1) * L ≤ (q + 1) * s * L := Int.mul_le_mul_of_nonneg_right (by omega) (by omega)
    rw [Int.mul_assoc, Int.add_mul, Int.one_mul] at e2
    omega

theorem gcd_step (X Y q : Int) : Int.gcd Y (X - q * Y) = Int.gcd X Y := by
  apply Nat.dvd_antisymm
  · apply Int.dvd_gcd
    · have h1 := Int.gcd_dvd_left Y (X - q * Y)
      have h2 := Int.gcd_dvd_right Y (X - q * Y)
      have h4 := Int.dvd_add h2 (Int.dvd_mul_of_dvd_right (b := q) h1)
      have h3 : (X - q * Y) + q * Y = X := by omega
      rw [h3] at h4
      exact h4
    · exact Int.gcd_dvd_left _ _
  · apply Int.dvd_gcd
    · exact Int.gcd_dvd_right _ _
    · exact Int.dvd_sub (Int.gcd_dvd_left _ _) (Int.dvd_mul_of_dvd_right (Int.gcd_dvd_right _ _))

theorem fac_bound {c y x0 : Int} (hy : 1 ≤ y) (hc : 0 ≤ c) (h : c * y ≤ x0) : c ≤ x0 := by
  have : c * 1 ≤ c * y := Int.mul_le_mul_of_nonneg_left hy hc
  omega

/-- One step of Euclid's on the upper bits is one on the numbers. -/
theorem Lh.step {x0 y0 X Y L a b c d x y q : Int} (H : Lh x0 y0 X Y a b c d x y) (hL : 0 < L) (hX : x0 * L ≤ X) (hX2 : X ≤ (x0 + 1) * L) (hY : y0 * L ≤ Y) (hY2 : Y ≤ (y0 + 1) * L) (hx0 : x0 < 1073741824) (hy0 : y0 < 1073741824)
    (hc : 0 < y + c) (hd : 0 < y + d) (q1 : q * (y + c) ≤ x + a) (q2 : x + a < (q + 1) * (y + c)) (q3 : q * (y + d) ≤ x + b) (q4 : x + b < (q + 1) * (y + d)) (hq : 0 ≤ q) :
    Lh x0 y0 X Y c d (a - q * c) (b - q * d) y (x - q * y) := by
  have hqy : 0 ≤ q * y := Int.mul_nonneg hq H.y0'
  have m1 : q * (y + c) = q * y + q * c := Int.mul_add _ _ _
  have m2 : q * (y + d) = q * y + q * d := Int.mul_add _ _ _
  have eXY : (a - q * c) * X + (b - q * d) * Y = (a * X + b * Y) - q * (c * X + d * Y) := by
    rw [Int.sub_mul, Int.sub_mul, Int.mul_add, Int.mul_assoc, Int.mul_assoc]; omega
  have ey' : x - q * y = (a - q * c) * x0 + (b - q * d) * y0 := by
    rw [Int.sub_mul, Int.sub_mul, Int.mul_assoc, Int.mul_assoc, H.ex, H.ey, Int.mul_add]; omega
  have n1 : d * (x - q * y) = d * x - q * d * y := by rw [Int.mul_sub, ← Int.mul_assoc, Int.mul_comm d q]
  have n2 : (b - q * d) * y = b * y - q * d * y := Int.sub_mul _ _ _
  have n3 : c * (x - q * y) = c * x - q * c * y := by rw [Int.mul_sub, ← Int.mul_assoc, Int.mul_comm c q]
  have n4 : (a - q * c) * y = a * y - q * c * y := Int.sub_mul _ _ _
  have key : q * (c * X + d * Y) ≤ a * X + b * Y ∧ a * X + b * Y < (q + 1) * (c * X + d * Y) := by
    rcases H.sig with ⟨s1, s2, s3, s4, _, _⟩ | ⟨s1, s2, s3, s4, _, _⟩
    · have b1 := lh_between hX hX2 hY hY2 H.ex s1 s2
      have b2 := lh_between' hX hX2 hY hY2 H.ey s3 s4
      exact euclid_between hL b1.2 b1.1 b2.1 b2.2 q3 q2 hq
    · have b1 := lh_between' hX hX2 hY hY2 H.ex s1 s2
      have b2 := lh_between hX hX2 hY hY2 H.ey s3 s4
      exact euclid_between hL b1.2 b1.1 b2.1 b2.2 q1 q4 hq
  have key2 : (q + 1) * (c * X + d * Y) = q * (c * X + d * Y) + (c * X + d * Y) := by rw [Int.add_mul, Int.one_mul]
  have hle := H.le
  have hnn := H.nn
  have htop := H.top
  have hlow := H.low
  have hg := gcd_step (a * X + b * Y) (c * X + d * Y) q
  rw [H.gcd, ← eXY] at hg
  have hsig : ((0 ≤ c ∧ d ≤ 0 ∧ a - q * c ≤ 0 ∧ 0 ≤ b - q * d ∧ (b - q * d) * y - d * (x - q * y) = x0 ∧ c * (x - q * y) - (a - q * c) * y = y0) ∨ (c ≤ 0 ∧ 0 ≤ d ∧ 0 ≤ a - q * c ∧ b - q * d ≤ 0 ∧ d * (x - q * y) - (b - q * d) * y = x0 ∧ (a - q * c) * y - c * (x - q * y) = y0)) ∧ 1 ≤ y ∧ 0 ≤ x - q * y := by
    rcases H.sig with ⟨s1, s2, s3, s4, s5, s6⟩ | ⟨s1, s2, s3, s4, s5, s6⟩
    · have p1 : q * c ≤ 0 := by
        have : q * c ≤ q * 0 := Int.mul_le_mul_of_nonneg_left s3 hq
        omega
      have p2 : 0 ≤ q * d := Int.mul_nonneg hq s4
      exact ⟨.inr ⟨s3, s4, by omega, by omega, by omega, by omega⟩, by omega, by omega⟩
    · have p1 : 0 ≤ q * c := Int.mul_nonneg hq s3
      have p2 : q * d ≤ 0 := by
        have : q * d ≤ q * 0 := Int.mul_le_mul_of_nonneg_left s4 hq
        omega
      exact ⟨.inl ⟨s3, s4, by omega, by omega, by omega, by omega⟩, by omega, by omega⟩
  obtain ⟨hsg, hy1, hyy⟩ := hsig
  have hbnd : (-1073741824 ≤ a - q * c ∧ a - q * c ≤ 1073741824) ∧ (-1073741824 ≤ b - q * d ∧ b - q * d ≤ 1073741824) := by
    rcases hsg with ⟨s1, s2, s3, s4, s5, s6⟩ | ⟨s1, s2, s3, s4, s5, s6⟩
    · have p1 : 0 ≤ c * (x - q * y) := Int.mul_nonneg s1 hyy
      have p2 : 0 ≤ (-d) * (x - q * y) := Int.mul_nonneg (by omega) hyy
      rw [Int.neg_mul] at p2
      have f1 := fac_bound (c := -(a - q * c)) (x0 := y0) hy1 (by omega) (by rw [Int.neg_mul]; omega)
      have f2 := fac_bound (c := b - q * d) (x0 := x0) hy1 (by omega) (by omega)
      omega
    · have p1 : 0 ≤ (-c) * (x - q * y) := Int.mul_nonneg (by omega) hyy
      have p2 : 0 ≤ d * (x - q * y) := Int.mul_nonneg s2 hyy
      rw [Int.neg_mul] at p1
      have f1 := fac_bound (c := a - q * c) (x0 := y0) hy1 (by omega) (by omega)
      have f2 := fac_bound (c := -(b - q * d)) (x0 := x0) hy1 (by omega) (by rw [Int.neg_mul]; omega)
      omega
  refine ⟨H.ey, ey', ?_, H.yc, H.yd, by omega, by omega, hy1, hyy, H.bc, H.bd, hbnd.1, hbnd.2, H.by', ?_, ?_, ?_, ?_, ?_, ?_, hg⟩
  · rcases hsg with h | h
    · exact .inl ⟨h.1, h.2.1, h.2.2.1, h.2.2.2.1, h.2.2.2.2.1, h.2.2.2.2.2⟩
    · exact .inr ⟨h.1, h.2.1, h.2.2.1, h.2.2.2.1, h.2.2.2.2.1, h.2.2.2.2.2⟩
  · have := H.bx; omega
  · rw [eXY]; omega
  · rw [eXY]; omega
  · omega
  · rw [eXY]; omega
  · intro _; rw [eXY]; omega

/-- What stands at the beginning. -/
theorem Lh.start {x0 y0 X Y : Int} (h1 : 1 ≤ x0) (h2 : 0 ≤ y0) (h3 : x0 < 1073741824) (h4 : y0 < 1073741824) (hY : 0 ≤ Y) (hle : Y ≤ X) : Lh x0 y0 X Y 1 0 0 1 x0 y0 := by
  refine ⟨by omega, by omega, .inl ⟨by omega, by omega, by omega, by omega, by omega, by omega⟩, by omega, by omega, by omega, by omega, h1, h2, by omega, by omega, by omega, by omega, h3, h4, by omega, by omega, by omega, by omega, fun h => absurd rfl h, ?_⟩
  rw [Int.one_mul, Int.zero_mul, Int.zero_mul, Int.one_mul, Int.add_zero, Int.zero_add]

end Lm
end Go.Proofs.Ytkdcgnooeojjgab

namespace Go.Proofs.Ytkdcgnooeojjgab
namespace Lm
open Go.RowKit

/-- A block that holds four factors. -/
def Fac (w : World) (g : Nat) (a b c d : Int) : Prop := w.heap[g]? = some (.cells #[.int .i64 a, .int .i64 b, .int .i64 c, .int .i64 d] 124 (0, 0))

theorem Fac.facts {w : World} {g : Nat} {a b c d : Int} (h : Fac w g a b c d) : (w.cell? ⟨g, 0, none⟩ = some (.int .i64 a) ∧ w.cell? ⟨g, 1, none⟩ = some (.int .i64 b) ∧ w.cell? ⟨g, 2, none⟩ = some (.int .i64 c) ∧ w.cell? ⟨g, 3, none⟩ = some (.int .i64 d)) ∧ (w.frozen? ⟨g, 0, none⟩ = false ∧ w.frozen? ⟨g, 1, none⟩ = false ∧ w.frozen? ⟨g, 2, none⟩ = false ∧ w.frozen? ⟨g, 3, none⟩ = false) :=
  ⟨⟨by rw [cell_of_row _ _ _ _ _ (0, 0) h]; rfl, by rw [cell_of_row _ _ _ _ _ (0, 0) h]; rfl, by rw [cell_of_row _ _ _ _ _ (0, 0) h]; rfl, by rw [cell_of_row _ _ _ _ _ (0, 0) h]; rfl⟩, frozen_of_row _ _ _ _ _ h, frozen_of_row _ _ _ _ _ h, frozen_of_row _ _ _ _ _ h, frozen_of_row _ _ _ _ _ h⟩

theorem div_fit {u s : Int} (hs : 0 < s) : u / s * s ≤ u ∧ u < (u / s + 1) * s := by
  have h1 := Int.mul_ediv_add_emod u s
  have h2 := Int.emod_nonneg u (show s ≠ 0 by omega)
  have h3 := Int.emod_lt_of_pos u hs
  rw [Int.add_mul, Int.one_mul, Int.mul_comm (u / s) s]
  omega

theorem div_small {u s : Int} (hu : 0 ≤ u) (hs : 0 < s) : 0 ≤ u / s ∧ u / s ≤ u := ⟨Int.ediv_nonneg hu (by omega), Int.ediv_le_self _ hu⟩

theorem Lh.less {x0 y0 X Y a b c d x y q : Int} (H : Lh x0 y0 X Y a b c d x y) (hq : 0 ≤ q) (q2 : x + a < (q + 1) * (y + c)) (q4 : x + b < (q + 1) * (y + d)) : x - q * y < y ∧ q * y ≤ q * y := by
  have m1 : (q + 1) * (y + c) = q * y + q * c + (y + c) := by rw [Int.add_mul, Int.one_mul, Int.mul_add]
  have m2 : (q + 1) * (y + d) = q * y + q * d + (y + d) := by rw [Int.add_mul, Int.one_mul, Int.mul_add]
  rcases H.sig with ⟨s1, s2, s3, s4, _, _⟩ | ⟨s1, s2, s3, s4, _, _⟩
  · have p1 : q * c ≤ 0 := by
      have : q * c ≤ q * 0 := Int.mul_le_mul_of_nonneg_left s3 hq
      omega
    omega
  · have p2 : q * d ≤ 0 := by
      have : q * d ≤ q * 0 := Int.mul_le_mul_of_nonneg_left s4 hq
      omega
    omega

theorem Fac.set {w : World} {g : Nat} {a b c d : Int} (h : Fac w g a b c d) (a' b' c' d' : Int) : Fac ((((w.setCell ⟨g, 0, none⟩ (.int .i64 a')).setCell ⟨g, 1, none⟩ (.int .i64 b')).setCell ⟨g, 2, none⟩ (.int .i64 c')).setCell ⟨g, 3, none⟩ (.int .i64 d')) g a' b' c' d' := by
  have h1 := heap_setCell_same w g 0 _ _ (.int .i64 a') h
  have h2 := heap_setCell_same _ g 1 _ _ (.int .i64 b') h1
  have h3 := heap_setCell_same _ g 2 _ _ (.int .i64 c') h2
  have h4 := heap_setCell_same _ g 3 _ _ (.int .i64 d') h3
  exact h4

theorem Fac.other {w : World} {g k : Nat} {a b c d : Int} (H : Fac w g a b c d) (hn : g ≠ k) (a' b' c' d' : Value) : Fac ((((w.setCell ⟨k, 0, none⟩ a').setCell ⟨k, 1, none⟩ b').setCell ⟨k, 2, none⟩ c').setCell ⟨k, 3, none⟩ d') g a b c d :=
  (heap_setCell_other _ ⟨k, 3, none⟩ g d' hn).trans ((heap_setCell_other _ ⟨k, 2, none⟩ g c' hn).trans ((heap_setCell_other _ ⟨k, 1, none⟩ g b' hn).trans ((heap_setCell_other w ⟨k, 0, none⟩ g a' hn).trans H)))

theorem below_set4 {B : Nat} {w w1 : World} {g : Nat} (hb : Below B w w1) (hg : B ≤ g) (a b c d : Value) : Below B w ((((w1.setCell ⟨g, 0, none⟩ a).setCell ⟨g, 1, none⟩ b).setCell ⟨g, 2, none⟩ c).setCell ⟨g, 3, none⟩ d) := (((hb.setCell hg _).setCell hg _).setCell hg _).setCell hg _

set_option maxRecDepth 20000 in
set_option maxHeartbeats 2000000 in
theorem lookAhead_any (w : World) (x0 y0 X Y L : Int) (h1 : 1 ≤ x0) (h2 : 0 ≤ y0) (h3 : x0 < 1073741824) (h4 : y0 < 1073741824) (hY0 : 0 ≤ Y) (hle : Y ≤ X) (hL : 0 < L) (hX : x0 * L ≤ X) (hX2 : X ≤ (x0 + 1) * L) (hY : y0 * L ≤ Y) (hY2 : Y ≤ (y0 + 1) * L) :
    Calls Try.prog 109 #[.int .i64 x0, .int .i64 y0] w fun e w' => ∃ a b c d x y, e = .returned (.agg #[.int .i64 a, .int .i64 b, .int .i64 c, .int .i64 d]) ∧ Lh x0 y0 X Y a b c d x y ∧ Below w.heap.size w w' := by
  have ST := hide (Lh.start h1 h2 h3 h4 hY0 hle)
  have e0 : ∃ w0 : World, (w.alloc (.cells #[.int .i64 0, .int .i64 0, .int .i64 0, .int .i64 0] 124)).alloc (.cells #[.int .i64 1, .int .i64 0, .int .i64 0, .int .i64 1] 124) = w0 ∧ Fac w0 w.heap.size 0 0 0 0 ∧ Fac w0 (w.heap.size + 1) 1 0 0 1 ∧ Below w.heap.size w w0 := by
    have h1 := heap_alloc_new w (.cells #[.int .i64 0, .int .i64 0, .int .i64 0, .int .i64 0] 124)
    have b1 : Below w.heap.size w (w.alloc (.cells #[.int .i64 0, .int .i64 0, .int .i64 0, .int .i64 0] 124)) := (Below.refl _ _).alloc (Nat.le_refl _) _
    have h2 := heap_alloc_new (w.alloc (.cells #[.int .i64 0, .int .i64 0, .int .i64 0, .int .i64 0] 124)) (.cells #[.int .i64 1, .int .i64 0, .int .i64 0, .int .i64 1] 124)
    have b2 : Below (w.alloc (.cells #[.int .i64 0, .int .i64 0, .int .i64 0, .int .i64 0] 124)).heap.size (w.alloc (.cells #[.int .i64 0, .int .i64 0, .int .i64 0, .int .i64 0] 124)) ((w.alloc (.cells #[.int .i64 0, .int .i64 0, .int .i64 0, .int .i64 0] 124)).alloc (.cells #[.int .i64 1, .int .i64 0, .int .i64 0, .int .i64 1] 124)) := (Below.refl _ _).alloc (Nat.le_refl _) _
    refine ⟨_, rfl, (b2.block _ (by simp)).trans h1, ?_, b1.trans (b2.mono b1.size)⟩
    have h3 := h2
    rw [World.size_alloc] at h3
    exact h3
  obtain ⟨w0, e0, hR0, hF0, hb0⟩ := e0
  have E0 := hide e0
  clear e0
  go_enter Try.func109, Try.ntmps109
  go_wp2
  rw [E0.out]
  go_loopw [0, 1] (fun xv yv wr => ∃ a b c d x y : Int, xv = .int .i64 x ∧ yv = .int .i64 y ∧ Lh x0 y0 X Y a b c d x y ∧ Fac wr (w.heap.size + 1) a b c d ∧ Fac wr w.heap.size 0 0 0 0 ∧ Below w.heap.size w wr) (fun _ yv _ => (intOf yv).toNat)
  case atStart => exact ⟨1, 0, 0, 1, x0, y0, rfl, rfl, ST.out, hF0, hR0, hb0⟩
  case round =>
    obtain ⟨a, b, c, d, x, y, rfl, rfl, hD, hF, hR, HB⟩ := hrel
    have D := hide hD
    have ba := hD.ba
    have bb := hD.bb
    have bc := hD.bc
    have bd := hD.bd
    have bx := hD.bx
    have by' := hD.by'
    have x1 := hD.x1
    have y1 := hD.y0'
    have pxa := hD.xa
    have pxb := hD.xb
    have pyc := hD.yc
    have pyd := hD.yd
    clear hD
    by_cases hc : y + c = 0
    · have hcb : ((y + c) != 0) = false := by simp [hc]
      have HC := hide hc
      clear hc
      obtain ⟨⟨fa, fb, fc, fd⟩, _⟩ := hF.facts
      obtain ⟨⟨ra, rb, rc, rd⟩, re, rf, rg, rh⟩ := hR.facts
      have XF := hide (hR.set a b c d).facts.1
      have Z := hide (below_set4 HB (Nat.le_refl _) (.int .i64 a) (.int .i64 b) (.int .i64 c) (.int .i64 d))
      go_wp2
      refine bodyPost_ret (v := .agg #[.int .i64 a, .int .i64 b, .int .i64 c, .int .i64 d]) ?_ rfl ⟨a, b, c, d, x, y, rfl, D.out, Z.out⟩
      simp [results, Try.results109, go_sem, XF.out.1, XF.out.2.1, XF.out.2.2.1, XF.out.2.2.2]
    · have hcb : ((y + c) != 0) = true := by simp [hc]
      have hcp : 0 < y + c := by omega
      clear hc
      by_cases hd : y + d = 0
      · have hdb : ((y + d) != 0) = false := by simp [hd]
        have HD := hide hd
        clear hd
        obtain ⟨⟨fa, fb, fc, fd⟩, _⟩ := hF.facts
        obtain ⟨⟨ra, rb, rc, rd⟩, re, rf, rg, rh⟩ := hR.facts
        have XF := hide (hR.set a b c d).facts.1
        have Z := hide (below_set4 HB (Nat.le_refl _) (.int .i64 a) (.int .i64 b) (.int .i64 c) (.int .i64 d))
        go_wp2
        refine bodyPost_ret (v := .agg #[.int .i64 a, .int .i64 b, .int .i64 c, .int .i64 d]) ?_ rfl ⟨a, b, c, d, x, y, rfl, D.out, Z.out⟩
        simp [results, Try.results109, go_sem, XF.out.1, XF.out.2.1, XF.out.2.2.1, XF.out.2.2.2]
      · have hdb : ((y + d) != 0) = true := by simp [hd]
        have hdp : 0 < y + d := by omega
        clear hd
        have f1 := div_fit (u := x + a) hcp
        have f2 := div_fit (u := x + b) hdp
        have g1 := div_small pxa hcp
        have g2 := div_small pxb hdp
        have t1 : (x + a).tdiv (y + c) = (x + a) / (y + c) := Int.tdiv_eq_ediv_of_nonneg pxa
        have t2 : (x + b).tdiv (y + d) = (x + b) / (y + d) := Int.tdiv_eq_ediv_of_nonneg pxb
        obtain ⟨q, hq⟩ : ∃ q, (x + a) / (y + c) = q := ⟨_, rfl⟩
        obtain ⟨q', hq'⟩ : ∃ q, (x + b) / (y + d) = q := ⟨_, rfl⟩
        rw [hq] at f1 g1 t1
        rw [hq'] at f2 g2 t2
        clear hq hq'
        by_cases hqq : q = q'
        · subst hqq
          have ST' := hide (D.out.step hL hX hX2 hY hY2 h3 h4 hcp hdp f1.1 f1.2 f2.1 f2.2 g1.1)
          have LS := (D.out.less g1.1 f1.2 f2.2).1
          have bc' := ST'.out.bc
          have bd' := ST'.out.bd
          have by2 := ST'.out.y0'
          obtain ⟨P1, hP1⟩ : ∃ P, q * c = P := ⟨_, rfl⟩
          obtain ⟨P2, hP2⟩ : ∃ P, q * d = P := ⟨_, rfl⟩
          obtain ⟨P3, hP3⟩ : ∃ P, q * y = P := ⟨_, rfl⟩
          rw [hP1] at ST' bc'
          rw [hP2] at ST' bd'
          rw [hP3] at ST' LS by2
          obtain ⟨⟨fa, fb, fc, fd⟩, fe, ff, fg, fh⟩ := hF.facts
          have HF' := hide (hF.set c d (a - P1) (b - P2))
          have HR' := hide (hR.other (show w.heap.size ≠ w.heap.size + 1 by omega) (.int .i64 c) (.int .i64 d) (.int .i64 (a - P1)) (.int .i64 (b - P2)))
          have HB' := hide (below_set4 HB (Nat.le_succ _) (.int .i64 c) (.int .i64 d) (.int .i64 (a - P1)) (.int .i64 (b - P2)))
          have p3 : 0 ≤ P3 := by rw [← hP3]; exact Int.mul_nonneg g1.1 y1
          clear f1 f2
          go_wp2
          go_roundw
          case rel => exact ⟨c, d, a - P1, b - P2, y, x - P3, rfl, rfl, ST'.out, HF'.out, HR'.out, HB'.out⟩
          case measure => simp [intOf]; omega
        · have hqb : (q != q') = true := by simp [hqq]
          clear f1 f2
          obtain ⟨⟨fa, fb, fc, fd⟩, _⟩ := hF.facts
          obtain ⟨⟨ra, rb, rc, rd⟩, re, rf, rg, rh⟩ := hR.facts
          have XF := hide (hR.set a b c d).facts.1
          have Z := hide (below_set4 HB (Nat.le_refl _) (.int .i64 a) (.int .i64 b) (.int .i64 c) (.int .i64 d))
          go_wp2
          refine bodyPost_ret (v := .agg #[.int .i64 a, .int .i64 b, .int .i64 c, .int .i64 d]) ?_ rfl ⟨a, b, c, d, x, y, rfl, D.out, Z.out⟩
          simp [results, Try.results109, go_sem, XF.out.1, XF.out.2.1, XF.out.2.2.1, XF.out.2.2.2]

end Lm
end Go.Proofs.Ytkdcgnooeojjgab

namespace Go.Proofs.Ytkdcgnooeojjgab
namespace Lm
open Go.RowKit

theorem Fac.below {w w' : World} {g : Nat} {a b c d : Int} (h : Fac w g a b c d) (hb : Below w.heap.size w w') : Fac w' g a b c d := (hb.block g (lt_of_heap h)).trans h
theorem below_al {w w' : World} (h : Below w.heap.size w w') (o : Obj) : Below w.heap.size w (w'.alloc o) := h.alloc h.size o
theorem below_then {w w' w'' : World} (h : Below w.heap.size w w') (h2 : Below w'.heap.size w' w'') : Below w.heap.size w w'' := h.trans (h2.mono h.size)

/-- The upper bits of a number and of one that is not above it. -/
theorem win_facts {X Y : Int} {l m : Nat} (hX : IsBits X l) (hl : l = m + 30) (hY0 : 0 ≤ Y) (hle : Y ≤ X) :
    X / p2 m % 1073741824 = X / p2 m ∧ Y / p2 m % 1073741824 = Y / p2 m ∧ 1 ≤ X / p2 m ∧ 0 ≤ Y / p2 m ∧ X / p2 m < 1073741824 ∧ Y / p2 m < 1073741824 ∧ X / p2 m * p2 m ≤ X ∧ X ≤ (X / p2 m + 1) * p2 m ∧ Y / p2 m * p2 m ≤ Y ∧ Y ≤ (Y / p2 m + 1) * p2 m := by
  have hp := p2_pos m
  have hlow : p2 (l - 1) ≤ X := by rcases hX.2 with h | h <;> omega
  have h29 : p2 (l - 1) = p2 m * p2 29 := by rw [← p2_add]; congr 1; omega
  have h30 : p2 l = p2 m * p2 30 := by rw [← p2_add, hl]
  rw [show p2 29 = 536870912 from by decide] at h29
  rw [show p2 30 = 1073741824 from by decide] at h30
  have hX1 := hX.1
  have fx := div_fit (u := X) (s := p2 m) (by omega)
  have fy := div_fit (u := Y) (s := p2 m) (by omega)
  have x0 : 0 ≤ X / p2 m := Int.ediv_nonneg (by omega) (by omega)
  have y0 : 0 ≤ Y / p2 m := Int.ediv_nonneg hY0 (by omega)
  have xl : X / p2 m < 1073741824 := Int.ediv_lt_of_lt_mul (by omega) (by rw [Int.mul_comm]; omega)
  have yl : Y / p2 m < 1073741824 := Int.ediv_lt_of_lt_mul (by omega) (by rw [Int.mul_comm]; omega)
  have x1 : 1 ≤ X / p2 m := by
    apply Int.le_ediv_of_mul_le (by omega)
    omega
  refine ⟨Int.emod_eq_of_lt x0 xl, Int.emod_eq_of_lt y0 yl, x1, y0, xl, yl, fx.1, by omega, fy.1, by omega⟩

set_option maxRecDepth 20000 in
set_option maxHeartbeats 2000000 in
theorem shrink_any (w : World) (B : Nat) (hB : B ≤ w.heap.size) (a1 a2 : Option Addr) (c1 c2 : Nat) (xs ys : List Int) (hx : Ow B w (.slice a1 xs.length c1) xs) (hy : Ow B w (.slice a2 ys.length c2) ys) (hcy : Canon ys) (hm : xs.length ≤ 400000) (h3 : 2 < ys.length) (hle : val ys ≤ val xs) :
    Calls Try.prog 95 #[.slice a1 xs.length c1, .slice a2 ys.length c2] w fun e w' => ∃ v1 v2 X' Y', e = .returned (.tuple #[v1, v2]) ∧ Is B w' v1 X' ∧ Is B w' v2 Y' ∧ Y' ≤ X' ∧ Y' < val ys ∧ X' ≤ val xs ∧ Int.gcd X' Y' = Int.gcd (val xs) (val ys) ∧ Below w.heap.size w w' := by
  obtain ⟨_, x1, x2, x3⟩ := hx.sl.parts
  obtain ⟨_, y1, y2, y3⟩ := hy.sl.parts
  have hY0 := (val_bounds y3).1
  have hlen : ys.length ≤ xs.length := le_len x3 hcy hle
  have hX64 : 18446744073709551616 ≤ val xs := by
    have h9 := canon_low hcy (by intro e; subst e; simp at h3)
    have h8 := pw_mono (m := 2) (n := ys.length - 1) (by omega)
    rw [show pw 2 = 18446744073709551616 from by decide] at h8
    omega
  have sx := hx.sl
  have sy := hy.sl
  go_enter Try.func95, Try.ntmps95
  go_wp2_with fail
  refine (bits_any _ _ _ _ xs sx (by omega)).mono ?_
  rintro e w' ⟨l, rfl, t1, rfl⟩
  have hl65 : 65 ≤ l := by
    apply Classical.byContradiction
    intro hn
    have h9 := p2_mono (m := l) (n := 64) (by omega)
    rw [show p2 64 = 18446744073709551616 from by decide] at h9
    have := t1.1
    omega
  have hlm : l ≤ 32 * xs.length := by
    have h9 := (val_bounds x3).2
    rw [pw_p2] at h9
    apply Classical.byContradiction
    intro hn
    have h8 := p2_mono (m := 32 * xs.length) (n := l - 1) (by omega)
    rcases t1.2 with h | h <;> omega
  obtain ⟨m, hm'⟩ : ∃ m, l = m + 30 := ⟨l - 30, by omega⟩
  have WF := hide (win_facts t1 hm' hY0 hle)
  have el : (l : Int) - 30 = (m : Nat) := by omega
  have kx : Hid (∀ w2 : World, Sl w2 (.slice a1 xs.length c1) xs → Calls Try.prog 110 #[.slice a1 xs.length c1, .int .i64 m] w2 fun e w3 => e = .returned (.int .u32 (val xs / p2 m)) ∧ w3 = w2) := by
    intro w2 h2
    have h9 := window_any w2 a1 _ c1 xs h2 m (by omega)
    rwa [WF.out.1] at h9
  have ky : Hid (∀ w2 : World, Sl w2 (.slice a2 ys.length c2) ys → Calls Try.prog 110 #[.slice a2 ys.length c2, .int .i64 m] w2 fun e w3 => e = .returned (.int .u32 (val ys / p2 m)) ∧ w3 = w2) := by
    intro w2 h2
    have h9 := window_any w2 a2 _ c2 ys h2 m (by omega)
    rwa [WF.out.2.1] at h9
  obtain ⟨u, hu⟩ : ∃ u, val xs / p2 m = u := ⟨_, rfl⟩
  obtain ⟨v, hv⟩ : ∃ v, val ys / p2 m = v := ⟨_, rfl⟩
  rw [hu] at WF kx
  rw [hv] at WF ky
  have u1 := WF.out.2.2.1
  have v1 := WF.out.2.2.2.1
  have u2 := WF.out.2.2.2.2.1
  have v2 := WF.out.2.2.2.2.2.1
  have kl : Hid (∀ w2 : World, Calls Try.prog 109 #[.int .i64 u, .int .i64 v] w2 fun e w3 => ∃ a b c d x y, e = .returned (.agg #[.int .i64 a, .int .i64 b, .int .i64 c, .int .i64 d]) ∧ Lh u v (val xs) (val ys) a b c d x y ∧ Below w2.heap.size w2 w3) := by
    intro w2
    have hp := p2_pos m
    exact lookAhead_any w2 u v (val xs) (val ys) (p2 m) u1 v1 u2 v2 hY0 hle (by omega) WF.out.2.2.2.2.2.2.1 WF.out.2.2.2.2.2.2.2.1 WF.out.2.2.2.2.2.2.2.2.1 WF.out.2.2.2.2.2.2.2.2.2
  clear t1 hm' hu hv x3 y3
  go_wp2_with fail
  refine (kx.out _ sx).mono ?_
  rintro e w2 ⟨rfl, rfl⟩
  go_wp2_with fail
  refine (ky.out _ sy).mono ?_
  rintro e w2 ⟨rfl, rfl⟩
  go_wp2_with fail
  refine (kl.out _).mono ?_
  rintro e w3 ⟨a, b, c, d, x, y, rfl, hD, hb3⟩
  have D := hide hD
  have hb4 : Below w3.heap.size w3 (w3.alloc (.cells #[.int .i64 a, .int .i64 b, .int .i64 c, .int .i64 d] 124)) := (Below.refl _ _).alloc (Nat.le_refl _) _
  have HZ : Below w2.heap.size w2 (w3.alloc (.cells #[.int .i64 a, .int .i64 b, .int .i64 c, .int .i64 d] 124)) := below_then hb3 hb4
  have FZ : Fac (w3.alloc (.cells #[.int .i64 a, .int .i64 b, .int .i64 c, .int .i64 d] 124)) w3.heap.size a b c d := heap_alloc_new w3 _
  obtain ⟨w4, e4⟩ : ∃ w4, w3.alloc (.cells #[.int .i64 a, .int .i64 b, .int .i64 c, .int .i64 d] 124) = w4 := ⟨_, rfl⟩
  rw [e4] at HZ FZ
  have E4 := hide e4
  clear e4 hD hb4
  have hx4 := hx.below HZ
  have hy4 := hy.below HZ
  by_cases hb : b = 0
  · subst hb
    have G := hide (gcd_step (val xs) (val ys) (val xs / val ys))
    have hpos : 0 < val ys := by
      have h9 := canon_low hcy (by intro e; subst e; simp at h3)
      have := pw_pos (ys.length - 1)
      omega
    have hmod : val xs - val xs / val ys * val ys = val xs % val ys := by
      have := Int.mul_ediv_add_emod (val xs) (val ys)
      rw [Int.mul_comm] at this
      omega
    rw [hmod] at G
    have M := hide (And.intro (Int.emod_nonneg (val xs) (show val ys ≠ 0 by omega)) (Int.emod_lt_of_pos (val xs) hpos))
    clear hmod
    go_wp2_with fail
    rw [E4.out]
    refine (divmod_any _ _ _ _ _ _ _ xs ys hx4.sl hy4.sl (by omega) (by omega)).mono ?_
    rintro e w5 ⟨v1', v2', rfl, i1, i2, _, hb5⟩
    have R1 : Hid (Is B w5 (.slice a2 ys.length c2) (val ys)) := ⟨ys, hy4.below hb5, hcy, rfl⟩
    have R2 := hide (i2.mono (B' := B) (by have := HZ.size; omega))
    have Z := hide (below_then HZ hb5)
    go_wp2
    go_ret2
    exact ⟨_, _, val ys, val xs % val ys, rfl, R1.out, R2.out, by have := M.out; omega, M.out.2, hle, G.out, Z.out⟩
  · have hbb : (b == 0) = false := by simp [hb]
    obtain ⟨⟨fa, fb, fc, fd⟩, fe, ff, fg, fh⟩ := FZ.facts
    have VX := (val_bounds hx.sl.parts.2.2.2).2
    have sgn1 : (0 ≤ a ∧ b ≤ 0) ∨ (a ≤ 0 ∧ 0 ≤ b) := by rcases D.out.sig with h | h <;> omega
    have sgn2 : (0 ≤ c ∧ d ≤ 0) ∨ (c ≤ 0 ∧ 0 ≤ d) := by rcases D.out.sig with h | h <;> omega
    have SG1 := hide sgn1
    have SG2 := hide sgn2
    have P1 : Hid (0 ≤ a * val xs + b * val ys ∧ a * val xs + b * val ys < pw xs.length) := by have h1 := D.out.le; have h2 := D.out.nn; have h4 := D.out.top; show _ ∧ _; omega
    have P2 : Hid (0 ≤ c * val xs + d * val ys ∧ c * val xs + d * val ys < pw xs.length) := by have h1 := D.out.le; have h2 := D.out.nn; have h4 := D.out.top; show _ ∧ _; omega
    have HB0 := hide hb
    clear sgn1 sgn2 VX hb
    go_wp2
    rw [E4.out]
    go_region_held3 (fun w' => w'.cell? ⟨w3.heap.size, 0, none⟩ = some (.int .i64 a) ∧ w'.cell? ⟨w3.heap.size, 1, none⟩ = some (.int .i64 b) ∧ w'.cell? ⟨w3.heap.size, 2, none⟩ = some (.int .i64 c) ∧ w'.cell? ⟨w3.heap.size, 3, none⟩ = some (.int .i64 d)) (go_keep) (first
      | (go_at_call 111; have _hq := hb5'; refine (combine_any _ _ _ _ _ _ _ xs ys ((hx4.below hb5').sl.below (by repeat (first | exact Below.refl _ _ | refine Below.drew ?_))) ((hy4.below hb5').sl.below (by repeat (first | exact Below.refl _ _ | refine Below.drew ?_))) (by omega) hlen c d D.out.bc D.out.bd SG2.out P2.out.1 P2.out.2).mono ?_; rintro e w6 ⟨v6, rfl, i6, hb6⟩; have hb6' : Below w5.heap.size w5 w6 := (show Below w5.heap.size w5 _ by repeat (first | exact Below.refl _ _ | refine Below.drew ?_)).trans hb6; have FZ6 := FZ5.below hb6'; obtain ⟨⟨ha, hb, hc, hd⟩, he, hf, hg, hh⟩ := FZ6.facts)
      | (go_at_call 111; refine (combine_any _ _ _ _ _ _ _ xs ys (hx4.sl.below (by repeat (first | exact Below.refl _ _ | refine Below.drew ?_))) (hy4.sl.below (by repeat (first | exact Below.refl _ _ | refine Below.drew ?_))) (by omega) hlen a b D.out.ba D.out.bb SG1.out P1.out.1 P1.out.2).mono ?_; rintro e w5 ⟨v5, rfl, i5, hb5⟩; have hb5' : Below w4.heap.size w4 w5 := (show Below w4.heap.size w4 _ by repeat (first | exact Below.refl _ _ | refine Below.drew ?_)).trans hb5; have FZ5 := FZ.below hb5'; obtain ⟨⟨ga, gb, gc, gd⟩, ge, gf, gg, gh⟩ := FZ5.facts))
    all_goals
      have R1 := hide ((i5.below hb6').mono (B' := B) (show B ≤ w4.heap.size by have := HZ.size; omega))
      have R2 := hide (i6.mono (B' := B) (show B ≤ w5.heap.size by have := HZ.size; have := hb5'.size; omega))
      have Z := hide (below_then HZ (below_then hb5' hb6'))
      clear fa fb fc fd fe ff fg fh ga gb gc gd ge gf gg gh ha hb hc hd he hf hg hh
      go_wp2
      go_ret2
      exact ⟨_, _, _, _, rfl, R1.out, R2.out, D.out.le, D.out.bz HB0.out, D.out.top, D.out.gcd, Z.out⟩

end Lm
end Go.Proofs.Ytkdcgnooeojjgab

namespace Go.Proofs.Ytkdcgnooeojjgab
namespace Lm
open Go.RowKit

theorem two_val' {rs : List Int} (h : ¬ 2 < rs.length) : rs.getD 1 0 * 4294967296 + rs.getD 0 0 = val rs := by
  match rs, h with
  | [], _ => rfl
  | [x], _ => simp [val]
  | [x, y], _ => simp [val]; omega
  | _ :: _ :: _ :: _, h => simp at h

theorem ret2_u64' {a b : Int} (h : a = b) : Ending.returned (.tuple #[.int .u64 a, .bool true]) = .returned (.tuple #[.int .u64 b, .bool true]) := by rw [h]

theorem short_val' {rs : List Int} (h : Limb rs) (h2 : rs.length ≤ 2) : 0 ≤ val rs ∧ val rs < 18446744073709551616 := by
  have h1 := val_bounds h
  have h3 := pw_mono (m := rs.length) (n := 2) (by omega)
  rw [show pw 2 = 18446744073709551616 from by decide] at h3
  omega

set_option maxRecDepth 20000 in
set_option maxHeartbeats 400000 in
theorem uint_short (w : World) (ao : Option Addr) (n cap : Nat) (xs : List Int) (hx : Sl w (.slice ao n cap) xs) (hs : xs.length ≤ 2) :
    Calls Try.prog 96 #[.slice ao n cap] w fun e w' => e = .returned (.tuple #[.int .u64 (val xs), .bool true]) ∧ w' = w := by
  obtain ⟨rfl, h1, h2, h3⟩ := hx.parts
  have t1 := tl_le xs
  have kc := hide (cut_any w ao _ cap xs hx)
  have hcn := canon_trim h3
  have hX : (xs.take (tl xs)).length = tl xs := by simp; omega
  have h2' : ¬ (2 : Int) < ((tl xs : Nat) : Int) := by omega
  have E3 := hide (two_val' (rs := xs.take (tl xs)) (by omega))
  rw [val_take_tl] at E3
  have b1 := limb_getD hcn.1 1
  have b0 := limb_getD hcn.1 0
  have k1 := limb_nat w _ _ hx.cut 1
  have k0 := limb_nat w _ _ hx.cut 0
  generalize (xs.take (tl xs)).getD 1 0 = y1 at E3 b1 k1
  generalize (xs.take (tl xs)).getD 0 0 = y0 at E3 b0 k0
  have K1 := hide k1
  have K0 := hide k0
  have hor : bits .or .u64 (y1 * 4294967296) y0 = y1 * 4294967296 + y0 := or_join y1 y0 b1.1 b1.2 b0.1 b0.2
  clear hcn hX k1 k0
  go_enter Try.func96, Try.ntmps96
  go_wp2_with fail
  refine (kc.out).mono ?_
  rintro e w' ⟨rfl, rfl⟩
  go_wp2_with fail
  refine (K1.out).mono ?_
  rintro e w' ⟨rfl, rfl⟩
  go_wp2_with fail
  refine (K0.out).mono ?_
  rintro e w' ⟨rfl, rfl⟩
  go_wp2
  go_ret2
  exact ⟨ret2_u64' E3.out, rfl⟩

theorem gcd_mod (m n : Int) : Int.gcd n (m % n) = Int.gcd m n := by
  have h1 := gcd_step m n (m / n)
  have h2 := Int.mul_ediv_add_emod m n
  rw [Int.mul_comm] at h2
  rw [show m - m / n * n = m % n by omega] at h1
  exact h1

theorem ret_u64 {a b : Int} (h : a = b) : Ending.returned (.int .u64 a) = .returned (.int .u64 b) := by rw [h]

set_option maxRecDepth 20000 in
set_option maxHeartbeats 400000 in
theorem gcdShort_any (w : World) (m n : Int) (hm : 0 ≤ m ∧ m < 18446744073709551616) (hn : 0 ≤ n ∧ n < 18446744073709551616) :
    Calls Try.prog 97 #[.int .u64 m, .int .u64 n] w fun e w' => e = .returned (.int .u64 (Int.gcd m n)) ∧ Below w.heap.size w w' := by
  go_enter Try.func97, Try.ntmps97
  go_wp2
  go_loopw [0, 1] (fun mv nv wr => ∃ a b : Int, mv = .int .u64 a ∧ nv = .int .u64 b ∧ (0 ≤ a ∧ a < 18446744073709551616) ∧ (0 ≤ b ∧ b < 18446744073709551616) ∧ Int.gcd a b = Int.gcd m n ∧ Below w.heap.size w wr) (fun _ nv _ => (intOf nv).toNat)
  case atStart => exact ⟨m, n, rfl, rfl, hm, hn, rfl, Below.refl _ _⟩
  case round =>
    obtain ⟨a, b, rfl, rfl, ha, hb, hg, HB⟩ := hrel
    have HG := hide hg
    clear hg
    by_cases h0 : b = 0
    · subst h0
      have HF : Hid (a = (Int.gcd m n : Int)) := by
        show _ = _
        rw [← HG.out, Int.gcd_zero_right]
        omega
      go_wp2
      go_ret
      exact ⟨ret_u64 HF.out, HB⟩
    · have hbb : (b != 0) = true := by simp [h0]
      have t1 : a.tmod b = a % b := Int.tmod_eq_emod_of_nonneg ha.1
      have r0 := Int.emod_nonneg a h0
      have r1 := Int.emod_lt_of_pos a (show 0 < b by omega)
      have HG' := hide ((gcd_mod a b).trans HG.out)
      go_wp2
      go_quiet (fail)
      go_wp2
      go_roundw
      case rel => exact ⟨b, a % b, rfl, rfl, hb, by omega, HG'.out, below_drewN HB _⟩
      case measure => simp [intOf]; omega

theorem Is.ow {B : Nat} {w : World} {v : Value} {x : Int} (h : Is B w v x) : ∃ ao cap rs, v = .slice ao rs.length cap ∧ Ow B w (.slice ao rs.length cap) rs ∧ Canon rs ∧ val rs = x := by
  obtain ⟨rs, ho, hc, hv⟩ := h
  obtain ⟨ao, cap, rfl, h1, h2, h3, h4⟩ := ho
  exact ⟨ao, cap, rs, rfl, ⟨ao, cap, rfl, h1, h2, h3, h4⟩, hc, hv⟩

theorem trim_is' (w : World) (ao : Option Addr) (n cap : Nat) (zs : List Int) (h : Sl w (.slice ao n cap) zs) (hz : zs.length ≤ 1000000) :
    Calls Try.prog 69 #[.slice ao n cap] w fun e w' => ∃ ao cap rs, e = .returned (.slice ao rs.length cap) ∧ Ow w.heap.size w' (.slice ao rs.length cap) rs ∧ Canon rs ∧ val rs = val zs ∧ rs.length ≤ zs.length ∧ Below w.heap.size w w' := by
  refine (trim_any w ao n cap zs h hz).mono ?_
  rintro e w' ⟨v, rfl, ho, hb⟩
  obtain ⟨ao', cap', rs, rfl, h1, h2, h3⟩ := Is.ow (B := w.heap.size) ⟨_, ho, canon_trim h.parts.2.2.2, val_take_tl zs⟩
  exact ⟨ao', cap', rs, rfl, h1, h2, h3, le_len h.parts.2.2.2 h2 (by omega), hb⟩

theorem sl_one_list {w : World} {v : Value} {r s : List Int} (h1 : Sl w v r) (h2 : Sl w v s) : r = s := by
  obtain ⟨ao, cap, rfl, _, _, _, h4⟩ := h1
  obtain ⟨ao', cap', hv, _, _, _, g4⟩ := h2
  obtain ⟨rfl, hl, rfl⟩ := (Value.slice.injEq .. ▸ hv)
  apply List.ext_getElem hl
  intro i hi1 hi2
  rcases h4 with rfl | ⟨b, off, rfl, hc⟩
  · simp at hi1
  rcases g4 with rfl | ⟨b', off', e, hc'⟩
  · simp at hi2
  · obtain ⟨rfl, rfl⟩ : b = b' ∧ off = off' := by simpa using e
    have e1 := hc i hi1
    have e2 := hc' i hi2
    rw [e1] at e2
    simp only [Option.some.injEq, Value.int.injEq, true_and, List.getD_eq_getElem?_getD, List.getElem?_eq_getElem hi1, List.getElem?_eq_getElem hi2, Option.getD_some] at e2
    exact e2

open Classical in
/-- What a slice is worth in a world. -/
noncomputable def worth (w : World) (v : Value) : Nat := if h : ∃ r, Sl w v r then (val (Classical.choose h)).toNat else 0

theorem worth_of {w : World} {v : Value} {r : List Int} (h : Sl w v r) : worth w v = (val r).toNat := by
  have hex : ∃ r, Sl w v r := ⟨r, h⟩
  unfold worth
  rw [dif_pos hex, sl_one_list (Classical.choose_spec hex) h]

set_option maxRecDepth 20000 in
set_option maxHeartbeats 2000000 in
theorem gcd_any (w : World) (a1 a2 : Option Addr) (n1 n2 c1 c2 : Nat) (xs ys : List Int) (hx : Sl w (.slice a1 n1 c1) xs) (hy : Sl w (.slice a2 n2 c2) ys) (hm1 : xs.length ≤ 400000) (hm2 : ys.length ≤ 400000) :
    Calls Try.prog 70 #[.slice a1 n1 c1, .slice a2 n2 c2] w fun e w' => ∃ v, e = .returned v ∧ Is w.heap.size w' v (Int.gcd (val xs) (val ys)) ∧ Below w.heap.size w w' := by
  go_enter Try.func70, Try.ntmps70
  go_wp2_with fail
  refine (trim_is' _ _ _ _ xs hx (by omega)).mono ?_
  rintro e w1 ⟨p1, q1, r1, rfl, o1, k1, v1, l1, hb1⟩
  go_wp2_with fail
  refine (trim_is' _ _ _ _ ys (hy.below hb1) (by omega)).mono ?_
  rintro e w2 ⟨p2, q2, r2, rfl, o2, k2, v2, l2, hb2⟩
  replace o1 := o1.below hb2
  replace o2 := o2.mono (B' := w.heap.size) hb1.size
  have HB2 := below_then hb1 hb2
  have C1 := hide k1
  have C2 := hide k2
  have V1 := hide v1
  have V2 := hide v2
  clear k1 k2 v1 v2
  have hle := fun (h : ¬ val r1 < val r2) => show val r2 ≤ val r1 by omega
  have g0 : ∀ {a b c d : Int}, Int.gcd a b = Int.gcd c d → ((Int.gcd a b : Nat) : Int) = ((Int.gcd c d : Nat) : Int) := fun h => by rw [h]
  have G1 : Hid (Int.gcd (val r1) (val r2) = Int.gcd (val xs) (val ys)) := by rw [V1.out, V2.out]; rfl
  have G2 : Hid (Int.gcd (val r2) (val r1) = Int.gcd (val xs) (val ys)) := by show _ = _; rw [Int.gcd_comm]; exact G1.out
  clear g0 hle
  by_cases hlt : val r1 < val r2
  · have k1 := hide (cmpI_lt hlt)
    have HLT := hide hlt
    clear hlt
    go_wp2_with fail
    refine (cmp_any _ _ _ _ _ _ _ r1 r2 o1.sl o2.sl).mono ?_
    rintro e w3 ⟨rfl, hb3⟩
    rw [k1.out]
    replace o1 := o1.below hb3
    replace o2 := o2.below hb3
    have HB3 := below_then HB2 hb3
    go_wp2
    go_loopw [5, 6] (fun xv yv wr => ∃ (p p' : Option Addr) (q q' : Nat) (r r' : List Int), xv = .slice p r.length q ∧ yv = .slice p' r'.length q' ∧ Ow w.heap.size wr (.slice p r.length q) r ∧ Canon r ∧ Ow w.heap.size wr (.slice p' r'.length q') r' ∧ Canon r' ∧ val r' ≤ val r ∧ r.length ≤ 400000 ∧ Int.gcd (val r) (val r') = Int.gcd (val xs) (val ys) ∧ Below w.heap.size w wr) (fun _ yv wr => worth wr yv)
    case atStart => exact ⟨p2, p1, q2, q1, r2, r1, rfl, rfl, o2, C2.out, o1, C1.out, by have := HLT.out; omega, by omega, G2.out, HB3⟩
    case round =>
      obtain ⟨p, p', q, q', r, r', rfl, rfl, hr, hcr, hr', hcr', hle, hlr, hg, HB⟩ := hrel
      obtain ⟨_, z1, z2, z3⟩ := hr.sl.parts
      obtain ⟨_, y1, y2, y3⟩ := hr'.sl.parts
      have HCR := hide hcr
      have HCR' := hide hcr'
      have HLE := hide hle
      have HG := hide hg
      have Z3 := hide z3
      have Y3 := hide y3
      have hrl : r'.length ≤ r.length := le_len z3 hcr' hle
      clear hcr hcr' hle hg z3 y3
      by_cases h2 : 2 < r'.length
      · have h2' : (2 : Int) < (r'.length : Int) := by omega
        have ks := hide (shrink_any wr w.heap.size HB.size p p' q q' r r' hr hr' HCR'.out hlr h2 HLE.out)
        have MW := hide (worth_of hr'.sl)
        have V0 := hide (val_bounds Y3.out).1
        go_wp2_with fail
        refine (ks.out).mono ?_
        rintro e w5 ⟨v5, v6, X', Y', rfl, i5, i6, hle5, hlt5, htop5, hg5, hb5⟩
        obtain ⟨p5, q5, r5, rfl, o5, c5, e5⟩ := i5.ow
        obtain ⟨p6, q6, r6, rfl, o6, c6, e6⟩ := i6.ow
        have MW5 := hide (worth_of o6.sl)
        have L5 : Hid (r5.length ≤ 400000) := by
          have h9 := le_len Z3.out c5 (by rw [e5]; exact htop5)
          show _ ≤ _
          omega
        have R := hide (And.intro e5 (And.intro e6 (And.intro hle5 (And.intro hlt5 hg5))))
        have C5 := hide c5
        have C6 := hide c6
        have Z5 := hide (HB.trans (hb5.mono HB.size))
        clear e5 e6 hle5 hlt5 htop5 hg5 c5 c6
        go_wp2
        go_roundw
        case rel => exact ⟨p5, p6, q5, q6, r5, r6, rfl, rfl, o5, C5.out, o6, C6.out, by rw [R.out.1, R.out.2.1]; exact R.out.2.2.1, L5.out, by rw [R.out.1, R.out.2.1, R.out.2.2.2.2]; exact HG.out, Z5.out⟩
        case measure =>
          rw [MW.out, MW5.out, R.out.2.1]
          have h8 := (val_bounds C6.out.1).1
          rw [R.out.2.1] at h8
          have h7 := R.out.2.2.2.1
          omega
      · have h2' : ¬ (2 : Int) < (r'.length : Int) := by omega
        by_cases h0 : val r' = 0
        · have kd := hide (divmod_none wr _ _ _ _ _ _ r r' hr.sl hr'.sl h0)
          have F : Hid (Is w.heap.size wr (.slice p r.length q) (Int.gcd (val xs) (val ys))) := by
            refine ⟨r, hr, HCR.out, ?_⟩
            rw [← HG.out, h0, Int.gcd_zero_right]
            have := (val_bounds Z3.out).1
            omega
          go_wp2_with fail
          refine (kd.out).mono ?_
          rintro e w5 ⟨rfl, hb5⟩
          have F5 := hide (F.out.below hb5)
          have Z5 := hide (HB.trans (hb5.mono HB.size))
          go_wp2
          go_ret
          exact ⟨_, rfl, F5.out, Z5.out⟩
        · have kd := hide (divmod_g wr _ _ _ _ _ _ r r' hr.sl hr'.sl (by omega) h0)
          have GM := hide ((gcd_mod (val r) (val r')).trans HG.out)
          have sv := short_val' Y3.out (by omega)
          go_wp2_with fail
          refine (kd.out).mono ?_
          rintro e w5 ⟨p5, q5, r5, p6, q6, r6, rfl, G5, G6, l5, l6, hb5⟩
          have hr5 := hr'.below hb5
          have sv6 := short_val' G6.canon.1 (by omega)
          have V6 := hide G6.val
          have Z5 := HB.trans (hb5.mono HB.size)
          go_wp2_with fail
          refine (uint_short _ _ _ _ r' hr5.sl (by omega)).mono ?_
          rintro e w6 ⟨rfl, rfl⟩
          go_wp2_with fail
          refine (uint_short _ _ _ _ r6 G6.sl (by omega)).mono ?_
          rintro e w6 ⟨rfl, rfl⟩
          go_wp2_with fail
          refine (gcdShort_any _ (val r') (val r6) sv sv6).mono ?_
          rintro e w7 ⟨rfl, hb7⟩
          have E7 : Hid (Int.gcd (val r') (val r6) = Int.gcd (val xs) (val ys)) := by rw [V6.out]; exact GM.out
          rw [E7.out]
          have hgl : Hid (((Int.gcd (val xs) (val ys) : Nat) : Int) < 18446744073709551616) := by
            have h9 : Int.gcd (val r') (val r6) ≤ (val r').natAbs := Int.gcd_le_natAbs_left _ (by omega)
            rw [E7.out] at h9
            show _ < _
            omega
          have Z7 := Z5.trans (hb7.mono Z5.size)
          have hs0 : (0 : Int) ≤ ((Int.gcd (val xs) (val ys) : Nat) : Int) := by omega
          obtain ⟨GG, hGG⟩ : ∃ G, ((Int.gcd (val xs) (val ys) : Nat) : Int) = G := ⟨_, rfl⟩
          rw [hGG] at hgl hs0 ⊢
          have HGG := hide hGG
          clear hGG
          go_wp2_with fail
          refine (small_any _ GG hs0 hgl.out).mono ?_
          rintro e w8 ⟨v8, rfl, i8, hb8⟩
          have R8 := hide (i8.mono (B' := w.heap.size) Z7.size)
          have Z8 := hide (Z7.trans (hb8.mono Z7.size))
          go_wp2
          go_ret
          exact ⟨_, rfl, by rw [HGG.out]; exact R8.out, Z8.out⟩
  · have HK : Hid (∃ k, cmpI (val r1) (val r2) = k ∧ ¬ k < 0) := ⟨_, rfl, fun h => hlt (cmpI_neg.1 h)⟩
    obtain ⟨k, hk, hk0⟩ := HK.out
    have k1 := hide hk
    have HLT := hide hlt
    clear hlt hk HK
    go_wp2_with fail
    refine (cmp_any _ _ _ _ _ _ _ r1 r2 o1.sl o2.sl).mono ?_
    rintro e w3 ⟨rfl, hb3⟩
    rw [k1.out]
    replace o1 := o1.below hb3
    replace o2 := o2.below hb3
    have HB3 := below_then HB2 hb3
    go_wp2
    go_loopw [5, 6] (fun xv yv wr => ∃ (p p' : Option Addr) (q q' : Nat) (r r' : List Int), xv = .slice p r.length q ∧ yv = .slice p' r'.length q' ∧ Ow w.heap.size wr (.slice p r.length q) r ∧ Canon r ∧ Ow w.heap.size wr (.slice p' r'.length q') r' ∧ Canon r' ∧ val r' ≤ val r ∧ r.length ≤ 400000 ∧ Int.gcd (val r) (val r') = Int.gcd (val xs) (val ys) ∧ Below w.heap.size w wr) (fun _ yv wr => worth wr yv)
    case atStart => exact ⟨p1, p2, q1, q2, r1, r2, rfl, rfl, o1, C1.out, o2, C2.out, by have := HLT.out; omega, by omega, G1.out, HB3⟩
    case round =>
      obtain ⟨p, p', q, q', r, r', rfl, rfl, hr, hcr, hr', hcr', hle, hlr, hg, HB⟩ := hrel
      obtain ⟨_, z1, z2, z3⟩ := hr.sl.parts
      obtain ⟨_, y1, y2, y3⟩ := hr'.sl.parts
      have HCR := hide hcr
      have HCR' := hide hcr'
      have HLE := hide hle
      have HG := hide hg
      have Z3 := hide z3
      have Y3 := hide y3
      have hrl : r'.length ≤ r.length := le_len z3 hcr' hle
      clear hcr hcr' hle hg z3 y3
      by_cases h2 : 2 < r'.length
      · have h2' : (2 : Int) < (r'.length : Int) := by omega
        have ks := hide (shrink_any wr w.heap.size HB.size p p' q q' r r' hr hr' HCR'.out hlr h2 HLE.out)
        have MW := hide (worth_of hr'.sl)
        have V0 := hide (val_bounds Y3.out).1
        go_wp2_with fail
        refine (ks.out).mono ?_
        rintro e w5 ⟨v5, v6, X', Y', rfl, i5, i6, hle5, hlt5, htop5, hg5, hb5⟩
        obtain ⟨p5, q5, r5, rfl, o5, c5, e5⟩ := i5.ow
        obtain ⟨p6, q6, r6, rfl, o6, c6, e6⟩ := i6.ow
        have MW5 := hide (worth_of o6.sl)
        have L5 : Hid (r5.length ≤ 400000) := by
          have h9 := le_len Z3.out c5 (by rw [e5]; exact htop5)
          show _ ≤ _
          omega
        have R := hide (And.intro e5 (And.intro e6 (And.intro hle5 (And.intro hlt5 hg5))))
        have C5 := hide c5
        have C6 := hide c6
        have Z5 := hide (HB.trans (hb5.mono HB.size))
        clear e5 e6 hle5 hlt5 htop5 hg5 c5 c6
        go_wp2
        go_roundw
        case rel => exact ⟨p5, p6, q5, q6, r5, r6, rfl, rfl, o5, C5.out, o6, C6.out, by rw [R.out.1, R.out.2.1]; exact R.out.2.2.1, L5.out, by rw [R.out.1, R.out.2.1, R.out.2.2.2.2]; exact HG.out, Z5.out⟩
        case measure =>
          rw [MW.out, MW5.out, R.out.2.1]
          have h8 := (val_bounds C6.out.1).1
          rw [R.out.2.1] at h8
          have h7 := R.out.2.2.2.1
          omega
      · have h2' : ¬ (2 : Int) < (r'.length : Int) := by omega
        by_cases h0 : val r' = 0
        · have kd := hide (divmod_none wr _ _ _ _ _ _ r r' hr.sl hr'.sl h0)
          have F : Hid (Is w.heap.size wr (.slice p r.length q) (Int.gcd (val xs) (val ys))) := by
            refine ⟨r, hr, HCR.out, ?_⟩
            rw [← HG.out, h0, Int.gcd_zero_right]
            have := (val_bounds Z3.out).1
            omega
          go_wp2_with fail
          refine (kd.out).mono ?_
          rintro e w5 ⟨rfl, hb5⟩
          have F5 := hide (F.out.below hb5)
          have Z5 := hide (HB.trans (hb5.mono HB.size))
          go_wp2
          go_ret
          exact ⟨_, rfl, F5.out, Z5.out⟩
        · have kd := hide (divmod_g wr _ _ _ _ _ _ r r' hr.sl hr'.sl (by omega) h0)
          have GM := hide ((gcd_mod (val r) (val r')).trans HG.out)
          have sv := short_val' Y3.out (by omega)
          go_wp2_with fail
          refine (kd.out).mono ?_
          rintro e w5 ⟨p5, q5, r5, p6, q6, r6, rfl, G5, G6, l5, l6, hb5⟩
          have hr5 := hr'.below hb5
          have sv6 := short_val' G6.canon.1 (by omega)
          have V6 := hide G6.val
          have Z5 := HB.trans (hb5.mono HB.size)
          go_wp2_with fail
          refine (uint_short _ _ _ _ r' hr5.sl (by omega)).mono ?_
          rintro e w6 ⟨rfl, rfl⟩
          go_wp2_with fail
          refine (uint_short _ _ _ _ r6 G6.sl (by omega)).mono ?_
          rintro e w6 ⟨rfl, rfl⟩
          go_wp2_with fail
          refine (gcdShort_any _ (val r') (val r6) sv sv6).mono ?_
          rintro e w7 ⟨rfl, hb7⟩
          have E7 : Hid (Int.gcd (val r') (val r6) = Int.gcd (val xs) (val ys)) := by rw [V6.out]; exact GM.out
          rw [E7.out]
          have hgl : Hid (((Int.gcd (val xs) (val ys) : Nat) : Int) < 18446744073709551616) := by
            have h9 : Int.gcd (val r') (val r6) ≤ (val r').natAbs := Int.gcd_le_natAbs_left _ (by omega)
            rw [E7.out] at h9
            show _ < _
            omega
          have Z7 := Z5.trans (hb7.mono Z5.size)
          have hs0 : (0 : Int) ≤ ((Int.gcd (val xs) (val ys) : Nat) : Int) := by omega
          obtain ⟨GG, hGG⟩ : ∃ G, ((Int.gcd (val xs) (val ys) : Nat) : Int) = G := ⟨_, rfl⟩
          rw [hGG] at hgl hs0 ⊢
          have HGG := hide hGG
          clear hGG
          go_wp2_with fail
          refine (small_any _ GG hs0 hgl.out).mono ?_
          rintro e w8 ⟨v8, rfl, i8, hb8⟩
          have R8 := hide (i8.mono (B' := w.heap.size) Z7.size)
          have Z8 := hide (Z7.trans (hb8.mono Z7.size))
          go_wp2
          go_ret
          exact ⟨_, rfl, by rw [HGG.out]; exact R8.out, Z8.out⟩

end Lm
end Go.Proofs.Ytkdcgnooeojjgab

namespace Go.Proofs.Ytkdcgnooeojjgab
namespace Lm
open Go.RowKit

theorem gcd_sg (nx ny : Bool) (X Y : Int) : Int.gcd (sg nx X) (sg ny Y) = Int.gcd X Y := by
  cases nx <;> cases ny <;> simp [sg]

theorem gcd_small {X Y : Int} (hX : 0 ≤ X) (hY : 0 ≤ Y) : ((Int.gcd X Y : Nat) : Int) ≤ X + Y := by
  by_cases h : X = 0
  · subst h
    rw [Int.gcd_zero_left]
    omega
  · have h9 : Int.gcd X Y ≤ X.natAbs := Int.gcd_le_natAbs_left _ h
    omega

theorem gcd_g (w : World) (a1 a2 : Option Addr) (n1 n2 c1 c2 : Nat) (xs ys : List Int) (hx : Sl w (.slice a1 n1 c1) xs) (hy : Sl w (.slice a2 n2 c2) ys) (hm1 : xs.length ≤ 400000) (hm2 : ys.length ≤ 400000) :
    Calls Try.prog 70 #[.slice a1 n1 c1, .slice a2 n2 c2] w fun e w' => ∃ ao cap rs, e = .returned (.slice ao rs.length cap) ∧ Got w' ao cap rs (Int.gcd (val xs) (val ys)) ∧ rs.length ≤ xs.length + ys.length + 1 ∧ Below w.heap.size w w' := by
  refine (gcd_any w a1 a2 n1 n2 c1 c2 xs ys hx hy hm1 hm2).mono ?_
  rintro e w' ⟨v, rfl, hi, hb⟩
  obtain ⟨ao, cap, rs, rfl, hg⟩ := hi.got
  refine ⟨ao, cap, rs, rfl, hg, canon_len hg.canon ?_, hb⟩
  rw [hg.val]
  have b1 := val_bounds hx.parts.2.2.2
  have b2 := val_bounds hy.parts.2.2.2
  have h1 := gcd_small b1.1 b2.1
  have m1 := pw_mono (m := xs.length) (n := xs.length + ys.length) (by omega)
  have m2 := pw_mono (m := ys.length) (n := xs.length + ys.length) (by omega)
  rw [pw]
  have := pw_pos (xs.length + ys.length)
  omega

end Lm
end Go.Proofs.Ytkdcgnooeojjgab

namespace Go.Proofs.Ytkdcgnooeojjgab
namespace Lm
open Go Go.RowKit

theorem OutL.to {z : Int} {L L' : Nat} {v : Value} {w : World} (h : OutL z L v w) (hl : L ≤ L') : OutL z L' v w := by
  obtain ⟨ao, cap, rs, e, h, l⟩ := h
  exact ⟨ao, cap, rs, e, h, Nat.le_trans l hl⟩

section
variable {dst : Option Tmp} {ty : TypeId} {pos : String} {after : Array Edge} {guard : Option (Nat × Bool)} {a : Act} {w : World} {ats : Array TypeId} {i j : Nat} {x y : Int} {L L1 L2 : Nat}

theorem has_ltrim : Has Try.prog 69 := by unfold Has; kernel_rfl
theorem op_ltrim (h : IsL x L (a.eval (.tmp i)) w) (hL : L ≤ 1000000) :
    Does Try.prog { dst, op := .call { callee := .value (.func 69), args := #[.tmp i], argTypes := ats }, type := ty, pos, after, guard } a.eval w fun v w' => Below w.heap.size w w' ∧ OutL x L v w' := by
  obtain ⟨ao, n, cap, xs, e, S, rfl, l⟩ := h
  refine does_call has_ltrim _ (by simp only [List.map_toArray, List.map_cons, List.map_nil, e]) ((trim_g w _ _ _ _ S (by omega)).mono ?_)
  rintro e w' ⟨ao, cap, rs, rfl, G, l', hb⟩
  exact ⟨_, rfl, hb, _, _, _, rfl, G, by omega⟩
theorem has_lgcd : Has Try.prog 70 := by unfold Has; kernel_rfl
theorem op_lgcd (h1 : IsL x L1 (a.eval (.tmp i)) w) (h2 : IsL y L2 (a.eval (.tmp j)) w) (hL : L1 ≤ 400000) (hL' : L2 ≤ 400000) :
    Does Try.prog { dst, op := .call { callee := .value (.func 70), args := #[.tmp i, .tmp j], argTypes := ats }, type := ty, pos, after, guard } a.eval w fun v w' => Below w.heap.size w w' ∧ OutL (Int.gcd x y) (L1 + L2 + 1) v w' := by
  obtain ⟨ao, n, cap, xs, e, S, rfl, l⟩ := h1
  obtain ⟨bo, m, dap, ys, e', S', rfl, l'⟩ := h2
  refine does_call has_lgcd _ (by simp only [List.map_toArray, List.map_cons, List.map_nil, e, e']) ((gcd_g w _ _ _ _ _ _ _ _ S S' (by omega) (by omega)).mono ?_)
  rintro e w' ⟨ao, cap, rs, rfl, G, l', hb⟩
  exact ⟨_, rfl, hb, _, _, _, rfl, G, by omega⟩
theorem does_via {P : Program} {k : Nat} {f : FuncId} {xs : Array Operand} {R : Value → World → Prop} (hk : a.eval (.tmp k) = .func (.func f) #[] #[]) (h : Does P { dst, op := .call { callee := .value (.func f), args := xs, argTypes := ats }, type := ty, pos, after, guard } a.eval w R) :
    Does P { dst, op := .call { callee := .value (.tmp k), args := xs, argTypes := ats }, type := ty, pos, after, guard } a.eval w R := by
  have e : execOp a.eval { dst, op := .call { callee := .value (.tmp k), args := xs, argTypes := ats }, type := ty, pos, after, guard } = execOp a.eval { dst, op := .call { callee := .value (.func f), args := xs, argTypes := ats }, type := ty, pos, after, guard } := by
    simp only [execOp, resolve, hk]
    rfl
  refine ⟨?_⟩
  have h := h.out
  unfold Turns at *
  rw [e]
  exact h
/-- How many bits. -/
def BitsOf (x : Int) : Says := fun v _ => ∃ k : Nat, v = .int .i64 k ∧ IsBits x k
theorem BitsOf.mono4 (x : Int) : Mono4 (BitsOf x) := fun _ _ _ _ h => h
theorem has_lbits : Has Try.prog 67 := by unfold Has; kernel_rfl
theorem op_lbits (h : IsL x L (a.eval (.tmp i)) w) (hL : L ≤ 1000000) :
    Does Try.prog { dst, op := .call { callee := .value (.func 67), args := #[.tmp i], argTypes := ats }, type := ty, pos, after, guard } a.eval w fun v w' => Below w.heap.size w w' ∧ BitsOf x v w' := by
  obtain ⟨ao, n, cap, xs, e, S, rfl, l⟩ := h
  refine does_call has_lbits _ (by simp only [List.map_toArray, List.map_cons, List.map_nil, e]) ((bits_any w _ _ _ _ S (by omega)).mono ?_)
  rintro e w' ⟨k, rfl, B, rfl⟩
  exact ⟨_, rfl, Below.refl _ _, k, rfl, B⟩
theorem has_ldiv : Has Try.prog 71 := by unfold Has; kernel_rfl
theorem op_ldiv (h1 : IsL x L1 (a.eval (.tmp i)) w) (h2 : IsL y L2 (a.eval (.tmp j)) w) (hL : L1 ≤ 400000) (h0 : y ≠ 0) :
    Does Try.prog { dst, op := .call { callee := .value (.func 71), args := #[.tmp i, .tmp j], argTypes := ats }, type := ty, pos, after, guard } a.eval w fun v w' => Below w.heap.size w w' ∧ Tup3 (OutL (x / y) L1) (OutL (x % y) L2) (Eqs (.bool true)) v w' := by
  obtain ⟨ao, n, cap, xs, e, S, rfl, l⟩ := h1
  obtain ⟨bo, m, dap, ys, e', S', rfl, l'⟩ := h2
  refine does_call has_ldiv _ (by simp only [List.map_toArray, List.map_cons, List.map_nil, e, e']) ((divmod_g w _ _ _ _ _ _ _ _ S S' (by omega) h0).mono ?_)
  rintro e w' ⟨ao, cap, rs, bo, dap, ss, rfl, G, G', l1, l2, hb⟩
  exact ⟨_, rfl, hb, _, _, _, rfl, ⟨_, _, _, rfl, G, by omega⟩, ⟨_, _, _, rfl, G', by omega⟩, rfl⟩
end

theorem bits_is_one {x : Int} {k : Nat} (h : IsBits x k) (hx : 0 < x) : ((k : Int) = 1 ↔ x = 1) := by
  constructor
  · intro hk
    have hk : k = 1 := by omega
    subst hk
    have := h.1
    simp [p2] at this
    omega
  · intro hx1
    subst hx1
    have h1 : IsBits 1 1 := ⟨by simp [p2], .inr (by simp [p2])⟩
    have := isBits_one h h1
    omega

/-- A fraction's numerator and denominator in lowest terms. -/
def nm (p q : Int) : Int := Int.sign q * (p / (Int.gcd p q : Int))
def dn (p q : Int) : Int := Int.sign q * (q / (Int.gcd p q : Int))

theorem tq_ne (q : Int) : tq q ≠ 0 := by
  unfold tq
  split <;> simp_all
theorem tq_pos {q : Int} (h : 0 ≤ q) : 0 < tq q := by
  unfold tq
  split <;> omega
theorem mul_ne {p q : Int} (h1 : p ≠ 0) (h2 : q ≠ 0) : p * q ≠ 0 := Int.mul_ne_zero h1 h2
theorem sign_zero_iff {z : Int} : Int.sign z = 0 ↔ z = 0 := Int.sign_eq_zero_iff_zero

theorem gcd_pos_right {p q : Int} (h : q ≠ 0) : (0 : Int) < (Int.gcd p q : Int) := by
  have := Int.gcd_pos_of_ne_zero_right p h
  omega
theorem gcd_sgn (a b : Bool) (x y : Int) : Int.gcd (sg a x) (sg b y) = Int.gcd x y := by
  cases a <;> cases b <;> simp [sg]
theorem nm_sg (a b : Bool) {x y : Int} (hy : 0 < y) : nm (sg a x) (sg b y) = sg (a != b) (x / (Int.gcd x y : Int)) := by
  unfold nm
  rw [gcd_sgn]
  have hd : ((Int.gcd x y : Nat) : Int) ∣ x := Int.gcd_dvd_left x y
  have hs : Int.sign y = 1 := Int.sign_eq_one_of_pos hy
  cases a <;> cases b <;> simp [sg, hs, Int.neg_ediv_of_dvd hd]
theorem dn_sg (a b : Bool) {x y : Int} (hy : 0 < y) : dn (sg a x) (sg b y) = y / (Int.gcd x y : Int) := by
  unfold dn
  rw [gcd_sgn]
  have hd : ((Int.gcd x y : Nat) : Int) ∣ y := Int.gcd_dvd_right x y
  have hs : Int.sign y = 1 := Int.sign_eq_one_of_pos hy
  cases b <;> simp [sg, hs, Int.neg_ediv_of_dvd hd]

end Lm
end Go.Proofs.Ytkdcgnooeojjgab

namespace Go.Proofs.Ytkdcgnooeojjgab
namespace Lm
open Go Go.RowKit

theorem gcd_pos' {x y : Int} (hy : 0 < y) : (0 : Int) < ((Int.gcd x y : Nat) : Int) := by
  have := Int.gcd_pos_of_ne_zero_right x (show y ≠ 0 by omega)
  omega
theorem ediv_pos_of {y g : Int} (hy : 0 < y) (hg : 0 < g) (hd : g ∣ y) : 0 < y / g := by
  obtain ⟨k, rfl⟩ := hd
  rw [Int.mul_ediv_cancel_left _ (by omega)]
  exact Int.pos_of_mul_pos_right hy (by omega)
theorem low_pos {x y X Y : Int} {n : Nat} (hy : 0 < y) (hx : 0 ≤ x) (h : (n = 1 ∧ X = x ∧ Y = y) ∨ (n = 0 ∧ X = x / ((Int.gcd x y : Nat) : Int) ∧ Y = y / ((Int.gcd x y : Nat) : Int))) : 0 < Y ∧ 0 ≤ X ∧ ((Int.gcd X Y : Nat) : Int) ≠ 0 := by
  have hg := gcd_pos' (x := x) hy
  have hY : 0 < Y := by
    rcases h with ⟨_, _, rfl⟩ | ⟨_, _, rfl⟩
    · exact hy
    · exact ediv_pos_of hy hg (Int.gcd_dvd_right x y)
  refine ⟨hY, ?_, ?_⟩
  · rcases h with ⟨_, rfl, _⟩ | ⟨_, rfl, _⟩
    · exact hx
    · exact Int.ediv_nonneg hx (by omega)
  · have := gcd_pos' (x := X) hY
    omega
theorem low_end {x y X Y : Int} {n : Nat} (_hy : 0 < y) (h : (n = 1 ∧ X = x ∧ Y = y) ∨ (n = 0 ∧ X = x / ((Int.gcd x y : Nat) : Int) ∧ Y = y / ((Int.gcd x y : Nat) : Int))) (hg : ((Int.gcd X Y : Nat) : Int) = 1) : X = x / ((Int.gcd x y : Nat) : Int) ∧ Y = y / ((Int.gcd x y : Nat) : Int) := by
  rcases h with ⟨_, rfl, rfl⟩ | ⟨_, h1, h2⟩
  · rw [hg]; simp
  · exact ⟨h1, h2⟩
theorem low_more {x y X Y : Int} {n : Nat} (hy : 0 < y) (h : (n = 1 ∧ X = x ∧ Y = y) ∨ (n = 0 ∧ X = x / ((Int.gcd x y : Nat) : Int) ∧ Y = y / ((Int.gcd x y : Nat) : Int))) (hg : ((Int.gcd X Y : Nat) : Int) ≠ 1) : n = 1 ∧ X = x ∧ Y = y := by
  rcases h with h | ⟨_, rfl, rfl⟩
  · exact h
  · exfalso
    apply hg
    have hp : 0 < Int.gcd x y := Int.gcd_pos_of_ne_zero_right x (show y ≠ 0 by omega)
    rw [Int.gcd_ediv_gcd_ediv_gcd hp]
    rfl

set_option maxRecDepth 20000 in
set_option maxHeartbeats 2000000 in
theorem lowest_z (w : World) (L : Nat) (hL : L ≤ 100000) (nx : Bool) (ax : Option Addr) (mx cx : Nat) (xs : List Int) (zx : Int) (Ax : Ag w nx ax mx cx xs zx) (Lx : xs.length ≤ L) (ny : Bool) (ay : Option Addr) (my cy : Nat) (ys : List Int) (zy : Int) (Ay : Ag w ny ay my cy ys zy) (Ly : ys.length ≤ L) (hy : zy ≠ 0) :
    Calls Try.prog 41 #[.agg #[.bool nx, .slice ax mx cx], .agg #[.bool ny, .slice ay my cy]] w fun e w' => ∃ v, e = .returned v ∧ OutR (nm zx zy) (dn zx zy) L v w' ∧ Below w.heap.size w w' := by
  have hx0 : 0 ≤ val xs := (val_bounds Ax.sl.parts.2.2.2).1
  have hy0 : 0 < val ys := by
    have h1 := (val_bounds Ay.sl.parts.2.2.2).1
    have h2 : val ys ≠ 0 := fun e => hy (by rw [← Ay.worth, e]; cases ny <;> simp [sg])
    omega
  go_enter Try.func41, Try.ntmps41
  generalize hA : (Act.mk _ _) = aa
  have hn : aa.tmps.size = 51 := by rw [← hA]; rfl
  have hd : aa.defers = [] := by rw [← hA]
  have f0 : aa.eval (.tmp 0) = .agg #[.bool nx, .slice ax mx cx] := by rw [← hA]; rfl
  have f1 : aa.eval (.tmp 1) = .agg #[.bool ny, .slice ay my cy] := by rw [← hA]; rfl
  clear hA
  have HB : Below w.heap.size w w := Below.refl _ _
  have Tx := Ax.sl; have Ty := Ay.sl; have hwx := Ax.worth; have hwy := Ay.worth
  refine wp_seq ?_
  refine region4 [some 2, some 3, some 4] [(fun _ _ => True), (fun _ _ => True), (fun _ _ => True)] [⟨W2, some 0, 0, 2, .agg #[.bool nx, .slice ax mx cx], none, []⟩, ⟨W2, some 1, 0, 3, .agg #[.bool ny, .slice ay my cy], none, []⟩, ⟨R3, some 2, 0, 4, .agg #[.bool false, .slice none 0 0, .slice none 0 0], none, []⟩] [] (by kernel_rfl) hn rfl (by kernel_rfl) (by kernel_rfl) (by kernel_rfl) (by kernel_rfl) (by kernel_rfl) (by kernel_rfl) ⟨True.mono4, True.mono4, True.mono4, trivial⟩ (ok_cons W2ok (ok_cons W2ok (ok_cons R3ok ok_nil))) (IsOld.all (bx := [⟨W2, some 0, 0, 2, .agg #[.bool nx, .slice ax mx cx], none, []⟩, ⟨W2, some 1, 0, 3, .agg #[.bool ny, .slice ay my cy], none, []⟩, ⟨R3, some 2, 0, 4, .agg #[.bool false, .slice none 0 0, .slice none 0 0], none, []⟩]) ⟨someNe, someNe, someNe, trivial⟩) (DisOld.all (bx := [⟨W2, some 0, 0, 2, .agg #[.bool nx, .slice ax mx cx], none, []⟩, ⟨W2, some 1, 0, 3, .agg #[.bool ny, .slice ay my cy], none, []⟩, ⟨R3, some 2, 0, 4, .agg #[.bool false, .slice none 0 0, .slice none 0 0], none, []⟩]) ⟨someNe, someNe, someNe, trivial⟩) ?_ ?_
  · exact ⟨.alloc 0 _ rfl rfl (.inr ⟨_, rfl, w2_cs, fun a_ hR => (hR 0 rfl).trans f0⟩) rfl rfl rfl rfl rfl,
      .alloc 1 _ rfl rfl (.inr ⟨_, rfl, w2_cs, fun a_ hR => (hR 1 rfl).trans f1⟩) rfl rfl rfl rfl rfl,
      .alloc 2 _ rfl rfl (.inl ⟨rfl, rfl⟩) rfl rfl rfl rfl rfl,
      trivial⟩
  · intro a1 w1 gs1 hn1 hd1 hBt hr hR hP hX hU
    replace hn := hn1; replace hd := hd1.trans hd
    have ne2_4 : gs1 0 ≠ gs1 2 := hU 0 2 (by simp) (by simp) (by decide)
    have ne3_4 : gs1 1 ≠ gs1 2 := hU 1 2 (by simp) (by simp) (by decide)
    have b2 : BoxV W2 w1 (gs1 0) (.agg #[.bool nx, .slice ax mx cx]) := (hX 0 _ rfl).2.2.2
    have f2 := (hX 0 _ rfl).1
    have u2 : w.heap.size ≤ gs1 0 := Nat.le_trans HB.size ((hX 0 _ rfl).2.2.1 (by simp))
    have b3 : BoxV W2 w1 (gs1 1) (.agg #[.bool ny, .slice ay my cy]) := (hX 1 _ rfl).2.2.2
    have f3 := (hX 1 _ rfl).1
    have u3 : w.heap.size ≤ gs1 1 := Nat.le_trans HB.size ((hX 1 _ rfl).2.2.1 (by simp))
    have b4 : BoxV R3 w1 (gs1 2) (.agg #[.bool false, .slice none 0 0, .slice none 0 0]) := (hX 2 _ rfl).2.2.2
    have f4 := (hX 2 _ rfl).1
    have u4 : w.heap.size ≤ gs1 2 := Nat.le_trans HB.size ((hX 2 _ rfl).2.2.1 (by simp))
    replace Ax := Ax.rl hr
    replace Tx := Tx.rl hr
    replace Ay := Ay.rl hr
    replace Ty := Ty.rl hr
    replace HB := HB.trans (hBt.below HB.size (UpOld.all (bx := [⟨W2, some 0, 0, 2, .agg #[.bool nx, .slice ax mx cx], none, []⟩, ⟨W2, some 1, 0, 3, .agg #[.bool ny, .slice ay my cy], none, []⟩, ⟨R3, some 2, 0, 4, .agg #[.bool false, .slice none 0 0, .slice none 0 0], none, []⟩]) ⟨someNe, someNe, someNe, trivial⟩))
    clear hBt hr hR hP hX hU
    refine wp_scope_straight ?_
    refine wp_seq ?_
    refine region4 [some 9, some 10, some 11, some 12, some 13, some 14, some 5, some 6] [Eqs (.pointer (some ⟨gs1 0, 1, none⟩)), Eqs (.slice ax mx cx), OutL ((val xs)) (L), Eqs (.pointer (some ⟨gs1 1, 1, none⟩)), Eqs (.slice ay my cy), OutL ((val ys)) (L), OutL ((val xs)) (L), OutL ((val ys)) (L)] [] [] (by kernel_rfl) hn rfl (by kernel_rfl) (by kernel_rfl) (by kernel_rfl) (by kernel_rfl) (by kernel_rfl) (by kernel_rfl) ⟨Eqs.mono4 _, Eqs.mono4 _, OutL.mono4 _ _, Eqs.mono4 _, Eqs.mono4 _, OutL.mono4 _ _, OutL.mono4 _ _, OutL.mono4 _ _, trivial⟩ ok_nil (IsOld.all (bx := []) trivial) (DisOld.all (bx := []) trivial) ?_ ?_
    · exact ⟨.norm 9 rfl rfl rfl (fun a_ w_ hn_ hBt hr hR hD hO hS => op_fa fa_mag ((hR 2 rfl).trans f2)),
        .norm 10 rfl rfl rfl (fun a_ w_ hn_ hBt hr hR hD hO hS => op_ldmag (show a_.eval (.tmp 9) = .pointer (some ⟨gs1 0, 1, none⟩) from hD 0 rfl) (b2.keep hBt trivial)),
        .norm 11 rfl rfl rfl (fun a_ w_ hn_ hBt hr hR hD hO hS => op_ltrim (isl_eq (show a_.eval (.tmp 10) = .slice ax mx cx from hD 1 rfl) (Tx.rl hr) rfl Lx) (by omega)),
        .norm 12 rfl rfl rfl (fun a_ w_ hn_ hBt hr hR hD hO hS => op_fa fa_mag ((hR 3 rfl).trans f3)),
        .norm 13 rfl rfl rfl (fun a_ w_ hn_ hBt hr hR hD hO hS => op_ldmag (show a_.eval (.tmp 12) = .pointer (some ⟨gs1 1, 1, none⟩) from hD 3 rfl) (b3.keep hBt trivial)),
        .norm 14 rfl rfl rfl (fun a_ w_ hn_ hBt hr hR hD hO hS => op_ltrim (isl_eq (show a_.eval (.tmp 13) = .slice ay my cy from hD 4 rfl) (Ty.rl hr) rfl Ly) (by omega)),
        .norm 5 rfl rfl rfl (fun a_ w_ hn_ hBt hr hR hD hO hS => op_asp (p := OutL ((val xs)) (L)) (show OutL ((val xs)) (L) (a_.eval (.tmp 11)) w_ from hD 2 rfl)),
        .norm 6 rfl rfl rfl (fun a_ w_ hn_ hBt hr hR hD hO hS => op_asp (p := OutL ((val ys)) (L)) (show OutL ((val ys)) (L) (a_.eval (.tmp 14)) w_ from hD 5 rfl)),
        trivial⟩
    · intro a2 w2 gs2 hn2 hd2 hBt hr hR hP hX hU
      replace hn := hn2; replace hd := hd2.trans hd
      replace b2 := b2.keep hBt trivial
      replace b3 := b3.keep hBt trivial
      replace b4 := b4.keep hBt trivial
      replace f2 := (hR 2 rfl).trans f2
      replace f3 := (hR 3 rfl).trans f3
      replace f4 := (hR 4 rfl).trans f4
      obtain ⟨a_3, c_3, r_3, e5, K3, l3⟩ : OutL ((val xs)) (L) (a2.eval (.tmp 5)) w2 := hP 6 (by decide)
      have S3 := K3.sl; have V3 := K3.val
      have f5 := e5
      obtain ⟨a_4, c_4, r_4, e6, K4, l4⟩ : OutL ((val ys)) (L) (a2.eval (.tmp 6)) w2 := hP 7 (by decide)
      have S4 := K4.sl; have V4 := K4.val
      have f6 := e6
      replace Ax := Ax.rl hr
      replace Tx := Tx.rl hr
      replace Ay := Ay.rl hr
      replace Ty := Ty.rl hr
      replace HB := HB.trans (hBt.below HB.size (UpOld.all (bx := []) trivial))
      clear hBt hr hR hP hX hU
      refine wp_seq ?_
      refine wp_label ?_
      refine wp_seq ?_
      refine wp_block ?_
      refine wp_loop_ghost (fun n a w' => a.tmps.size = 51 ∧ a.defers = [] ∧ a.eval (.tmp 2) = .pointer (some ⟨(gs1 0), 0, none⟩) ∧ a.eval (.tmp 3) = .pointer (some ⟨(gs1 1), 0, none⟩) ∧ a.eval (.tmp 4) = .pointer (some ⟨(gs1 2), 0, none⟩) ∧ BoxV W2 w' (gs1 0) (.agg #[.bool nx, .slice ax mx cx]) ∧ BoxV W2 w' (gs1 1) (.agg #[.bool ny, .slice ay my cy]) ∧ BoxV R3 w' (gs1 2) (.agg #[.bool false, .slice none 0 0, .slice none 0 0]) ∧ Below w.heap.size w w' ∧ ∃ X Y, OutL X L (a.eval (.tmp 5)) w' ∧ OutL Y L (a.eval (.tmp 6)) w' ∧ ((n = 1 ∧ X = val xs ∧ Y = val ys) ∨ (n = 0 ∧ X = val xs / ((Int.gcd (val xs) (val ys) : Nat) : Int) ∧ Y = val ys / ((Int.gcd (val xs) (val ys) : Nat) : Int)))) 1 ⟨hn, hd, f2, f3, f4, b2, b3, b4, HB, val xs, val ys, outl_eq f5 K3 l3, outl_eq f6 K4 l4, .inl ⟨rfl, rfl, rfl⟩⟩ ?_
      clear hn hd f2 f3 f4 f5 f6 b2 b3 b4 HB Ax Tx Ay Ty K3 S3 K4 S4
      rintro n aL wL ⟨hn, hd, f2, f3, f4, b2, b3, b4, HB, X, Y, ⟨a_X, c_X, r_X, f5, KX, lX⟩, ⟨a_Y, c_Y, r_Y, f6, KY, lY⟩, hXY⟩
      have SX := KX.sl; have VX := KX.val; have SY := KY.sl; have VY := KY.val
      obtain ⟨hY0, hX0, hg0⟩ := low_pos hy0 hx0 hXY
      
      refine wp_block ?_
      refine wp_seq ?_
      refine region4 [some 15, some 16, some 17, some 7] [Eqs (.slice a_X r_X.length c_X), Eqs (.slice a_Y r_Y.length c_Y), OutL (((Int.gcd X Y : Nat) : Int)) (L + L + 1), OutL (((Int.gcd X Y : Nat) : Int)) (L + L + 1)] [] [] (by kernel_rfl) hn rfl (by kernel_rfl) (by kernel_rfl) (by kernel_rfl) (by kernel_rfl) (by kernel_rfl) (by kernel_rfl) ⟨Eqs.mono4 _, Eqs.mono4 _, OutL.mono4 _ _, OutL.mono4 _ _, trivial⟩ ok_nil (IsOld.all (bx := []) trivial) (DisOld.all (bx := []) trivial) ?_ ?_
      · exact ⟨.norm 15 rfl rfl rfl (fun a_ w_ hn_ hBt hr hR hD hO hS => op_mv ((hR 5 rfl).trans f5)),
          .norm 16 rfl rfl rfl (fun a_ w_ hn_ hBt hr hR hD hO hS => op_mv ((hR 6 rfl).trans f6)),
          .norm 17 rfl rfl rfl (fun a_ w_ hn_ hBt hr hR hD hO hS => op_lgcd (isl_eq (show a_.eval (.tmp 15) = .slice a_X r_X.length c_X from hD 0 rfl) (SX.rl hr) VX lX) (isl_eq (show a_.eval (.tmp 16) = .slice a_Y r_Y.length c_Y from hD 1 rfl) (SY.rl hr) VY lY) (by omega) (by omega)),
          .norm 7 rfl rfl rfl (fun a_ w_ hn_ hBt hr hR hD hO hS => op_asp (p := OutL (((Int.gcd X Y : Nat) : Int)) (L + L + 1)) (show OutL (((Int.gcd X Y : Nat) : Int)) (L + L + 1) (a_.eval (.tmp 17)) w_ from hD 2 rfl)),
          trivial⟩
      · intro a5 w5 gs5 hn5 hd5 hBt hr hR hP hX hU
        replace hn := hn5; replace hd := hd5.trans hd
        replace b2 := b2.keep hBt trivial
        replace b3 := b3.keep hBt trivial
        replace b4 := b4.keep hBt trivial
        replace f2 := (hR 2 rfl).trans f2
        replace f3 := (hR 3 rfl).trans f3
        replace f4 := (hR 4 rfl).trans f4
        replace f5 := (hR 5 rfl).trans f5
        replace f6 := (hR 6 rfl).trans f6
        obtain ⟨a_6, c_6, r_6, e7, K6, l6⟩ : OutL (((Int.gcd X Y : Nat) : Int)) (L + L + 1) (a5.eval (.tmp 7)) w5 := hP 3 (by decide)
        have S6 := K6.sl; have V6 := K6.val
        have f7 := e7
        replace KX := KX.rl hr
        replace SX := SX.rl hr
        replace KY := KY.rl hr
        replace SY := SY.rl hr
        replace HB := HB.trans (hBt.below HB.size (UpOld.all (bx := []) trivial))
        clear hBt hr hR hP hX hU
        refine wp_seq ?_
        refine region4 [some 18, some 19] [Eqs (.slice a_6 r_6.length c_6), BitsOf (((Int.gcd X Y : Nat) : Int))] [] [] (by kernel_rfl) hn rfl (by kernel_rfl) (by kernel_rfl) (by kernel_rfl) (by kernel_rfl) (by kernel_rfl) (by kernel_rfl) ⟨Eqs.mono4 _, BitsOf.mono4 _, trivial⟩ ok_nil (IsOld.all (bx := []) trivial) (DisOld.all (bx := []) trivial) ?_ ?_
        · exact ⟨.norm 18 rfl rfl rfl (fun a_ w_ hn_ hBt hr hR hD hO hS => op_mv ((hR 7 rfl).trans f7)),
            .norm 19 rfl rfl rfl (fun a_ w_ hn_ hBt hr hR hD hO hS => op_lbits (isl_eq (show a_.eval (.tmp 18) = .slice a_6 r_6.length c_6 from hD 0 rfl) (S6.rl hr) V6 l6) (by omega)),
            trivial⟩
        · intro a7 w7 gs7 hn7 hd7 hBt hr hR hP hX hU
          replace hn := hn7; replace hd := hd7.trans hd
          replace b2 := b2.keep hBt trivial
          replace b3 := b3.keep hBt trivial
          replace b4 := b4.keep hBt trivial
          replace f2 := (hR 2 rfl).trans f2
          replace f3 := (hR 3 rfl).trans f3
          replace f4 := (hR 4 rfl).trans f4
          replace f5 := (hR 5 rfl).trans f5
          replace f6 := (hR 6 rfl).trans f6
          replace f7 := (hR 7 rfl).trans f7
          obtain ⟨k_8, e19, B8⟩ : BitsOf (((Int.gcd X Y : Nat) : Int)) (a7.eval (.tmp 19)) w7 := hP 1 (by decide)
          have f19 := e19
          replace KX := KX.rl hr
          replace SX := SX.rl hr
          replace KY := KY.rl hr
          replace SY := SY.rl hr
          replace K6 := K6.rl hr
          replace S6 := S6.rl hr
          replace HB := HB.trans (hBt.below HB.size (UpOld.all (bx := []) trivial))
          clear hBt hr hR hP hX hU
          refine wp_block ?_
          refine wp_seq ?_
          refine region4 [some 35, some 34] [Eqs (.bool (decide ((k_8 : Int) = 1))), Eqs (.bool (decide ((k_8 : Int) = 1)))] [] [] (by kernel_rfl) hn rfl (by kernel_rfl) (by kernel_rfl) (by kernel_rfl) (by kernel_rfl) (by kernel_rfl) (by kernel_rfl) ⟨Eqs.mono4 _, Eqs.mono4 _, trivial⟩ ok_nil (IsOld.all (bx := []) trivial) (DisOld.all (bx := []) trivial) ?_ ?_
          · exact ⟨.norm 35 rfl rfl rfl (fun a_ w_ hn_ hBt hr hR hD hO hS => op_eqlk ((hR 19 rfl).trans f19)),
              .norm 34 rfl rfl rfl (fun a_ w_ hn_ hBt hr hR hD hO hS => op_assign (show a_.eval (.tmp 35) = .bool (decide ((k_8 : Int) = 1)) from hD 0 rfl)),
              trivial⟩
          · intro a9 w9 gs9 hn9 hd9 hBt hr hR hP hX hU
            replace hn := hn9; replace hd := hd9.trans hd
            replace b2 := b2.keep hBt trivial
            replace b3 := b3.keep hBt trivial
            replace b4 := b4.keep hBt trivial
            replace f2 := (hR 2 rfl).trans f2
            replace f3 := (hR 3 rfl).trans f3
            replace f4 := (hR 4 rfl).trans f4
            replace f5 := (hR 5 rfl).trans f5
            replace f6 := (hR 6 rfl).trans f6
            replace f7 := (hR 7 rfl).trans f7
            have e34 : a9.eval (.tmp 34) = .bool (decide ((k_8 : Int) = 1)) := hP 1 (by decide)
            have f34 := e34
            replace KX := KX.rl hr
            replace SX := SX.rl hr
            replace KY := KY.rl hr
            replace SY := SY.rl hr
            replace K6 := K6.rl hr
            replace S6 := S6.rl hr
            replace HB := HB.trans (hBt.below HB.size (UpOld.all (bx := []) trivial))
            clear hBt hr hR hP hX hU
            refine wp_cond_split f34 (fun hc34 => ?_) (fun hc34 => ?_)
            · skip
              have hg1 : ((Int.gcd X Y : Nat) : Int) = 1 := (bits_is_one B8 (by omega)).1 (by simpa using hc34)
              have hXe := low_end hy0 hXY hg1
              refine wp_exit ?_
              repeat (first | refine then_exit ?_ | refine scope_exit ?_ | refine block_pass (by decide) ?_)
              refine block_exit ?_
              obtain ⟨bb, hbb⟩ : ∃ b, (nx != ny) = b := ⟨_, rfl⟩
              cases bb with
              | true =>
                refine wp_seq ?_
                refine region4 [some 36, some 37, some 38, some 39, some 40, some 41, some 42, some 43, some 44, some 45, some 8] [Eqs (.pointer (some ⟨(gs1 0), 0, none⟩)), Eqs (.bool nx), Eqs (.pointer (some ⟨(gs1 1), 0, none⟩)), Eqs (.bool ny), Eqs (.bool true), Eqs (.bool true), Eqs (.slice a_X r_X.length c_X), Eqs (.int .i64 (r_X.length : Int)), Eqs (.bool (decide (0 < (r_X.length : Int)))), Eqs (.bool (decide (0 < (r_X.length : Int)))), Eqs (.bool (decide (0 < (r_X.length : Int))))] [] [] (by kernel_rfl) hn rfl (by kernel_rfl) (by kernel_rfl) (by kernel_rfl) (by kernel_rfl) (by kernel_rfl) (by kernel_rfl) ⟨Eqs.mono4 _, Eqs.mono4 _, Eqs.mono4 _, Eqs.mono4 _, Eqs.mono4 _, Eqs.mono4 _, Eqs.mono4 _, Eqs.mono4 _, Eqs.mono4 _, Eqs.mono4 _, Eqs.mono4 _, trivial⟩ ok_nil (IsOld.all (bx := []) trivial) (DisOld.all (bx := []) trivial) ?_ ?_
                · exact ⟨.norm 36 rfl rfl rfl (fun a_ w_ hn_ hBt hr hR hD hO hS => op_fa fa_neg ((hR 2 rfl).trans f2)),
                    .norm 37 rfl rfl rfl (fun a_ w_ hn_ hBt hr hR hD hO hS => op_ldneg (show a_.eval (.tmp 36) = .pointer (some ⟨(gs1 0), 0, none⟩) from hD 0 rfl) (b2.keep hBt trivial)),
                    .norm 38 rfl rfl rfl (fun a_ w_ hn_ hBt hr hR hD hO hS => op_fa fa_neg ((hR 3 rfl).trans f3)),
                    .norm 39 rfl rfl rfl (fun a_ w_ hn_ hBt hr hR hD hO hS => op_ldneg (show a_.eval (.tmp 38) = .pointer (some ⟨(gs1 1), 0, none⟩) from hD 2 rfl) (b3.keep hBt trivial)),
                    .norm 40 rfl rfl rfl (fun a_ w_ hn_ hBt hr hR hD hO hS => (by rw [← hbb]; exact op_neqb (show a_.eval (.tmp 37) = .bool nx from hD 1 rfl) (show a_.eval (.tmp 39) = .bool ny from hD 3 rfl))),
                    .norm 41 rfl rfl rfl (fun a_ w_ hn_ hBt hr hR hD hO hS => op_mv (show a_.eval (.tmp 40) = .bool true from hD 4 rfl)),
                    .norm 42 rfl rfl rfl (fun a_ w_ hn_ hBt hr hR hD hO hS => ⟨⟨_, rfl⟩, fun _ => op_mv ((hR 5 rfl).trans f5), fun hne => absurd (hD 5 rfl) hne⟩),
                    .norm 43 rfl rfl rfl (fun a_ w_ hn_ hBt hr hR hD hO hS => ⟨⟨_, rfl⟩, fun _ => op_len (show a_.eval (.tmp 42) = .slice a_X r_X.length c_X from hD 6 rfl), fun hne => absurd (hD 5 rfl) hne⟩),
                    .norm 44 rfl rfl rfl (fun a_ w_ hn_ hBt hr hR hD hO hS => ⟨⟨_, rfl⟩, fun _ => op_gtrk (show a_.eval (.tmp 43) = .int .i64 (r_X.length : Int) from hD 7 rfl), fun hne => absurd (hD 5 rfl) hne⟩),
                    .norm 45 rfl rfl rfl (fun a_ w_ hn_ hBt hr hR hD hO hS => op_pickb (show a_.eval (.tmp 41) = .bool true from hD 5 rfl) (show a_.eval (.tmp 44) = .bool (decide (0 < (r_X.length : Int))) from hD 8 rfl)),
                    .norm 8 rfl rfl rfl (fun a_ w_ hn_ hBt hr hR hD hO hS => op_assign (show a_.eval (.tmp 45) = .bool (decide (0 < (r_X.length : Int))) from hD 9 rfl)),
                    trivial⟩
                · intro a10 w10 gs10 hn10 hd10 hBt hr hR hP hX hU
                  replace hn := hn10; replace hd := hd10.trans hd
                  replace b4 := b4.keep hBt trivial
                  replace f4 := (hR 4 rfl).trans f4
                  replace f5 := (hR 5 rfl).trans f5
                  replace f6 := (hR 6 rfl).trans f6
                  have e8 : a10.eval (.tmp 8) = .bool (decide (0 < (r_X.length : Int))) := hP 10 (by decide)
                  have f8 := e8
                  replace KX := KX.rl hr
                  replace SX := SX.rl hr
                  replace KY := KY.rl hr
                  replace SY := SY.rl hr
                  replace K6 := K6.rl hr
                  replace S6 := S6.rl hr
                  replace HB := HB.trans (hBt.below HB.size (UpOld.all (bx := []) trivial))
                  clear hBt hr hR hP hX hU
                  refine wp_seq ?_
                  refine region4 [some 46, some 47, some 48, some 49, some 50, none] [Eqs (.bool (decide (0 < (r_X.length : Int)))), Eqs (.slice a_X r_X.length c_X), Eqs (.agg #[.bool (decide (0 < (r_X.length : Int))), .slice a_X r_X.length c_X]), Eqs (.slice a_Y r_Y.length c_Y), Eqs (.agg #[.bool (decide (0 < (r_X.length : Int))), .slice a_X r_X.length c_X, .slice a_Y r_Y.length c_Y]), (fun _ _ => True)] [⟨R3, none, (gs1 2), 4, .agg #[.bool false, .slice none 0 0, .slice none 0 0], some (5, 50, 4), []⟩] [] (by kernel_rfl) hn rfl (by kernel_rfl) (by kernel_rfl) (by kernel_rfl) (by kernel_rfl) (by kernel_rfl) (by kernel_rfl) ⟨Eqs.mono4 _, Eqs.mono4 _, Eqs.mono4 _, Eqs.mono4 _, Eqs.mono4 _, True.mono4, trivial⟩ (ok_cons R3ok ok_nil) (IsOld.all (bx := [⟨R3, none, (gs1 2), 4, .agg #[.bool false, .slice none 0 0, .slice none 0 0], some (5, 50, 4), []⟩]) ⟨fun _ => ⟨f4, b4⟩, trivial⟩) (DisOld.all (bx := [⟨R3, none, (gs1 2), 4, .agg #[.bool false, .slice none 0 0, .slice none 0 0], some (5, 50, 4), []⟩]) ⟨fun _ => trivial, trivial⟩) ?_ ?_
                  · exact ⟨.norm 46 rfl rfl rfl (fun a_ w_ hn_ hBt hr hR hD hO hS => op_mv ((hR 8 rfl).trans f8)),
                      .norm 47 rfl rfl rfl (fun a_ w_ hn_ hBt hr hR hD hO hS => op_mv ((hR 5 rfl).trans f5)),
                      .norm 48 rfl rfl rfl (fun a_ w_ hn_ hBt hr hR hD hO hS => op_bW2 (show a_.eval (.tmp 46) = .bool (decide (0 < (r_X.length : Int))) from hD 0 rfl) (show a_.eval (.tmp 47) = .slice a_X r_X.length c_X from hD 1 rfl)),
                      .norm 49 rfl rfl rfl (fun a_ w_ hn_ hBt hr hR hD hO hS => op_mv ((hR 6 rfl).trans f6)),
                      .norm 50 rfl rfl rfl (fun a_ w_ hn_ hBt hr hR hD hO hS => op_bR (show a_.eval (.tmp 48) = .agg #[.bool (decide (0 < (r_X.length : Int))), .slice a_X r_X.length c_X] from hD 2 rfl) (show a_.eval (.tmp 49) = .slice a_Y r_Y.length c_Y from hD 3 rfl)),
                      .store 0 _ _ _ rfl rfl rfl rfl rfl rfl rfl (fun ia h => by cases h) rfl rfl rfl (eqs_cs r3_cs),
                      trivial⟩
                  · intro a11 w11 gs11 hn11 hd11 hBt hr hR hP hX hU
                    replace hn := hn11; replace hd := hd11.trans hd
                    have e50 : a11.eval (.tmp 50) = .agg #[.bool (decide (0 < (r_X.length : Int))), .slice a_X r_X.length c_X, .slice a_Y r_Y.length c_Y] := hP 4 (by decide)
                    have b4 : BoxV R3 w11 ((gs1 2)) (.agg #[.bool (decide (0 < (r_X.length : Int))), .slice a_X r_X.length c_X, .slice a_Y r_Y.length c_Y]) := boxv_old ((hX 0 _ rfl).2.1 rfl) (hX 0 _ rfl).2.2.2 e50
                    replace f4 : a11.eval (.tmp 4) = _ := (hR 4 rfl).trans f4
                    replace KX := KX.rl hr
                    replace SX := SX.rl hr
                    replace KY := KY.rl hr
                    replace SY := SY.rl hr
                    replace K6 := K6.rl hr
                    replace S6 := S6.rl hr
                    replace HB := HB.trans (hBt.below HB.size (UpOld.all (bx := [⟨R3, none, (gs1 2), 4, .agg #[.bool false, .slice none 0 0, .slice none 0 0], some (5, 50, 4), []⟩]) ⟨fun _ => u4, trivial⟩))
                    clear hBt hr hR hP hX hU
                    refine wp_ret ?_
                    repeat (first | refine then_ret ?_ | refine scope_ret ?_ | refine block_ret ?_)
                    refine bodyPost_ret (v := .agg #[.bool (decide (0 < (r_X.length : Int))), .slice a_X r_X.length c_X, .slice a_Y r_Y.length c_Y]) (res_c rfl f4 (lv_R3 b4)) hd ⟨_, rfl, outr_eq rfl ?_ ?_ lX lY, HB⟩
                    · rw [← hwx, ← hwy, nm_sg _ _ hy0, hbb, ← hXe.1]
                      have h := Wh.of true KX
                      simpa using h
                    · rw [← hwx, ← hwy, dn_sg _ _ hy0, ← hXe.2]; exact KY
              | false =>
                refine wp_seq ?_
                refine region4 [some 36, some 37, some 38, some 39, some 40, some 41, some 42, some 43, some 44, some 45, some 8] [Eqs (.pointer (some ⟨(gs1 0), 0, none⟩)), Eqs (.bool nx), Eqs (.pointer (some ⟨(gs1 1), 0, none⟩)), Eqs (.bool ny), Eqs (.bool false), Eqs (.bool false), (fun _ _ => True), (fun _ _ => True), (fun _ _ => True), Eqs (.bool false), Eqs (.bool false)] [] [] (by kernel_rfl) hn rfl (by kernel_rfl) (by kernel_rfl) (by kernel_rfl) (by kernel_rfl) (by kernel_rfl) (by kernel_rfl) ⟨Eqs.mono4 _, Eqs.mono4 _, Eqs.mono4 _, Eqs.mono4 _, Eqs.mono4 _, Eqs.mono4 _, True.mono4, True.mono4, True.mono4, Eqs.mono4 _, Eqs.mono4 _, trivial⟩ ok_nil (IsOld.all (bx := []) trivial) (DisOld.all (bx := []) trivial) ?_ ?_
                · exact ⟨.norm 36 rfl rfl rfl (fun a_ w_ hn_ hBt hr hR hD hO hS => op_fa fa_neg ((hR 2 rfl).trans f2)),
                    .norm 37 rfl rfl rfl (fun a_ w_ hn_ hBt hr hR hD hO hS => op_ldneg (show a_.eval (.tmp 36) = .pointer (some ⟨(gs1 0), 0, none⟩) from hD 0 rfl) (b2.keep hBt trivial)),
                    .norm 38 rfl rfl rfl (fun a_ w_ hn_ hBt hr hR hD hO hS => op_fa fa_neg ((hR 3 rfl).trans f3)),
                    .norm 39 rfl rfl rfl (fun a_ w_ hn_ hBt hr hR hD hO hS => op_ldneg (show a_.eval (.tmp 38) = .pointer (some ⟨(gs1 1), 0, none⟩) from hD 2 rfl) (b3.keep hBt trivial)),
                    .norm 40 rfl rfl rfl (fun a_ w_ hn_ hBt hr hR hD hO hS => (by rw [← hbb]; exact op_neqb (show a_.eval (.tmp 37) = .bool nx from hD 1 rfl) (show a_.eval (.tmp 39) = .bool ny from hD 3 rfl))),
                    .norm 41 rfl rfl rfl (fun a_ w_ hn_ hBt hr hR hD hO hS => op_mv (show a_.eval (.tmp 40) = .bool false from hD 4 rfl)),
                    .norm 42 rfl rfl rfl (fun a_ w_ hn_ hBt hr hR hD hO hS => ⟨⟨_, rfl⟩, fun h => absurd ((show _ = Value.bool false from hD 5 rfl).symm.trans h) (by simp), fun _ => trivial⟩),
                    .norm 43 rfl rfl rfl (fun a_ w_ hn_ hBt hr hR hD hO hS => ⟨⟨_, rfl⟩, fun h => absurd ((show _ = Value.bool false from hD 5 rfl).symm.trans h) (by simp), fun _ => trivial⟩),
                    .norm 44 rfl rfl rfl (fun a_ w_ hn_ hBt hr hR hD hO hS => ⟨⟨_, rfl⟩, fun h => absurd ((show _ = Value.bool false from hD 5 rfl).symm.trans h) (by simp), fun _ => trivial⟩),
                    .norm 45 rfl rfl rfl (fun a_ w_ hn_ hBt hr hR hD hO hS => op_pickb (show a_.eval (.tmp 41) = .bool false from hD 5 rfl) rfl),
                    .norm 8 rfl rfl rfl (fun a_ w_ hn_ hBt hr hR hD hO hS => op_assign (show a_.eval (.tmp 45) = .bool false from hD 9 rfl)),
                    trivial⟩
                · intro a12 w12 gs12 hn12 hd12 hBt hr hR hP hX hU
                  replace hn := hn12; replace hd := hd12.trans hd
                  replace b4 := b4.keep hBt trivial
                  replace f4 := (hR 4 rfl).trans f4
                  replace f5 := (hR 5 rfl).trans f5
                  replace f6 := (hR 6 rfl).trans f6
                  have e8 : a12.eval (.tmp 8) = .bool false := hP 10 (by decide)
                  have f8 := e8
                  replace KX := KX.rl hr
                  replace SX := SX.rl hr
                  replace KY := KY.rl hr
                  replace SY := SY.rl hr
                  replace K6 := K6.rl hr
                  replace S6 := S6.rl hr
                  replace HB := HB.trans (hBt.below HB.size (UpOld.all (bx := []) trivial))
                  clear hBt hr hR hP hX hU
                  refine wp_seq ?_
                  refine region4 [some 46, some 47, some 48, some 49, some 50, none] [Eqs (.bool false), Eqs (.slice a_X r_X.length c_X), Eqs (.agg #[.bool false, .slice a_X r_X.length c_X]), Eqs (.slice a_Y r_Y.length c_Y), Eqs (.agg #[.bool false, .slice a_X r_X.length c_X, .slice a_Y r_Y.length c_Y]), (fun _ _ => True)] [⟨R3, none, (gs1 2), 4, .agg #[.bool false, .slice none 0 0, .slice none 0 0], some (5, 50, 4), []⟩] [] (by kernel_rfl) hn rfl (by kernel_rfl) (by kernel_rfl) (by kernel_rfl) (by kernel_rfl) (by kernel_rfl) (by kernel_rfl) ⟨Eqs.mono4 _, Eqs.mono4 _, Eqs.mono4 _, Eqs.mono4 _, Eqs.mono4 _, True.mono4, trivial⟩ (ok_cons R3ok ok_nil) (IsOld.all (bx := [⟨R3, none, (gs1 2), 4, .agg #[.bool false, .slice none 0 0, .slice none 0 0], some (5, 50, 4), []⟩]) ⟨fun _ => ⟨f4, b4⟩, trivial⟩) (DisOld.all (bx := [⟨R3, none, (gs1 2), 4, .agg #[.bool false, .slice none 0 0, .slice none 0 0], some (5, 50, 4), []⟩]) ⟨fun _ => trivial, trivial⟩) ?_ ?_
                  · exact ⟨.norm 46 rfl rfl rfl (fun a_ w_ hn_ hBt hr hR hD hO hS => op_mv ((hR 8 rfl).trans f8)),
                      .norm 47 rfl rfl rfl (fun a_ w_ hn_ hBt hr hR hD hO hS => op_mv ((hR 5 rfl).trans f5)),
                      .norm 48 rfl rfl rfl (fun a_ w_ hn_ hBt hr hR hD hO hS => op_bW2 (show a_.eval (.tmp 46) = .bool false from hD 0 rfl) (show a_.eval (.tmp 47) = .slice a_X r_X.length c_X from hD 1 rfl)),
                      .norm 49 rfl rfl rfl (fun a_ w_ hn_ hBt hr hR hD hO hS => op_mv ((hR 6 rfl).trans f6)),
                      .norm 50 rfl rfl rfl (fun a_ w_ hn_ hBt hr hR hD hO hS => op_bR (show a_.eval (.tmp 48) = .agg #[.bool false, .slice a_X r_X.length c_X] from hD 2 rfl) (show a_.eval (.tmp 49) = .slice a_Y r_Y.length c_Y from hD 3 rfl)),
                      .store 0 _ _ _ rfl rfl rfl rfl rfl rfl rfl (fun ia h => by cases h) rfl rfl rfl (eqs_cs r3_cs),
                      trivial⟩
                  · intro a13 w13 gs13 hn13 hd13 hBt hr hR hP hX hU
                    replace hn := hn13; replace hd := hd13.trans hd
                    have e50 : a13.eval (.tmp 50) = .agg #[.bool false, .slice a_X r_X.length c_X, .slice a_Y r_Y.length c_Y] := hP 4 (by decide)
                    have b4 : BoxV R3 w13 ((gs1 2)) (.agg #[.bool false, .slice a_X r_X.length c_X, .slice a_Y r_Y.length c_Y]) := boxv_old ((hX 0 _ rfl).2.1 rfl) (hX 0 _ rfl).2.2.2 e50
                    replace f4 : a13.eval (.tmp 4) = _ := (hR 4 rfl).trans f4
                    replace KX := KX.rl hr
                    replace SX := SX.rl hr
                    replace KY := KY.rl hr
                    replace SY := SY.rl hr
                    replace K6 := K6.rl hr
                    replace S6 := S6.rl hr
                    replace HB := HB.trans (hBt.below HB.size (UpOld.all (bx := [⟨R3, none, (gs1 2), 4, .agg #[.bool false, .slice none 0 0, .slice none 0 0], some (5, 50, 4), []⟩]) ⟨fun _ => u4, trivial⟩))
                    clear hBt hr hR hP hX hU
                    refine wp_ret ?_
                    repeat (first | refine then_ret ?_ | refine scope_ret ?_ | refine block_ret ?_)
                    refine bodyPost_ret (v := .agg #[.bool false, .slice a_X r_X.length c_X, .slice a_Y r_Y.length c_Y]) (res_c rfl f4 (lv_R3 b4)) hd ⟨_, rfl, outr_eq rfl ?_ ?_ lX lY, HB⟩
                    · rw [← hwx, ← hwy, nm_sg _ _ hy0, hbb, ← hXe.1]
                      have h := Wh.of false KX
                      simpa using h
                    · rw [← hwx, ← hwy, dn_sg _ _ hy0, ← hXe.2]; exact KY
            · skip
              have hg1 : ((Int.gcd X Y : Nat) : Int) ≠ 1 := fun e => absurd ((bits_is_one B8 (by omega)).2 e) (by simpa using hc34)
              have hn1 := low_more hy0 hXY hg1
              refine wp_seq ?_
              refine region4 [some 21, some 22, some 23, some 20, some 24, some 25, some 26, some 5] [Eqs (.slice a_X r_X.length c_X), Eqs (.slice a_6 r_6.length c_6), Tup3 (OutL ((X / ((Int.gcd X Y : Nat) : Int))) (L)) (OutL ((X % ((Int.gcd X Y : Nat) : Int))) (L + L + 1)) (Eqs (.bool true)), Tup3 (OutL ((X / ((Int.gcd X Y : Nat) : Int))) (L)) (OutL ((X % ((Int.gcd X Y : Nat) : Int))) (L + L + 1)) (Eqs (.bool true)), OutL ((X / ((Int.gcd X Y : Nat) : Int))) (L), OutL ((X % ((Int.gcd X Y : Nat) : Int))) (L + L + 1), Eqs (.bool true), OutL ((X / ((Int.gcd X Y : Nat) : Int))) (L)] [] [(7, 0)] (by kernel_rfl) hn rfl (by kernel_rfl) (by kernel_rfl) (by kernel_rfl) (by kernel_rfl) (by kernel_rfl) (by kernel_rfl) ⟨Eqs.mono4 _, Eqs.mono4 _, Tup3.mono4 (OutL.mono4 _ _) (OutL.mono4 _ _) (Eqs.mono4 _), Tup3.mono4 (OutL.mono4 _ _) (OutL.mono4 _ _) (Eqs.mono4 _), OutL.mono4 _ _, OutL.mono4 _ _, Eqs.mono4 _, OutL.mono4 _ _, trivial⟩ ok_nil (IsOld.all (bx := []) trivial) (DisOld.all (bx := []) trivial) ?_ ?_
              · exact ⟨.norm 21 rfl rfl rfl (fun a_ w_ hn_ hBt hr hR hD hO hS => op_mv ((hS 7 5 rfl rfl).trans f5)),
                  .norm 22 rfl rfl rfl (fun a_ w_ hn_ hBt hr hR hD hO hS => op_mv ((hR 7 rfl).trans f7)),
                  .norm 23 rfl rfl rfl (fun a_ w_ hn_ hBt hr hR hD hO hS => op_ldiv (isl_eq (show a_.eval (.tmp 21) = .slice a_X r_X.length c_X from hD 0 rfl) (SX.rl hr) VX lX) (isl_eq (show a_.eval (.tmp 22) = .slice a_6 r_6.length c_6 from hD 1 rfl) (S6.rl hr) V6 l6) (by omega) hg0),
                  .norm 20 rfl rfl rfl (fun a_ w_ hn_ hBt hr hR hD hO hS => op_mvp (p := Tup3 (OutL ((X / ((Int.gcd X Y : Nat) : Int))) (L)) (OutL ((X % ((Int.gcd X Y : Nat) : Int))) (L + L + 1)) (Eqs (.bool true))) (show Tup3 (OutL ((X / ((Int.gcd X Y : Nat) : Int))) (L)) (OutL ((X % ((Int.gcd X Y : Nat) : Int))) (L + L + 1)) (Eqs (.bool true)) (a_.eval (.tmp 23)) w_ from hD 2 rfl)),
                  .norm 24 rfl rfl rfl (fun a_ w_ hn_ hBt hr hR hD hO hS => op_ex30 (show Tup3 (OutL ((X / ((Int.gcd X Y : Nat) : Int))) (L)) (OutL ((X % ((Int.gcd X Y : Nat) : Int))) (L + L + 1)) (Eqs (.bool true)) (a_.eval (.tmp 20)) w_ from hD 3 rfl)),
                  .norm 25 rfl rfl rfl (fun a_ w_ hn_ hBt hr hR hD hO hS => op_ex31 (show Tup3 (OutL ((X / ((Int.gcd X Y : Nat) : Int))) (L)) (OutL ((X % ((Int.gcd X Y : Nat) : Int))) (L + L + 1)) (Eqs (.bool true)) (a_.eval (.tmp 20)) w_ from hD 3 rfl)),
                  .norm 26 rfl rfl rfl (fun a_ w_ hn_ hBt hr hR hD hO hS => op_ex32 (show Tup3 (OutL ((X / ((Int.gcd X Y : Nat) : Int))) (L)) (OutL ((X % ((Int.gcd X Y : Nat) : Int))) (L + L + 1)) (Eqs (.bool true)) (a_.eval (.tmp 20)) w_ from hD 3 rfl)),
                  .norm 5 rfl rfl rfl (fun a_ w_ hn_ hBt hr hR hD hO hS => op_asp (p := OutL ((X / ((Int.gcd X Y : Nat) : Int))) (L)) (show OutL ((X / ((Int.gcd X Y : Nat) : Int))) (L) (a_.eval (.tmp 24)) w_ from hD 4 rfl)),
                  trivial⟩
              · intro a14 w14 gs14 hn14 hd14 hBt hr hR hP hX hU
                replace hn := hn14; replace hd := hd14.trans hd
                replace b2 := b2.keep hBt trivial
                replace b3 := b3.keep hBt trivial
                replace b4 := b4.keep hBt trivial
                replace f2 := (hR 2 rfl).trans f2
                replace f3 := (hR 3 rfl).trans f3
                replace f4 := (hR 4 rfl).trans f4
                replace f6 := (hR 6 rfl).trans f6
                replace f7 := (hR 7 rfl).trans f7
                obtain ⟨a_15, c_15, r_15, e5, K15, l15⟩ : OutL ((X / ((Int.gcd X Y : Nat) : Int))) (L) (a14.eval (.tmp 5)) w14 := hP 7 (by decide)
                have S15 := K15.sl; have V15 := K15.val
                have f5 := e5
                replace KX := KX.rl hr
                replace SX := SX.rl hr
                replace KY := KY.rl hr
                replace SY := SY.rl hr
                replace K6 := K6.rl hr
                replace S6 := S6.rl hr
                replace HB := HB.trans (hBt.below HB.size (UpOld.all (bx := []) trivial))
                clear hBt hr hR hP hX hU
                refine region4 [some 28, some 29, some 30, some 27, some 31, some 32, some 33, some 6] [Eqs (.slice a_Y r_Y.length c_Y), Eqs (.slice a_6 r_6.length c_6), Tup3 (OutL ((Y / ((Int.gcd X Y : Nat) : Int))) (L)) (OutL ((Y % ((Int.gcd X Y : Nat) : Int))) (L + L + 1)) (Eqs (.bool true)), Tup3 (OutL ((Y / ((Int.gcd X Y : Nat) : Int))) (L)) (OutL ((Y % ((Int.gcd X Y : Nat) : Int))) (L + L + 1)) (Eqs (.bool true)), OutL ((Y / ((Int.gcd X Y : Nat) : Int))) (L), OutL ((Y % ((Int.gcd X Y : Nat) : Int))) (L + L + 1), Eqs (.bool true), OutL ((Y / ((Int.gcd X Y : Nat) : Int))) (L)] [] [(7, 0)] (by kernel_rfl) hn rfl (by kernel_rfl) (by kernel_rfl) (by kernel_rfl) (by kernel_rfl) (by kernel_rfl) (by kernel_rfl) ⟨Eqs.mono4 _, Eqs.mono4 _, Tup3.mono4 (OutL.mono4 _ _) (OutL.mono4 _ _) (Eqs.mono4 _), Tup3.mono4 (OutL.mono4 _ _) (OutL.mono4 _ _) (Eqs.mono4 _), OutL.mono4 _ _, OutL.mono4 _ _, Eqs.mono4 _, OutL.mono4 _ _, trivial⟩ ok_nil (IsOld.all (bx := []) trivial) (DisOld.all (bx := []) trivial) ?_ ?_
                · exact ⟨.norm 28 rfl rfl rfl (fun a_ w_ hn_ hBt hr hR hD hO hS => op_mv ((hS 7 6 rfl rfl).trans f6)),
                    .norm 29 rfl rfl rfl (fun a_ w_ hn_ hBt hr hR hD hO hS => op_mv ((hR 7 rfl).trans f7)),
                    .norm 30 rfl rfl rfl (fun a_ w_ hn_ hBt hr hR hD hO hS => op_ldiv (isl_eq (show a_.eval (.tmp 28) = .slice a_Y r_Y.length c_Y from hD 0 rfl) (SY.rl hr) VY lY) (isl_eq (show a_.eval (.tmp 29) = .slice a_6 r_6.length c_6 from hD 1 rfl) (S6.rl hr) V6 l6) (by omega) hg0),
                    .norm 27 rfl rfl rfl (fun a_ w_ hn_ hBt hr hR hD hO hS => op_mvp (p := Tup3 (OutL ((Y / ((Int.gcd X Y : Nat) : Int))) (L)) (OutL ((Y % ((Int.gcd X Y : Nat) : Int))) (L + L + 1)) (Eqs (.bool true))) (show Tup3 (OutL ((Y / ((Int.gcd X Y : Nat) : Int))) (L)) (OutL ((Y % ((Int.gcd X Y : Nat) : Int))) (L + L + 1)) (Eqs (.bool true)) (a_.eval (.tmp 30)) w_ from hD 2 rfl)),
                    .norm 31 rfl rfl rfl (fun a_ w_ hn_ hBt hr hR hD hO hS => op_ex30 (show Tup3 (OutL ((Y / ((Int.gcd X Y : Nat) : Int))) (L)) (OutL ((Y % ((Int.gcd X Y : Nat) : Int))) (L + L + 1)) (Eqs (.bool true)) (a_.eval (.tmp 27)) w_ from hD 3 rfl)),
                    .norm 32 rfl rfl rfl (fun a_ w_ hn_ hBt hr hR hD hO hS => op_ex31 (show Tup3 (OutL ((Y / ((Int.gcd X Y : Nat) : Int))) (L)) (OutL ((Y % ((Int.gcd X Y : Nat) : Int))) (L + L + 1)) (Eqs (.bool true)) (a_.eval (.tmp 27)) w_ from hD 3 rfl)),
                    .norm 33 rfl rfl rfl (fun a_ w_ hn_ hBt hr hR hD hO hS => op_ex32 (show Tup3 (OutL ((Y / ((Int.gcd X Y : Nat) : Int))) (L)) (OutL ((Y % ((Int.gcd X Y : Nat) : Int))) (L + L + 1)) (Eqs (.bool true)) (a_.eval (.tmp 27)) w_ from hD 3 rfl)),
                    .norm 6 rfl rfl rfl (fun a_ w_ hn_ hBt hr hR hD hO hS => op_asp (p := OutL ((Y / ((Int.gcd X Y : Nat) : Int))) (L)) (show OutL ((Y / ((Int.gcd X Y : Nat) : Int))) (L) (a_.eval (.tmp 31)) w_ from hD 4 rfl)),
                    trivial⟩
                · intro a16 w16 gs16 hn16 hd16 hBt hr hR hP hX hU
                  replace hn := hn16; replace hd := hd16.trans hd
                  replace b2 := b2.keep hBt trivial
                  replace b3 := b3.keep hBt trivial
                  replace b4 := b4.keep hBt trivial
                  replace f2 := (hR 2 rfl).trans f2
                  replace f3 := (hR 3 rfl).trans f3
                  replace f4 := (hR 4 rfl).trans f4
                  replace f5 := (hR 5 rfl).trans f5
                  obtain ⟨a_17, c_17, r_17, e6, K17, l17⟩ : OutL ((Y / ((Int.gcd X Y : Nat) : Int))) (L) (a16.eval (.tmp 6)) w16 := hP 7 (by decide)
                  have S17 := K17.sl; have V17 := K17.val
                  have f6 := e6
                  replace KX := KX.rl hr
                  replace SX := SX.rl hr
                  replace KY := KY.rl hr
                  replace SY := SY.rl hr
                  replace K6 := K6.rl hr
                  replace S6 := S6.rl hr
                  replace K15 := K15.rl hr
                  replace S15 := S15.rl hr
                  replace HB := HB.trans (hBt.below HB.size (UpOld.all (bx := []) trivial))
                  clear hBt hr hR hP hX hU
                  refine block_normal ?_
                  refine block_normal ?_
                  exact ⟨0, by omega, hn, hd, f2, f3, f4, b2, b3, b4, HB, _, _, outl_eq f5 K15 l15, outl_eq f6 K17 l17, Or.inr ⟨rfl, by rw [hn1.2.1, hn1.2.2], by rw [hn1.2.1, hn1.2.2]⟩⟩

theorem has_lowest : Has Try.prog 41 := by unfold Has; kernel_rfl
theorem op_lowest {dst : Option Tmp} {ty : TypeId} {pos : String} {after : Array Edge} {guard : Option (Nat × Bool)} {a : Act} {w : World} {ats : Array TypeId} {i j : Nat} {p q : Int} {L1 L2 : Nat} (h : IsW p L1 (a.eval (.tmp i)) w) (h' : IsW q L2 (a.eval (.tmp j)) w) (hL : L1 + L2 ≤ 100000) (hq : q ≠ 0) :
    Does Try.prog { dst, op := .call { callee := .value (.func 41), args := #[.tmp i, .tmp j], argTypes := ats }, type := ty, pos, after, guard } a.eval w fun v w' => Below w.heap.size w w' ∧ OutR (nm p q) (dn p q) (L1 + L2) v w' := by
  obtain ⟨ng, ao, n, cap, xs, e, A, l⟩ := h
  obtain ⟨ng', ao', n', cap', xs', e', A', l'⟩ := h'
  refine does_call has_lowest _ (by simp only [List.map_toArray, List.map_cons, List.map_nil, e, e']) ((lowest_z w (L1 + L2) hL _ _ _ _ _ _ A (by omega) _ _ _ _ _ _ A' (by omega) hq).mono ?_)
  rintro e w' ⟨v, rfl, h1, hb⟩
  exact ⟨_, rfl, hb, h1⟩

end Lm
end Go.Proofs.Ytkdcgnooeojjgab
