/-
  The contract of lookAhead.
-/
import Derived.Test.YtkdcgnooeojjgabLhP
import Derived.Deep.QuietTactic
import Derived.BigQuiet
import Derived.Deep.RegionWith
import Derived.Deep.RegionHeld3
namespace Go.Proofs.Ytkdcgnooeojjgab
namespace Lm
open Go.RowKit

/-- A block that holds four factors. -/
def Fac (w : World) (g : Nat) (a b c d : Int) : Prop := w.heap[g]? = some (.cells #[.int .i64 a, .int .i64 b, .int .i64 c, .int .i64 d] 124 (0, 0))

theorem Fac.facts {w : World} {g : Nat} {a b c d : Int} (h : Fac w g a b c d) : (w.cell? ⟨g, 0, none⟩ = some (.int .i64 a) ∧ w.cell? ⟨g, 1, none⟩ = some (.int .i64 b) ∧ w.cell? ⟨g, 2, none⟩ = some (.int .i64 c) ∧ w.cell? ⟨g, 3, none⟩ = some (.int .i64 d)) ∧ (w.frozen? ⟨g, 0, none⟩ = false ∧ w.frozen? ⟨g, 1, none⟩ = false ∧ w.frozen? ⟨g, 2, none⟩ = false ∧ w.frozen? ⟨g, 3, none⟩ = false) :=
  ⟨⟨by rw [cell_of_row _ _ _ _ _ (0, 0) h]; rfl, by rw [cell_of_row _ _ _ _ _ (0, 0) h]; rfl, by rw [cell_of_row _ _ _ _ _ (0, 0) h]; rfl, by rw [cell_of_row _ _ _ _ _ (0, 0) h]; rfl⟩, frozen_of_row _ _ _ _ _ h, frozen_of_row _ _ _ _ _ h, frozen_of_row _ _ _ _ _ h, frozen_of_row _ _ _ _ _ h⟩

theorem div_fit {u s : Int} (hs : 0 < s) : u / s * s ≤ u ∧ u < (u / s + 1) * s := by
  have h1 := Int.mul_ediv_add_emod u s
  have h2 := Int.emod_nonneg u (show s ≠ 0 by omega)
  have h3 := Int.emod_lt_of_pos u hs
  rw [Int.add_mul, Int.one_mul, Int.mul_comm (u / s) s]
  omega

theorem div_small {u s : Int} (hu : 0 ≤ u) (hs : 0 < s) : 0 ≤ u / s ∧ u / s ≤ u := ⟨Int.ediv_nonneg hu (by omega), Int.ediv_le_self _ hu⟩

theorem Lh.less {x0 y0 X Y a b c d x y q : Int} (H : Lh x0 y0 X Y a b c d x y) (hq : 0 ≤ q) (q2 : x + a < (q + 1) * (y + c)) (q4 : x + b < (q + 1) * (y + d)) : x - q * y < y ∧ q * y ≤ q * y := by
  have m1 : (q + 1) * (y + c) = q * y + q * c + (y + c) := by rw [Int.add_mul, Int.one_mul, Int.mul_add]
  have m2 : (q + 1) * (y + d) = q * y + q * d + (y + d) := by rw [Int.add_mul, Int.one_mul, Int.mul_add]
  rcases H.sig with ⟨s1, s2, s3, s4, _, _⟩ | ⟨s1, s2, s3, s4, _, _⟩
  · have p1 : q * c ≤ 0 := by
      have : q * c ≤ q * 0 := Int.mul_le_mul_of_nonneg_left s3 hq
      omega
    omega
  · have p2 : q * d ≤ 0 := by
      have : q * d ≤ q * 0 := Int.mul_le_mul_of_nonneg_left s4 hq
      omega
    omega

theorem Fac.set {w : World} {g : Nat} {a b c d : Int} (h : Fac w g a b c d) (a' b' c' d' : Int) : Fac ((((w.setCell ⟨g, 0, none⟩ (.int .i64 a')).setCell ⟨g, 1, none⟩ (.int .i64 b')).setCell ⟨g, 2, none⟩ (.int .i64 c')).setCell ⟨g, 3, none⟩ (.int .i64 d')) g a' b' c' d' := by
  have h1 := heap_setCell_same w g 0 _ _ (.int .i64 a') h
  have h2 := heap_setCell_same _ g 1 _ _ (.int .i64 b') h1
  have h3 := heap_setCell_same _ g 2 _ _ (.int .i64 c') h2
  have h4 := heap_setCell_same _ g 3 _ _ (.int .i64 d') h3
  exact h4

theorem Fac.other {w : World} {g k : Nat} {a b c d : Int} (H : Fac w g a b c d) (hn : g ≠ k) (a' b' c' d' : Value) : Fac ((((w.setCell ⟨k, 0, none⟩ a').setCell ⟨k, 1, none⟩ b').setCell ⟨k, 2, none⟩ c').setCell ⟨k, 3, none⟩ d') g a b c d :=
  (heap_setCell_other _ ⟨k, 3, none⟩ g d' hn).trans ((heap_setCell_other _ ⟨k, 2, none⟩ g c' hn).trans ((heap_setCell_other _ ⟨k, 1, none⟩ g b' hn).trans ((heap_setCell_other w ⟨k, 0, none⟩ g a' hn).trans H)))

theorem below_set4 {B : Nat} {w w1 : World} {g : Nat} (hb : Below B w w1) (hg : B ≤ g) (a b c d : Value) : Below B w ((((w1.setCell ⟨g, 0, none⟩ a).setCell ⟨g, 1, none⟩ b).setCell ⟨g, 2, none⟩ c).setCell ⟨g, 3, none⟩ d) := (((hb.setCell hg _).setCell hg _).setCell hg _).setCell hg _

set_option maxRecDepth 20000 in
set_option maxHeartbeats 2000000 in
theorem lookAhead_any (w : World) (x0 y0 X Y L : Int) (h1 : 1 ≤ x0) (h2 : 0 ≤ y0) (h3 : x0 < 1073741824) (h4 : y0 < 1073741824) (hY0 : 0 ≤ Y) (hle : Y ≤ X) (hL : 0 < L) (hX : x0 * L ≤ X) (hX2 : X ≤ (x0 + 1) * L) (hY : y0 * L ≤ Y) (hY2 : Y ≤ (y0 + 1) * L) :
    Calls Try.prog 109 #[.int .i64 x0, .int .i64 y0] w fun e w' => ∃ a b c d x y, e = .returned (.agg #[.int .i64 a, .int .i64 b, .int .i64 c, .int .i64 d]) ∧ Lh x0 y0 X Y a b c d x y ∧ Below w.heap.size w w' := by
  have ST := hide (Lh.start h1 h2 h3 h4 hY0 hle)
  have e0 : ∃ w0 : World, (w.alloc (.cells #[.int .i64 0, .int .i64 0, .int .i64 0, .int .i64 0] 124)).alloc (.cells #[.int .i64 1, .int .i64 0, .int .i64 0, .int .i64 1] 124) = w0 ∧ Fac w0 w.heap.size 0 0 0 0 ∧ Fac w0 (w.heap.size + 1) 1 0 0 1 ∧ Below w.heap.size w w0 := by
    have h1 := heap_alloc_new w (.cells #[.int .i64 0, .int .i64 0, .int .i64 0, .int .i64 0] 124)
    have b1 : Below w.heap.size w (w.alloc (.cells #[.int .i64 0, .int .i64 0, .int .i64 0, .int .i64 0] 124)) := (Below.refl _ _).alloc (Nat.le_refl _) _
    have h2 := heap_alloc_new (w.alloc (.cells #[.int .i64 0, .int .i64 0, .int .i64 0, .int .i64 0] 124)) (.cells #[.int .i64 1, .int .i64 0, .int .i64 0, .int .i64 1] 124)
    have b2 : Below (w.alloc (.cells #[.int .i64 0, .int .i64 0, .int .i64 0, .int .i64 0] 124)).heap.size (w.alloc (.cells #[.int .i64 0, .int .i64 0, .int .i64 0, .int .i64 0] 124)) ((w.alloc (.cells #[.int .i64 0, .int .i64 0, .int .i64 0, .int .i64 0] 124)).alloc (.cells #[.int .i64 1, .int .i64 0, .int .i64 0, .int .i64 1] 124)) := (Below.refl _ _).alloc (Nat.le_refl _) _
    refine ⟨_, rfl, (b2.block _ (by simp)).trans h1, ?_, b1.trans (b2.mono b1.size)⟩
    have h3 := h2
    rw [World.size_alloc] at h3
    exact h3
  obtain ⟨w0, e0, hR0, hF0, hb0⟩ := e0
  have E0 := hide e0
  clear e0
  go_enter Try.func109, Try.ntmps109
  go_wp2
  rw [E0.out]
  go_loopw [0, 1] (fun xv yv wr => ∃ a b c d x y : Int, xv = .int .i64 x ∧ yv = .int .i64 y ∧ Lh x0 y0 X Y a b c d x y ∧ Fac wr (w.heap.size + 1) a b c d ∧ Fac wr w.heap.size 0 0 0 0 ∧ Below w.heap.size w wr) (fun _ yv _ => (intOf yv).toNat)
  case atStart => exact ⟨1, 0, 0, 1, x0, y0, rfl, rfl, ST.out, hF0, hR0, hb0⟩
  case round =>
    obtain ⟨a, b, c, d, x, y, rfl, rfl, hD, hF, hR, HB⟩ := hrel
    have D := hide hD
    have ba := hD.ba
    have bb := hD.bb
    have bc := hD.bc
    have bd := hD.bd
    have bx := hD.bx
    have by' := hD.by'
    have x1 := hD.x1
    have y1 := hD.y0'
    have pxa := hD.xa
    have pxb := hD.xb
    have pyc := hD.yc
    have pyd := hD.yd
    clear hD
    by_cases hc : y + c = 0
    · have hcb : ((y + c) != 0) = false := by simp [hc]
      have HC := hide hc
      clear hc
      obtain ⟨⟨fa, fb, fc, fd⟩, _⟩ := hF.facts
      obtain ⟨⟨ra, rb, rc, rd⟩, re, rf, rg, rh⟩ := hR.facts
      have XF := hide (hR.set a b c d).facts.1
      have Z := hide (below_set4 HB (Nat.le_refl _) (.int .i64 a) (.int .i64 b) (.int .i64 c) (.int .i64 d))
      go_wp2
      refine bodyPost_ret (v := .agg #[.int .i64 a, .int .i64 b, .int .i64 c, .int .i64 d]) ?_ rfl ⟨a, b, c, d, x, y, rfl, D.out, Z.out⟩
      simp [results, Try.results109, go_sem, XF.out.1, XF.out.2.1, XF.out.2.2.1, XF.out.2.2.2]
    · have hcb : ((y + c) != 0) = true := by simp [hc]
      have hcp : 0 < y + c := by omega
      clear hc
      by_cases hd : y + d = 0
      · have hdb : ((y + d) != 0) = false := by simp [hd]
        have HD := hide hd
        clear hd
        obtain ⟨⟨fa, fb, fc, fd⟩, _⟩ := hF.facts
        obtain ⟨⟨ra, rb, rc, rd⟩, re, rf, rg, rh⟩ := hR.facts
        have XF := hide (hR.set a b c d).facts.1
        have Z := hide (below_set4 HB (Nat.le_refl _) (.int .i64 a) (.int .i64 b) (.int .i64 c) (.int .i64 d))
        go_wp2
        refine bodyPost_ret (v := .agg #[.int .i64 a, .int .i64 b, .int .i64 c, .int .i64 d]) ?_ rfl ⟨a, b, c, d, x, y, rfl, D.out, Z.out⟩
        simp [results, Try.results109, go_sem, XF.out.1, XF.out.2.1, XF.out.2.2.1, XF.out.2.2.2]
      · have hdb : ((y + d) != 0) = true := by simp [hd]
        have hdp : 0 < y + d := by omega
        clear hd
        have f1 := div_fit (u := x + a) hcp
        have f2 := div_fit (u := x + b) hdp
        have g1 := div_small pxa hcp
        have g2 := div_small pxb hdp
        have t1 : (x + a).tdiv (y + c) = (x + a) / (y + c) := Int.tdiv_eq_ediv_of_nonneg pxa
        have t2 : (x + b).tdiv (y + d) = (x + b) / (y + d) := Int.tdiv_eq_ediv_of_nonneg pxb
        obtain ⟨q, hq⟩ : ∃ q, (x + a) / (y + c) = q := ⟨_, rfl⟩
        obtain ⟨q', hq'⟩ : ∃ q, (x + b) / (y + d) = q := ⟨_, rfl⟩
        rw [hq] at f1 g1 t1
        rw [hq'] at f2 g2 t2
        clear hq hq'
        by_cases hqq : q = q'
        · subst hqq
          have ST' := hide (D.out.step hL hX hX2 hY hY2 h3 h4 hcp hdp f1.1 f1.2 f2.1 f2.2 g1.1)
          have LS := (D.out.less g1.1 f1.2 f2.2).1
          have bc' := ST'.out.bc
          have bd' := ST'.out.bd
          have by2 := ST'.out.y0'
          obtain ⟨P1, hP1⟩ : ∃ P, q * c = P := ⟨_, rfl⟩
          obtain ⟨P2, hP2⟩ : ∃ P, q * d = P := ⟨_, rfl⟩
          obtain ⟨P3, hP3⟩ : ∃ P, q * y = P := ⟨_, rfl⟩
          rw [hP1] at ST' bc'
          rw [hP2] at ST' bd'
          rw [hP3] at ST' LS by2
          obtain ⟨⟨fa, fb, fc, fd⟩, fe, ff, fg, fh⟩ := hF.facts
          have HF' := hide (hF.set c d (a - P1) (b - P2))
          have HR' := hide (hR.other (show w.heap.size ≠ w.heap.size + 1 by omega) (.int .i64 c) (.int .i64 d) (.int .i64 (a - P1)) (.int .i64 (b - P2)))
          have HB' := hide (below_set4 HB (Nat.le_succ _) (.int .i64 c) (.int .i64 d) (.int .i64 (a - P1)) (.int .i64 (b - P2)))
          have p3 : 0 ≤ P3 := by rw [← hP3]; exact Int.mul_nonneg g1.1 y1
          clear f1 f2
          go_wp2
          go_roundw
          case rel => exact ⟨c, d, a - P1, b - P2, y, x - P3, rfl, rfl, ST'.out, HF'.out, HR'.out, HB'.out⟩
          case measure => simp [intOf]; omega
        · have hqb : (q != q') = true := by simp [hqq]
          clear f1 f2
          obtain ⟨⟨fa, fb, fc, fd⟩, _⟩ := hF.facts
          obtain ⟨⟨ra, rb, rc, rd⟩, re, rf, rg, rh⟩ := hR.facts
          have XF := hide (hR.set a b c d).facts.1
          have Z := hide (below_set4 HB (Nat.le_refl _) (.int .i64 a) (.int .i64 b) (.int .i64 c) (.int .i64 d))
          go_wp2
          refine bodyPost_ret (v := .agg #[.int .i64 a, .int .i64 b, .int .i64 c, .int .i64 d]) ?_ rfl ⟨a, b, c, d, x, y, rfl, D.out, Z.out⟩
          simp [results, Try.results109, go_sem, XF.out.1, XF.out.2.1, XF.out.2.2.1, XF.out.2.2.2]

end Lm
end Go.Proofs.Ytkdcgnooeojjgab
