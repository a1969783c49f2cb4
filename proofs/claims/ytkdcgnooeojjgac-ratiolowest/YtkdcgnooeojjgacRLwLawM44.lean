/-
  The contract of lookAhead. The contract of shrink. The contracts of Uint, gcdShort and Gcd. Whole numbers: the contract of Gcd.
-/
import Derived.Test.YtkdcgnooeojjgacRLwLawM43
import Derived.Deep.QuietTactic
import Derived.BigQuiet
import Derived.Deep.RegionWith
import Derived.Deep.RegionHeld3
namespace Go.Proofs.Ytkdcgnooeojjgac
namespace Lm
open Go.RowKit

/-- A block that holds four factors. -/
def Fac (w : World) (g : Nat) (a b c d : Int) : Prop := w.heap[g]? = some (.cells #[.int .i64 a, .int .i64 b, .int .i64 c, .int .i64 d] 78 (0, 0))

theorem Fac.facts {w : World} {g : Nat} {a b c d : Int} (h : Fac w g a b c d) : (w.cell? ⟨g, 0, none⟩ = some (.int .i64 a) ∧ w.cell? ⟨g, 1, none⟩ = some (.int .i64 b) ∧ w.cell? ⟨g, 2, none⟩ = some (.int .i64 c) ∧ w.cell? ⟨g, 3, none⟩ = some (.int .i64 d)) ∧ (w.frozen? ⟨g, 0, none⟩ = false ∧ w.frozen? ⟨g, 1, none⟩ = false ∧ w.frozen? ⟨g, 2, none⟩ = false ∧ w.frozen? ⟨g, 3, none⟩ = false) :=
  ⟨⟨by rw [cell_of_row _ _ _ _ _ (0, 0) h]; rfl, by rw [cell_of_row _ _ _ _ _ (0, 0) h]; rfl, by rw [cell_of_row _ _ _ _ _ (0, 0) h]; rfl, by rw [cell_of_row _ _ _ _ _ (0, 0) h]; rfl⟩, frozen_of_row _ _ _ _ _ h, frozen_of_row _ _ _ _ _ h, frozen_of_row _ _ _ _ _ h, frozen_of_row _ _ _ _ _ h⟩

theorem div_fit {u s : Int} (hs : 0 < s) : u / s * s ≤ u ∧ u < (u / s + 1) * s := by
  have h1 := Int.mul_ediv_add_emod u s
  have h2 := Int.emod_nonneg u (show s ≠ 0 by omega)
  have h3 := Int.emod_lt_of_pos u hs
  rw [Int.add_mul, Int.one_mul, Int.mul_comm (u / s) s]
  omega

theorem div_small {u s : Int} (hu : 0 ≤ u) (hs : 0 < s) : 0 ≤ u / s ∧ u / s ≤ u := ⟨Int.ediv_nonneg hu (by omega), Int.ediv_le_self _ hu⟩

theorem Lh.less {x0 y0 X Y a b c d x y q : Int} (H : Lh x0 y0 X Y a b c d x y) (hq : 0 ≤ q) (q2 : x + a < (q + 1) * (y + c)) (q4 : x + b < (q + 1) * (y + d)) : x - q * y < y ∧ q * y ≤ q * y := by
  have m1 : (q + 1) * (y + c) = q * y + q * c + (y + c) := by rw [Int.add_mul, Int.one_mul, Int.mul_add]
  have m2 : (q + 1) * (y + d) = q * y + q * d + (y + d) := by rw [Int.add_mul, Int.one_mul, Int.mul_add]
  rcases H.sig with ⟨s1, s2, s3, s4, _, _⟩ | ⟨s1, s2, s3, s4, _, _⟩
  · have p1 : q * c ≤ 0 := by
      have : q * c ≤ q * 0 := Int.mul_le_mul_of_nonneg_left s3 hq
      omega
    omega
  · have p2 : q * d ≤ 0 := by
      have : q * d ≤ q * 0 := Int.mul_le_mul_of_nonneg_left s4 hq
      omega
    omega

theorem Fac.set {w : World} {g : Nat} {a b c d : Int} (h : Fac w g a b c d) (a' b' c' d' : Int) : Fac ((((w.setCell ⟨g, 0, none⟩ (.int .i64 a')).setCell ⟨g, 1, none⟩ (.int .i64 b')).setCell ⟨g, 2, none⟩ (.int .i64 c')).setCell ⟨g, 3, none⟩ (.int .i64 d')) g a' b' c' d' := by
  have h1 := heap_setCell_same w g 0 _ _ (.int .i64 a') h
  have h2 := heap_setCell_same _ g 1 _ _ (.int .i64 b') h1
  have h3 := heap_setCell_same _ g 2 _ _ (.int .i64 c') h2
  have h4 := heap_setCell_same _ g 3 _ _ (.int .i64 d') h3
  exact h4

theorem Fac.other {w : World} {g k : Nat} {a b c d : Int} (H : Fac w g a b c d) (hn : g ≠ k) (a' b' c' d' : Value) : Fac ((((w.setCell ⟨k, 0, none⟩ a').setCell ⟨k, 1, none⟩ b').setCell ⟨k, 2, none⟩ c').setCell ⟨k, 3, none⟩ d') g a b c d :=
  (heap_setCell_other _ ⟨k, 3, none⟩ g d' hn).trans ((heap_setCell_other _ ⟨k, 2, none⟩ g c' hn).trans ((heap_setCell_other _ ⟨k, 1, none⟩ g b' hn).trans ((heap_setCell_other w ⟨k, 0, none⟩ g a' hn).trans H)))

theorem below_set4 {B : Nat} {w w1 : World} {g : Nat} (hb : Below B w w1) (hg : B ≤ g) (a b c d : Value) : Below B w ((((w1.setCell ⟨g, 0, none⟩ a).setCell ⟨g, 1, none⟩ b).setCell ⟨g, 2, none⟩ c).setCell ⟨g, 3, none⟩ d) := (((hb.setCell hg _).setCell hg _).setCell hg _).setCell hg _

set_option maxRecDepth 20000 in
set_option maxHeartbeats 2000000 in
theorem lookAhead_any (w : World) (x0 y0 X Y L : Int) (h1 : 1 ≤ x0) (h2 : 0 ≤ y0) (h3 : x0 < 1073741824) (h4 : y0 < 1073741824) (hY0 : 0 ≤ Y) (hle : Y ≤ X) (hL : 0 < L) (hX : x0 * L ≤ X) (hX2 : X ≤ (x0 + 1) * L) (hY : y0 * L ≤ Y) (hY2 : Y ≤ (y0 + 1) * L) :
    Calls Try.prog 54 #[.int .i64 x0, .int .i64 y0] w fun e w' => ∃ a b c d x y, e = .returned (.agg #[.int .i64 a, .int .i64 b, .int .i64 c, .int .i64 d]) ∧ Lh x0 y0 X Y a b c d x y ∧ Below w.heap.size w w' := by
  have ST := hide (Lh.start h1 h2 h3 h4 hY0 hle)
  have e0 : ∃ w0 : World, (w.alloc (.cells #[.int .i64 0, .int .i64 0, .int .i64 0, .int .i64 0] 78)).alloc (.cells #[.int .i64 1, .int .i64 0, .int .i64 0, .int .i64 1] 78) = w0 ∧ Fac w0 w.heap.size 0 0 0 0 ∧ Fac w0 (w.heap.size + 1) 1 0 0 1 ∧ Below w.heap.size w w0 := by
    have h1 := heap_alloc_new w (.cells #[.int .i64 0, .int .i64 0, .int .i64 0, .int .i64 0] 78)
    have b1 : Below w.heap.size w (w.alloc (.cells #[.int .i64 0, .int .i64 0, .int .i64 0, .int .i64 0] 78)) := (Below.refl _ _).alloc (Nat.le_refl _) _
    have h2 := heap_alloc_new (w.alloc (.cells #[.int .i64 0, .int .i64 0, .int .i64 0, .int .i64 0] 78)) (.cells #[.int .i64 1, .int .i64 0, .int .i64 0, .int .i64 1] 78)
    have b2 : Below (w.alloc (.cells #[.int .i64 0, .int .i64 0, .int .i64 0, .int .i64 0] 78)).heap.size (w.alloc (.cells #[.int .i64 0, .int .i64 0, .int .i64 0, .int .i64 0] 78)) ((w.alloc (.cells #[.int .i64 0, .int .i64 0, .int .i64 0, .int .i64 0] 78)).alloc (.cells #[.int .i64 1, .int .i64 0, .int .i64 0, .int .i64 1] 78)) := (Below.refl _ _).alloc (Nat.le_refl _) _
    refine ⟨_, rfl, (b2.block _ (by simp)).trans h1, ?_, b1.trans (b2.mono b1.size)⟩
    have h3 := h2
    rw [World.size_alloc] at h3
    exact h3
  obtain ⟨w0, e0, hR0, hF0, hb0⟩ := e0
  have E0 := hide e0
  clear e0
  go_enter Try.func54, Try.ntmps54
  go_wp2
  rw [E0.out]
  go_loopw [0, 1] (fun xv yv wr => ∃ a b c d x y : Int, xv = .int .i64 x ∧ yv = .int .i64 y ∧ Lh x0 y0 X Y a b c d x y ∧ Fac wr (w.heap.size + 1) a b c d ∧ Fac wr w.heap.size 0 0 0 0 ∧ Below w.heap.size w wr) (fun _ yv _ => (intOf yv).toNat)
  case atStart => exact ⟨1, 0, 0, 1, x0, y0, rfl, rfl, ST.out, hF0, hR0, hb0⟩
  case round =>
    obtain ⟨a, b, c, d, x, y, rfl, rfl, hD, hF, hR, HB⟩ := hrel
    have D := hide hD
    have ba := hD.ba
    have bb := hD.bb
    have bc := hD.bc
    have bd := hD.bd
    have bx := hD.bx
    have by' := hD.by'
    have x1 := hD.x1
    have y1 := hD.y0'
    have pxa := hD.xa
    have pxb := hD.xb
    have pyc := hD.yc
    have pyd := hD.yd
    clear hD
    by_cases hc : y + c = 0
    · have hcb : ((y + c) != 0) = false := by simp [hc]
      have HC := hide hc
      clear hc
      obtain ⟨⟨fa, fb, fc, fd⟩, _⟩ := hF.facts
      obtain ⟨⟨ra, rb, rc, rd⟩, re, rf, rg, rh⟩ := hR.facts
      have XF := hide (hR.set a b c d).facts.1
      have Z := hide (below_set4 HB (Nat.le_refl _) (.int .i64 a) (.int .i64 b) (.int .i64 c) (.int .i64 d))
      go_wp2
      refine bodyPost_ret (v := .agg #[.int .i64 a, .int .i64 b, .int .i64 c, .int .i64 d]) ?_ rfl ⟨a, b, c, d, x, y, rfl, D.out, Z.out⟩
      simp [results, Try.results54, go_sem, XF.out.1, XF.out.2.1, XF.out.2.2.1, XF.out.2.2.2]
    · have hcb : ((y + c) != 0) = true := by simp [hc]
      have hcp : 0 < y + c := by omega
      clear hc
      by_cases hd : y + d = 0
      · have hdb : ((y + d) != 0) = false := by simp [hd]
        have HD := hide hd
        clear hd
        obtain ⟨⟨fa, fb, fc, fd⟩, _⟩ := hF.facts
        obtain ⟨⟨ra, rb, rc, rd⟩, re, rf, rg, rh⟩ := hR.facts
        have XF := hide (hR.set a b c d).facts.1
        have Z := hide (below_set4 HB (Nat.le_refl _) (.int .i64 a) (.int .i64 b) (.int .i64 c) (.int .i64 d))
        go_wp2
        refine bodyPost_ret (v := .agg #[.int .i64 a, .int .i64 b, .int .i64 c, .int .i64 d]) ?_ rfl ⟨a, b, c, d, x, y, rfl, D.out, Z.out⟩
        simp [results, Try.results54, go_sem, XF.out.1, XF.out.2.1, XF.out.2.2.1, XF.out.2.2.2]
      · have hdb : ((y + d) != 0) = true := by simp [hd]
        have hdp : 0 < y + d := by omega
        clear hd
        have f1 := div_fit (u := x + a) hcp
        have f2 := div_fit (u := x + b) hdp
        have g1 := div_small pxa hcp
        have g2 := div_small pxb hdp
        have t1 : (x + a).tdiv (y + c) = (x + a) / (y + c) := Int.tdiv_eq_ediv_of_nonneg pxa
        have t2 : (x + b).tdiv (y + d) = (x + b) / (y + d) := Int.tdiv_eq_ediv_of_nonneg pxb
        obtain ⟨q, hq⟩ : ∃ q, (x + a) / (y + c) = q := ⟨_, rfl⟩
        obtain ⟨q', hq'⟩ : ∃ q, (x + b) / (y + d) = q := ⟨_, rfl⟩
        rw [hq] at f1 g1 t1
        rw [hq'] at f2 g2 t2
        clear hq hq'
        by_cases hqq : q = q'
        · subst hqq
          have ST' := hide (D.out.step hL hX hX2 hY hY2 h3 h4 hcp hdp f1.1 f1.2 f2.1 f2.2 g1.1)
          have LS := (D.out.less g1.1 f1.2 f2.2).1
          have bc' := ST'.out.bc
          have bd' := ST'.out.bd
          have by2 := ST'.out.y0'
          obtain ⟨P1, hP1⟩ : ∃ P, q * c = P := ⟨_, rfl⟩
          obtain ⟨P2, hP2⟩ : ∃ P, q * d = P := ⟨_, rfl⟩
          obtain ⟨P3, hP3⟩ : ∃ P, q * y = P := ⟨_, rfl⟩
          rw [hP1] at ST' bc'
          rw [hP2] at ST' bd'
          rw [hP3] at ST' LS by2
          obtain ⟨⟨fa, fb, fc, fd⟩, fe, ff, fg, fh⟩ := hF.facts
          have HF' := hide (hF.set c d (a - P1) (b - P2))
          have HR' := hide (hR.other (show w.heap.size ≠ w.heap.size + 1 by omega) (.int .i64 c) (.int .i64 d) (.int .i64 (a - P1)) (.int .i64 (b - P2)))
          have HB' := hide (below_set4 HB (Nat.le_succ _) (.int .i64 c) (.int .i64 d) (.int .i64 (a - P1)) (.int .i64 (b - P2)))
          have p3 : 0 ≤ P3 := by rw [← hP3]; exact Int.mul_nonneg g1.1 y1
          clear f1 f2
          go_wp2
          go_roundw
          case rel => exact ⟨c, d, a - P1, b - P2, y, x - P3, rfl, rfl, ST'.out, HF'.out, HR'.out, HB'.out⟩
          case measure => simp [intOf]; omega
        · have hqb : (q != q') = true := by simp [hqq]
          clear f1 f2
          obtain ⟨⟨fa, fb, fc, fd⟩, _⟩ := hF.facts
          obtain ⟨⟨ra, rb, rc, rd⟩, re, rf, rg, rh⟩ := hR.facts
          have XF := hide (hR.set a b c d).facts.1
          have Z := hide (below_set4 HB (Nat.le_refl _) (.int .i64 a) (.int .i64 b) (.int .i64 c) (.int .i64 d))
          go_wp2
          refine bodyPost_ret (v := .agg #[.int .i64 a, .int .i64 b, .int .i64 c, .int .i64 d]) ?_ rfl ⟨a, b, c, d, x, y, rfl, D.out, Z.out⟩
          simp [results, Try.results54, go_sem, XF.out.1, XF.out.2.1, XF.out.2.2.1, XF.out.2.2.2]

end Lm
end Go.Proofs.Ytkdcgnooeojjgac

namespace Go.Proofs.Ytkdcgnooeojjgac
namespace Lm
open Go.RowKit

theorem Fac.below {w w' : World} {g : Nat} {a b c d : Int} (h : Fac w g a b c d) (hb : Below w.heap.size w w') : Fac w' g a b c d := (hb.block g (lt_of_heap h)).trans h
theorem below_al {w w' : World} (h : Below w.heap.size w w') (o : Obj) : Below w.heap.size w (w'.alloc o) := h.alloc h.size o
theorem below_then {w w' w'' : World} (h : Below w.heap.size w w') (h2 : Below w'.heap.size w' w'') : Below w.heap.size w w'' := h.trans (h2.mono h.size)

/-- The upper bits of a number and of one that is not above it. -/
theorem win_facts {X Y : Int} {l m : Nat} (hX : IsBits X l) (hl : l = m + 30) (hY0 : 0 ≤ Y) (hle : Y ≤ X) :
    X / p2 m % 1073741824 = X / p2 m ∧ Y / p2 m % 1073741824 = Y / p2 m ∧ 1 ≤ X / p2 m ∧ 0 ≤ Y / p2 m ∧ X / p2 m < 1073741824 ∧ Y / p2 m < 1073741824 ∧ X / p2 m * p2 m ≤ X ∧ X ≤ (X / p2 m + 1) * p2 m ∧ Y / p2 m * p2 m ≤ Y ∧ Y ≤ (Y / p2 m + 1) * p2 m := by
  have hp := p2_pos m
  have hlow : p2 (l - 1) ≤ X := by rcases hX.2 with h | h <;> omega
  have h29 : p2 (l - 1) = p2 m * p2 29 := by rw [← p2_add]; congr 1; omega
  have h30 : p2 l = p2 m * p2 30 := by rw [← p2_add, hl]
  rw [show p2 29 = 536870912 from by decide] at h29
  rw [show p2 30 = 1073741824 from by decide] at h30
  have hX1 := hX.1
  have fx := div_fit (u := X) (s := p2 m) (by omega)
  have fy := div_fit (u := Y) (s := p2 m) (by omega)
  have x0 : 0 ≤ X / p2 m := Int.ediv_nonneg (by omega) (by omega)
  have y0 : 0 ≤ Y / p2 m := Int.ediv_nonneg hY0 (by omega)
  have xl : X / p2 m < 1073741824 := Int.ediv_lt_of_lt_mul (by omega) (by rw [Int.mul_comm]; omega)
  have yl : Y / p2 m < 1073741824 := Int.ediv_lt_of_lt_mul (by omega) (by rw [Int.mul_comm]; omega)
  have x1 : 1 ≤ X / p2 m := by
    apply Int.le_ediv_of_mul_le (by omega)
    omega
  refine ⟨Int.emod_eq_of_lt x0 xl, Int.emod_eq_of_lt y0 yl, x1, y0, xl, yl, fx.1, by omega, fy.1, by omega⟩

set_option maxRecDepth 20000 in
set_option maxHeartbeats 2000000 in
theorem shrink_any (w : World) (B : Nat) (hB : B ≤ w.heap.size) (a1 a2 : Option Addr) (c1 c2 : Nat) (xs ys : List Int) (hx : Ow B w (.slice a1 xs.length c1) xs) (hy : Ow B w (.slice a2 ys.length c2) ys) (hcy : Canon ys) (hm : xs.length ≤ 400000) (h3 : 2 < ys.length) (hle : val ys ≤ val xs) :
    Calls Try.prog 34 #[.slice a1 xs.length c1, .slice a2 ys.length c2] w fun e w' => ∃ v1 v2 X' Y', e = .returned (.tuple #[v1, v2]) ∧ Is B w' v1 X' ∧ Is B w' v2 Y' ∧ Y' ≤ X' ∧ Y' < val ys ∧ X' ≤ val xs ∧ Int.gcd X' Y' = Int.gcd (val xs) (val ys) ∧ Below w.heap.size w w' := by
  obtain ⟨_, x1, x2, x3⟩ := hx.sl.parts
  obtain ⟨_, y1, y2, y3⟩ := hy.sl.parts
  have hY0 := (val_bounds y3).1
  have hlen : ys.length ≤ xs.length := le_len x3 hcy hle
  have hX64 : 18446744073709551616 ≤ val xs := by
    have h9 := canon_low hcy (by intro e; subst e; simp at h3)
    have h8 := pw_mono (m := 2) (n := ys.length - 1) (by omega)
    rw [show pw 2 = 18446744073709551616 from by decide] at h8
    omega
  have sx := hx.sl
  have sy := hy.sl
  go_enter Try.func34, Try.ntmps34
  go_wp2_with fail
  refine (bits_any _ _ _ _ xs sx (by omega)).mono ?_
  rintro e w' ⟨l, rfl, t1, rfl⟩
  have hl65 : 65 ≤ l := by
    apply Classical.byContradiction
    intro hn
    have h9 := p2_mono (m := l) (n := 64) (by omega)
    rw [show p2 64 = 18446744073709551616 from by decide] at h9
    have := t1.1
    omega
  have hlm : l ≤ 32 * xs.length := by
    have h9 := (val_bounds x3).2
    rw [pw_p2] at h9
    apply Classical.byContradiction
    intro hn
    have h8 := p2_mono (m := 32 * xs.length) (n := l - 1) (by omega)
    rcases t1.2 with h | h <;> omega
  obtain ⟨m, hm'⟩ : ∃ m, l = m + 30 := ⟨l - 30, by omega⟩
  have WF := hide (win_facts t1 hm' hY0 hle)
  have el : (l : Int) - 30 = (m : Nat) := by omega
  have kx : Hid (∀ w2 : World, Sl w2 (.slice a1 xs.length c1) xs → Calls Try.prog 55 #[.slice a1 xs.length c1, .int .i64 m] w2 fun e w3 => e = .returned (.int .u32 (val xs / p2 m)) ∧ w3 = w2) := by
    intro w2 h2
    have h9 := window_any w2 a1 _ c1 xs h2 m (by omega)
    rwa [WF.out.1] at h9
  have ky : Hid (∀ w2 : World, Sl w2 (.slice a2 ys.length c2) ys → Calls Try.prog 55 #[.slice a2 ys.length c2, .int .i64 m] w2 fun e w3 => e = .returned (.int .u32 (val ys / p2 m)) ∧ w3 = w2) := by
    intro w2 h2
    have h9 := window_any w2 a2 _ c2 ys h2 m (by omega)
    rwa [WF.out.2.1] at h9
  obtain ⟨u, hu⟩ : ∃ u, val xs / p2 m = u := ⟨_, rfl⟩
  obtain ⟨v, hv⟩ : ∃ v, val ys / p2 m = v := ⟨_, rfl⟩
  rw [hu] at WF kx
  rw [hv] at WF ky
  have u1 := WF.out.2.2.1
  have v1 := WF.out.2.2.2.1
  have u2 := WF.out.2.2.2.2.1
  have v2 := WF.out.2.2.2.2.2.1
  have kl : Hid (∀ w2 : World, Calls Try.prog 54 #[.int .i64 u, .int .i64 v] w2 fun e w3 => ∃ a b c d x y, e = .returned (.agg #[.int .i64 a, .int .i64 b, .int .i64 c, .int .i64 d]) ∧ Lh u v (val xs) (val ys) a b c d x y ∧ Below w2.heap.size w2 w3) := by
    intro w2
    have hp := p2_pos m
    exact lookAhead_any w2 u v (val xs) (val ys) (p2 m) u1 v1 u2 v2 hY0 hle (by omega) WF.out.2.2.2.2.2.2.1 WF.out.2.2.2.2.2.2.2.1 WF.out.2.2.2.2.2.2.2.2.1 WF.out.2.2.2.2.2.2.2.2.2
  clear t1 hm' hu hv x3 y3
  go_wp2_with fail
  refine (kx.out _ sx).mono ?_
  rintro e w2 ⟨rfl, rfl⟩
  go_wp2_with fail
  refine (ky.out _ sy).mono ?_
  rintro e w2 ⟨rfl, rfl⟩
  go_wp2_with fail
  refine (kl.out _).mono ?_
  rintro e w3 ⟨a, b, c, d, x, y, rfl, hD, hb3⟩
  have D := hide hD
  have hb4 : Below w3.heap.size w3 (w3.alloc (.cells #[.int .i64 a, .int .i64 b, .int .i64 c, .int .i64 d] 78)) := (Below.refl _ _).alloc (Nat.le_refl _) _
  have HZ : Below w2.heap.size w2 (w3.alloc (.cells #[.int .i64 a, .int .i64 b, .int .i64 c, .int .i64 d] 78)) := below_then hb3 hb4
  have FZ : Fac (w3.alloc (.cells #[.int .i64 a, .int .i64 b, .int .i64 c, .int .i64 d] 78)) w3.heap.size a b c d := heap_alloc_new w3 _
  obtain ⟨w4, e4⟩ : ∃ w4, w3.alloc (.cells #[.int .i64 a, .int .i64 b, .int .i64 c, .int .i64 d] 78) = w4 := ⟨_, rfl⟩
  rw [e4] at HZ FZ
  have E4 := hide e4
  clear e4 hD hb4
  have hx4 := hx.below HZ
  have hy4 := hy.below HZ
  by_cases hb : b = 0
  · subst hb
    have G := hide (gcd_step (val xs) (val ys) (val xs / val ys))
    have hpos : 0 < val ys := by
      have h9 := canon_low hcy (by intro e; subst e; simp at h3)
      have := pw_pos (ys.length - 1)
      omega
    have hmod : val xs - val xs / val ys * val ys = val xs % val ys := by
      have := Int.mul_ediv_add_emod (val xs) (val ys)
      rw [Int.mul_comm] at this
      omega
    rw [hmod] at G
    have M := hide (And.intro (Int.emod_nonneg (val xs) (show val ys ≠ 0 by omega)) (Int.emod_lt_of_pos (val xs) hpos))
    clear hmod
    go_wp2_with fail
    rw [E4.out]
    refine (divmod_any _ _ _ _ _ _ _ xs ys hx4.sl hy4.sl (by omega) (by omega)).mono ?_
    rintro e w5 ⟨v1', v2', rfl, i1, i2, _, hb5⟩
    have R1 : Hid (Is B w5 (.slice a2 ys.length c2) (val ys)) := ⟨ys, hy4.below hb5, hcy, rfl⟩
    have R2 := hide (i2.mono (B' := B) (by have := HZ.size; omega))
    have Z := hide (below_then HZ hb5)
    go_wp2
    go_ret2
    exact ⟨_, _, val ys, val xs % val ys, rfl, R1.out, R2.out, by have := M.out; omega, M.out.2, hle, G.out, Z.out⟩
  · have hbb : (b == 0) = false := by simp [hb]
    obtain ⟨⟨fa, fb, fc, fd⟩, fe, ff, fg, fh⟩ := FZ.facts
    have VX := (val_bounds hx.sl.parts.2.2.2).2
    have sgn1 : (0 ≤ a ∧ b ≤ 0) ∨ (a ≤ 0 ∧ 0 ≤ b) := by rcases D.out.sig with h | h <;> omega
    have sgn2 : (0 ≤ c ∧ d ≤ 0) ∨ (c ≤ 0 ∧ 0 ≤ d) := by rcases D.out.sig with h | h <;> omega
    have SG1 := hide sgn1
    have SG2 := hide sgn2
    have P1 : Hid (0 ≤ a * val xs + b * val ys ∧ a * val xs + b * val ys < pw xs.length) := by have h1 := D.out.le; have h2 := D.out.nn; have h4 := D.out.top; show _ ∧ _; omega
    have P2 : Hid (0 ≤ c * val xs + d * val ys ∧ c * val xs + d * val ys < pw xs.length) := by have h1 := D.out.le; have h2 := D.out.nn; have h4 := D.out.top; show _ ∧ _; omega
    have HB0 := hide hb
    clear sgn1 sgn2 VX hb
    go_wp2
    rw [E4.out]
    go_region_held3 (fun w' => w'.cell? ⟨w3.heap.size, 0, none⟩ = some (.int .i64 a) ∧ w'.cell? ⟨w3.heap.size, 1, none⟩ = some (.int .i64 b) ∧ w'.cell? ⟨w3.heap.size, 2, none⟩ = some (.int .i64 c) ∧ w'.cell? ⟨w3.heap.size, 3, none⟩ = some (.int .i64 d)) (go_keep) (first
      | (go_at_call 56; have _hq := hb5'; refine (combine_any _ _ _ _ _ _ _ xs ys ((hx4.below hb5').sl.below (by repeat (first | exact Below.refl _ _ | refine Below.drew ?_))) ((hy4.below hb5').sl.below (by repeat (first | exact Below.refl _ _ | refine Below.drew ?_))) (by omega) hlen c d D.out.bc D.out.bd SG2.out P2.out.1 P2.out.2).mono ?_; rintro e w6 ⟨v6, rfl, i6, hb6⟩; have hb6' : Below w5.heap.size w5 w6 := (show Below w5.heap.size w5 _ by repeat (first | exact Below.refl _ _ | refine Below.drew ?_)).trans hb6; have FZ6 := FZ5.below hb6'; obtain ⟨⟨ha, hb, hc, hd⟩, he, hf, hg, hh⟩ := FZ6.facts)
      | (go_at_call 56; refine (combine_any _ _ _ _ _ _ _ xs ys (hx4.sl.below (by repeat (first | exact Below.refl _ _ | refine Below.drew ?_))) (hy4.sl.below (by repeat (first | exact Below.refl _ _ | refine Below.drew ?_))) (by omega) hlen a b D.out.ba D.out.bb SG1.out P1.out.1 P1.out.2).mono ?_; rintro e w5 ⟨v5, rfl, i5, hb5⟩; have hb5' : Below w4.heap.size w4 w5 := (show Below w4.heap.size w4 _ by repeat (first | exact Below.refl _ _ | refine Below.drew ?_)).trans hb5; have FZ5 := FZ.below hb5'; obtain ⟨⟨ga, gb, gc, gd⟩, ge, gf, gg, gh⟩ := FZ5.facts))
    all_goals
      have R1 := hide ((i5.below hb6').mono (B' := B) (show B ≤ w4.heap.size by have := HZ.size; omega))
      have R2 := hide (i6.mono (B' := B) (show B ≤ w5.heap.size by have := HZ.size; have := hb5'.size; omega))
      have Z := hide (below_then HZ (below_then hb5' hb6'))
      clear fa fb fc fd fe ff fg fh ga gb gc gd ge gf gg gh ha hb hc hd he hf hg hh
      go_wp2
      go_ret2
      exact ⟨_, _, _, _, rfl, R1.out, R2.out, D.out.le, D.out.bz HB0.out, D.out.top, D.out.gcd, Z.out⟩

end Lm
end Go.Proofs.Ytkdcgnooeojjgac

namespace Go.Proofs.Ytkdcgnooeojjgac
namespace Lm
open Go.RowKit

theorem two_val' {rs : List Int} (h : ¬ 2 < rs.length) : rs.getD 1 0 * 4294967296 + rs.getD 0 0 = val rs := by
  match rs, h with
  | [], _ => rfl
  | [x], _ => simp [val]
  | [x, y], _ => simp [val]; omega
  | _ :: _ :: _ :: _, h => simp at h

theorem ret2_u64' {a b : Int} (h : a = b) : Ending.returned (.tuple #[.int .u64 a, .bool true]) = .returned (.tuple #[.int .u64 b, .bool true]) := by rw [h]

theorem short_val' {rs : List Int} (h : Limb rs) (h2 : rs.length ≤ 2) : 0 ≤ val rs ∧ val rs < 18446744073709551616 := by
  have h1 := val_bounds h
  have h3 := pw_mono (m := rs.length) (n := 2) (by omega)
  rw [show pw 2 = 18446744073709551616 from by decide] at h3
  omega

set_option maxRecDepth 20000 in
set_option maxHeartbeats 400000 in
theorem uint_short (w : World) (ao : Option Addr) (n cap : Nat) (xs : List Int) (hx : Sl w (.slice ao n cap) xs) (hs : xs.length ≤ 2) :
    Calls Try.prog 36 #[.slice ao n cap] w fun e w' => e = .returned (.tuple #[.int .u64 (val xs), .bool true]) ∧ w' = w := by
  obtain ⟨rfl, h1, h2, h3⟩ := hx.parts
  have t1 := tl_le xs
  have kc := hide (cut_any w ao _ cap xs hx)
  have hcn := canon_trim h3
  have hX : (xs.take (tl xs)).length = tl xs := by simp; omega
  have h2' : ¬ (2 : Int) < ((tl xs : Nat) : Int) := by omega
  have E3 := hide (two_val' (rs := xs.take (tl xs)) (by omega))
  rw [val_take_tl] at E3
  have b1 := limb_getD hcn.1 1
  have b0 := limb_getD hcn.1 0
  have k1 := limb_nat w _ _ hx.cut 1
  have k0 := limb_nat w _ _ hx.cut 0
  generalize (xs.take (tl xs)).getD 1 0 = y1 at E3 b1 k1
  generalize (xs.take (tl xs)).getD 0 0 = y0 at E3 b0 k0
  have K1 := hide k1
  have K0 := hide k0
  have hor : bits .or .u64 (y1 * 4294967296) y0 = y1 * 4294967296 + y0 := or_join y1 y0 b1.1 b1.2 b0.1 b0.2
  clear hcn hX k1 k0
  go_enter Try.func36, Try.ntmps36
  go_wp2_with fail
  refine (kc.out).mono ?_
  rintro e w' ⟨rfl, rfl⟩
  go_wp2_with fail
  refine (K1.out).mono ?_
  rintro e w' ⟨rfl, rfl⟩
  go_wp2_with fail
  refine (K0.out).mono ?_
  rintro e w' ⟨rfl, rfl⟩
  go_wp2
  go_ret2
  exact ⟨ret2_u64' E3.out, rfl⟩

theorem gcd_mod (m n : Int) : Int.gcd n (m % n) = Int.gcd m n := by
  have h1 := gcd_step m n (m / n)
  have h2 := Int.mul_ediv_add_emod m n
  rw [Int.mul_comm] at h2
  rw [show m - m / n * n = m % n by omega] at h1
  exact h1

theorem ret_u64 {a b : Int} (h : a = b) : Ending.returned (.int .u64 a) = .returned (.int .u64 b) := by rw [h]

set_option maxRecDepth 20000 in
set_option maxHeartbeats 400000 in
theorem gcdShort_any (w : World) (m n : Int) (hm : 0 ≤ m ∧ m < 18446744073709551616) (hn : 0 ≤ n ∧ n < 18446744073709551616) :
    Calls Try.prog 38 #[.int .u64 m, .int .u64 n] w fun e w' => e = .returned (.int .u64 (Int.gcd m n)) ∧ Below w.heap.size w w' := by
  go_enter Try.func38, Try.ntmps38
  go_wp2
  go_loopw [0, 1] (fun mv nv wr => ∃ a b : Int, mv = .int .u64 a ∧ nv = .int .u64 b ∧ (0 ≤ a ∧ a < 18446744073709551616) ∧ (0 ≤ b ∧ b < 18446744073709551616) ∧ Int.gcd a b = Int.gcd m n ∧ Below w.heap.size w wr) (fun _ nv _ => (intOf nv).toNat)
  case atStart => exact ⟨m, n, rfl, rfl, hm, hn, rfl, Below.refl _ _⟩
  case round =>
    obtain ⟨a, b, rfl, rfl, ha, hb, hg, HB⟩ := hrel
    have HG := hide hg
    clear hg
    by_cases h0 : b = 0
    · subst h0
      have HF : Hid (a = (Int.gcd m n : Int)) := by
        show _ = _
        rw [← HG.out, Int.gcd_zero_right]
        omega
      go_wp2
      go_ret
      exact ⟨ret_u64 HF.out, HB⟩
    · have hbb : (b != 0) = true := by simp [h0]
      have t1 : a.tmod b = a % b := Int.tmod_eq_emod_of_nonneg ha.1
      have r0 := Int.emod_nonneg a h0
      have r1 := Int.emod_lt_of_pos a (show 0 < b by omega)
      have HG' := hide ((gcd_mod a b).trans HG.out)
      go_wp2
      go_quiet (fail)
      go_wp2
      go_roundw
      case rel => exact ⟨b, a % b, rfl, rfl, hb, by omega, HG'.out, below_drewN HB _⟩
      case measure => simp [intOf]; omega

theorem Is.ow {B : Nat} {w : World} {v : Value} {x : Int} (h : Is B w v x) : ∃ ao cap rs, v = .slice ao rs.length cap ∧ Ow B w (.slice ao rs.length cap) rs ∧ Canon rs ∧ val rs = x := by
  obtain ⟨rs, ho, hc, hv⟩ := h
  obtain ⟨ao, cap, rfl, h1, h2, h3, h4⟩ := ho
  exact ⟨ao, cap, rs, rfl, ⟨ao, cap, rfl, h1, h2, h3, h4⟩, hc, hv⟩

theorem trim_is' (w : World) (ao : Option Addr) (n cap : Nat) (zs : List Int) (h : Sl w (.slice ao n cap) zs) (hz : zs.length ≤ 1000000) :
    Calls Try.prog 14 #[.slice ao n cap] w fun e w' => ∃ ao cap rs, e = .returned (.slice ao rs.length cap) ∧ Ow w.heap.size w' (.slice ao rs.length cap) rs ∧ Canon rs ∧ val rs = val zs ∧ rs.length ≤ zs.length ∧ Below w.heap.size w w' := by
  refine (trim_any w ao n cap zs h hz).mono ?_
  rintro e w' ⟨v, rfl, ho, hb⟩
  obtain ⟨ao', cap', rs, rfl, h1, h2, h3⟩ := Is.ow (B := w.heap.size) ⟨_, ho, canon_trim h.parts.2.2.2, val_take_tl zs⟩
  exact ⟨ao', cap', rs, rfl, h1, h2, h3, le_len h.parts.2.2.2 h2 (by omega), hb⟩

theorem sl_one_list {w : World} {v : Value} {r s : List Int} (h1 : Sl w v r) (h2 : Sl w v s) : r = s := by
  obtain ⟨ao, cap, rfl, _, _, _, h4⟩ := h1
  obtain ⟨ao', cap', hv, _, _, _, g4⟩ := h2
  obtain ⟨rfl, hl, rfl⟩ := (Value.slice.injEq .. ▸ hv)
  apply List.ext_getElem hl
  intro i hi1 hi2
  rcases h4 with rfl | ⟨b, off, rfl, hc⟩
  · simp at hi1
  rcases g4 with rfl | ⟨b', off', e, hc'⟩
  · simp at hi2
  · obtain ⟨rfl, rfl⟩ : b = b' ∧ off = off' := by simpa using e
    have e1 := hc i hi1
    have e2 := hc' i hi2
    rw [e1] at e2
    simp only [Option.some.injEq, Value.int.injEq, true_and, List.getD_eq_getElem?_getD, List.getElem?_eq_getElem hi1, List.getElem?_eq_getElem hi2, Option.getD_some] at e2
    exact e2

open Classical in
/-- What a slice is worth in a world. -/
noncomputable def worth (w : World) (v : Value) : Nat := if h : ∃ r, Sl w v r then (val (Classical.choose h)).toNat else 0

theorem worth_of {w : World} {v : Value} {r : List Int} (h : Sl w v r) : worth w v = (val r).toNat := by
  have hex : ∃ r, Sl w v r := ⟨r, h⟩
  unfold worth
  rw [dif_pos hex, sl_one_list (Classical.choose_spec hex) h]

set_option maxRecDepth 20000 in
set_option maxHeartbeats 2000000 in
theorem gcd_any (w : World) (a1 a2 : Option Addr) (n1 n2 c1 c2 : Nat) (xs ys : List Int) (hx : Sl w (.slice a1 n1 c1) xs) (hy : Sl w (.slice a2 n2 c2) ys) (hm1 : xs.length ≤ 400000) (hm2 : ys.length ≤ 400000) :
    Calls Try.prog 11 #[.slice a1 n1 c1, .slice a2 n2 c2] w fun e w' => ∃ v, e = .returned v ∧ Is w.heap.size w' v (Int.gcd (val xs) (val ys)) ∧ Below w.heap.size w w' := by
  go_enter Try.func11, Try.ntmps11
  go_wp2_with fail
  refine (trim_is' _ _ _ _ xs hx (by omega)).mono ?_
  rintro e w1 ⟨p1, q1, r1, rfl, o1, k1, v1, l1, hb1⟩
  go_wp2_with fail
  refine (trim_is' _ _ _ _ ys (hy.below hb1) (by omega)).mono ?_
  rintro e w2 ⟨p2, q2, r2, rfl, o2, k2, v2, l2, hb2⟩
  replace o1 := o1.below hb2
  replace o2 := o2.mono (B' := w.heap.size) hb1.size
  have HB2 := below_then hb1 hb2
  have C1 := hide k1
  have C2 := hide k2
  have V1 := hide v1
  have V2 := hide v2
  clear k1 k2 v1 v2
  have hle := fun (h : ¬ val r1 < val r2) => show val r2 ≤ val r1 by omega
  have g0 : ∀ {a b c d : Int}, Int.gcd a b = Int.gcd c d → ((Int.gcd a b : Nat) : Int) = ((Int.gcd c d : Nat) : Int) := fun h => by rw [h]
  have G1 : Hid (Int.gcd (val r1) (val r2) = Int.gcd (val xs) (val ys)) := by rw [V1.out, V2.out]; rfl
  have G2 : Hid (Int.gcd (val r2) (val r1) = Int.gcd (val xs) (val ys)) := by show _ = _; rw [Int.gcd_comm]; exact G1.out
  clear g0 hle
  by_cases hlt : val r1 < val r2
  · have k1 := hide (cmpI_lt hlt)
    have HLT := hide hlt
    clear hlt
    go_wp2_with fail
    refine (cmp_any _ _ _ _ _ _ _ r1 r2 o1.sl o2.sl).mono ?_
    rintro e w3 ⟨rfl, hb3⟩
    rw [k1.out]
    replace o1 := o1.below hb3
    replace o2 := o2.below hb3
    have HB3 := below_then HB2 hb3
    go_wp2
    go_loopw [5, 6] (fun xv yv wr => ∃ (p p' : Option Addr) (q q' : Nat) (r r' : List Int), xv = .slice p r.length q ∧ yv = .slice p' r'.length q' ∧ Ow w.heap.size wr (.slice p r.length q) r ∧ Canon r ∧ Ow w.heap.size wr (.slice p' r'.length q') r' ∧ Canon r' ∧ val r' ≤ val r ∧ r.length ≤ 400000 ∧ Int.gcd (val r) (val r') = Int.gcd (val xs) (val ys) ∧ Below w.heap.size w wr) (fun _ yv wr => worth wr yv)
    case atStart => exact ⟨p2, p1, q2, q1, r2, r1, rfl, rfl, o2, C2.out, o1, C1.out, by have := HLT.out; omega, by omega, G2.out, HB3⟩
    case round =>
      obtain ⟨p, p', q, q', r, r', rfl, rfl, hr, hcr, hr', hcr', hle, hlr, hg, HB⟩ := hrel
      obtain ⟨_, z1, z2, z3⟩ := hr.sl.parts
      obtain ⟨_, y1, y2, y3⟩ := hr'.sl.parts
      have HCR := hide hcr
      have HCR' := hide hcr'
      have HLE := hide hle
      have HG := hide hg
      have Z3 := hide z3
      have Y3 := hide y3
      have hrl : r'.length ≤ r.length := le_len z3 hcr' hle
      clear hcr hcr' hle hg z3 y3
      by_cases h2 : 2 < r'.length
      · have h2' : (2 : Int) < (r'.length : Int) := by omega
        have ks := hide (shrink_any wr w.heap.size HB.size p p' q q' r r' hr hr' HCR'.out hlr h2 HLE.out)
        have MW := hide (worth_of hr'.sl)
        have V0 := hide (val_bounds Y3.out).1
        go_wp2_with fail
        refine (ks.out).mono ?_
        rintro e w5 ⟨v5, v6, X', Y', rfl, i5, i6, hle5, hlt5, htop5, hg5, hb5⟩
        obtain ⟨p5, q5, r5, rfl, o5, c5, e5⟩ := i5.ow
        obtain ⟨p6, q6, r6, rfl, o6, c6, e6⟩ := i6.ow
        have MW5 := hide (worth_of o6.sl)
        have L5 : Hid (r5.length ≤ 400000) := by
          have h9 := le_len Z3.out c5 (by rw [e5]; exact htop5)
          show _ ≤ _
          omega
        have R := hide (And.intro e5 (And.intro e6 (And.intro hle5 (And.intro hlt5 hg5))))
        have C5 := hide c5
        have C6 := hide c6
        have Z5 := hide (HB.trans (hb5.mono HB.size))
        clear e5 e6 hle5 hlt5 htop5 hg5 c5 c6
        go_wp2
        go_roundw
        case rel => exact ⟨p5, p6, q5, q6, r5, r6, rfl, rfl, o5, C5.out, o6, C6.out, by rw [R.out.1, R.out.2.1]; exact R.out.2.2.1, L5.out, by rw [R.out.1, R.out.2.1, R.out.2.2.2.2]; exact HG.out, Z5.out⟩
        case measure =>
          rw [MW.out, MW5.out, R.out.2.1]
          have h8 := (val_bounds C6.out.1).1
          rw [R.out.2.1] at h8
          have h7 := R.out.2.2.2.1
          omega
      · have h2' : ¬ (2 : Int) < (r'.length : Int) := by omega
        by_cases h0 : val r' = 0
        · have kd := hide (divmod_none wr _ _ _ _ _ _ r r' hr.sl hr'.sl h0)
          have F : Hid (Is w.heap.size wr (.slice p r.length q) (Int.gcd (val xs) (val ys))) := by
            refine ⟨r, hr, HCR.out, ?_⟩
            rw [← HG.out, h0, Int.gcd_zero_right]
            have := (val_bounds Z3.out).1
            omega
          go_wp2_with fail
          refine (kd.out).mono ?_
          rintro e w5 ⟨rfl, hb5⟩
          have F5 := hide (F.out.below hb5)
          have Z5 := hide (HB.trans (hb5.mono HB.size))
          go_wp2
          go_ret
          exact ⟨_, rfl, F5.out, Z5.out⟩
        · have kd := hide (divmod_g wr _ _ _ _ _ _ r r' hr.sl hr'.sl (by omega) h0)
          have GM := hide ((gcd_mod (val r) (val r')).trans HG.out)
          have sv := short_val' Y3.out (by omega)
          go_wp2_with fail
          refine (kd.out).mono ?_
          rintro e w5 ⟨p5, q5, r5, p6, q6, r6, rfl, G5, G6, l5, l6, hb5⟩
          have hr5 := hr'.below hb5
          have sv6 := short_val' G6.canon.1 (by omega)
          have V6 := hide G6.val
          have Z5 := HB.trans (hb5.mono HB.size)
          go_wp2_with fail
          refine (uint_short _ _ _ _ r' hr5.sl (by omega)).mono ?_
          rintro e w6 ⟨rfl, rfl⟩
          go_wp2_with fail
          refine (uint_short _ _ _ _ r6 G6.sl (by omega)).mono ?_
          rintro e w6 ⟨rfl, rfl⟩
          go_wp2_with fail
          refine (gcdShort_any _ (val r') (val r6) sv sv6).mono ?_
          rintro e w7 ⟨rfl, hb7⟩
          have E7 : Hid (Int.gcd (val r') (val r6) = Int.gcd (val xs) (val ys)) := by rw [V6.out]; exact GM.out
          rw [E7.out]
          have hgl : Hid (((Int.gcd (val xs) (val ys) : Nat) : Int) < 18446744073709551616) := by
            have h9 : Int.gcd (val r') (val r6) ≤ (val r').natAbs := Int.gcd_le_natAbs_left _ (by omega)
            rw [E7.out] at h9
            show _ < _
            omega
          have Z7 := Z5.trans (hb7.mono Z5.size)
          have hs0 : (0 : Int) ≤ ((Int.gcd (val xs) (val ys) : Nat) : Int) := by omega
          obtain ⟨GG, hGG⟩ : ∃ G, ((Int.gcd (val xs) (val ys) : Nat) : Int) = G := ⟨_, rfl⟩
          rw [hGG] at hgl hs0 ⊢
          have HGG := hide hGG
          clear hGG
          go_wp2_with fail
          refine (small_any _ GG hs0 hgl.out).mono ?_
          rintro e w8 ⟨v8, rfl, i8, hb8⟩
          have R8 := hide (i8.mono (B' := w.heap.size) Z7.size)
          have Z8 := hide (Z7.trans (hb8.mono Z7.size))
          go_wp2
          go_ret
          exact ⟨_, rfl, by rw [HGG.out]; exact R8.out, Z8.out⟩
  · have HK : Hid (∃ k, cmpI (val r1) (val r2) = k ∧ ¬ k < 0) := ⟨_, rfl, fun h => hlt (cmpI_neg.1 h)⟩
    obtain ⟨k, hk, hk0⟩ := HK.out
    have k1 := hide hk
    have HLT := hide hlt
    clear hlt hk HK
    go_wp2_with fail
    refine (cmp_any _ _ _ _ _ _ _ r1 r2 o1.sl o2.sl).mono ?_
    rintro e w3 ⟨rfl, hb3⟩
    rw [k1.out]
    replace o1 := o1.below hb3
    replace o2 := o2.below hb3
    have HB3 := below_then HB2 hb3
    go_wp2
    go_loopw [5, 6] (fun xv yv wr => ∃ (p p' : Option Addr) (q q' : Nat) (r r' : List Int), xv = .slice p r.length q ∧ yv = .slice p' r'.length q' ∧ Ow w.heap.size wr (.slice p r.length q) r ∧ Canon r ∧ Ow w.heap.size wr (.slice p' r'.length q') r' ∧ Canon r' ∧ val r' ≤ val r ∧ r.length ≤ 400000 ∧ Int.gcd (val r) (val r') = Int.gcd (val xs) (val ys) ∧ Below w.heap.size w wr) (fun _ yv wr => worth wr yv)
    case atStart => exact ⟨p1, p2, q1, q2, r1, r2, rfl, rfl, o1, C1.out, o2, C2.out, by have := HLT.out; omega, by omega, G1.out, HB3⟩
    case round =>
      obtain ⟨p, p', q, q', r, r', rfl, rfl, hr, hcr, hr', hcr', hle, hlr, hg, HB⟩ := hrel
      obtain ⟨_, z1, z2, z3⟩ := hr.sl.parts
      obtain ⟨_, y1, y2, y3⟩ := hr'.sl.parts
      have HCR := hide hcr
      have HCR' := hide hcr'
      have HLE := hide hle
      have HG := hide hg
      have Z3 := hide z3
      have Y3 := hide y3
      have hrl : r'.length ≤ r.length := le_len z3 hcr' hle
      clear hcr hcr' hle hg z3 y3
      by_cases h2 : 2 < r'.length
      · have h2' : (2 : Int) < (r'.length : Int) := by omega
        have ks := hide (shrink_any wr w.heap.size HB.size p p' q q' r r' hr hr' HCR'.out hlr h2 HLE.out)
        have MW := hide (worth_of hr'.sl)
        have V0 := hide (val_bounds Y3.out).1
        go_wp2_with fail
        refine (ks.out).mono ?_
        rintro e w5 ⟨v5, v6, X', Y', rfl, i5, i6, hle5, hlt5, htop5, hg5, hb5⟩
        obtain ⟨p5, q5, r5, rfl, o5, c5, e5⟩ := i5.ow
        obtain ⟨p6, q6, r6, rfl, o6, c6, e6⟩ := i6.ow
        have MW5 := hide (worth_of o6.sl)
        have L5 : Hid (r5.length ≤ 400000) := by
          have h9 := le_len Z3.out c5 (by rw [e5]; exact htop5)
          show _ ≤ _
          omega
        have R := hide (And.intro e5 (And.intro e6 (And.intro hle5 (And.intro hlt5 hg5))))
        have C5 := hide c5
        have C6 := hide c6
        have Z5 := hide (HB.trans (hb5.mono HB.size))
        clear e5 e6 hle5 hlt5 htop5 hg5 c5 c6
        go_wp2
        go_roundw
        case rel => exact ⟨p5, p6, q5, q6, r5, r6, rfl, rfl, o5, C5.out, o6, C6.out, by rw [R.out.1, R.out.2.1]; exact R.out.2.2.1, L5.out, by rw [R.out.1, R.out.2.1, R.out.2.2.2.2]; exact HG.out, Z5.out⟩
        case measure =>
          rw [MW.out, MW5.out, R.out.2.1]
          have h8 := (val_bounds C6.out.1).1
          rw [R.out.2.1] at h8
          have h7 := R.out.2.2.2.1
          omega
      · have h2' : ¬ (2 : Int) < (r'.length : Int) := by omega
        by_cases h0 : val r' = 0
        · have kd := hide (divmod_none wr _ _ _ _ _ _ r r' hr.sl hr'.sl h0)
          have F : Hid (Is w.heap.size wr (.slice p r.length q) (Int.gcd (val xs) (val ys))) := by
            refine ⟨r, hr, HCR.out, ?_⟩
            rw [← HG.out, h0, Int.gcd_zero_right]
            have := (val_bounds Z3.out).1
            omega
          go_wp2_with fail
          refine (kd.out).mono ?_
          rintro e w5 ⟨rfl, hb5⟩
          have F5 := hide (F.out.below hb5)
          have Z5 := hide (HB.trans (hb5.mono HB.size))
          go_wp2
          go_ret
          exact ⟨_, rfl, F5.out, Z5.out⟩
        · have kd := hide (divmod_g wr _ _ _ _ _ _ r r' hr.sl hr'.sl (by omega) h0)
          have GM := hide ((gcd_mod (val r) (val r')).trans HG.out)
          have sv := short_val' Y3.out (by omega)
          go_wp2_with fail
          refine (kd.out).mono ?_
          rintro e w5 ⟨p5, q5, r5, p6, q6, r6, rfl, G5, G6, l5, l6, hb5⟩
          have hr5 := hr'.below hb5
          have sv6 := short_val' G6.canon.1 (by omega)
          have V6 := hide G6.val
          have Z5 := HB.trans (hb5.mono HB.size)
          go_wp2_with fail
          refine (uint_short _ _ _ _ r' hr5.sl (by omega)).mono ?_
          rintro e w6 ⟨rfl, rfl⟩
          go_wp2_with fail
          refine (uint_short _ _ _ _ r6 G6.sl (by omega)).mono ?_
          rintro e w6 ⟨rfl, rfl⟩
          go_wp2_with fail
          refine (gcdShort_any _ (val r') (val r6) sv sv6).mono ?_
          rintro e w7 ⟨rfl, hb7⟩
          have E7 : Hid (Int.gcd (val r') (val r6) = Int.gcd (val xs) (val ys)) := by rw [V6.out]; exact GM.out
          rw [E7.out]
          have hgl : Hid (((Int.gcd (val xs) (val ys) : Nat) : Int) < 18446744073709551616) := by
            have h9 : Int.gcd (val r') (val r6) ≤ (val r').natAbs := Int.gcd_le_natAbs_left _ (by omega)
            rw [E7.out] at h9
            show _ < _
            omega
          have Z7 := Z5.trans (hb7.mono Z5.size)
          have hs0 : (0 : Int) ≤ ((Int.gcd (val xs) (val ys) : Nat) : Int) := by omega
          obtain ⟨GG, hGG⟩ : ∃ G, ((Int.gcd (val xs) (val ys) : Nat) : Int) = G := ⟨_, rfl⟩
          rw [hGG] at hgl hs0 ⊢
          have HGG := hide hGG
          clear hGG
          go_wp2_with fail
          refine (small_any _ GG hs0 hgl.out).mono ?_
          rintro e w8 ⟨v8, rfl, i8, hb8⟩
          have R8 := hide (i8.mono (B' := w.heap.size) Z7.size)
          have Z8 := hide (Z7.trans (hb8.mono Z7.size))
          go_wp2
          go_ret
          exact ⟨_, rfl, by rw [HGG.out]; exact R8.out, Z8.out⟩

end Lm
end Go.Proofs.Ytkdcgnooeojjgac

namespace Go.Proofs.Ytkdcgnooeojjgac
namespace Lm
open Go.RowKit

theorem gcd_sg (nx ny : Bool) (X Y : Int) : Int.gcd (sg nx X) (sg ny Y) = Int.gcd X Y := by
  cases nx <;> cases ny <;> simp [sg]

theorem gcd_small {X Y : Int} (hX : 0 ≤ X) (hY : 0 ≤ Y) : ((Int.gcd X Y : Nat) : Int) ≤ X + Y := by
  by_cases h : X = 0
  · subst h
    rw [Int.gcd_zero_left]
    omega
  · have h9 : Int.gcd X Y ≤ X.natAbs := Int.gcd_le_natAbs_left _ h
    omega

theorem gcd_g (w : World) (a1 a2 : Option Addr) (n1 n2 c1 c2 : Nat) (xs ys : List Int) (hx : Sl w (.slice a1 n1 c1) xs) (hy : Sl w (.slice a2 n2 c2) ys) (hm1 : xs.length ≤ 400000) (hm2 : ys.length ≤ 400000) :
    Calls Try.prog 11 #[.slice a1 n1 c1, .slice a2 n2 c2] w fun e w' => ∃ ao cap rs, e = .returned (.slice ao rs.length cap) ∧ Got w' ao cap rs (Int.gcd (val xs) (val ys)) ∧ rs.length ≤ xs.length + ys.length + 1 ∧ Below w.heap.size w w' := by
  refine (gcd_any w a1 a2 n1 n2 c1 c2 xs ys hx hy hm1 hm2).mono ?_
  rintro e w' ⟨v, rfl, hi, hb⟩
  obtain ⟨ao, cap, rs, rfl, hg⟩ := hi.got
  refine ⟨ao, cap, rs, rfl, hg, canon_len hg.canon ?_, hb⟩
  rw [hg.val]
  have b1 := val_bounds hx.parts.2.2.2
  have b2 := val_bounds hy.parts.2.2.2
  have h1 := gcd_small b1.1 b2.1
  have m1 := pw_mono (m := xs.length) (n := xs.length + ys.length) (by omega)
  have m2 := pw_mono (m := ys.length) (n := xs.length + ys.length) (by omega)
  rw [pw]
  have := pw_pos (xs.length + ys.length)
  omega

end Lm
end Go.Proofs.Ytkdcgnooeojjgac
