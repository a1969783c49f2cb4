/-
  The contract of shrink.
-/
import Derived.Test.YthbomfboohjcfaaMrg41
import Derived.Test.YthbomfboohjcfaaLhC
import Derived.Test.YthbomfboohjcfaaLhL
namespace Go.Proofs.Ythbomfboohjcfaa
namespace Lm
open Go.RowKit

theorem Fac.below {w w' : World} {g : Nat} {a b c d : Int} (h : Fac w g a b c d) (hb : Below w.heap.size w w') : Fac w' g a b c d := (hb.block g (lt_of_heap h)).trans h
theorem below_al {w w' : World} (h : Below w.heap.size w w') (o : Obj) : Below w.heap.size w (w'.alloc o) := h.alloc h.size o
theorem below_then {w w' w'' : World} (h : Below w.heap.size w w') (h2 : Below w'.heap.size w' w'') : Below w.heap.size w w'' := h.trans (h2.mono h.size)

/-- The upper bits of a number and of one that is not above it. -/
theorem win_facts {X Y : Int} {l m : Nat} (hX : IsBits X l) (hl : l = m + 30) (hY0 : 0 ≤ Y) (hle : Y ≤ X) :
    X / p2 m % 1073741824 = X / p2 m ∧ Y / p2 m % 1073741824 = Y / p2 m ∧ 1 ≤ X / p2 m ∧ 0 ≤ Y / p2 m ∧ X / p2 m < 1073741824 ∧ Y / p2 m < 1073741824 ∧ X / p2 m * p2 m ≤ X ∧ X ≤ (X / p2 m + 1) * p2 m ∧ Y / p2 m * p2 m ≤ Y ∧ Y ≤ (Y / p2 m + 1) * p2 m := by
  have hp := p2_pos m
  have hlow : p2 (l - 1) ≤ X := by rcases hX.2 with h | h <;> omega
  have h29 : p2 (l - 1) = p2 m * p2 29 := by rw [← p2_add]; congr 1; omega
  have h30 : p2 l = p2 m * p2 30 := by rw [← p2_add, hl]
  rw [show p2 29 = 536870912 from by decide] at h29
  rw [show p2 30 = 1073741824 from by decide] at h30
  have hX1 := hX.1
  have fx := div_fit (u := X) (s := p2 m) (by omega)
  have fy := div_fit (u := Y) (s := p2 m) (by omega)
  have x0 : 0 ≤ X / p2 m := Int.ediv_nonneg (by omega) (by omega)
  have y0 : 0 ≤ Y / p2 m := Int.ediv_nonneg hY0 (by omega)
  have xl : X / p2 m < 1073741824 := Int.ediv_lt_of_lt_mul (by omega) (by rw [Int.mul_comm]; omega)
  have yl : Y / p2 m < 1073741824 := Int.ediv_lt_of_lt_mul (by omega) (by rw [Int.mul_comm]; omega)
  have x1 : 1 ≤ X / p2 m := by
    apply Int.le_ediv_of_mul_le (by omega)
    omega
  refine ⟨Int.emod_eq_of_lt x0 xl, Int.emod_eq_of_lt y0 yl, x1, y0, xl, yl, fx.1, by omega, fy.1, by omega⟩

set_option maxRecDepth 20000 in
set_option maxHeartbeats 2000000 in
theorem shrink_any (w : World) (B : Nat) (hB : B ≤ w.heap.size) (a1 a2 : Option Addr) (c1 c2 : Nat) (xs ys : List Int) (hx : Ow B w (.slice a1 xs.length c1) xs) (hy : Ow B w (.slice a2 ys.length c2) ys) (hcy : Canon ys) (hm : xs.length ≤ 400000) (h3 : 2 < ys.length) (hle : val ys ≤ val xs) :
    Calls Try.prog 56 #[.slice a1 xs.length c1, .slice a2 ys.length c2] w fun e w' => ∃ v1 v2 X' Y', e = .returned (.tuple #[v1, v2]) ∧ Is B w' v1 X' ∧ Is B w' v2 Y' ∧ Y' ≤ X' ∧ Y' < val ys ∧ X' ≤ val xs ∧ Int.gcd X' Y' = Int.gcd (val xs) (val ys) ∧ Below w.heap.size w w' := by
  obtain ⟨_, x1, x2, x3⟩ := hx.sl.parts
  obtain ⟨_, y1, y2, y3⟩ := hy.sl.parts
  have hY0 := (val_bounds y3).1
  have hlen : ys.length ≤ xs.length := le_len x3 hcy hle
  have hX64 : 18446744073709551616 ≤ val xs := by
    have h9 := canon_low hcy (by intro e; subst e; simp at h3)
    have h8 := pw_mono (m := 2) (n := ys.length - 1) (by omega)
    rw [show pw 2 = 18446744073709551616 from by decide] at h8
    omega
  have sx := hx.sl
  have sy := hy.sl
  go_enter Try.func56, Try.ntmps56
  go_wp2_with fail
  refine (bits_any _ _ _ _ xs sx (by omega)).mono ?_
  rintro e w' ⟨l, rfl, t1, rfl⟩
  have hl65 : 65 ≤ l := by
    apply Classical.byContradiction
    intro hn
    have h9 := p2_mono (m := l) (n := 64) (by omega)
    rw [show p2 64 = 18446744073709551616 from by decide] at h9
    have := t1.1
    omega
  have hlm : l ≤ 32 * xs.length := by
    have h9 := (val_bounds x3).2
    rw [pw_p2] at h9
    apply Classical.byContradiction
    intro hn
    have h8 := p2_mono (m := 32 * xs.length) (n := l - 1) (by omega)
    rcases t1.2 with h | h <;> omega
  obtain ⟨m, hm'⟩ : ∃ m, l = m + 30 := ⟨l - 30, by omega⟩
  have WF := hide (win_facts t1 hm' hY0 hle)
  have el : (l : Int) - 30 = (m : Nat) := by omega
  have kx : Hid (∀ w2 : World, Sl w2 (.slice a1 xs.length c1) xs → Calls Try.prog 79 #[.slice a1 xs.length c1, .int .i64 m] w2 fun e w3 => e = .returned (.int .u32 (val xs / p2 m)) ∧ w3 = w2) := by
    intro w2 h2
    have h9 := window_any w2 a1 _ c1 xs h2 m (by omega)
    rwa [WF.out.1] at h9
  have ky : Hid (∀ w2 : World, Sl w2 (.slice a2 ys.length c2) ys → Calls Try.prog 79 #[.slice a2 ys.length c2, .int .i64 m] w2 fun e w3 => e = .returned (.int .u32 (val ys / p2 m)) ∧ w3 = w2) := by
    intro w2 h2
    have h9 := window_any w2 a2 _ c2 ys h2 m (by omega)
    rwa [WF.out.2.1] at h9
  obtain ⟨u, hu⟩ : ∃ u, val xs / p2 m = u := ⟨_, rfl⟩
  obtain ⟨v, hv⟩ : ∃ v, val ys / p2 m = v := ⟨_, rfl⟩
  rw [hu] at WF kx
  rw [hv] at WF ky
  have u1 := WF.out.2.2.1
  have v1 := WF.out.2.2.2.1
  have u2 := WF.out.2.2.2.2.1
  have v2 := WF.out.2.2.2.2.2.1
  have kl : Hid (∀ w2 : World, Calls Try.prog 78 #[.int .i64 u, .int .i64 v] w2 fun e w3 => ∃ a b c d x y, e = .returned (.agg #[.int .i64 a, .int .i64 b, .int .i64 c, .int .i64 d]) ∧ Lh u v (val xs) (val ys) a b c d x y ∧ Below w2.heap.size w2 w3) := by
    intro w2
    have hp := p2_pos m
    exact lookAhead_any w2 u v (val xs) (val ys) (p2 m) u1 v1 u2 v2 hY0 hle (by omega) WF.out.2.2.2.2.2.2.1 WF.out.2.2.2.2.2.2.2.1 WF.out.2.2.2.2.2.2.2.2.1 WF.out.2.2.2.2.2.2.2.2.2
  clear t1 hm' hu hv x3 y3
  go_wp2_with fail
  refine (kx.out _ sx).mono ?_
  rintro e w2 ⟨rfl, rfl⟩
  go_wp2_with fail
  refine (ky.out _ sy).mono ?_
  rintro e w2 ⟨rfl, rfl⟩
  go_wp2_with fail
  refine (kl.out _).mono ?_
  rintro e w3 ⟨a, b, c, d, x, y, rfl, hD, hb3⟩
  have D := hide hD
  have hb4 : Below w3.heap.size w3 (w3.alloc (.cells #[.int .i64 a, .int .i64 b, .int .i64 c, .int .i64 d] 89)) := (Below.refl _ _).alloc (Nat.le_refl _) _
  have HZ : Below w2.heap.size w2 (w3.alloc (.cells #[.int .i64 a, .int .i64 b, .int .i64 c, .int .i64 d] 89)) := below_then hb3 hb4
  have FZ : Fac (w3.alloc (.cells #[.int .i64 a, .int .i64 b, .int .i64 c, .int .i64 d] 89)) w3.heap.size a b c d := heap_alloc_new w3 _
  obtain ⟨w4, e4⟩ : ∃ w4, w3.alloc (.cells #[.int .i64 a, .int .i64 b, .int .i64 c, .int .i64 d] 89) = w4 := ⟨_, rfl⟩
  rw [e4] at HZ FZ
  have E4 := hide e4
  clear e4 hD hb4
  have hx4 := hx.below HZ
  have hy4 := hy.below HZ
  by_cases hb : b = 0
  · subst hb
    have G := hide (gcd_step (val xs) (val ys) (val xs / val ys))
    have hpos : 0 < val ys := by
      have h9 := canon_low hcy (by intro e; subst e; simp at h3)
      have := pw_pos (ys.length - 1)
      omega
    have hmod : val xs - val xs / val ys * val ys = val xs % val ys := by
      have := Int.mul_ediv_add_emod (val xs) (val ys)
      rw [Int.mul_comm] at this
      omega
    rw [hmod] at G
    have M := hide (And.intro (Int.emod_nonneg (val xs) (show val ys ≠ 0 by omega)) (Int.emod_lt_of_pos (val xs) hpos))
    clear hmod
    go_wp2_with fail
    rw [E4.out]
    refine (divmod_any _ _ _ _ _ _ _ xs ys hx4.sl hy4.sl (by omega) (by omega)).mono ?_
    rintro e w5 ⟨v1', v2', rfl, i1, i2, _, hb5⟩
    have R1 : Hid (Is B w5 (.slice a2 ys.length c2) (val ys)) := ⟨ys, hy4.below hb5, hcy, rfl⟩
    have R2 := hide (i2.mono (B' := B) (by have := HZ.size; omega))
    have Z := hide (below_then HZ hb5)
    go_wp2
    go_ret2
    exact ⟨_, _, val ys, val xs % val ys, rfl, R1.out, R2.out, by have := M.out; omega, M.out.2, hle, G.out, Z.out⟩
  · have hbb : (b == 0) = false := by simp [hb]
    obtain ⟨⟨fa, fb, fc, fd⟩, fe, ff, fg, fh⟩ := FZ.facts
    have VX := (val_bounds hx.sl.parts.2.2.2).2
    have sgn1 : (0 ≤ a ∧ b ≤ 0) ∨ (a ≤ 0 ∧ 0 ≤ b) := by rcases D.out.sig with h | h <;> omega
    have sgn2 : (0 ≤ c ∧ d ≤ 0) ∨ (c ≤ 0 ∧ 0 ≤ d) := by rcases D.out.sig with h | h <;> omega
    have SG1 := hide sgn1
    have SG2 := hide sgn2
    have P1 : Hid (0 ≤ a * val xs + b * val ys ∧ a * val xs + b * val ys < pw xs.length) := by have h1 := D.out.le; have h2 := D.out.nn; have h4 := D.out.top; show _ ∧ _; omega
    have P2 : Hid (0 ≤ c * val xs + d * val ys ∧ c * val xs + d * val ys < pw xs.length) := by have h1 := D.out.le; have h2 := D.out.nn; have h4 := D.out.top; show _ ∧ _; omega
    have HB0 := hide hb
    clear sgn1 sgn2 VX hb
    go_wp2
    rw [E4.out]
    go_region_held3 (fun w' => w'.cell? ⟨w3.heap.size, 0, none⟩ = some (.int .i64 a) ∧ w'.cell? ⟨w3.heap.size, 1, none⟩ = some (.int .i64 b) ∧ w'.cell? ⟨w3.heap.size, 2, none⟩ = some (.int .i64 c) ∧ w'.cell? ⟨w3.heap.size, 3, none⟩ = some (.int .i64 d)) (go_keep) (first
      | (go_at_call 80; have _hq := hb5'; refine (combine_any _ _ _ _ _ _ _ xs ys ((hx4.below hb5').sl.below (by repeat (first | exact Below.refl _ _ | refine Below.drew ?_))) ((hy4.below hb5').sl.below (by repeat (first | exact Below.refl _ _ | refine Below.drew ?_))) (by omega) hlen c d D.out.bc D.out.bd SG2.out P2.out.1 P2.out.2).mono ?_; rintro e w6 ⟨v6, rfl, i6, hb6⟩; have hb6' : Below w5.heap.size w5 w6 := (show Below w5.heap.size w5 _ by repeat (first | exact Below.refl _ _ | refine Below.drew ?_)).trans hb6; have FZ6 := FZ5.below hb6'; obtain ⟨⟨ha, hb, hc, hd⟩, he, hf, hg, hh⟩ := FZ6.facts)
      | (go_at_call 80; refine (combine_any _ _ _ _ _ _ _ xs ys (hx4.sl.below (by repeat (first | exact Below.refl _ _ | refine Below.drew ?_))) (hy4.sl.below (by repeat (first | exact Below.refl _ _ | refine Below.drew ?_))) (by omega) hlen a b D.out.ba D.out.bb SG1.out P1.out.1 P1.out.2).mono ?_; rintro e w5 ⟨v5, rfl, i5, hb5⟩; have hb5' : Below w4.heap.size w4 w5 := (show Below w4.heap.size w4 _ by repeat (first | exact Below.refl _ _ | refine Below.drew ?_)).trans hb5; have FZ5 := FZ.below hb5'; obtain ⟨⟨ga, gb, gc, gd⟩, ge, gf, gg, gh⟩ := FZ5.facts))
    all_goals
      have R1 := hide ((i5.below hb6').mono (B' := B) (show B ≤ w4.heap.size by have := HZ.size; omega))
      have R2 := hide (i6.mono (B' := B) (show B ≤ w5.heap.size by have := HZ.size; have := hb5'.size; omega))
      have Z := hide (below_then HZ (below_then hb5' hb6'))
      clear fa fb fc fd fe ff fg fh ga gb gc gd ge gf gg gh ha hb hc hd he hf hg hh
      go_wp2
      go_ret2
      exact ⟨_, _, _, _, rfl, R1.out, R2.out, D.out.le, D.out.bz HB0.out, D.out.top, D.out.gcd, Z.out⟩

end Lm
end Go.Proofs.Ythbomfboohjcfaa
