/-
  The contract of DivMod, but for long divisors.
-/
import Derived.Test.YtjhhjefobbhdlaaSub
namespace Go.Proofs.Ytjhhjefobbhdlaa
namespace Lm
open Go.RowKit

/-- Two slices whose rooms have nothing in common. -/
def Sep (v1 v2 : Value) : Prop := ∀ a1 n1 c1 a2 n2 c2, v1 = .slice (some a1) n1 c1 → v2 = .slice (some a2) n2 c2 → c1 = 0 ∨ c2 = 0 ∨ a1.block ≠ a2.block

theorem sep_nil (v : Value) (n c : Nat) : Sep (.slice none n c) v := by
  intro a1 n1 c1 a2 n2 c2 h
  simp at h

theorem sep_of {B B' : Nat} {w1 w2 : World} {v1 v2 : Value} {x1 x2 : List Int} (h1 : Ow B w1 v1 x1) (h2 : Ow B' w2 v2 x2) (h : w1.heap.size ≤ B') : Sep v1 v2 := by
  intro a1 n1 c1 a2 n2 c2 e1 e2
  obtain ⟨ao, cap, hv, _, _, _, h4⟩ := h1
  obtain ⟨ao', cap', hv', _, _, _, h4'⟩ := h2
  rw [hv] at e1
  rw [hv'] at e2
  simp only [Value.slice.injEq] at e1 e2
  rcases h4 with h4 | ⟨g, off, cur, hg, _, hh, _⟩
  · exact .inl (by omega)
  · rcases h4' with h4' | ⟨g', off', cur', hg', hb, hh', _⟩
    · exact .inr (.inl (by omega))
    · refine .inr (.inr ?_)
      have := lt_of_heap hh
      rw [hg] at e1
      rw [hg'] at e2
      have k1 := e1.1
      have k2 := e2.1
      simp only [Option.some.injEq] at k1 k2
      rw [← k1, ← k2]
      simp
      omega

set_option maxRecDepth 20000 in
set_option maxHeartbeats 400000 in
theorem divmod_zero (w : World) (a1 a2 : Option Addr) (n1 n2 c1 c2 : Nat) (xs ys : List Int) (hx : Sl w (.slice a1 n1 c1) xs) (hy : Sl w (.slice a2 n2 c2) ys) (hz : tl ys = 0) :
    Calls Try.prog 64 #[.slice a1 n1 c1, .slice a2 n2 c2] w fun e w' => e = .returned (.tuple #[.slice none 0 0, .slice none 0 0, .bool false]) ∧ Below w.heap.size w w' := by
  have ky := cut_any w a2 n2 c2 ys hy
  rw [hz] at ky
  have KY := hide ky
  clear ky hz hy
  go_enter Try.func64, Try.ntmps64
  go_wp2_with fail
  refine (cut_any w a1 _ c1 xs hx).mono ?_
  rintro e w' ⟨rfl, rfl⟩
  go_wp2_with fail
  refine (KY.out).mono ?_
  rintro e w' ⟨rfl, rfl⟩
  go_wp2
  go_ret3
  exact ⟨rfl, Below.refl _ _⟩

set_option maxRecDepth 20000 in
set_option maxHeartbeats 400000 in
theorem divmod_less (w : World) (a1 a2 : Option Addr) (n1 n2 c1 c2 : Nat) (xs ys : List Int) (hx : Sl w (.slice a1 n1 c1) xs) (hy : Sl w (.slice a2 n2 c2) ys) (hm1 : xs.length ≤ 1000000) (hlt : tl xs < tl ys) :
    Calls Try.prog 64 #[.slice a1 n1 c1, .slice a2 n2 c2] w fun e w' => ∃ v1 v2, e = .returned (.tuple #[v1, v2, .bool true]) ∧ Is w.heap.size w' v1 (val xs / val ys) ∧ Is w.heap.size w' v2 (val xs % val ys) ∧ Sep v1 v2 ∧ Below w.heap.size w w' := by
  obtain ⟨rfl, h1, h2, h3⟩ := hx.parts
  obtain ⟨rfl, g1, g2, g3⟩ := hy.parts
  have hvl := trim_lt_len h3 g3 hlt
  have hx0 := (val_bounds h3).1
  have Q := hide (show val xs / val ys = 0 from Int.ediv_eq_zero_of_lt hx0 hvl)
  have R := hide (show val xs % val ys = val xs from Int.emod_eq_of_lt hx0 hvl)
  have hne : (((tl ys : Nat) : Int) == 0) = false := by simp; omega
  have H3 := hide h3
  have t1 := tl_le xs
  have t2 := tl_le ys
  clear hvl hx0 h3 g3
  go_enter Try.func64, Try.ntmps64
  go_wp2_with fail
  refine (cut_any w a1 _ c1 xs hx).mono ?_
  rintro e w' ⟨rfl, rfl⟩
  go_wp2_with fail
  refine (cut_any _ a2 _ c2 ys hy).mono ?_
  rintro e w' ⟨rfl, rfl⟩
  go_wp2_with fail
  refine (trim_any _ _ _ _ _ hx.cut (by simp; omega)).mono ?_
  rintro e w1 ⟨v, rfl, ho, hb⟩
  go_wp2
  go_ret3
  refine ⟨_, _, rfl, ?_, ⟨_, ho, canon_trim (limb_take H3.out _), by rw [val_take_tl, val_take_tl, R.out]⟩, sep_nil _ _ _, hb⟩
  rw [Q.out]
  exact ⟨[], ⟨none, 0, rfl, Nat.le_refl _, by simp [maxLen], limb_nil, .inl rfl⟩, canon_nil, rfl⟩

theorem tl_one {ys : List Int} (h : tl ys = 1) : val ys = ys.getD 0 0 := by
  rw [← val_take_tl, h]
  cases ys with
  | nil => simp [tl] at h
  | cons y ys => simp [val]

theorem div_of {a b q r : Int} (hb : 0 < b) (h : a = q * b + r) (h1 : 0 ≤ r) (h2 : r < b) : a / b = q ∧ a % b = r := by
  have e : a = r + b * q := by rw [h, Int.mul_comm b]; omega
  constructor
  · rw [e, Int.add_mul_ediv_left _ _ (by omega), Int.ediv_eq_zero_of_lt h1 h2]; omega
  · rw [e, Int.add_mul_emod_self_left, Int.emod_eq_of_lt h1 h2]

set_option maxRecDepth 20000 in
set_option maxHeartbeats 1000000 in
theorem divmod_short (w : World) (a1 a2 : Option Addr) (n1 n2 c1 c2 : Nat) (xs ys : List Int) (hx : Sl w (.slice a1 n1 c1) xs) (hy : Sl w (.slice a2 n2 c2) ys) (hm1 : xs.length ≤ 1000000) (hle : 1 ≤ tl xs) (hone : tl ys = 1) :
    Calls Try.prog 64 #[.slice a1 n1 c1, .slice a2 n2 c2] w fun e w' => ∃ v1 v2, e = .returned (.tuple #[v1, v2, .bool true]) ∧ Is w.heap.size w' v1 (val xs / val ys) ∧ Is w.heap.size w' v2 (val xs % val ys) ∧ Sep v1 v2 ∧ Below w.heap.size w w' := by
  obtain ⟨rfl, h1, h2, h3⟩ := hx.parts
  obtain ⟨rfl, g1, g2, g3⟩ := hy.parts
  have t1 := tl_le xs
  have t2 := tl_le ys
  have ky := cut_any w a2 _ c2 ys hy
  have hvy := hide (tl_one hone)
  obtain ⟨b, off, rfl, hc⟩ := hy.cells (by omega)
  have hcell := hc 0 (by omega)
  have hlb := limb_getD g3 0
  have hpos : 0 < ys.getD 0 0 := by
    have : ys.getD 0 0 ≠ 0 := fun h0 => by
      have := tl_le_of_zero (zs := ys) (n := 0) (by omega) h0
      omega
    omega
  rw [hone] at ky
  have KY := hide ky
  have H3 := hide h3
  generalize ys.getD 0 0 = d at hcell hlb hpos hvy
  clear hone hc h3 g3 ky hy
  rw [Nat.add_zero] at hcell
  go_enter Try.func64, Try.ntmps64
  go_wp2_with fail
  refine (cut_any w a1 _ c1 xs hx).mono ?_
  rintro e w' ⟨rfl, rfl⟩
  go_wp2_with fail
  refine (KY.out).mono ?_
  rintro e w' ⟨rfl, rfl⟩
  go_wp2_with fail
  refine (trim_any _ _ _ _ _ hx.cut (by simp; omega)).mono ?_
  rintro e w1 ⟨v, rfl, ho, hb⟩
  rw [tl_take_tl, List.take_take, Nat.min_self] at ho
  obtain ⟨ao, cap, rfl, o1, o2, o3, o4⟩ := ho
  have hXl : (xs.take (tl xs)).length = tl xs := by simp; omega
  rcases o4 with o4 | ⟨g, off', cur, rfl, hg, hh, hs, hat⟩
  · omega
  have hcell' := (hb.cell (p := ⟨b, off, none⟩) (lt_of_cell hcell)).trans hcell
  have VX := hide (val_take_tl xs)
  generalize xs.take (tl xs) = X at *
  go_wp2_with fail
  refine (divideShort_any w1 g off' (tl xs) cap cur X d hpos (by omega) hh hat o3 hXl (by omega)).mono ?_
  rintro e w2 ⟨qs, r, cur', rfl, r0, r1, hv, hq, hql, hwr, hcs, hat'⟩
  have howq : Ow w'.heap.size w2 (.slice (some ⟨g, off', none⟩) (tl xs) cap) qs := ⟨_, cap, by rw [hql], by omega, o2, hq, .inr ⟨g, off', cur', rfl, hg, hwr.here, by omega, hat'⟩⟩
  have hdv := div_of hpos hv r0 r1
  rw [VX.out, ← hvy.out] at hdv
  have hisq := howq.is_cut (x := val xs / val ys) hdv.1.symm
  have HR := hide hdv.2
  have hb2 : Below w'.heap.size w' w2 := hb.trans (hwr.below hg)
  clear hdv hv hql hwr hcs hat' hq
  go_wp2_with fail
  refine (cut_any _ _ _ _ _ howq.sl).mono ?_
  rintro e w3 ⟨rfl, rfl⟩
  go_wp2_with fail
  refine (small_any _ r r0 (by omega)).mono ?_
  rintro e w4 ⟨v, rfl, his, hb4⟩
  go_wp2
  go_ret3
  obtain ⟨q1, q2, q3, q4⟩ := hisq
  obtain ⟨s1, s2, s3, s4⟩ := his
  exact ⟨_, _, rfl, ⟨q1, q2.below hb4, q3, q4⟩, ⟨s1, s2.mono hb2.size, s3, by rw [s4, HR.out]⟩, sep_of q2 s2 (Nat.le_refl _), hb2.trans (hb4.mono hb2.size)⟩

end Lm
end Go.Proofs.Ytjhhjefobbhdlaa
