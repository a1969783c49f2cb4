/-
  The contract of DivMod, for every divisor.
-/
import Derived.Test.YtjhhjefobbhdlaaLong
namespace Go.Proofs.Ytjhhjefobbhdlaa
namespace Lm
open Go.RowKit

set_option maxRecDepth 20000 in
set_option maxHeartbeats 1000000 in
theorem divmod_long (w : World) (a1 a2 : Option Addr) (n1 n2 c1 c2 : Nat) (xs ys : List Int) (hx : Sl w (.slice a1 n1 c1) xs) (hy : Sl w (.slice a2 n2 c2) ys) (hm1 : xs.length ≤ 500000) (hle : tl ys ≤ tl xs) (h2 : 2 ≤ tl ys) :
    Calls Try.prog 64 #[.slice a1 n1 c1, .slice a2 n2 c2] w fun e w' => ∃ v1 v2, e = .returned (.tuple #[v1, v2, .bool true]) ∧ Is w.heap.size w' v1 (val xs / val ys) ∧ Is w.heap.size w' v2 (val xs % val ys) ∧ Sep v1 v2 ∧ Below w.heap.size w w' := by
  obtain ⟨rfl, h1, _, h3⟩ := hx.parts
  obtain ⟨rfl, g1, _, g3⟩ := hy.parts
  have t1 := tl_le xs
  have t2 := tl_le ys
  have kd := divideLong_any w a1 a2 (tl xs) (tl ys) c1 c2 _ _ hx.cut hy.cut (by rw [List.length_take]; omega) (by rw [List.length_take]; omega) (by rw [List.length_take, List.length_take]; omega) (canon_trim g3)
  rw [val_take_tl, val_take_tl] at kd
  have KD := hide kd
  clear kd h3 g3
  have hne : (((tl ys : Nat) : Int) == 0) = false := by simp; omega
  have hne1 : (((tl ys : Nat) : Int) == 1) = false := by simp; omega
  go_enter Try.func64, Try.ntmps64
  go_wp2_with fail
  refine (cut_any w a1 _ c1 xs hx).mono ?_
  rintro e w' ⟨rfl, rfl⟩
  go_wp2_with fail
  refine (cut_any _ a2 _ c2 ys hy).mono ?_
  rintro e w' ⟨rfl, rfl⟩
  go_wp2_with fail
  refine (KD.out).mono ?_
  rintro e w1 ⟨v1, v2, rfl, hi1, hi2, hsep, hb⟩
  go_wp2
  go_ret3
  exact ⟨_, _, rfl, hi1, hi2, hsep, hb⟩

theorem divmod_any (w : World) (a1 a2 : Option Addr) (n1 n2 c1 c2 : Nat) (xs ys : List Int) (hx : Sl w (.slice a1 n1 c1) xs) (hy : Sl w (.slice a2 n2 c2) ys) (hm1 : xs.length ≤ 500000) (h0 : val ys ≠ 0) :
    Calls Try.prog 64 #[.slice a1 n1 c1, .slice a2 n2 c2] w fun e w' => ∃ v1 v2, e = .returned (.tuple #[v1, v2, .bool true]) ∧ Is w.heap.size w' v1 (val xs / val ys) ∧ Is w.heap.size w' v2 (val xs % val ys) ∧ Sep v1 v2 ∧ Below w.heap.size w w' := by
  have hz : 0 < tl ys := by
    apply Classical.byContradiction
    intro hn
    exact h0 (tl_zero (by omega))
  by_cases h1 : tl xs < tl ys
  · exact divmod_less w a1 a2 n1 n2 c1 c2 xs ys hx hy (by omega) h1
  · by_cases h2 : tl ys = 1
    · exact divmod_short w a1 a2 n1 n2 c1 c2 xs ys hx hy (by omega) (by omega) h2
    · exact divmod_long w a1 a2 n1 n2 c1 c2 xs ys hx hy hm1 (by omega) (by omega)

theorem divmod_none (w : World) (a1 a2 : Option Addr) (n1 n2 c1 c2 : Nat) (xs ys : List Int) (hx : Sl w (.slice a1 n1 c1) xs) (hy : Sl w (.slice a2 n2 c2) ys) (h0 : val ys = 0) :
    Calls Try.prog 64 #[.slice a1 n1 c1, .slice a2 n2 c2] w fun e w' => e = .returned (.tuple #[.slice none 0 0, .slice none 0 0, .bool false]) ∧ Below w.heap.size w w' := by
  refine divmod_zero w a1 a2 n1 n2 c1 c2 xs ys hx hy ?_
  apply Classical.byContradiction
  intro hn
  have := val_pos_tl hy.parts.2.2.2 (by omega)
  omega

theorem divmod_g (w : World) (a1 a2 : Option Addr) (n1 n2 c1 c2 : Nat) (xs ys : List Int) (hx : Sl w (.slice a1 n1 c1) xs) (hy : Sl w (.slice a2 n2 c2) ys) (hm1 : xs.length ≤ 500000) (h0 : val ys ≠ 0) :
    Calls Try.prog 64 #[.slice a1 n1 c1, .slice a2 n2 c2] w fun e w' => ∃ ao cap rs bo dap ss, e = .returned (.tuple #[.slice ao rs.length cap, .slice bo ss.length dap, .bool true]) ∧ Got w' ao cap rs (val xs / val ys) ∧ Got w' bo dap ss (val xs % val ys) ∧ rs.length ≤ xs.length ∧ ss.length ≤ ys.length ∧ Below w.heap.size w w' := by
  refine (divmod_any w a1 a2 n1 n2 c1 c2 xs ys hx hy hm1 h0).mono ?_
  rintro e w' ⟨v1, v2, rfl, hi1, hi2, _, hb⟩
  obtain ⟨ao, cap, rs, rfl, hg1⟩ := hi1.got
  obtain ⟨bo, dap, ss, rfl, hg2⟩ := hi2.got
  have bx := val_bounds hx.parts.2.2.2
  have by' := val_bounds hy.parts.2.2.2
  refine ⟨ao, cap, rs, bo, dap, ss, rfl, hg1, hg2, le_len hx.parts.2.2.2 hg1.canon ?_, le_len hy.parts.2.2.2 hg2.canon ?_, hb⟩
  · rw [hg1.val]
    exact Int.ediv_le_self _ bx.1
  · rw [hg2.val]
    have := Int.emod_lt_of_pos (val xs) (show 0 < val ys by omega)
    omega

end Lm
end Go.Proofs.Ytjhhjefobbhdlaa
