/-
  The contract of the reference's Trim.
-/
import Derived.Test.YthbomfboohjcfaaDLimbs
namespace Go.Proofs.Ythbomfboohjcfaa
namespace Dm
open Go.RowKit
open Lm (hide lt_of_cell lt_of_heap div_of info32)

set_option maxRecDepth 20000 in
set_option maxHeartbeats 400000 in
theorem limbs_none (w : World) (ng : Bool) (ao : Option Addr) (cap : Nat) (_hcap : cap ≤ 9223372036854775807) :
    Calls Try.prog 42 #[.agg #[.bool ng, .slice ao 0 cap]] w fun e w' => ∃ v, e = .returned v ∧ Lm.Is w.heap.size w' v 0 ∧ Below w.heap.size w w' := by
  cases ao with
  | none =>
    go_enter Try.func42, Try.ntmps42
    go_wp2
    refine wp_loop_rounds 1 ?_
    rw [rounds_succ]
    go_wp2
    go_ret
    exact ⟨_, rfl, ⟨[], ⟨none, 0, rfl, Nat.le_refl _, by simp [maxLen], Lm.limb_nil, .inl rfl⟩, Lm.canon_nil, rfl⟩, (Below.refl _ _).alloc (Nat.le_refl _) _⟩
  | some ad =>
    go_enter Try.func42, Try.ntmps42
    go_wp2
    refine wp_loop_rounds 1 ?_
    rw [rounds_succ]
    go_wp2
    go_ret
    exact ⟨_, rfl, ⟨[], ⟨none, 0, rfl, Nat.le_refl _, by simp [maxLen], Lm.limb_nil, .inl rfl⟩, Lm.canon_nil, rfl⟩, (Below.refl _ _).alloc (Nat.le_refl _) _⟩

theorem limbs_any (w : World) (ng : Bool) (ao : Option Addr) (cap : Nat) (D : List Int) (x : Int) (hD : Got w ao cap D x) (M : Nat) (hx : x < Lm.pw M) (hM : M ≤ 1000000) (hl : D.length ≤ 1000000) :
    Calls Try.prog 42 #[.agg #[.bool ng, .slice ao D.length cap]] w fun e w' => ∃ v, e = .returned v ∧ Lm.Is w.heap.size w' v x ∧ Below w.heap.size w w' := by
  by_cases h0 : 0 < D.length
  · exact limbs_loop w ng ao cap D x hD M hx hM hl h0
  · have e : D = [] := List.eq_nil_of_length_eq_zero (by omega)
    have hx0 : x = 0 := by rw [← hD.val, e]; rfl
    have hc := hD.sl.parts.2.2.1
    rw [hx0, e]
    exact limbs_none w ng ao cap hc

set_option maxRecDepth 20000 in
set_option maxHeartbeats 400000 in
theorem rtrim_any (w : World) (ao : Option Addr) (n cap : Nat) (xs : List Int) (hx : Lm.Sl w (.slice ao n cap) xs) (hl : xs.length ≤ 300000) :
    Calls Try.prog 16 #[.slice ao n cap] w fun e w' => ∃ v, e = .returned v ∧ Lm.Is w.heap.size w' v (Lm.val xs) ∧ Below w.heap.size w w' := by
  have hv := hide (Lm.val_bounds hx.parts.2.2.2).2
  go_enter Try.func16, Try.ntmps16
  go_wp2_with fail
  refine (fromLimbs_any w ao n cap xs hx hl).mono ?_
  rintro e w1 ⟨ao1, cap1, D, rfl, hg, hd, hb1⟩
  go_wp2_with fail
  refine (limbs_any _ _ _ _ D _ hg xs.length hv.out (by omega) (by omega)).mono ?_
  rintro e w2 ⟨v, rfl, hi, hb2⟩
  go_wp2
  go_ret
  exact ⟨_, rfl, hi.mono hb1.size, hb1.trans (hb2.mono hb1.size)⟩

theorem rtrim_g (w : World) (ao : Option Addr) (n cap : Nat) (xs : List Int) (hx : Lm.Sl w (.slice ao n cap) xs) (hl : xs.length ≤ 300000) :
    Calls Try.prog 16 #[.slice ao n cap] w fun e w' => ∃ ao cap rs, e = .returned (.slice ao rs.length cap) ∧ Lm.Got w' ao cap rs (Lm.val xs) ∧ rs.length ≤ xs.length ∧ Below w.heap.size w w' := by
  refine (rtrim_any w ao n cap xs hx hl).mono ?_
  rintro e w' ⟨v, rfl, hi, hb⟩
  obtain ⟨ao, cap, rs, rfl, hg⟩ := hi.got
  exact ⟨ao, cap, rs, rfl, hg, Lm.le_len hx.parts.2.2.2 hg.canon (by rw [hg.val]; omega), hb⟩

end Dm
end Go.Proofs.Ythbomfboohjcfaa
