/-
  The contracts of the reference's Sign, Size and Cmp.
-/
import Derived.Test.YthbomfboohjcfaaDCmpA
import Derived.Test.YthbomfboohjcfaaDCmpB
import Derived.Test.YthbomfboohjcfaaDCmpC
import Derived.Deep.QuietTactic
import Derived.BigQuiet
import Derived.Deep.RegionWith
namespace Go.Proofs.Ythbomfboohjcfaa
namespace Dm
open Go.RowKit
open Lm (hide lt_of_cell lt_of_heap div_of info32 cmpI cmpI_lt cmpI_gt cmpI_eq ret_i64)

theorem ncmp_any (w : World) (a1 a2 : Option Addr) (c1 c2 : Nat) (xs ys : List Int) (x y : Int) (hx : Got w a1 c1 xs x) (hy : Got w a2 c2 ys y) :
    Calls Try.prog 44 #[.agg #[.bool false, .slice a1 xs.length c1], .agg #[.bool false, .slice a2 ys.length c2]] w fun e w' => e = .returned (.int .i64 (cmpI x y)) ∧ Below w.heap.size w w' := by
  by_cases h1 : xs.length = 0
  · by_cases h2 : ys.length = 0
    · exact ncmp_same w a1 a2 c1 c2 xs ys x y hx hy (by rw [h1, h2])
    · exact ncmp_less w a1 a2 c1 c2 xs ys x y (by simp [sgn, h1]) (by simp [sgn, h2]) (by rw [got_zero hx h1]; exact got_pos hy h2)
  · by_cases h2 : ys.length = 0
    · exact ncmp_more w a1 a2 c1 c2 xs ys x y (by simp [sgn, h1]) (by simp [sgn, h2]) (by rw [got_zero hy h2]; exact got_pos hx h1)
    · exact ncmp_same w a1 a2 c1 c2 xs ys x y hx hy (by simp [sgn, h1, h2])

set_option maxRecDepth 20000 in
set_option maxHeartbeats 400000 in
theorem rcmp_any (w : World) (a1 a2 : Option Addr) (n1 n2 c1 c2 : Nat) (xs ys : List Int) (hx : Lm.Sl w (.slice a1 n1 c1) xs) (hy : Lm.Sl w (.slice a2 n2 c2) ys) (l1 : xs.length ≤ 300000) (l2 : ys.length ≤ 300000) :
    Calls Try.prog 17 #[.slice a1 n1 c1, .slice a2 n2 c2] w fun e w' => e = .returned (.int .i64 (cmpI (Lm.val xs) (Lm.val ys))) ∧ Below w.heap.size w w' := by
  go_enter Try.func17, Try.ntmps17
  go_wp2_with fail
  refine (fromLimbs_any w a1 n1 c1 xs hx l1).mono ?_
  rintro e w1 ⟨p1, q1, D1, rfl, g1, d1, hb1⟩
  go_wp2_with fail
  refine (fromLimbs_any w1 a2 n2 c2 ys (hy.below hb1) l2).mono ?_
  rintro e w2 ⟨p2, q2, D2, rfl, g2, d2, hb2⟩
  go_wp2_with fail
  refine (ncmp_any w2 p1 p2 q1 q2 D1 D2 _ _ (g1.below hb2) g2).mono ?_
  rintro e w3 ⟨rfl, hb3⟩
  have HB := (hb1.trans (hb2.mono hb1.size))
  replace HB := HB.trans (hb3.mono HB.size)
  clear hb1 hb2 hb3
  go_wp2
  go_ret
  exact ⟨rfl, HB⟩

end Dm
end Go.Proofs.Ythbomfboohjcfaa
