/-
  The contracts of the reference's Sign, Size and Cmp.
-/
import Derived.Test.YthbomfboohjcfaaDSize
import Derived.Deep.QuietTactic
import Derived.BigQuiet
import Derived.Deep.RegionWith
namespace Go.Proofs.Ythbomfboohjcfaa
namespace Dm
open Go.RowKit
open Lm (hide lt_of_cell lt_of_heap div_of info32 cmpI cmpI_lt cmpI_gt cmpI_eq ret_i64)

set_option maxRecDepth 20000 in
set_option maxHeartbeats 1000000 in
theorem ncmp_less (w : World) (a1 a2 : Option Addr) (c1 c2 : Nat) (xs ys : List Int) (x y : Int) (s1 : sgn xs.length = 0) (s2 : sgn ys.length = 1) (h : x < y) :
    Calls Try.prog 44 #[.agg #[.bool false, .slice a1 xs.length c1], .agg #[.bool false, .slice a2 ys.length c2]] w fun e w' => e = .returned (.int .i64 (cmpI x y)) ∧ Below w.heap.size w w' := by
  have HE : Hid (cmpI x y = -1) := cmpI_lt h
  clear h
  go_enter Try.func44, Try.ntmps44
  go_wp2_with fail
  go_region_with (go_at_call 50; refine (sign_any _ _ _ _).mono ?_; rintro e w' ⟨rfl, rfl⟩)
  all_goals
    go_wp2_with fail
    go_region_with (go_at_call 50; refine (sign_any _ _ _ _).mono ?_; rintro e w' ⟨rfl, rfl⟩)
  all_goals
    go_wp2
    go_ret
    refine ⟨by rw [HE.out]; rfl, ?_⟩
    repeat (first | exact Below.refl _ _ | refine Below.drew ?_ | refine below_alloc ?_ _)


end Dm
end Go.Proofs.Ythbomfboohjcfaa
