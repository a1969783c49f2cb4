/-
  The statements' awake answers true.
-/
import Derived.Test.YtkdcgnooeojjgabWG
import Derived.Test.YtkdcgnooeojjgabWF
import Derived.Test.YtkdcgnooeojjgabWT
namespace Go.Proofs.Ytkdcgnooeojjgab
namespace Lm
open Go.RowKit

theorem divmod_z (w : World) (nx : Bool) (a1 : Option Addr) (n1 c1 : Nat) (xs : List Int) (x : Int) (hx : Ag w nx a1 n1 c1 xs x) (ny : Bool) (a2 : Option Addr) (n2 c2 : Nat) (ys : List Int) (y : Int) (hy : Ag w ny a2 n2 c2 ys y) (hm1 : xs.length ≤ 400000) (hm2 : ys.length ≤ 400000) (h0 : y ≠ 0) :
    Calls Try.prog 73 #[.agg #[.bool nx, .slice a1 n1 c1], .agg #[.bool ny, .slice a2 n2 c2]] w fun e w' => ∃ nq aq cq qs nr ar cr rs, e = .returned (.tuple #[.agg #[.bool nq, .slice aq qs.length cq], .agg #[.bool nr, .slice ar rs.length cr], .bool true]) ∧ Wh w' nq aq cq qs (x / y) ∧ Wh w' nr ar cr rs (x % y) ∧ qs.length ≤ xs.length + 4 ∧ rs.length ≤ ys.length ∧ Below w.heap.size w w' := by
  have h := wdivmod_g w nx a1 n1 c1 xs hx.sl ny a2 n2 c2 ys hy.sl hm1 hm2 (fun e => h0 (by rw [← hy.worth, e]; cases ny <;> simp [sg]))
  rw [hx.worth, hy.worth] at h
  exact h

theorem dec12 : IsDec [49, 50] 12 := by
  refine ⟨?_, by decide, .inr ⟨49, _, rfl, by decide⟩⟩
  intro c hc
  simp at hc
  omega

theorem text12 (w : World) (ng : Bool) (ao : Option Addr) (cap : Nat) (rs : List Int) (h : Wh w ng ao cap rs (-12)) (hl : rs.length ≤ 2) :
    Calls Try.prog 66 #[.agg #[.bool ng, .slice ao rs.length cap]] w fun e w' => e = .returned (.string ⟨#[45, 49, 50]⟩) ∧ Below w.heap.size w w' := by
  refine (wtext_neg w ng ao _ cap rs h.sl (by omega) (by rw [h.worth]; decide)).mono ?_
  rintro e w' ⟨ds, rfl, hd, hb⟩
  have e2 := isDec_one hd (show IsDec [49, 50] (val rs) by rw [h.1.val]; exact dec12)
  subst e2
  exact ⟨rfl, hb⟩

end Lm
end Go.Proofs.Ytkdcgnooeojjgab
