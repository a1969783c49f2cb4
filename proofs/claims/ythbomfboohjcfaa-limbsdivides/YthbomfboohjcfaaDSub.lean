/-
  The contract of the reference's Sub.
-/
import Derived.Test.YthbomfboohjcfaaDMin
namespace Go.Proofs.Ythbomfboohjcfaa
namespace Dm
open Go.RowKit
open Lm (hide lt_of_cell lt_of_heap cmpI cmpI_lt cmpI_gt)

theorem Wh.via {w0 w1 w2 : World} {ng : Bool} {ao : Option Addr} {cap : Nat} {rs : List Int} {z : Int} (h : Wh w0 ng ao cap rs z) (h1 : Below w0.heap.size w0 w1) (h2 : Below w1.heap.size w1 w2) : Wh w2 ng ao cap rs z := (h.below h1).below h2

set_option maxRecDepth 20000 in
set_option maxHeartbeats 1000000 in
theorem nsub_g (w : World) (n1 : Bool) (a1 : Option Addr) (c1 : Nat) (xs : List Int) (x : Int) (hx : Wh w n1 a1 c1 xs x) (n2 : Bool) (a2 : Option Addr) (c2 : Nat) (ys : List Int) (y : Int) (hy : Wh w n2 a2 c2 ys y) (m1 : xs.length ≤ 400000) (m2 : ys.length ≤ 400000) :
    Calls Try.prog 45 #[.agg #[.bool n1, .slice a1 xs.length c1], .agg #[.bool n2, .slice a2 ys.length c2]] w fun e w' => ∃ ng' ao cap rs, e = .returned (.agg #[.bool ng', .slice ao rs.length cap]) ∧ Wh w' ng' ao cap rs (x - y) ∧ rs.length ≤ xs.length + ys.length + 1 ∧ Below w.heap.size w w' := by
  obtain ⟨w0, e0, bx, by', br, hb0, hs0⟩ := boxed3 w n1 (.slice a1 xs.length c1) n2 (.slice a2 ys.length c2)
  have E0 := hide e0
  have hx0 := hx.below hb0
  have hy0 := hy.below hb0
  have HB := hb0
  have ne1 : ¬ (w.heap.size = w.heap.size + 1 + 1) := by omega
  have ne2 : ¬ (w.heap.size + 1 + 1 = w.heap.size) := by omega
  clear e0 hs0
  go_enter Try.func45, Try.ntmps45
  go_wp2_with fail
  rw [E0.out]
  obtain ⟨bx1, bx2, bx3, bx4⟩ := bx.facts
  obtain ⟨by1, by2, by3, by4⟩ := by'.facts
  obtain ⟨br1, br2, br3, br4⟩ := br.facts
  go_region_held3 (fun w' => w'.cell? ⟨w.heap.size, 0, none⟩ = some (.bool n1) ∧ w'.cell? ⟨w.heap.size, 1, none⟩ = some (.slice a1 xs.length c1) ∧ w'.cell? ⟨w.heap.size + 1, 0, none⟩ = some (.bool n2) ∧ w'.cell? ⟨w.heap.size + 1, 1, none⟩ = some (.slice a2 ys.length c2)) (go_keep) (first
    | (go_at_call 46; have _hq := hb1'; refine (nadd_g _ _ _ _ xs _ (hx0.via hb1' (by repeat (first | exact Below.refl _ _ | refine Below.drew ?_))) _ _ _ r1 _ (G1.below (by repeat (first | exact Below.refl _ _ | refine Below.drew ?_))) (by omega) (by omega)).mono ?_; rintro e w2 ⟨ng2, p2, q2, r2, rfl, G2, l2, hb2⟩; have hb2' : Below w1.heap.size w1 w2 := (show Below w1.heap.size w1 _ by repeat (first | exact Below.refl _ _ | refine Below.drew ?_)).trans hb2; have HB := HB.trans (hb2'.mono HB.size); replace bx := bx.below hb2'; clear bx1 bx2 bx3 bx4; obtain ⟨bx1, bx2, bx3, bx4⟩ := bx.facts; replace by' := by'.below hb2'; clear by1 by2 by3 by4; obtain ⟨by1, by2, by3, by4⟩ := by'.facts; replace br := br.below hb2'; clear br1 br2 br3 br4; obtain ⟨br1, br2, br3, br4⟩ := br.facts)
    | (go_at_call 68; refine (minus_g _ _ _ _ ys _ (hy0.below (by repeat (first | exact Below.refl _ _ | refine Below.drew ?_))) (by omega)).mono ?_; rintro e w1 ⟨ng1, p1, q1, r1, rfl, G1, l1, hb1⟩; have hb1' : Below w0.heap.size w0 w1 := (show Below w0.heap.size w0 _ by repeat (first | exact Below.refl _ _ | refine Below.drew ?_)).trans hb1; have HB := HB.trans (hb1'.mono HB.size); replace bx := bx.below hb1'; clear bx1 bx2 bx3 bx4; obtain ⟨bx1, bx2, bx3, bx4⟩ := bx.facts; replace by' := by'.below hb1'; clear by1 by2 by3 by4; obtain ⟨by1, by2, by3, by4⟩ := by'.facts; replace br := br.below hb1'; clear br1 br2 br3 br4; obtain ⟨br1, br2, br3, br4⟩ := br.facts))
  all_goals
    have X := hide (br.set ng2 (.slice p2 r2.length q2)).facts
    have Y := hide (br.wh ng2 (.slice p2 r2.length q2) G2)
    have Z := hide (below_set2 HB (show w.heap.size ≤ w.heap.size + 1 + 1 by omega) (.bool ng2) (.slice p2 r2.length q2))
    clear bx1 bx2 bx3 bx4 by1 by2 by3 by4
    go_wp2
    refine bodyPost_ret (v := .agg #[.bool ng2, .slice p2 r2.length q2]) ?_ rfl ⟨ng2, p2, q2, r2, rfl, by rw [show x - y = x + -y by omega]; exact Y.out, by omega, Z.out⟩
    simp [results, Try.results45, go_sem, X.out.1, X.out.2.1]

end Dm
end Go.Proofs.Ythbomfboohjcfaa
