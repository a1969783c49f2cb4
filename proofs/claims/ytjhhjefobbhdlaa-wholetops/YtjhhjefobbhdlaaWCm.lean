/-
  Whole numbers: the contracts of Add, Sub, Mul, Cmp, SameWhole and LenWhole.
-/
import Derived.Test.YtjhhjefobbhdlaaWP
namespace Go.Proofs.Ytjhhjefobbhdlaa
namespace Lm
open Go.RowKit

set_option maxRecDepth 20000 in
set_option maxHeartbeats 400000 in
theorem wmul_g (w : World) (nx : Bool) (a1 : Option Addr) (n1 c1 : Nat) (xs : List Int) (hx : Sl w (.slice a1 n1 c1) xs) (ny : Bool) (a2 : Option Addr) (n2 c2 : Nat) (ys : List Int) (hy : Sl w (.slice a2 n2 c2) ys) (hm1 : xs.length ≤ 400000) (hm2 : ys.length ≤ 400000) :
    Calls Try.prog 28 #[.agg #[.bool nx, .slice a1 n1 c1], .agg #[.bool ny, .slice a2 n2 c2]] w fun e w' => ∃ ng' ao cap rs, e = .returned (.agg #[.bool ng', .slice ao rs.length cap]) ∧ Wh w' ng' ao cap rs (sg nx (val xs) * sg ny (val ys)) ∧ rs.length ≤ xs.length + ys.length ∧ Below w.heap.size w w' := by
  obtain ⟨w0, e0, bx, by', br, hb0, hs0⟩ := boxed3 w nx (.slice a1 n1 c1) ny (.slice a2 n2 c2)
  have E0 := hide e0
  have hx0 := hx.below hb0
  have hy0 := hy.below hb0
  clear e0 hs0
  have q1' : (w.heap.size = w.heap.size + 1 + 1) = False := by simp; omega
  have q2' : (w.heap.size + 1 + 1 = w.heap.size) = False := by simp; omega
  go_enter Try.func28, Try.ntmps28
  go_wp2_with fail
  rw [E0.out]
  obtain ⟨ca, cb, cc, cd⟩ := bx.facts
  obtain ⟨ea, eb, ec, ed⟩ := by'.facts
  obtain ⟨da, db, dc, dd⟩ := br.facts
  go_region_held3 (fun w' => w'.cell? ⟨w.heap.size, 0, none⟩ = some (.bool nx) ∧ w'.cell? ⟨w.heap.size, 1, none⟩ = some (.slice a1 n1 c1) ∧ w'.cell? ⟨w.heap.size + 1, 0, none⟩ = some (.bool ny) ∧ w'.cell? ⟨w.heap.size + 1, 1, none⟩ = some (.slice a2 n2 c2)) (go_keep) (first
    | (go_at_call 60; refine (mul_g _ _ _ _ _ _ _ xs ys (hx0.below (by repeat (first | exact Below.refl _ _ | refine Below.drew ?_))) (hy0.below (by repeat (first | exact Below.refl _ _ | refine Below.drew ?_))) (by omega) (by omega)).mono ?_; rintro e w1 ⟨p1, q1, r1, rfl, G1, l1, hb1⟩; have hb1' : Below w0.heap.size w0 w1 := (show Below w0.heap.size w0 _ by repeat (first | exact Below.refl _ _ | refine Below.drew ?_)).trans hb1; have bx1 := bx.below hb1'; obtain ⟨bx1a, bx1b, bx1c, bx1d⟩ := bx1.facts; have by1 := by'.below hb1'; obtain ⟨by1a, by1b, by1c, by1d⟩ := by1.facts; have br1 := br.below hb1'; obtain ⟨br1a, br1b, br1c, br1d⟩ := br1.facts)
    | (go_at_call 48; refine (signed_g _ _ _ _ r1 _ (G1.below (by repeat (first | exact Below.refl _ _ | refine Below.drew ?_))) (by omega)).mono ?_; rintro e w2 ⟨ng2, rfl, G2, hb2⟩; have hb2' : Below w1.heap.size w1 w2 := (show Below w1.heap.size w1 _ by repeat (first | exact Below.refl _ _ | refine Below.drew ?_)).trans hb2; have bx2 := bx1.below hb2'; obtain ⟨bx2a, bx2b, bx2c, bx2d⟩ := bx2.facts; have by2 := by1.below hb2'; obtain ⟨by2a, by2b, by2c, by2d⟩ := by2.facts; have br2 := br1.below hb2'; obtain ⟨br2a, br2b, br2c, br2d⟩ := br2.facts))
  all_goals
    clear bx1a bx1b bx1c bx1d by1a by1b by1c by1d br1a br1b br1c br1d bx2a bx2b bx2c bx2d by2a by2b by2c by2d ca cb cc cd da db dc dd ea eb ec ed q1' q2'
    have X := hide (br2.set ng2 (.slice p1 r1.length q1)).facts
    have Y := hide (br2.wh ng2 (.slice p1 r1.length q1) G2)
    have Z := hide (below_set2 (hb0.trans ((hb1'.trans (hb2'.mono hb1'.size)).mono hb0.size)) (Nat.le_add_right _ 2) (.bool ng2) (.slice p1 r1.length q1))
    skip
    go_wp2
    refine bodyPost_ret (v := .agg #[.bool ng2, .slice p1 r1.length q1]) ?_ rfl ⟨ng2, p1, q1, r1, rfl, by rw [← sg_mul]; exact Y.out, by omega, Z.out⟩
    simp [results, Try.results28, go_sem, X.out.1, X.out.2.1]

end Lm
end Go.Proofs.Ytjhhjefobbhdlaa
