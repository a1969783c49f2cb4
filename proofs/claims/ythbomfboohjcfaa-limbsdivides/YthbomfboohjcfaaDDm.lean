/-
  The contract of the reference's DivMod, of naturals.
-/
import Derived.Test.YthbomfboohjcfaaDDiv
namespace Go.Proofs.Ythbomfboohjcfaa
namespace Dm
open Go.RowKit
open Lm (hide lt_of_cell lt_of_heap cmpI cmpI_lt cmpI_gt)

theorem boxed4 (w : World) (nx : Bool) (vx : Value) (ny : Bool) (vy : Value) : ∃ w0 : World, (((w.alloc (.cells #[.bool nx, vx] 56)).alloc (.cells #[.bool ny, vy] 56)).alloc (.cells #[.bool false, .slice none 0 0] 56)).alloc (.cells #[.bool false, .slice none 0 0] 56) = w0 ∧ Box w0 w.heap.size nx vx ∧ Box w0 (w.heap.size + 1) ny vy ∧ Box w0 (w.heap.size + 1 + 1) false (.slice none 0 0) ∧ Box w0 (w.heap.size + 1 + 1 + 1) false (.slice none 0 0) ∧ Below w.heap.size w w0 ∧ w0.heap.size = w.heap.size + 4 := by
  obtain ⟨w0, e0, bx, by', br, hb0, hs0⟩ := boxed3 w nx vx ny vy
  obtain ⟨b5, hb5, hs5⟩ := boxed w0 false (.slice none 0 0)
  rw [e0]
  refine ⟨_, rfl, bx.below hb5, by'.below hb5, br.below hb5, ?_, hb0.trans (hb5.mono hb0.size), by rw [hs5, hs0]⟩
  rw [hs0] at b5
  exact b5

set_option maxRecDepth 20000 in
set_option maxHeartbeats 1000000 in
theorem ndivmod_nat (w : World) (a1 : Option Addr) (c1 : Nat) (A : List Int) (x : Int) (hx : Got w a1 c1 A x) (a2 : Option Addr) (c2 : Nat) (B : List Int) (y : Int) (hy : Got w a2 c2 B y) (m1 : A.length ≤ 300000) (m2 : B.length ≤ 300000) (y0 : 0 < B.length) :
    Calls Try.prog 51 #[.agg #[.bool false, .slice a1 A.length c1], .agg #[.bool false, .slice a2 B.length c2]] w fun e w' => ∃ nq pq qq Q nr pr qr R, e = .returned (.tuple #[.agg #[.bool nq, .slice pq Q.length qq], .agg #[.bool nr, .slice pr R.length qr]]) ∧ Wh w' nq pq qq Q (x / y) ∧ Wh w' nr pr qr R (x % y) ∧ Q.length ≤ A.length ∧ R.length ≤ B.length ∧ Below w.heap.size w w' := by
  obtain ⟨w0, e0, bx, by', b4, b5, hb0, hs0⟩ := boxed4 w false (.slice a1 A.length c1) false (.slice a2 B.length c2)
  have E0 := hide e0
  have hx0 := hx.below hb0
  have hy0 := hy.below hb0
  obtain ⟨_, p1, p2, p3⟩ := hx.sl.parts
  obtain ⟨_, q1, q2, q3⟩ := hy.sl.parts
  clear p3 q3 e0
  go_enter Try.func51, Try.ntmps51
  obtain ⟨bx1, bx2, bx3, bx4⟩ := bx.facts
  obtain ⟨by1, by2, by3, by4⟩ := by'.facts
  go_upto_region 1 with fail
  rw [E0.out]
  go_wp2_with fail
  refine (divided_g _ _ _ _ A _ hx0 _ _ _ B _ hy0 m1 m2 y0).mono ?_
  rintro e w1 ⟨nq, pq, qq, Q, nr, pr, qr, R, rfl, GQ, GR, lQ, lR, hb1⟩
  obtain ⟨w2, e2, bq, bz, hb2, hs2⟩ := boxed2 w1 nq (.slice pq Q.length qq) nr (.slice pr R.length qr)
  have z1 := hb1.size
  have HB := hb0.trans (hb1.mono hb0.size)
  replace HB := HB.trans (hb2.mono HB.size)
  replace bx := (bx.below hb1).below hb2
  replace by' := (by'.below hb1).below hb2
  replace b4 := (b4.below hb1).below hb2
  replace b5 := (b5.below hb1).below hb2
  replace GQ := GQ.below hb2
  replace GR := GR.below hb2
  have E2 := hide e2
  clear e2 bx1 bx2 bx3 bx4 by1 by2 by3 by4 hb1 hb2 E0
  go_upto_region 2 with fail
  rw [E2.out]
  clear E2
  obtain ⟨bx1, bx2, bx3, bx4⟩ := bx.facts
  obtain ⟨by1, by2, by3, by4⟩ := by'.facts
  have ne1 : ¬ (w.heap.size + 1 + 1 = w1.heap.size) := by omega
  have ne2 : ¬ (w.heap.size + 1 + 1 + 1 = w1.heap.size) := by omega
  have ne3 : ¬ (w.heap.size + 1 = w1.heap.size) := by omega
  obtain ⟨bq1, bq2, bq3, bq4⟩ := bq.facts
  obtain ⟨bz1, bz2, bz3, bz4⟩ := bz.facts
  obtain ⟨b41, b42, b43, b44⟩ := b4.facts
  obtain ⟨b51, b52, b53, b54⟩ := b5.facts
  have F1 := hide (box_other (b4.set nq (.slice pq Q.length qq)) (show w.heap.size + 1 + 1 ≠ w.heap.size + 1 + 1 + 1 by omega) (.bool nr) (.slice pr R.length qr)).facts
  have b5' := box_other b5 (show w.heap.size + 1 + 1 + 1 ≠ w.heap.size + 1 + 1 by omega) (.bool nq) (.slice pq Q.length qq)
  have F2 := hide (b5'.set nr (.slice pr R.length qr)).facts
  have Y1 := hide (b5'.wh nr (.slice pr R.length qr) (b4.wh nq (.slice pq Q.length qq) GQ))
  have Y2 := hide (b5'.wh nr (.slice pr R.length qr) (b4.wh nq (.slice pq Q.length qq) GR))
  have Z2 := hide (below_set2 (below_set2 HB (show w.heap.size ≤ w.heap.size + 1 + 1 by omega) (.bool nq) (.slice pq Q.length qq)) (show w.heap.size ≤ w.heap.size + 1 + 1 + 1 by omega) (.bool nr) (.slice pr R.length qr))
  go_wp2_with fail
  go_region_held3 (fun w' => w'.cell? ⟨w1.heap.size, 0, none⟩ = some (.bool nq) ∧ w'.cell? ⟨w1.heap.size, 1, none⟩ = some (.slice pq Q.length qq) ∧ w'.cell? ⟨w1.heap.size + 1, 0, none⟩ = some (.bool nr) ∧ w'.cell? ⟨w1.heap.size + 1, 1, none⟩ = some (.slice pr R.length qr)) (go_keep) (fail)
  all_goals
    go_wp2
    refine bodyPost_ret (v := .tuple #[.agg #[.bool nq, .slice pq Q.length qq], .agg #[.bool nr, .slice pr R.length qr]]) ?_ rfl ⟨nq, pq, qq, Q, nr, pr, qr, R, rfl, Y1.out, Y2.out, by omega, by omega, Below.drew Z2.out⟩
    simp [results, Try.results51, go_sem, F1.out.1, F1.out.2.1, F2.out.1, F2.out.2.1]

end Dm
end Go.Proofs.Ythbomfboohjcfaa
