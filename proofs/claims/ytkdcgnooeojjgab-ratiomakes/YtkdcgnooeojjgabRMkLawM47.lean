/-
  The contract of the reference's DivMod, of naturals. The contract of the reference's Gcd. The contract of the reference's DivMod, of numbers with signs. The contracts of the reference's DivMod and Gcd on whole numbers.
-/
import Derived.Test.YtkdcgnooeojjgabRMkLawM46
import Derived.Test.YtkdcgnooeojjgabRMkLawM39
import Derived.Test.YtkdcgnooeojjgabRMkLawM45
import Derived.Test.YtkdcgnooeojjgabRMkLawM38
namespace Go.Proofs.Ytkdcgnooeojjgab
namespace Dm
open Go.RowKit
open Lm (hide lt_of_cell lt_of_heap cmpI cmpI_lt cmpI_gt)

theorem boxed4 (w : World) (nx : Bool) (vx : Value) (ny : Bool) (vy : Value) : ∃ w0 : World, (((w.alloc (.cells #[.bool nx, vx] 66)).alloc (.cells #[.bool ny, vy] 66)).alloc (.cells #[.bool false, .slice none 0 0] 66)).alloc (.cells #[.bool false, .slice none 0 0] 66) = w0 ∧ Box w0 w.heap.size nx vx ∧ Box w0 (w.heap.size + 1) ny vy ∧ Box w0 (w.heap.size + 1 + 1) false (.slice none 0 0) ∧ Box w0 (w.heap.size + 1 + 1 + 1) false (.slice none 0 0) ∧ Below w.heap.size w w0 ∧ w0.heap.size = w.heap.size + 4 := by
  obtain ⟨w0, e0, bx, by', br, hb0, hs0⟩ := boxed3 w nx vx ny vy
  obtain ⟨b5, hb5, hs5⟩ := boxed w0 false (.slice none 0 0)
  rw [e0]
  refine ⟨_, rfl, bx.below hb5, by'.below hb5, br.below hb5, ?_, hb0.trans (hb5.mono hb0.size), by rw [hs5, hs0]⟩
  rw [hs0] at b5
  exact b5

set_option maxRecDepth 20000 in
set_option maxHeartbeats 1000000 in
theorem ndivmod_nat (w : World) (a1 : Option Addr) (c1 : Nat) (A : List Int) (x : Int) (hx : Got w a1 c1 A x) (a2 : Option Addr) (c2 : Nat) (B : List Int) (y : Int) (hy : Got w a2 c2 B y) (m1 : A.length ≤ 300000) (m2 : B.length ≤ 300000) (y0 : 0 < B.length) :
    Calls Try.prog 54 #[.agg #[.bool false, .slice a1 A.length c1], .agg #[.bool false, .slice a2 B.length c2]] w fun e w' => ∃ nq pq qq Q nr pr qr R, e = .returned (.tuple #[.agg #[.bool nq, .slice pq Q.length qq], .agg #[.bool nr, .slice pr R.length qr]]) ∧ Wh w' nq pq qq Q (x / y) ∧ Wh w' nr pr qr R (x % y) ∧ Q.length ≤ A.length ∧ R.length ≤ B.length ∧ Below w.heap.size w w' := by
  obtain ⟨w0, e0, bx, by', b4, b5, hb0, hs0⟩ := boxed4 w false (.slice a1 A.length c1) false (.slice a2 B.length c2)
  have E0 := hide e0
  have hx0 := hx.below hb0
  have hy0 := hy.below hb0
  obtain ⟨_, p1, p2, p3⟩ := hx.sl.parts
  obtain ⟨_, q1, q2, q3⟩ := hy.sl.parts
  clear p3 q3 e0
  go_enter Try.func54, Try.ntmps54
  obtain ⟨bx1, bx2, bx3, bx4⟩ := bx.facts
  obtain ⟨by1, by2, by3, by4⟩ := by'.facts
  go_upto_region 1 with fail
  rw [E0.out]
  go_wp2_with fail
  refine (divided_g _ _ _ _ A _ hx0 _ _ _ B _ hy0 m1 m2 y0).mono ?_
  rintro e w1 ⟨nq, pq, qq, Q, nr, pr, qr, R, rfl, GQ, GR, lQ, lR, hb1⟩
  obtain ⟨w2, e2, bq, bz, hb2, hs2⟩ := boxed2 w1 nq (.slice pq Q.length qq) nr (.slice pr R.length qr)
  have z1 := hb1.size
  have HB := hb0.trans (hb1.mono hb0.size)
  replace HB := HB.trans (hb2.mono HB.size)
  replace bx := (bx.below hb1).below hb2
  replace by' := (by'.below hb1).below hb2
  replace b4 := (b4.below hb1).below hb2
  replace b5 := (b5.below hb1).below hb2
  replace GQ := GQ.below hb2
  replace GR := GR.below hb2
  have E2 := hide e2
  clear e2 bx1 bx2 bx3 bx4 by1 by2 by3 by4 hb1 hb2 E0
  go_upto_region 2 with fail
  rw [E2.out]
  clear E2
  obtain ⟨bx1, bx2, bx3, bx4⟩ := bx.facts
  obtain ⟨by1, by2, by3, by4⟩ := by'.facts
  have ne1 : ¬ (w.heap.size + 1 + 1 = w1.heap.size) := by omega
  have ne2 : ¬ (w.heap.size + 1 + 1 + 1 = w1.heap.size) := by omega
  have ne3 : ¬ (w.heap.size + 1 = w1.heap.size) := by omega
  obtain ⟨bq1, bq2, bq3, bq4⟩ := bq.facts
  obtain ⟨bz1, bz2, bz3, bz4⟩ := bz.facts
  obtain ⟨b41, b42, b43, b44⟩ := b4.facts
  obtain ⟨b51, b52, b53, b54⟩ := b5.facts
  have F1 := hide (box_other (b4.set nq (.slice pq Q.length qq)) (show w.heap.size + 1 + 1 ≠ w.heap.size + 1 + 1 + 1 by omega) (.bool nr) (.slice pr R.length qr)).facts
  have b5' := box_other b5 (show w.heap.size + 1 + 1 + 1 ≠ w.heap.size + 1 + 1 by omega) (.bool nq) (.slice pq Q.length qq)
  have F2 := hide (b5'.set nr (.slice pr R.length qr)).facts
  have Y1 := hide (b5'.wh nr (.slice pr R.length qr) (b4.wh nq (.slice pq Q.length qq) GQ))
  have Y2 := hide (b5'.wh nr (.slice pr R.length qr) (b4.wh nq (.slice pq Q.length qq) GR))
  have Z2 := hide (below_set2 (below_set2 HB (show w.heap.size ≤ w.heap.size + 1 + 1 by omega) (.bool nq) (.slice pq Q.length qq)) (show w.heap.size ≤ w.heap.size + 1 + 1 + 1 by omega) (.bool nr) (.slice pr R.length qr))
  go_wp2_with fail
  go_region_held3 (fun w' => w'.cell? ⟨w1.heap.size, 0, none⟩ = some (.bool nq) ∧ w'.cell? ⟨w1.heap.size, 1, none⟩ = some (.slice pq Q.length qq) ∧ w'.cell? ⟨w1.heap.size + 1, 0, none⟩ = some (.bool nr) ∧ w'.cell? ⟨w1.heap.size + 1, 1, none⟩ = some (.slice pr R.length qr)) (go_keep) (fail)
  all_goals
    go_wp2
    refine bodyPost_ret (v := .tuple #[.agg #[.bool nq, .slice pq Q.length qq], .agg #[.bool nr, .slice pr R.length qr]]) ?_ rfl ⟨nq, pq, qq, Q, nr, pr, qr, R, rfl, Y1.out, Y2.out, by omega, by omega, Below.drew Z2.out⟩
    simp [results, Try.results54, go_sem, F1.out.1, F1.out.2.1, F2.out.1, F2.out.2.1]

end Dm
end Go.Proofs.Ytkdcgnooeojjgab

namespace Go.Proofs.Ytkdcgnooeojjgab
namespace Dm
open Go.RowKit
open Lm (hide lt_of_cell lt_of_heap cmpI cmpI_lt cmpI_gt)

theorem gcd_step (u v : Int) : Int.gcd v (u % v) = Int.gcd v u := by
  have h1 := Lm.gcd_step u v (u / v)
  have h2 := Int.mul_ediv_add_emod u v
  rw [Int.mul_comm] at h2
  rw [show u - u / v * v = u % v by omega] at h1
  rw [h1, Int.gcd_comm]

set_option maxRecDepth 20000 in
set_option maxHeartbeats 2000000 in
theorem ngcd_g (w : World) (n1 : Bool) (a1 : Option Addr) (c1 : Nat) (A : List Int) (x : Int) (hx : Got w a1 c1 A x) (n2 : Bool) (a2 : Option Addr) (c2 : Nat) (B : List Int) (y : Int) (hy : Got w a2 c2 B y) (m1 : A.length ≤ 300000) (m2 : B.length ≤ 300000) :
    Calls Try.prog 86 #[.agg #[.bool n1, .slice a1 A.length c1], .agg #[.bool n2, .slice a2 B.length c2]] w fun e w' => ∃ ng ao cap rs, e = .returned (.agg #[.bool ng, .slice ao rs.length cap]) ∧ Wh w' ng ao cap rs (Int.gcd x y : Int) ∧ rs.length ≤ A.length + B.length ∧ Below w.heap.size w w' := by
  obtain ⟨w0, e0, bx, by', br, hb0, hs0⟩ := boxed3 w n1 (.slice a1 A.length c1) n2 (.slice a2 B.length c2)
  have E0 := hide e0
  have hx0 := hx.below hb0
  have hy0 := hy.below hb0
  have hxn : 0 ≤ x := by rw [← hx.val]; exact (val_bounds hx.canon.1).1
  have hyn : 0 ≤ y := by rw [← hy.val]; exact (val_bounds hy.canon.1).1
  clear e0
  go_enter Try.func86, Try.ntmps86
  go_upto_region 1 with fail
  rw [E0.out]
  obtain ⟨bx1, bx2, bx3, bx4⟩ := bx.facts
  go_wp2_with fail
  refine (abs_got _ _ _ _ A _ hx0 (by omega)).mono ?_
  rintro e w1 ⟨nX, pX, qX, X, rfl, GX, lX, hb1⟩
  obtain ⟨w2, e2, bX, hb2, hs2⟩ := boxed0 w1 nX (.slice pX X.length qX)
  have z1 := hb1.size
  have HB := hb0.trans (hb1.mono hb0.size)
  replace HB := HB.trans (hb2.mono HB.size)
  replace bx := (bx.below hb1).below hb2
  replace by' := (by'.below hb1).below hb2
  replace br := (br.below hb1).below hb2
  replace hy0 := (hy0.below hb1).below hb2
  replace GX := GX.below hb2
  have E2 := hide e2
  clear e2 bx1 bx2 bx3 bx4 hb1 hb2 E0
  go_upto_region 2 with fail
  rw [E2.out]
  clear E2
  obtain ⟨by1, by2, by3, by4⟩ := by'.facts
  go_wp2_with fail
  refine (abs_got _ _ _ _ B _ hy0 (by omega)).mono ?_
  rintro e w3 ⟨nY, pY, qY, Y, rfl, GY, lY, hb3⟩
  obtain ⟨w4, e4, bY, hb4, hs4⟩ := boxed0 w3 nY (.slice pY Y.length qY)
  have z3 := hb3.size
  replace HB := HB.trans (hb3.mono HB.size)
  replace HB := HB.trans (hb4.mono HB.size)
  replace br := (br.below hb3).below hb4
  replace bX := (bX.below hb3).below hb4
  replace GX := (GX.below hb3).below hb4
  replace GY := GY.below hb4
  have E4 := hide e4
  clear e4 by1 by2 by3 by4 hb3 hb4 hy0 hx0 bx by'
  go_wp2_with fail
  rw [E4.out]
  clear E4
  have hsx : w.heap.size + 3 ≤ w1.heap.size := by omega
  have hsy : w1.heap.size + 1 ≤ w3.heap.size := by omega
  have hsz : w3.heap.size < w4.heap.size := by omega
  generalize w1.heap.size = gx at *
  generalize w3.heap.size = gy at *
  have hsg : sg false x = x := rfl
  have hsg2 : sg false y = y := rfl
  rw [hsg] at GX
  rw [hsg2] at GY
  clear hsg hsg2 z1 z3 hs2 hs4 hs0
  go_loopg [] y.toNat (fun k wr => ∃ (nX : Bool) (pX : Option Addr) (qX : Nat) (X : List Int) (u : Int) (nY : Bool) (pY : Option Addr) (qY : Nat) (Y : List Int) (v : Int), Box wr gx nX (.slice pX X.length qX) ∧ Box wr gy nY (.slice pY Y.length qY) ∧ Box wr (w.heap.size + 1 + 1) false (.slice none 0 0) ∧ Wh wr nX pX qX X u ∧ Wh wr nY pY qY Y v ∧ 0 ≤ u ∧ 0 ≤ v ∧ Int.gcd u v = Int.gcd x y ∧ X.length ≤ A.length + B.length ∧ Y.length ≤ A.length + B.length ∧ X.length ≤ 300000 ∧ Y.length ≤ 300000 ∧ Below w.heap.size w wr ∧ k = v.toNat)
  case atStart => exact ⟨nX, pX, qX, X, x, nY, pY, qY, Y, y, bX, bY, br, GX, GY, hxn, hyn, rfl, by omega, by omega, by omega, by omega, HB, rfl⟩
  case round =>
    clear bX bY br GX GY HB lX lY
    obtain ⟨nX, pX, qX, X, u, nY, pY, qY, Y, v, bX, bY, br, GX, GY, hu, hv, hg, lX, lY, lX2, lY2, HB, hk⟩ := hrel
    obtain rfl : nY = false := by rw [GY.2]; simp; omega
    have HG := hide hg
    have HK := hide hk
    have hz := GY.zero
    have HZ := hide hz
    obtain ⟨bY1, bY2, bY3, bY4⟩ := bY.facts
    clear hg hk hz
    go_wp2_with fail
    refine (sign_any _ _ _ _).mono ?_
    rintro e w5 ⟨rfl, e5⟩
    have hb5 : Below wr.heap.size wr w5 := by rw [e5]; exact (Below.refl _ _).alloc (Nat.le_refl _) _
    clear e5
    replace bX := bX.below hb5
    replace bY := bY.below hb5
    replace br := br.below hb5
    replace GX := GX.below hb5
    replace GY := GY.below hb5
    replace HB := HB.trans (hb5.mono HB.size)
    clear hb5 bY1 bY2 bY3 bY4
    by_cases h0 : Y.length = 0
    · have v0 : v = 0 := HZ.out.2 (List.eq_nil_of_length_eq_zero h0)
      have hs : sgn Y.length = 0 := by simp [sgn, h0]
      rw [hs]
      have HG2 : Hid ((Int.gcd x y : Int) = u) := by
        have := HG.out
        rw [v0] at this
        show ((Int.gcd x y : Nat) : Int) = u
        rw [← this, Int.gcd_zero_right]
        omega
      clear hs h0 v0
      obtain ⟨bX1, bX2, bX3, bX4⟩ := bX.facts
      obtain ⟨br1, br2, br3, br4⟩ := br.facts
      have F := hide (br.set nX (.slice pX X.length qX)).facts
      have Y1 := hide (br.wh nX (.slice pX X.length qX) GX)
      have Z := hide (below_set2 HB (show w.heap.size ≤ w.heap.size + 1 + 1 by omega) (.bool nX) (.slice pX X.length qX))
      go_wp2
      refine bodyPost_ret (v := .agg #[.bool nX, .slice pX X.length qX]) ?_ rfl ⟨nX, pX, qX, X, rfl, by rw [HG2.out]; exact Y1.out, by omega, Z.out⟩
      simp [results, Try.results86, go_sem, F.out.1, F.out.2.1]
    · have hs : sgn Y.length = 1 := by simp [sgn, h0]
      rw [hs]
      clear hs
      have vp : 0 < v := by
        apply Classical.byContradiction
        intro hn
        exact h0 (by rw [HZ.out.1 (by omega)]; rfl)
      obtain ⟨bX1, bX2, bX3, bX4⟩ := bX.facts
      obtain ⟨bY1, bY2, bY3, bY4⟩ := bY.facts
      have GX' := GX.1
      have GY' := GY.1
      rw [show ((u.natAbs : Nat) : Int) = u by omega] at GX'
      rw [show ((v.natAbs : Nat) : Int) = v by omega] at GY'
      go_wp2_with fail
      refine (divided_g _ _ _ _ X _ GX' _ _ _ Y _ GY' (by omega) (by omega) (by omega)).mono ?_
      rintro e w6 ⟨nq, pq, qq, Q, nr, pr, qr, R, rfl, GQ, GR, lQ, lR, hb6⟩
      obtain ⟨w7, e7, bq, bz, hb7, hs7⟩ := boxed2 w6 nq (.slice pq Q.length qq) nr (.slice pr R.length qr)
      have z6 := hb6.size
      have lgy := lt_of_heap bY
      replace bX := (bX.below hb6).below hb7
      replace bY := (bY.below hb6).below hb7
      replace br := (br.below hb6).below hb7
      replace GY := (GY.below hb6).below hb7
      replace GR := GR.below hb7
      replace HB := (HB.trans (hb6.mono HB.size)).trans (hb7.mono (Nat.le_trans HB.size z6))
      have E7 := hide e7
      clear e7 hb6 hb7 bX1 bX2 bX3 bX4 bY1 bY2 bY3 bY4 GX GX' GY' GQ bq
      go_upto_region 5 with fail
      rw [E7.out]
      clear E7
      generalize w6.heap.size = g6 at *
      have bX' := bX.set false (.slice pY Y.length qY)
      have bY' := box_other bY (show gy ≠ gx by omega) (.bool false) (.slice pY Y.length qY)
      have br' := box_other br (show w.heap.size + 1 + 1 ≠ gx by omega) (.bool false) (.slice pY Y.length qY)
      have bz' := box_other bz (show g6 + 1 ≠ gx by omega) (.bool false) (.slice pY Y.length qY)
      have GY' := bX.wh false (.slice pY Y.length qY) GY
      have GR' := bX.wh false (.slice pY Y.length qY) GR
      have HB' := below_set2 HB (show w.heap.size ≤ gx by omega) (.bool false) (.slice pY Y.length qY)
      obtain ⟨bX1, bX2, bX3, bX4⟩ := bX.facts
      obtain ⟨bY1, bY2, bY3, bY4⟩ := bY.facts
      have FF := hide (And.intro bX' (And.intro bY' (And.intro br' (And.intro bz' (And.intro GY' (And.intro GR' HB'))))))
      clear bX' bY' br' bz' GY' GR' HB'
      go_upto_region 6 with fail
      clear bX bY br bz GY GR HB bX1 bX2 bX3 bX4 bY1 bY2 bY3 bY4
      generalize (w7.setCell ⟨gx, 0, none⟩ (.bool false)).setCell ⟨gx, 1, none⟩ (.slice pY Y.length qY) = w8 at FF ⊢
      obtain ⟨bX, bY, br, bz, GY, GR, HB⟩ := FF.out
      clear FF
      obtain ⟨bY1, bY2, bY3, bY4⟩ := bY.facts
      obtain ⟨bz1, bz2, bz3, bz4⟩ := bz.facts
      have bX' := box_other bX (show gx ≠ gy by omega) (.bool nr) (.slice pr R.length qr)
      have bY' := bY.set nr (.slice pr R.length qr)
      have br' := box_other br (show w.heap.size + 1 + 1 ≠ gy by omega) (.bool nr) (.slice pr R.length qr)
      have GY' := bY.wh nr (.slice pr R.length qr) GY
      have GR' := bY.wh nr (.slice pr R.length qr) GR
      have HB' := below_set2 HB (show w.heap.size ≤ gy by omega) (.bool nr) (.slice pr R.length qr)
      have FF := hide (And.intro bX' (And.intro bY' (And.intro br' (And.intro GY' (And.intro GR' HB')))))
      clear bX' bY' br' GY' GR' HB' bX br
      go_wp2
      go_roundg (u % v).toNat
      case measure =>
        have := Int.emod_lt_of_pos u vp
        have := Int.emod_nonneg u (show v ≠ 0 by omega)
        have := HK.out
        omega
      case rel => exact ⟨false, pY, qY, Y, v, nr, pr, qr, R, u % v, FF.out.1, FF.out.2.1, FF.out.2.2.1, FF.out.2.2.2.1, FF.out.2.2.2.2.1, hv, Int.emod_nonneg u (show v ≠ 0 by omega), by rw [← HG.out, Int.gcd_comm u v]; exact gcd_step u v, lY, by omega, lY2, by omega, FF.out.2.2.2.2.2, rfl⟩

end Dm
end Go.Proofs.Ytkdcgnooeojjgab

namespace Go.Proofs.Ytkdcgnooeojjgab
namespace Dm
open Go.RowKit
open Lm (hide lt_of_cell lt_of_heap)

/-- Where DivMod stands: both numbers, two blocks for the answers, quotient and rest. -/
def Qs (w wx : World) (n1 : Bool) (va : Value) (n2 : Bool) (vb : Value) (g6 g7 : Nat) (q r : Int) (LQ LR : Nat) : Prop := ∃ (nq : Bool) (pq : Option Addr) (qq : Nat) (Q : List Int) (nr : Bool) (pr : Option Addr) (qr : Nat) (R : List Int),
  Box wx w.heap.size n1 va ∧ Box wx (w.heap.size + 1) n2 vb ∧ Box wx (w.heap.size + 1 + 1) false (.slice none 0 0) ∧ Box wx (w.heap.size + 1 + 1 + 1) false (.slice none 0 0) ∧ Box wx g6 nq (.slice pq Q.length qq) ∧ Box wx g7 nr (.slice pr R.length qr) ∧ Wh wx nq pq qq Q q ∧ Wh wx nr pr qr R r ∧ Q.length ≤ LQ ∧ R.length ≤ LR ∧ Below w.heap.size w wx

theorem Qs.below {w wx wy : World} {n1 n2 : Bool} {va vb : Value} {g6 g7 : Nat} {q r : Int} {LQ LR : Nat} (h : Qs w wx n1 va n2 vb g6 g7 q r LQ LR) (hb : Below wx.heap.size wx wy) : Qs w wy n1 va n2 vb g6 g7 q r LQ LR := by
  obtain ⟨nq, pq, qq, Q, nr, pr, qr, R, ba, bb, b4, b5, b6, b7, GQ, GR, lQ, lR, HB⟩ := h
  exact ⟨nq, pq, qq, Q, nr, pr, qr, R, ba.below hb, bb.below hb, b4.below hb, b5.below hb, b6.below hb, b7.below hb, GQ.below hb, GR.below hb, lQ, lR, HB.trans (hb.mono HB.size)⟩

theorem Qs.set6 {w wx : World} {n1 n2 : Bool} {va vb : Value} {g6 g7 : Nat} {q r : Int} {LQ LR : Nat} (h : Qs w wx n1 va n2 vb g6 g7 q r LQ LR) (h6 : w.heap.size + 4 ≤ g6) (h7 : g6 < g7) {m2 : Bool} {p2 : Option Addr} {q2 : Nat} {r2 : List Int} {z : Int} (G : Wh wx m2 p2 q2 r2 z) {L : Nat} (hL : r2.length ≤ L) :
    Qs w ((wx.setCell ⟨g6, 0, none⟩ (.bool m2)).setCell ⟨g6, 1, none⟩ (.slice p2 r2.length q2)) n1 va n2 vb g6 g7 z r L LR := by
  obtain ⟨nq, pq, qq, Q, nr, pr, qr, R, ba, bb, b4, b5, b6, b7, GQ, GR, lQ, lR, HB⟩ := h
  exact ⟨m2, p2, q2, r2, nr, pr, qr, R, box_past ba (by omega) _ _, box_past bb (by omega) _ _, box_past b4 (by omega) _ _, box_past b5 (by omega) _ _, b6.set _ _, box_past b7 (by omega) _ _, b6.wh _ _ G, b6.wh _ _ GR, hL, lR, below_set2 HB (by omega) _ _⟩

theorem Qs.set7 {w wx : World} {n1 n2 : Bool} {va vb : Value} {g6 g7 : Nat} {q r : Int} {LQ LR : Nat} (h : Qs w wx n1 va n2 vb g6 g7 q r LQ LR) (h6 : w.heap.size + 4 ≤ g6) (h7 : g6 < g7) {m2 : Bool} {p2 : Option Addr} {q2 : Nat} {r2 : List Int} {z : Int} (G : Wh wx m2 p2 q2 r2 z) {L : Nat} (hL : r2.length ≤ L) :
    Qs w ((wx.setCell ⟨g7, 0, none⟩ (.bool m2)).setCell ⟨g7, 1, none⟩ (.slice p2 r2.length q2)) n1 va n2 vb g6 g7 q z LQ L := by
  obtain ⟨nq, pq, qq, Q, nr, pr, qr, R, ba, bb, b4, b5, b6, b7, GQ, GR, lQ, lR, HB⟩ := h
  exact ⟨nq, pq, qq, Q, m2, p2, q2, r2, box_past ba (by omega) _ _, box_past bb (by omega) _ _, box_past b4 (by omega) _ _, box_past b5 (by omega) _ _, box_past b6 (by omega) _ _, b7.set _ _, b7.wh _ _ GQ, b7.wh _ _ G, lQ, hL, below_set2 HB (by omega) _ _⟩

/-- What the two 'if's make of quotient and rest. -/
theorem dm_plain (n1 n2 : Bool) {x y : Int} (hx : n1 = decide (x < 0)) (hy : n2 = decide (y < 0)) (y0 : y ≠ 0) {q1 r1 : Int}
    (h : (n1 = true ∧ (x.natAbs : Int) % (y.natAbs : Int) ≠ 0 → q1 = (x.natAbs : Int) / (y.natAbs : Int) + 1 ∧ r1 = (y.natAbs : Int) - (x.natAbs : Int) % (y.natAbs : Int)) ∧ (¬ (n1 = true ∧ (x.natAbs : Int) % (y.natAbs : Int) ≠ 0) → q1 = (x.natAbs : Int) / (y.natAbs : Int) ∧ r1 = (x.natAbs : Int) % (y.natAbs : Int))) :
    Lm.sg (n1 != n2) q1 = x / y ∧ r1 = x % y := by
  have ex : x = Lm.sg n1 (x.natAbs : Int) := by rw [hx]; by_cases h : x < 0 <;> simp [Lm.sg, h] <;> omega
  have ey : y = Lm.sg n2 (y.natAbs : Int) := by rw [hy]; by_cases h : y < 0 <;> simp [Lm.sg, h] <;> omega
  have hY : 0 < (y.natAbs : Int) := by omega
  have hf : ∀ z : Int, Lm.sg false z = z := fun z => rfl
  generalize (x.natAbs : Int) = X at *
  generalize (y.natAbs : Int) = Y at *
  rw [ex, ey]
  clear ex ey hx hy
  cases n1 with
  | false =>
    have h2 := h.2 (by simp)
    rw [h2.1, h2.2]
    have := Lm.wdiv_pos n2 X Y
    rw [hf (X % Y)] at this
    exact this
  | true =>
    by_cases h0 : X % Y = 0
    · have h2 := h.2 (by simp [h0])
      rw [h2.1, h2.2]
      have := Lm.wdiv_even true n2 hY h0
      rw [hf (X % Y)] at this
      exact this
    · have h2 := h.1 ⟨rfl, h0⟩
      rw [h2.1, h2.2]
      have := Lm.wdiv_odd n2 hY h0
      rw [hf (Y - X % Y)] at this
      exact this

set_option maxRecDepth 20000 in
set_option maxHeartbeats 8000000 in
theorem ndivmod_z (w : World) (n1 : Bool) (a1 : Option Addr) (c1 : Nat) (A : List Int) (x : Int) (hx : Wh w n1 a1 c1 A x) (n2 : Bool) (a2 : Option Addr) (c2 : Nat) (B : List Int) (y : Int) (hy : Wh w n2 a2 c2 B y) (m1 : A.length ≤ 200000) (m2 : B.length ≤ 200000) (y0 : y ≠ 0) :
    Calls Try.prog 54 #[.agg #[.bool n1, .slice a1 A.length c1], .agg #[.bool n2, .slice a2 B.length c2]] w fun e w' => ∃ nq pq qq Q nr pr qr R, e = .returned (.tuple #[.agg #[.bool nq, .slice pq Q.length qq], .agg #[.bool nr, .slice pr R.length qr]]) ∧ Wh w' nq pq qq Q (x / y) ∧ Wh w' nr pr qr R (x % y) ∧ Q.length ≤ A.length + 6 ∧ R.length ≤ 2 * B.length + 1 ∧ Below w.heap.size w w' := by
  obtain ⟨w0, e0, ba, bb, b4, b5, hb0, hs0⟩ := boxed4 w n1 (.slice a1 A.length c1) n2 (.slice a2 B.length c2)
  have E0 := hide e0
  have hx0 := hx.1.below hb0
  have hy0 := hy.1.below hb0
  obtain ⟨_, p1, p2, p3⟩ := hx.1.sl.parts
  obtain ⟨_, q1, q2, q3⟩ := hy.1.sl.parts
  have hX0 : (0 : Int) ≤ (x.natAbs : Int) := by omega
  have hY0 : (0 : Int) < (y.natAbs : Int) := by omega
  have PL := hide (fun q1 r1 => dm_plain n1 n2 (q1 := q1) (r1 := r1) hx.2 hy.2 y0)
  have hBl : 0 < B.length := by
    apply Classical.byContradiction
    intro hn
    have := got_zero hy.1 (by omega)
    omega
  clear p3 q3 e0
  go_enter Try.func54, Try.ntmps54
  obtain ⟨ba1, ba2, ba3, ba4⟩ := ba.facts
  obtain ⟨bb1, bb2, bb3, bb4⟩ := bb.facts
  go_upto_region 1 with fail
  rw [E0.out]
  go_wp2_with fail
  refine (divided_g _ _ _ _ A _ hx0 _ _ _ B _ hy0 (by omega) (by omega) hBl).mono ?_
  rintro e w1 ⟨nq, pq, qq, Q, nr, pr, qr, R, rfl, GQ, GR, lQ, lR, hb1⟩
  generalize hXX : (x.natAbs : Int) = X at *
  generalize hYY : (y.natAbs : Int) = Y at *
  obtain ⟨w2, e2, b6, b7, hb2, hs2⟩ := boxed2 w1 nq (.slice pq Q.length qq) nr (.slice pr R.length qr)
  have z1 := hb1.size
  have HB := hb0.trans (hb1.mono hb0.size)
  replace HB := HB.trans (hb2.mono HB.size)
  have hy2 := hy.below HB
  have QS : Qs w w2 n1 (.slice a1 A.length c1) n2 (.slice a2 B.length c2) w1.heap.size (w1.heap.size + 1) (X / Y) (X % Y) A.length B.length := ⟨nq, pq, qq, Q, nr, pr, qr, R, (ba.below hb1).below hb2, (bb.below hb1).below hb2, (b4.below hb1).below hb2, (b5.below hb1).below hb2, b6, b7, GQ.below hb2, GR.below hb2, lQ, lR, HB⟩
  have E2 := hide e2
  have h67 : w.heap.size + 4 ≤ w1.heap.size := by omega
  have hr0 : 0 ≤ X % Y := Int.emod_nonneg _ (by omega)
  have hw2 := hb2.size
  clear e2 ba1 ba2 ba3 ba4 bb1 bb2 bb3 bb4 hb1 hb2 E0 ba bb b4 b5 b6 b7 GQ GR lQ lR
  go_upto_region 2 with fail
  rw [E2.out]
  clear E2 hs2 HB hx0 hy0
  generalize w1.heap.size = g6 at *
  generalize hr : X % Y = r0 at *
  generalize hq : X / Y = q0 at *
  have HR := hide hr
  have HQ := hide hq
  have HYY := hide hYY
  clear hr hq hYY hXX
  go_cut [20] (fun v wx => v = .bool (n1 && decide (r0 ≠ 0)) ∧ Qs w wx n1 (.slice a1 A.length c1) n2 (.slice a2 B.length c2) g6 (g6 + 1) q0 r0 A.length B.length ∧ Below w2.heap.size w2 wx)
  case first =>
    obtain ⟨nq, pq, qq, Q, nr, pr, qr, R, ba, bb, b4, b5, b6, b7, GQ, GR, lQ, lR, HB⟩ := QS
    obtain ⟨ba1, ba2, ba3, ba4⟩ := ba.facts
    obtain ⟨b71, b72, b73, b74⟩ := b7.facts
    cases n1 with
    | false =>
      have QS := hide (show Qs w w2 false (.slice a1 A.length c1) n2 (.slice a2 B.length c2) g6 (g6 + 1) q0 r0 A.length B.length from ⟨nq, pq, qq, Q, nr, pr, qr, R, ba, bb, b4, b5, b6, b7, GQ, GR, lQ, lR, HB⟩)
      go_wp2
      go_meet
      case rel => exact ⟨by simp, QS.out, Below.refl _ _⟩
    | true =>
      obtain rfl : nr = false := by rw [GR.2]; simp; omega
      have hz := GR.zero
      have QS := hide (show Qs w w2 true (.slice a1 A.length c1) n2 (.slice a2 B.length c2) g6 (g6 + 1) q0 r0 A.length B.length from ⟨nq, pq, qq, Q, false, pr, qr, R, ba, bb, b4, b5, b6, b7, GQ, GR, lQ, lR, HB⟩)
      have HZ := hide hz
      clear hz
      go_wp2_with fail
      refine (sign_any _ _ _ _).mono ?_
      rintro e w5 ⟨rfl, e5⟩
      have hb5 : Below w2.heap.size w2 w5 := by rw [e5]; exact (Below.refl _ _).alloc (Nat.le_refl _) _
      clear e5 ba1 ba2 ba3 ba4 b71 b72 b73 b74
      by_cases h0 : r0 = 0
      · have hs : sgn R.length = 0 := by rw [HZ.out.1 h0]; rfl
        rw [hs]
        have hd : decide (r0 ≠ 0) = false := by simp [h0]
        have HD := hide hd
        clear hs h0 hd
        go_wp2
        go_meet
        case rel => exact ⟨by rw [HD.out]; rfl, QS.out.below hb5, hb5⟩
      · have hs : sgn R.length = 1 := by
          have : R.length ≠ 0 := fun h => h0 (HZ.out.2 (List.eq_nil_of_length_eq_zero h))
          simp [sgn, this]
        rw [hs]
        have hd : decide (r0 ≠ 0) = true := by simp [h0]
        have HD := hide hd
        clear hs h0 hd
        go_wp2
        go_meet
        case rel => exact ⟨by rw [HD.out]; rfl, QS.out.below hb5, hb5⟩
  case rest =>
    obtain ⟨rfl, QS, hbw⟩ := hcut
    have hyw := hy2.below hbw
    clear hy2 hbw
    go_upto_if 20 with fail
    go_cut [] (fun wx => ∃ q1 r1, Qs w wx n1 (.slice a1 A.length c1) n2 (.slice a2 B.length c2) g6 (g6 + 1) q1 r1 (A.length + 6) (2 * B.length + 1) ∧ ((n1 = true ∧ r0 ≠ 0 → q1 = q0 + 1 ∧ r1 = Y - r0) ∧ (¬ (n1 = true ∧ r0 ≠ 0) → q1 = q0 ∧ r1 = r0)))
    case first =>
      by_cases hc : n1 = true ∧ r0 ≠ 0
      · have hb : (n1 && decide (r0 ≠ 0)) = true := by simp [hc.1, hc.2]
        have HC := hide hc
        rw [hb]
        clear hb hc
        go_upto_region 3 with fail
        go_cut [] (fun wx => Qs w wx n1 (.slice a1 A.length c1) n2 (.slice a2 B.length c2) g6 (g6 + 1) (q0 + 1) r0 (A.length + 6) B.length ∧ Wh wx n2 a2 c2 B y)
        case first =>
          have QS' := QS
          obtain ⟨nq, pq, qq, Q, nr, pr, qr, R, ba, bb, b4, b5, b6, b7, GQ, GR, lQ, lR, HB⟩ := QS'
          clear ba bb b4 b5 b7 HB lR
          obtain ⟨b61, b62, b63, b64⟩ := b6.facts
          go_region_with (first
            | (go_at_call 82; have _hq := hb1'; refine (nadd_g _ _ _ _ Q _ (GQ.below (by repeat (first | exact Below.refl _ _ | refine Below.drew ?_))) _ p1 q1 r1 _ (G1.below (by repeat (first | exact Below.refl _ _ | refine Below.drew ?_))) (by omega) (by omega)).mono ?_; rintro e w2 ⟨m2, p2, q2, r2, rfl, G2, l2, hb2⟩; have hb2' : Below w1.heap.size w1 w2 := (show Below w1.heap.size w1 _ by repeat (first | exact Below.refl _ _ | refine Below.drew ?_)).trans hb2; replace GR := GR.below hb2'; replace QS := QS.below hb2'; replace hyw := hyw.below hb2'; replace b6 := b6.below hb2'; clear b61 b62 b63 b64; obtain ⟨b61, b62, b63, b64⟩ := b6.facts)
            | (go_at_call 48; refine (nint_any _ 1 (by omega) (by omega)).mono ?_; rintro e w1 ⟨m1, p1, q1, r1, rfl, G1, l1, hb1⟩; have hb1' : Below wc.heap.size wc w1 := (show Below wc.heap.size wc _ by repeat (first | exact Below.refl _ _ | refine Below.drew ?_)).trans hb1; replace GQ := GQ.below hb1'; replace QS := QS.below hb1'; replace hyw := hyw.below hb1'; replace GR := GR.below hb1'; replace b6 := b6.below hb1'; clear b61 b62 b63 b64; obtain ⟨b61, b62, b63, b64⟩ := b6.facts))
          all_goals
            have FIN := hide (QS.set6 h67 (by omega) G2 (L := A.length + 6) (by omega))
            have FY := hide (b6.wh m2 (.slice p2 r2.length q2) hyw)
            clear QS hyw
            go_wp2
            go_meet
            case rel => exact ⟨FIN.out, FY.out⟩
        case rest =>
          obtain ⟨QS, hyw⟩ := hcut
          have QS' := QS
          obtain ⟨nq, pq, qq, Q, nr, pr, qr, R, ba, bb, b4, b5, b6, b7, GQ, GR, lQ, lR, HB⟩ := QS'
          clear ba b4 b5 b6 HB
          obtain ⟨bb1, bb2, bb3, bb4⟩ := bb.facts
          obtain ⟨b71, b72, b73, b74⟩ := b7.facts
          go_wp2_with fail
          go_region_with (first
            | (go_at_call 83; have _hq := hb1'; refine (nsub_g _ _ p1 q1 r1 _ (G1.below (by repeat (first | exact Below.refl _ _ | refine Below.drew ?_))) _ _ _ R _ (GR.below (by repeat (first | exact Below.refl _ _ | refine Below.drew ?_))) (by omega) (by omega)).mono ?_; rintro e w2 ⟨m2, p2, q2, r2, rfl, G2, l2, hb2⟩; have hb2' : Below w1.heap.size w1 w2 := (show Below w1.heap.size w1 _ by repeat (first | exact Below.refl _ _ | refine Below.drew ?_)).trans hb2; replace GQ := GQ.below hb2'; replace QS := QS.below hb2'; replace bb := bb.below hb2'; clear bb1 bb2 bb3 bb4; obtain ⟨bb1, bb2, bb3, bb4⟩ := bb.facts; replace b7 := b7.below hb2'; clear b71 b72 b73 b74; obtain ⟨b71, b72, b73, b74⟩ := b7.facts)
            | (go_at_call 84; refine (abs_g _ _ _ _ B _ (hyw.below (by repeat (first | exact Below.refl _ _ | refine Below.drew ?_))) (by omega)).mono ?_; rintro e w1 ⟨m1, p1, q1, r1, rfl, G1, l1, hb1⟩; have hb1' : Below wc.heap.size wc w1 := (show Below wc.heap.size wc _ by repeat (first | exact Below.refl _ _ | refine Below.drew ?_)).trans hb1; replace GQ := GQ.below hb1'; replace QS := QS.below hb1'; replace GR := GR.below hb1'; replace bb := bb.below hb1'; clear bb1 bb2 bb3 bb4; obtain ⟨bb1, bb2, bb3, bb4⟩ := bb.facts; replace b7 := b7.below hb1'; clear b71 b72 b73 b74; obtain ⟨b71, b72, b73, b74⟩ := b7.facts))
          all_goals
            have FIN := hide (QS.set7 h67 (by omega) G2 (L := 2 * B.length + 1) (by omega))
            clear QS
            go_wp2
            go_meet
            case rel => exact ⟨q0 + 1, _, FIN.out, fun _ => ⟨rfl, by rw [HYY.out]⟩, fun h => absurd HC.out h⟩
      · have hb : (n1 && decide (r0 ≠ 0)) = false := by
          cases n1 with
          | false => rfl
          | true =>
            have : r0 = 0 := Classical.byContradiction fun h => hc ⟨rfl, h⟩
            simp [this]
        have HC := hide hc
        rw [hb]
        clear hb hc
        obtain ⟨nq, pq, qq, Q, nr, pr, qr, R, ba, bb, b4, b5, b6, b7, GQ, GR, lQ, lR, HB⟩ := QS
        have FIN : Hid (Qs w wc n1 (.slice a1 A.length c1) n2 (.slice a2 B.length c2) g6 (g6 + 1) q0 r0 (A.length + 6) (2 * B.length + 1)) := ⟨nq, pq, qq, Q, nr, pr, qr, R, ba, bb, b4, b5, b6, b7, GQ, GR, by omega, by omega, HB⟩
        go_wp2
        go_meet
        case rel => exact ⟨q0, r0, FIN.out, fun h => absurd h HC.out, fun _ => ⟨rfl, rfl⟩⟩
    case rest =>
      clear QS hyw
      obtain ⟨q1, r1, QS, hqr⟩ := hcut
      have FQ := hide (PL.out q1 r1 hqr)
      clear hqr HR HQ hr0
      obtain ⟨nq, pq, qq, Q, nr, pr, qr, R, ba, bb, b4, b5, b6, b7, GQ, GR, lQ, lR, HB⟩ := QS
      obtain ⟨ba1, ba2, ba3, ba4⟩ := ba.facts
      obtain ⟨bb1, bb2, bb3, bb4⟩ := bb.facts
      have QS := hide (show Qs w wc n1 (.slice a1 A.length c1) n2 (.slice a2 B.length c2) g6 (g6 + 1) q1 r1 (A.length + 6) (2 * B.length + 1) from ⟨nq, pq, qq, Q, nr, pr, qr, R, ba, bb, b4, b5, b6, b7, GQ, GR, lQ, lR, HB⟩)
      go_upto_if 32 with fail
      go_cut [] (fun wx => Qs w wx n1 (.slice a1 A.length c1) n2 (.slice a2 B.length c2) g6 (g6 + 1) (Lm.sg (n1 != n2) q1) r1 (A.length + 6) (2 * B.length + 1))
      case first =>
        clear ba1 ba2 ba3 ba4 bb1 bb2 bb3 bb4
        by_cases hn : n1 = n2
        · subst hn
          have hsg : Hid (Lm.sg (n1 != n1) q1 = q1) := by simp [Hid, Lm.sg]
          cases n1
          all_goals
            go_wp2
            go_meet
            case rel => exact (by rw [hsg.out]; exact QS.out)
        · have hn2 : n2 = !n1 := by cases n1 <;> cases n2 <;> simp_all
          subst hn2
          have hsg : Hid (Lm.sg (n1 != !n1) q1 = -q1) := by cases n1 <;> simp [Hid, Lm.sg]
          obtain ⟨b61, b62, b63, b64⟩ := b6.facts
          clear hn
          cases n1
          all_goals
            go_wp2_with fail
            refine (minus_g _ _ _ _ Q _ GQ (by omega)).mono ?_
            rintro e w6 ⟨m2, p2, q2, r2, rfl, G2, l2, hb6⟩
            replace b6 := b6.below hb6
            have FIN := hide ((QS.out.below hb6).set6 h67 (by omega) G2 (L := A.length + 6) (by omega))
            clear b61 b62 b63 b64
            obtain ⟨b61, b62, b63, b64⟩ := b6.facts
            go_wp2
            go_meet
            case rel => exact (by rw [hsg.out]; exact FIN.out)
      case rest =>
        clear ba bb b4 b5 b6 b7 GQ GR lQ lR HB ba1 ba2 ba3 ba4 bb1 bb2 bb3 bb4 QS
        have QS := hcut
        obtain ⟨nq, pq, qq, Q, nr, pr, qr, R, ba, bb, b4, b5, b6, b7, GQ, GR, lQ, lR, HB⟩ := QS
        rw [FQ.out.1] at GQ
        rw [FQ.out.2] at GR
        clear ba bb
        have ne1 : ¬ (w.heap.size + 1 + 1 = g6) := by omega
        have ne2 : ¬ (w.heap.size + 1 + 1 + 1 = g6) := by omega
        have ne3 : ¬ (w.heap.size + 1 = g6) := by omega
        obtain ⟨b61, b62, b63, b64⟩ := b6.facts
        obtain ⟨b71, b72, b73, b74⟩ := b7.facts
        obtain ⟨b41, b42, b43, b44⟩ := b4.facts
        obtain ⟨b51, b52, b53, b54⟩ := b5.facts
        have F1 := hide (box_past (b4.set nq (.slice pq Q.length qq)) (show w.heap.size + 1 + 1 ≠ w.heap.size + 1 + 1 + 1 by omega) (.bool nr) (.slice pr R.length qr)).facts
        have b5' := box_past b5 (show w.heap.size + 1 + 1 + 1 ≠ w.heap.size + 1 + 1 by omega) (.bool nq) (.slice pq Q.length qq)
        have F2 := hide (b5'.set nr (.slice pr R.length qr)).facts
        have Y1 := hide (b5'.wh nr (.slice pr R.length qr) (b4.wh nq (.slice pq Q.length qq) GQ))
        have Y2 := hide (b5'.wh nr (.slice pr R.length qr) (b4.wh nq (.slice pq Q.length qq) GR))
        have Z2 := hide (below_set2 (below_set2 HB (show w.heap.size ≤ w.heap.size + 1 + 1 by omega) (.bool nq) (.slice pq Q.length qq)) (show w.heap.size ≤ w.heap.size + 1 + 1 + 1 by omega) (.bool nr) (.slice pr R.length qr))
        clear b5'
        go_wp2_with fail
        go_region_held3 (fun w' => w'.cell? ⟨g6, 0, none⟩ = some (.bool nq) ∧ w'.cell? ⟨g6, 1, none⟩ = some (.slice pq Q.length qq) ∧ w'.cell? ⟨g6 + 1, 0, none⟩ = some (.bool nr) ∧ w'.cell? ⟨g6 + 1, 1, none⟩ = some (.slice pr R.length qr)) (go_keep) (fail)
        all_goals
          go_wp2
          refine bodyPost_ret (v := .tuple #[.agg #[.bool nq, .slice pq Q.length qq], .agg #[.bool nr, .slice pr R.length qr]]) ?_ rfl ⟨nq, pq, qq, Q, nr, pr, qr, R, rfl, Y1.out, Y2.out, by omega, by omega, Below.drew Z2.out⟩
          simp [results, Try.results54, go_sem, F1.out.1, F1.out.2.1, F2.out.1, F2.out.2.1]

end Dm
end Go.Proofs.Ytkdcgnooeojjgab

namespace Go.Proofs.Ytkdcgnooeojjgab
namespace Dm
open Go.RowKit
open Lm (hide lt_of_cell lt_of_heap)

theorem natAbs_id {x : Int} (h : 0 ≤ x) : ((x.natAbs : Nat) : Int) = x := by omega

set_option maxRecDepth 20000 in
set_option maxHeartbeats 400000 in
theorem nsign_zero (w : World) (ng : Bool) (ao : Option Addr) (cap : Nat) :
    Calls Try.prog 50 #[.agg #[.bool ng, .slice ao 0 cap]] w fun e w' => e = .returned (.int .i64 0) ∧ Below w.heap.size w w' := by
  have hb : Below w.heap.size w (w.alloc (.cells #[.bool ng, .slice ao 0 cap] 66)) := (Below.refl _ _).alloc (Nat.le_refl _) _
  go_enter Try.func50, Try.ntmps50
  go_wp2
  go_ret
  exact ⟨rfl, hb⟩

set_option maxRecDepth 20000 in
set_option maxHeartbeats 400000 in
theorem nsign_neg (w : World) (ao : Option Addr) (n cap : Nat) (h0 : ¬ n = 0) :
    Calls Try.prog 50 #[.agg #[.bool true, .slice ao n cap]] w fun e w' => e = .returned (.int .i64 (-1)) ∧ Below w.heap.size w w' := by
  have hb : Below w.heap.size w (w.alloc (.cells #[.bool true, .slice ao n cap] 66)) := (Below.refl _ _).alloc (Nat.le_refl _) _
  have hl2 : (((n : Nat) : Int) == 0) = false := by simp; omega
  clear h0
  go_enter Try.func50, Try.ntmps50
  go_wp2
  go_ret
  exact ⟨rfl, hb⟩
set_option maxRecDepth 20000 in
set_option maxHeartbeats 400000 in
theorem nsign_pos (w : World) (ao : Option Addr) (n cap : Nat) (h0 : ¬ n = 0) :
    Calls Try.prog 50 #[.agg #[.bool false, .slice ao n cap]] w fun e w' => e = .returned (.int .i64 1) ∧ Below w.heap.size w w' := by
  have hb : Below w.heap.size w (w.alloc (.cells #[.bool false, .slice ao n cap] 66)) := (Below.refl _ _).alloc (Nat.le_refl _) _
  have hl2 : (((n : Nat) : Int) == 0) = false := by simp; omega
  clear h0
  go_enter Try.func50, Try.ntmps50
  go_wp2
  go_ret
  exact ⟨rfl, hb⟩
theorem nsign_z (w : World) (ng : Bool) (ao : Option Addr) (cap : Nat) (rs : List Int) (z : Int) (h : Wh w ng ao cap rs z) :
    Calls Try.prog 50 #[.agg #[.bool ng, .slice ao rs.length cap]] w fun e w' => e = .returned (.int .i64 (Int.sign z)) ∧ Below w.heap.size w w' := by
  by_cases h0 : rs.length = 0
  · have hz : z = 0 := h.zero.2 (List.eq_nil_of_length_eq_zero h0)
    rw [hz, h0]
    exact nsign_zero w ng ao cap
  · have hz : z ≠ 0 := fun e => h0 (by rw [h.zero.1 e]; rfl)
    cases ng with
    | true =>
      have hn : z < 0 := by have := h.2; simpa using this.symm
      rw [Int.sign_eq_neg_one_of_neg hn]
      exact nsign_neg w ao _ cap h0
    | false =>
      have hn : 0 < z := by have := h.2; simp at this; omega
      rw [Int.sign_eq_one_of_pos hn]
      exact nsign_pos w ao _ cap h0

/-- What a list of limbs is worth, whatever its sign, is below the base's power. -/
theorem ag_bound {w : World} {ng : Bool} {a : Option Addr} {n c : Nat} {xs : List Int} {x : Int} (h : Lm.Ag w ng a n c xs x) : (x.natAbs : Int) < Lm.pw xs.length := by
  have h1 := Lm.val_bounds h.sl.parts.2.2.2
  have h2 := h.worth
  cases ng <;> simp [Lm.sg] at h2 <;> omega

theorem lbox_past {w : World} {g : Nat} {ng : Bool} {v : Value} (h : Lm.Box w g ng v) {k : Nat} (hne : g ≠ k) (b u : Value) : Lm.Box ((w.setCell ⟨k, 0, none⟩ b).setCell ⟨k, 1, none⟩ u) g ng v := by
  unfold Lm.Box
  rw [heap_setCell_other _ ⟨k, 1, none⟩ g _ hne, heap_setCell_other _ ⟨k, 0, none⟩ g _ hne]
  exact h

theorem gcd_abs (x y : Int) : Int.gcd (x.natAbs : Int) (y.natAbs : Int) = Int.gcd x y := by simp [Int.gcd]

theorem gcd_bound {x y : Int} {m n : Nat} (hx : (x.natAbs : Int) < Lm.pw m) (hy : (y.natAbs : Int) < Lm.pw n) : (((Int.gcd (x.natAbs : Int) (y.natAbs : Int) : Nat) : Int).natAbs : Int) < Lm.pw (m + n + 1) := by
  have a1 := Lm.pw_mono (m := m) (n := m + n) (by omega)
  have a2 := Lm.pw_mono (m := n) (n := m + n) (by omega)
  have b : ((Int.gcd (x.natAbs : Int) (y.natAbs : Int) : Nat) : Int) ≤ (x.natAbs : Int) + (y.natAbs : Int) := by
    by_cases h : (x.natAbs : Int) = 0
    · rw [h, Int.gcd_zero_left]; omega
    · have := Int.le_of_dvd (by omega) (Int.gcd_dvd_left (x.natAbs : Int) (y.natAbs : Int))
      omega
  rw [Lm.pw]
  have := Lm.pw_pos (m + n)
  omega

end Dm
end Go.Proofs.Ytkdcgnooeojjgab
