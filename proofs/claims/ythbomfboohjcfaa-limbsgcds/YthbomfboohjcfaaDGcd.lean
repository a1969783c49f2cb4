/-
  The contract of the reference's Gcd.
-/
import Derived.Test.YthbomfboohjcfaaDDm
import Derived.Test.YthbomfboohjcfaaMrg39
namespace Go.Proofs.Ythbomfboohjcfaa
namespace Dm
open Go.RowKit
open Lm (hide lt_of_cell lt_of_heap cmpI cmpI_lt cmpI_gt)

theorem gcd_step (u v : Int) : Int.gcd v (u % v) = Int.gcd v u := by
  have h1 := Lm.gcd_step u v (u / v)
  have h2 := Int.mul_ediv_add_emod u v
  rw [Int.mul_comm] at h2
  rw [show u - u / v * v = u % v by omega] at h1
  rw [h1, Int.gcd_comm]

set_option maxRecDepth 20000 in
set_option maxHeartbeats 2000000 in
theorem ngcd_g (w : World) (n1 : Bool) (a1 : Option Addr) (c1 : Nat) (A : List Int) (x : Int) (hx : Got w a1 c1 A x) (n2 : Bool) (a2 : Option Addr) (c2 : Nat) (B : List Int) (y : Int) (hy : Got w a2 c2 B y) (m1 : A.length ≤ 300000) (m2 : B.length ≤ 300000) :
    Calls Try.prog 55 #[.agg #[.bool n1, .slice a1 A.length c1], .agg #[.bool n2, .slice a2 B.length c2]] w fun e w' => ∃ ng ao cap rs, e = .returned (.agg #[.bool ng, .slice ao rs.length cap]) ∧ Wh w' ng ao cap rs (Int.gcd x y : Int) ∧ rs.length ≤ A.length + B.length ∧ Below w.heap.size w w' := by
  obtain ⟨w0, e0, bx, by', br, hb0, hs0⟩ := boxed3 w n1 (.slice a1 A.length c1) n2 (.slice a2 B.length c2)
  have E0 := hide e0
  have hx0 := hx.below hb0
  have hy0 := hy.below hb0
  have hxn : 0 ≤ x := by rw [← hx.val]; exact (val_bounds hx.canon.1).1
  have hyn : 0 ≤ y := by rw [← hy.val]; exact (val_bounds hy.canon.1).1
  clear e0
  go_enter Try.func55, Try.ntmps55
  go_upto_region 1 with fail
  rw [E0.out]
  obtain ⟨bx1, bx2, bx3, bx4⟩ := bx.facts
  go_wp2_with fail
  refine (abs_got _ _ _ _ A _ hx0 (by omega)).mono ?_
  rintro e w1 ⟨nX, pX, qX, X, rfl, GX, lX, hb1⟩
  obtain ⟨w2, e2, bX, hb2, hs2⟩ := boxed0 w1 nX (.slice pX X.length qX)
  have z1 := hb1.size
  have HB := hb0.trans (hb1.mono hb0.size)
  replace HB := HB.trans (hb2.mono HB.size)
  replace bx := (bx.below hb1).below hb2
  replace by' := (by'.below hb1).below hb2
  replace br := (br.below hb1).below hb2
  replace hy0 := (hy0.below hb1).below hb2
  replace GX := GX.below hb2
  have E2 := hide e2
  clear e2 bx1 bx2 bx3 bx4 hb1 hb2 E0
  go_upto_region 2 with fail
  rw [E2.out]
  clear E2
  obtain ⟨by1, by2, by3, by4⟩ := by'.facts
  go_wp2_with fail
  refine (abs_got _ _ _ _ B _ hy0 (by omega)).mono ?_
  rintro e w3 ⟨nY, pY, qY, Y, rfl, GY, lY, hb3⟩
  obtain ⟨w4, e4, bY, hb4, hs4⟩ := boxed0 w3 nY (.slice pY Y.length qY)
  have z3 := hb3.size
  replace HB := HB.trans (hb3.mono HB.size)
  replace HB := HB.trans (hb4.mono HB.size)
  replace br := (br.below hb3).below hb4
  replace bX := (bX.below hb3).below hb4
  replace GX := (GX.below hb3).below hb4
  replace GY := GY.below hb4
  have E4 := hide e4
  clear e4 by1 by2 by3 by4 hb3 hb4 hy0 hx0 bx by'
  go_wp2_with fail
  rw [E4.out]
  clear E4
  have hsx : w.heap.size + 3 ≤ w1.heap.size := by omega
  have hsy : w1.heap.size + 1 ≤ w3.heap.size := by omega
  have hsz : w3.heap.size < w4.heap.size := by omega
  generalize w1.heap.size = gx at *
  generalize w3.heap.size = gy at *
  have hsg : sg false x = x := rfl
  have hsg2 : sg false y = y := rfl
  rw [hsg] at GX
  rw [hsg2] at GY
  clear hsg hsg2 z1 z3 hs2 hs4 hs0
  go_loopg [] y.toNat (fun k wr => ∃ (nX : Bool) (pX : Option Addr) (qX : Nat) (X : List Int) (u : Int) (nY : Bool) (pY : Option Addr) (qY : Nat) (Y : List Int) (v : Int), Box wr gx nX (.slice pX X.length qX) ∧ Box wr gy nY (.slice pY Y.length qY) ∧ Box wr (w.heap.size + 1 + 1) false (.slice none 0 0) ∧ Wh wr nX pX qX X u ∧ Wh wr nY pY qY Y v ∧ 0 ≤ u ∧ 0 ≤ v ∧ Int.gcd u v = Int.gcd x y ∧ X.length ≤ A.length + B.length ∧ Y.length ≤ A.length + B.length ∧ X.length ≤ 300000 ∧ Y.length ≤ 300000 ∧ Below w.heap.size w wr ∧ k = v.toNat)
  case atStart => exact ⟨nX, pX, qX, X, x, nY, pY, qY, Y, y, bX, bY, br, GX, GY, hxn, hyn, rfl, by omega, by omega, by omega, by omega, HB, rfl⟩
  case round =>
    clear bX bY br GX GY HB lX lY
    obtain ⟨nX, pX, qX, X, u, nY, pY, qY, Y, v, bX, bY, br, GX, GY, hu, hv, hg, lX, lY, lX2, lY2, HB, hk⟩ := hrel
    obtain rfl : nY = false := by rw [GY.2]; simp; omega
    have HG := hide hg
    have HK := hide hk
    have hz := GY.zero
    have HZ := hide hz
    obtain ⟨bY1, bY2, bY3, bY4⟩ := bY.facts
    clear hg hk hz
    go_wp2_with fail
    refine (sign_any _ _ _ _).mono ?_
    rintro e w5 ⟨rfl, e5⟩
    have hb5 : Below wr.heap.size wr w5 := by rw [e5]; exact (Below.refl _ _).alloc (Nat.le_refl _) _
    clear e5
    replace bX := bX.below hb5
    replace bY := bY.below hb5
    replace br := br.below hb5
    replace GX := GX.below hb5
    replace GY := GY.below hb5
    replace HB := HB.trans (hb5.mono HB.size)
    clear hb5 bY1 bY2 bY3 bY4
    by_cases h0 : Y.length = 0
    · have v0 : v = 0 := HZ.out.2 (List.eq_nil_of_length_eq_zero h0)
      have hs : sgn Y.length = 0 := by simp [sgn, h0]
      rw [hs]
      have HG2 : Hid ((Int.gcd x y : Int) = u) := by
        have := HG.out
        rw [v0] at this
        show ((Int.gcd x y : Nat) : Int) = u
        rw [← this, Int.gcd_zero_right]
        omega
      clear hs h0 v0
      obtain ⟨bX1, bX2, bX3, bX4⟩ := bX.facts
      obtain ⟨br1, br2, br3, br4⟩ := br.facts
      have F := hide (br.set nX (.slice pX X.length qX)).facts
      have Y1 := hide (br.wh nX (.slice pX X.length qX) GX)
      have Z := hide (below_set2 HB (show w.heap.size ≤ w.heap.size + 1 + 1 by omega) (.bool nX) (.slice pX X.length qX))
      go_wp2
      refine bodyPost_ret (v := .agg #[.bool nX, .slice pX X.length qX]) ?_ rfl ⟨nX, pX, qX, X, rfl, by rw [HG2.out]; exact Y1.out, by omega, Z.out⟩
      simp [results, Try.results55, go_sem, F.out.1, F.out.2.1]
    · have hs : sgn Y.length = 1 := by simp [sgn, h0]
      rw [hs]
      clear hs
      have vp : 0 < v := by
        apply Classical.byContradiction
        intro hn
        exact h0 (by rw [HZ.out.1 (by omega)]; rfl)
      obtain ⟨bX1, bX2, bX3, bX4⟩ := bX.facts
      obtain ⟨bY1, bY2, bY3, bY4⟩ := bY.facts
      have GX' := GX.1
      have GY' := GY.1
      rw [show ((u.natAbs : Nat) : Int) = u by omega] at GX'
      rw [show ((v.natAbs : Nat) : Int) = v by omega] at GY'
      go_wp2_with fail
      refine (divided_g _ _ _ _ X _ GX' _ _ _ Y _ GY' (by omega) (by omega) (by omega)).mono ?_
      rintro e w6 ⟨nq, pq, qq, Q, nr, pr, qr, R, rfl, GQ, GR, lQ, lR, hb6⟩
      obtain ⟨w7, e7, bq, bz, hb7, hs7⟩ := boxed2 w6 nq (.slice pq Q.length qq) nr (.slice pr R.length qr)
      have z6 := hb6.size
      have lgy := lt_of_heap bY
      replace bX := (bX.below hb6).below hb7
      replace bY := (bY.below hb6).below hb7
      replace br := (br.below hb6).below hb7
      replace GY := (GY.below hb6).below hb7
      replace GR := GR.below hb7
      replace HB := (HB.trans (hb6.mono HB.size)).trans (hb7.mono (Nat.le_trans HB.size z6))
      have E7 := hide e7
      clear e7 hb6 hb7 bX1 bX2 bX3 bX4 bY1 bY2 bY3 bY4 GX GX' GY' GQ bq
      go_upto_region 5 with fail
      rw [E7.out]
      clear E7
      generalize w6.heap.size = g6 at *
      have bX' := bX.set false (.slice pY Y.length qY)
      have bY' := box_other bY (show gy ≠ gx by omega) (.bool false) (.slice pY Y.length qY)
      have br' := box_other br (show w.heap.size + 1 + 1 ≠ gx by omega) (.bool false) (.slice pY Y.length qY)
      have bz' := box_other bz (show g6 + 1 ≠ gx by omega) (.bool false) (.slice pY Y.length qY)
      have GY' := bX.wh false (.slice pY Y.length qY) GY
      have GR' := bX.wh false (.slice pY Y.length qY) GR
      have HB' := below_set2 HB (show w.heap.size ≤ gx by omega) (.bool false) (.slice pY Y.length qY)
      obtain ⟨bX1, bX2, bX3, bX4⟩ := bX.facts
      obtain ⟨bY1, bY2, bY3, bY4⟩ := bY.facts
      have FF := hide (And.intro bX' (And.intro bY' (And.intro br' (And.intro bz' (And.intro GY' (And.intro GR' HB'))))))
      clear bX' bY' br' bz' GY' GR' HB'
      go_upto_region 6 with fail
      clear bX bY br bz GY GR HB bX1 bX2 bX3 bX4 bY1 bY2 bY3 bY4
      generalize (w7.setCell ⟨gx, 0, none⟩ (.bool false)).setCell ⟨gx, 1, none⟩ (.slice pY Y.length qY) = w8 at FF ⊢
      obtain ⟨bX, bY, br, bz, GY, GR, HB⟩ := FF.out
      clear FF
      obtain ⟨bY1, bY2, bY3, bY4⟩ := bY.facts
      obtain ⟨bz1, bz2, bz3, bz4⟩ := bz.facts
      have bX' := box_other bX (show gx ≠ gy by omega) (.bool nr) (.slice pr R.length qr)
      have bY' := bY.set nr (.slice pr R.length qr)
      have br' := box_other br (show w.heap.size + 1 + 1 ≠ gy by omega) (.bool nr) (.slice pr R.length qr)
      have GY' := bY.wh nr (.slice pr R.length qr) GY
      have GR' := bY.wh nr (.slice pr R.length qr) GR
      have HB' := below_set2 HB (show w.heap.size ≤ gy by omega) (.bool nr) (.slice pr R.length qr)
      have FF := hide (And.intro bX' (And.intro bY' (And.intro br' (And.intro GY' (And.intro GR' HB')))))
      clear bX' bY' br' GY' GR' HB' bX br
      go_wp2
      go_roundg (u % v).toNat
      case measure =>
        have := Int.emod_lt_of_pos u vp
        have := Int.emod_nonneg u (show v ≠ 0 by omega)
        have := HK.out
        omega
      case rel => exact ⟨false, pY, qY, Y, v, nr, pr, qr, R, u % v, FF.out.1, FF.out.2.1, FF.out.2.2.1, FF.out.2.2.2.1, FF.out.2.2.2.2.1, hv, Int.emod_nonneg u (show v ≠ 0 by omega), by rw [← HG.out, Int.gcd_comm u v]; exact gcd_step u v, lY, by omega, lY2, by omega, FF.out.2.2.2.2.2, rfl⟩

end Dm
end Go.Proofs.Ythbomfboohjcfaa
