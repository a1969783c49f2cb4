/-
  Whole numbers: the contract of Gcd.
-/
import Derived.Test.YthbomfboohjcfadWH
import Derived.Test.YthbomfboohjcfadLhG
namespace Go.Proofs.Ythbomfboohjcfad
namespace Lm
open Go.RowKit

theorem gcd_sg (nx ny : Bool) (X Y : Int) : Int.gcd (sg nx X) (sg ny Y) = Int.gcd X Y := by
  cases nx <;> cases ny <;> simp [sg]

theorem gcd_small {X Y : Int} (hX : 0 ≤ X) (hY : 0 ≤ Y) : ((Int.gcd X Y : Nat) : Int) ≤ X + Y := by
  by_cases h : X = 0
  · subst h
    rw [Int.gcd_zero_left]
    omega
  · have h9 : Int.gcd X Y ≤ X.natAbs := Int.gcd_le_natAbs_left _ h
    omega

theorem gcd_g (w : World) (a1 a2 : Option Addr) (n1 n2 c1 c2 : Nat) (xs ys : List Int) (hx : Sl w (.slice a1 n1 c1) xs) (hy : Sl w (.slice a2 n2 c2) ys) (hm1 : xs.length ≤ 400000) (hm2 : ys.length ≤ 400000) :
    Calls Try.prog 35 #[.slice a1 n1 c1, .slice a2 n2 c2] w fun e w' => ∃ ao cap rs, e = .returned (.slice ao rs.length cap) ∧ Got w' ao cap rs (Int.gcd (val xs) (val ys)) ∧ rs.length ≤ xs.length + ys.length + 1 ∧ Below w.heap.size w w' := by
  refine (gcd_any w a1 a2 n1 n2 c1 c2 xs ys hx hy hm1 hm2).mono ?_
  rintro e w' ⟨v, rfl, hi, hb⟩
  obtain ⟨ao, cap, rs, rfl, hg⟩ := hi.got
  refine ⟨ao, cap, rs, rfl, hg, canon_len hg.canon ?_, hb⟩
  rw [hg.val]
  have b1 := val_bounds hx.parts.2.2.2
  have b2 := val_bounds hy.parts.2.2.2
  have h1 := gcd_small b1.1 b2.1
  have m1 := pw_mono (m := xs.length) (n := xs.length + ys.length) (by omega)
  have m2 := pw_mono (m := ys.length) (n := xs.length + ys.length) (by omega)
  rw [pw]
  have := pw_pos (xs.length + ys.length)
  omega

set_option maxRecDepth 20000 in
set_option maxHeartbeats 1000000 in
theorem wgcd_g (w : World) (nx : Bool) (a1 : Option Addr) (n1 c1 : Nat) (xs : List Int) (hx : Sl w (.slice a1 n1 c1) xs) (ny : Bool) (a2 : Option Addr) (n2 c2 : Nat) (ys : List Int) (hy : Sl w (.slice a2 n2 c2) ys) (hm1 : xs.length ≤ 400000) (hm2 : ys.length ≤ 400000) :
    Calls Try.prog 12 #[.agg #[.bool nx, .slice a1 n1 c1], .agg #[.bool ny, .slice a2 n2 c2]] w fun e w' => ∃ ng' ao cap rs, e = .returned (.agg #[.bool ng', .slice ao rs.length cap]) ∧ Wh w' ng' ao cap rs (((Int.gcd (sg nx (val xs)) (sg ny (val ys)) : Nat) : Int)) ∧ rs.length ≤ xs.length + ys.length + 1 ∧ Below w.heap.size w w' := by
  obtain ⟨w0, e0, bx, by', br, hb0, hs0⟩ := boxed3 w nx (.slice a1 n1 c1) ny (.slice a2 n2 c2)
  have E0 := hide e0
  have hx0 := hx.below hb0
  have hy0 := hy.below hb0
  clear e0 hs0
  go_enter Try.func12, Try.ntmps12
  go_wp2_with fail
  rw [E0.out]
  obtain ⟨ca, cb, cc, cd⟩ := bx.facts
  obtain ⟨ea, eb, ec, ed⟩ := by'.facts
  obtain ⟨da, db, dc, dd⟩ := br.facts
  refine (gcd_g _ _ _ _ _ _ _ xs ys hx0 hy0 (by omega) (by omega)).mono ?_
  rintro e w1 ⟨p1, q1, r1, rfl, G1, l1, hb1⟩
  go_wp2_with fail
  refine (signed_g _ false _ _ r1 _ G1 (by omega)).mono ?_
  rintro e w2 ⟨ng2, rfl, G2, hb2⟩
  have br2 := (br.below hb1).below hb2
  obtain ⟨ka, kb, kc, kd⟩ := br2.facts
  have SGF : Hid (sg false ((Int.gcd (val xs) (val ys) : Nat) : Int) = ((Int.gcd (sg nx (val xs)) (sg ny (val ys)) : Nat) : Int)) := by show _ = _; rw [gcd_sg]; rfl
  have X := hide (br2.set ng2 (.slice p1 r1.length q1)).facts
  have Y := hide (br2.wh ng2 (.slice p1 r1.length q1) G2)
  have Z := hide (below_set2 (hb0.trans ((hb1.trans (hb2.mono hb1.size)).mono hb0.size)) (Nat.le_add_right _ 2) (.bool ng2) (.slice p1 r1.length q1))
  skip
  go_wp2
  refine bodyPost_ret (v := .agg #[.bool ng2, .slice p1 r1.length q1]) ?_ rfl ⟨ng2, p1, q1, r1, rfl, by rw [← SGF.out]; exact Y.out, by omega, Z.out⟩
  simp [results, Try.results12, go_sem, X.out.1, X.out.2.1]

theorem gcd_z (w : World) (nx : Bool) (a1 : Option Addr) (n1 c1 : Nat) (xs : List Int) (x : Int) (hx : Ag w nx a1 n1 c1 xs x) (ny : Bool) (a2 : Option Addr) (n2 c2 : Nat) (ys : List Int) (y : Int) (hy : Ag w ny a2 n2 c2 ys y) (hm1 : xs.length ≤ 400000) (hm2 : ys.length ≤ 400000) :
    Calls Try.prog 12 #[.agg #[.bool nx, .slice a1 n1 c1], .agg #[.bool ny, .slice a2 n2 c2]] w fun e w' => ∃ ng' ao cap rs, e = .returned (.agg #[.bool ng', .slice ao rs.length cap]) ∧ Wh w' ng' ao cap rs ((Int.gcd x y : Nat) : Int) ∧ rs.length ≤ xs.length + ys.length + 1 ∧ Below w.heap.size w w' := by
  have h := wgcd_g w nx a1 n1 c1 xs hx.sl ny a2 n2 c2 ys hy.sl hm1 hm2
  rw [hx.worth, hy.worth] at h
  exact h

end Lm
end Go.Proofs.Ythbomfboohjcfad
