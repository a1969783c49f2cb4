/-
  Whole numbers: the contracts of Add, Sub, Mul, Cmp, SameWhole and LenWhole.
-/
import Derived.Test.YtjhhjefobbhdlaaWP
namespace Go.Proofs.Ytjhhjefobbhdlaa
namespace Lm
open Go.RowKit

set_option maxRecDepth 20000 in
set_option maxHeartbeats 400000 in
theorem wcmp_any (w : World) (nx : Bool) (a1 : Option Addr) (n1 c1 : Nat) (xs : List Int) (hx : Sl w (.slice a1 n1 c1) xs) (ny : Bool) (a2 : Option Addr) (n2 c2 : Nat) (ys : List Int) (hy : Sl w (.slice a2 n2 c2) ys) (hm1 : xs.length ≤ 400000) (hm2 : ys.length ≤ 400000) :
    Calls Try.prog 30 #[.agg #[.bool nx, .slice a1 n1 c1], .agg #[.bool ny, .slice a2 n2 c2]] w fun e w' => e = .returned (.int .i64 (cmpI (sg nx (val xs)) (sg ny (val ys)))) ∧ Below w.heap.size w w' := by
  obtain ⟨w0, e0, bx, by', hb0, hs0⟩ := boxed2 w nx (.slice a1 n1 c1) ny (.slice a2 n2 c2)
  have E0 := hide e0
  have hx0 := hx.below hb0
  have hy0 := hy.below hb0
  clear e0 hs0
  have hvx := (val_bounds hx.parts.2.2.2).1
  have hvy := (val_bounds hy.parts.2.2.2).1
  have CS := hide (cmp_sign nx ny hvx hvy)
  go_enter Try.func30, Try.ntmps30
  go_wp2_with fail
  rw [E0.out]
  obtain ⟨ca, cb, cc, cd⟩ := bx.facts
  obtain ⟨ea, eb, ec, ed⟩ := by'.facts
  go_region_held3 (fun w' => w'.cell? ⟨w.heap.size, 0, none⟩ = some (.bool nx) ∧ w'.cell? ⟨w.heap.size, 1, none⟩ = some (.slice a1 n1 c1) ∧ w'.cell? ⟨w.heap.size + 1, 0, none⟩ = some (.bool ny) ∧ w'.cell? ⟨w.heap.size + 1, 1, none⟩ = some (.slice a2 n2 c2)) (go_keep) (first
    | (go_at_call 13; have _hq := hb1'; refine (wsign_any _ ny a2 n2 c2 ys ((hy0.below hb1').below (by repeat (first | exact Below.refl _ _ | refine Below.drew ?_))) (by omega)).mono ?_; rintro e w2 ⟨rfl, hb2⟩; have hb2' : Below w1.heap.size w1 w2 := (show Below w1.heap.size w1 _ by repeat (first | exact Below.refl _ _ | refine Below.drew ?_)).trans hb2; have bx2 := bx1.below hb2'; obtain ⟨bx2a, bx2b, bx2c, bx2d⟩ := bx2.facts; have by2 := by1.below hb2'; obtain ⟨by2a, by2b, by2c, by2d⟩ := by2.facts)
    | (go_at_call 13; refine (wsign_any _ nx a1 n1 c1 xs (hx0.below (by repeat (first | exact Below.refl _ _ | refine Below.drew ?_))) (by omega)).mono ?_; rintro e w1 ⟨rfl, hb1⟩; have hb1' : Below w0.heap.size w0 w1 := (show Below w0.heap.size w0 _ by repeat (first | exact Below.refl _ _ | refine Below.drew ?_)).trans hb1; have bx1 := bx.below hb1'; obtain ⟨bx1a, bx1b, bx1c, bx1d⟩ := bx1.facts; have by1 := by'.below hb1'; obtain ⟨by1a, by1b, by1c, by1d⟩ := by1.facts))
  all_goals
    have hx2 := (hx0.below hb1').below hb2'
    have hy2 := (hy0.below hb1').below hb2'
    have Z := hide (hb0.trans ((hb1'.trans (hb2'.mono hb1'.size)).mono hb0.size))
    clear bx1a bx1b bx1c bx1d by1a by1b by1c by1d ca cb cc cd ea eb ec ed
    have hs1 := sign_three (sg nx (val xs))
    generalize Int.sign (sg nx (val xs)) = s1 at *
    generalize Int.sign (sg ny (val ys)) = s2 at *
    by_cases h1 : s1 < s2
    · have R := hide (CS.out.1 h1)
      go_wp2
      go_ret
      exact ⟨ret_i64 R.out.symm, Z.out⟩
    · by_cases h2 : s2 < s1
      · have R := hide (CS.out.2.1 h2)
        go_wp2
        go_ret
        exact ⟨ret_i64 R.out.symm, Z.out⟩
      · have R := hide (CS.out.2.2 (by omega))
        have kc := hide (cmp_any _ _ _ _ _ _ _ xs ys hx2 hy2)
        have hk3 := hide (cmpI_three (val xs) (val ys))
        generalize cmpI (val xs) (val ys) = k at kc R hk3
        go_wp2_with fail
        refine (kc.out).mono ?_
        rintro e w3 ⟨rfl, hb3⟩
        have Z3 := hide (Z.out.trans (hb3.mono Z.out.size))
        clear kc
        rcases hk3.out with hk | hk | hk
        all_goals
          subst hk
          go_wp2
          go_ret
          exact ⟨ret_i64 (by rw [R.out]; first | rfl | omega), Z3.out⟩

end Lm
end Go.Proofs.Ytjhhjefobbhdlaa
