/-
  The statements' awake answers true.
-/
import Derived.Test.YtjhhjefobbhdlaaWG
import Derived.Test.YtjhhjefobbhdlaaWF
import Derived.Test.YtjhhjefobbhdlaaWT
namespace Go.Proofs.Ytjhhjefobbhdlaa
namespace Lm
open Go.RowKit

theorem divmod_z (w : World) (nx : Bool) (a1 : Option Addr) (n1 c1 : Nat) (xs : List Int) (x : Int) (hx : Ag w nx a1 n1 c1 xs x) (ny : Bool) (a2 : Option Addr) (n2 c2 : Nat) (ys : List Int) (y : Int) (hy : Ag w ny a2 n2 c2 ys y) (hm1 : xs.length ≤ 400000) (hm2 : ys.length ≤ 400000) (h0 : y ≠ 0) :
    Calls Try.prog 40 #[.agg #[.bool nx, .slice a1 n1 c1], .agg #[.bool ny, .slice a2 n2 c2]] w fun e w' => ∃ nq aq cq qs nr ar cr rs, e = .returned (.tuple #[.agg #[.bool nq, .slice aq qs.length cq], .agg #[.bool nr, .slice ar rs.length cr], .bool true]) ∧ Wh w' nq aq cq qs (x / y) ∧ Wh w' nr ar cr rs (x % y) ∧ qs.length ≤ xs.length + 4 ∧ rs.length ≤ ys.length ∧ Below w.heap.size w w' := by
  have h := wdivmod_g w nx a1 n1 c1 xs hx.sl ny a2 n2 c2 ys hy.sl hm1 hm2 (fun e => h0 (by rw [← hy.worth, e]; cases ny <;> simp [sg]))
  rw [hx.worth, hy.worth] at h
  exact h

theorem dec12 : IsDec [49, 50] 12 := by
  refine ⟨?_, by decide, .inr ⟨49, _, rfl, by decide⟩⟩
  intro c hc
  simp at hc
  omega

theorem text12 (w : World) (ng : Bool) (ao : Option Addr) (cap : Nat) (rs : List Int) (h : Wh w ng ao cap rs (-12)) (hl : rs.length ≤ 2) :
    Calls Try.prog 41 #[.agg #[.bool ng, .slice ao rs.length cap]] w fun e w' => e = .returned (.string ⟨#[45, 49, 50]⟩) ∧ Below w.heap.size w w' := by
  refine (wtext_neg w ng ao _ cap rs h.sl (by omega) (by rw [h.worth]; decide)).mono ?_
  rintro e w' ⟨ds, rfl, hd, hb⟩
  have e2 := isDec_one hd (show IsDec [49, 50] (val rs) by rw [h.1.val]; exact dec12)
  subst e2
  exact ⟨rfl, hb⟩

set_option maxRecDepth 20000 in
set_option maxHeartbeats 1000000 in
theorem wawake_any (w : World) : Calls Try.prog 7 #[] w fun e w' => e = .returned (.bool true) ∧ Below w.heap.size w w' := by
  have HB := Below.refl w.heap.size w
  go_enter Try.func7, Try.ntmps7
  go_wp2_with fail
  refine (lsmall_g _ (-7) (by omega) (by omega)).mono ?_
  rintro e w1 ⟨s1, p1, q1, r1, rfl, G1, l1, hb1⟩
  replace HB := HB.trans (hb1.mono HB.size)
  go_wp2_with fail
  refine (lsmall_g _ 2 (by omega) (by omega)).mono ?_
  rintro e w2 ⟨s2, p2, q2, r2, rfl, G2, l2, hb2⟩
  replace HB := HB.trans (hb2.mono HB.size)
  replace G1 := G1.below hb2
  go_wp2_with fail
  refine (divmod_z _ _ _ _ _ _ _ G1.ag _ _ _ _ _ _ G2.ag (by omega) (by omega) (by decide)).mono ?_
  rintro e w3 ⟨s3, p3, q3, r3, s4, p4, q4, r4, rfl, G3, G4, l3, l4, hb3⟩
  replace HB := HB.trans (hb3.mono HB.size)
  rw [show (-7 : Int) / 2 = -4 by decide] at G3
  rw [show (-7 : Int) % 2 = 1 by decide] at G4
  obtain ⟨w4, e4, bq, br, hb4, hs4⟩ := boxed2 w3 s3 (.slice p3 r3.length q3) s4 (.slice p4 r4.length q4)
  have E4 := hide e4
  replace HB := HB.trans (hb4.mono HB.size)
  replace G3 := G3.below hb4
  replace G4 := G4.below hb4
  clear e4 hs4 hb1 hb2 hb3 G1 G2
  go_wp2
  rw [E4.out]
  clear E4
  obtain ⟨bq1, bq2, bq3, bq4⟩ := bq.facts
  obtain ⟨br1, br2, br3, br4⟩ := br.facts
  go_region_held3 (fun w' => w'.cell? ⟨w3.heap.size, 0, none⟩ = some (.bool s3) ∧ w'.cell? ⟨w3.heap.size, 1, none⟩ = some (.slice p3 r3.length q3) ∧ w'.cell? ⟨w3.heap.size + 1, 0, none⟩ = some (.bool s4) ∧ w'.cell? ⟨w3.heap.size + 1, 1, none⟩ = some (.slice p4 r4.length q4)) (go_keep) (first
    | (go_at_call 41; have _hq := hb9'; refine (text12 _ _ _ _ _ (G9.below (by repeat (first | exact Below.refl _ _ | refine Below.drew ?_))) (by omega)).mono ?_; rintro e w10 ⟨rfl, hb10⟩; have hb10' : Below w9.heap.size w9 w10 := (show Below w9.heap.size w9 _ by repeat (first | exact Below.refl _ _ | refine Below.drew ?_)).trans hb10; have HB := HB.trans (hb10'.mono HB.size); replace bq := bq.below hb10'; clear bq1 bq2 bq3 bq4; obtain ⟨bq1, bq2, bq3, bq4⟩ := bq.facts; replace br := br.below hb10'; clear br1 br2 br3 br4; obtain ⟨br1, br2, br3, br4⟩ := br.facts)
    | (go_at_call 21; have _hq := hb8'; refine (lsmall_g _ (-12) (by omega) (by omega)).mono ?_; rintro e w9 ⟨s9, p9, q9, r9, rfl, G9, l9, hb9⟩; have hb9' : Below w8.heap.size w8 w9 := (show Below w8.heap.size w8 _ by repeat (first | exact Below.refl _ _ | refine Below.drew ?_)).trans hb9; have HB := HB.trans (hb9'.mono HB.size); replace bq := bq.below hb9'; clear bq1 bq2 bq3 bq4; obtain ⟨bq1, bq2, bq3, bq4⟩ := bq.facts; replace br := br.below hb9'; clear br1 br2 br3 br4; obtain ⟨br1, br2, br3, br4⟩ := br.facts)
    | (go_at_call 18; have _hq := hb7'; refine (same_z _ _ _ _ _ _ _ _ _ _ _ (G4.below (by repeat (first | exact Below.refl _ _ | refine Below.drew ?_))) (G7.below (by repeat (first | exact Below.refl _ _ | refine Below.drew ?_))) true (by decide)).mono ?_; rintro e w8 ⟨rfl, hb8⟩; have hb8' : Below w7.heap.size w7 w8 := (show Below w7.heap.size w7 _ by repeat (first | exact Below.refl _ _ | refine Below.drew ?_)).trans hb8; have HB := HB.trans (hb8'.mono HB.size); replace bq := bq.below hb8'; clear bq1 bq2 bq3 bq4; obtain ⟨bq1, bq2, bq3, bq4⟩ := bq.facts; replace br := br.below hb8'; clear br1 br2 br3 br4; obtain ⟨br1, br2, br3, br4⟩ := br.facts)
    | (go_at_call 21; have _hq := hb6'; refine (lsmall_g _ 1 (by omega) (by omega)).mono ?_; rintro e w7 ⟨s7, p7, q7, r7, rfl, G7, l7, hb7⟩; have hb7' : Below w6.heap.size w6 w7 := (show Below w6.heap.size w6 _ by repeat (first | exact Below.refl _ _ | refine Below.drew ?_)).trans hb7; have HB := HB.trans (hb7'.mono HB.size); replace G4 := G4.below hb7'; replace bq := bq.below hb7'; clear bq1 bq2 bq3 bq4; obtain ⟨bq1, bq2, bq3, bq4⟩ := bq.facts; replace br := br.below hb7'; clear br1 br2 br3 br4; obtain ⟨br1, br2, br3, br4⟩ := br.facts)
    | (go_at_call 18; have _hq := hb5'; refine (same_z _ _ _ _ _ _ _ _ _ _ _ (G3.below (by repeat (first | exact Below.refl _ _ | refine Below.drew ?_))) (G5.below (by repeat (first | exact Below.refl _ _ | refine Below.drew ?_))) true (by decide)).mono ?_; rintro e w6 ⟨rfl, hb6⟩; have hb6' : Below w5.heap.size w5 w6 := (show Below w5.heap.size w5 _ by repeat (first | exact Below.refl _ _ | refine Below.drew ?_)).trans hb6; have HB := HB.trans (hb6'.mono HB.size); replace G4 := G4.below hb6'; replace bq := bq.below hb6'; clear bq1 bq2 bq3 bq4; obtain ⟨bq1, bq2, bq3, bq4⟩ := bq.facts; replace br := br.below hb6'; clear br1 br2 br3 br4; obtain ⟨br1, br2, br3, br4⟩ := br.facts)
    | (go_at_call 21; refine (lsmall_g _ (-4) (by omega) (by omega)).mono ?_; rintro e w5 ⟨s5, p5, q5, r5, rfl, G5, l5, hb5⟩; have hb5' : Below w4.heap.size w4 w5 := (show Below w4.heap.size w4 _ by repeat (first | exact Below.refl _ _ | refine Below.drew ?_)).trans hb5; have HB := HB.trans (hb5'.mono HB.size); replace G3 := G3.below hb5'; replace G4 := G4.below hb5'; replace bq := bq.below hb5'; clear bq1 bq2 bq3 bq4; obtain ⟨bq1, bq2, bq3, bq4⟩ := bq.facts; replace br := br.below hb5'; clear br1 br2 br3 br4; obtain ⟨br1, br2, br3, br4⟩ := br.facts))
  all_goals
    clear bq1 bq2 bq3 bq4 br1 br2 br3 br4
    go_wp2
    go_ret
    exact ⟨rfl, HB⟩

end Lm
end Go.Proofs.Ytjhhjefobbhdlaa
