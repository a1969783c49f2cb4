/-
  The contract of the reference's Add.
-/
import Derived.Test.YthbomfboohjcfaaDN
namespace Go.Proofs.Ythbomfboohjcfaa
namespace Dm
open Go.RowKit
open Lm (hide lt_of_cell lt_of_heap cmpI cmpI_lt cmpI_gt)

set_option maxRecDepth 20000 in
set_option maxHeartbeats 1000000 in
theorem nadd_same (w : World) (n1 : Bool) (a1 : Option Addr) (c1 : Nat) (xs : List Int) (x : Int) (hx : Got w a1 c1 xs x) (a2 : Option Addr) (c2 : Nat) (ys : List Int) (y : Int) (hy : Got w a2 c2 ys y) (m1 : xs.length ≤ 400000) (m2 : ys.length ≤ 400000) :
    Calls Try.prog 46 #[.agg #[.bool n1, .slice a1 xs.length c1], .agg #[.bool n1, .slice a2 ys.length c2]] w fun e w' => ∃ ng' ao cap rs, e = .returned (.agg #[.bool ng', .slice ao rs.length cap]) ∧ Wh w' ng' ao cap rs (sg n1 x + sg n1 y) ∧ rs.length ≤ xs.length + ys.length + 1 ∧ Below w.heap.size w w' := by
  obtain ⟨w0, e0, bx, by', br, hb0, hs0⟩ := boxed3 w n1 (.slice a1 xs.length c1) (n1) (.slice a2 ys.length c2)
  have E0 := hide e0
  have hx0 := hx.below hb0
  have hy0 := hy.below hb0
  have HB := hb0
  have ne1 : ¬ (w.heap.size = w.heap.size + 1 + 1) := by omega
  have ne2 : ¬ (w.heap.size + 1 + 1 = w.heap.size) := by omega
  clear e0 hs0
  cases n1 with
  | false =>
    go_enter Try.func46, Try.ntmps46
    go_wp2_with fail
    rw [E0.out]
    obtain ⟨bx1, bx2, bx3, bx4⟩ := bx.facts
    obtain ⟨by1, by2, by3, by4⟩ := by'.facts
    obtain ⟨br1, br2, br3, br4⟩ := br.facts
    go_region_held3 (fun w' => w'.cell? ⟨w.heap.size, 0, none⟩ = some (.bool false) ∧ w'.cell? ⟨w.heap.size, 1, none⟩ = some (.slice a1 xs.length c1) ∧ w'.cell? ⟨w.heap.size + 1, 0, none⟩ = some (.bool false) ∧ w'.cell? ⟨w.heap.size + 1, 1, none⟩ = some (.slice a2 ys.length c2)) (go_keep) (first
        | (go_at_call 66; have _hq := hb1'; refine (made_w _ _ p1 q1 d1 _ (s1.below (by repeat (first | exact Below.refl _ _ | refine Below.drew ?_))) e1).mono ?_; rintro e w2 ⟨ng2, r2, rfl, G2, l2, hb2⟩; have hb2' : Below w1.heap.size w1 w2 := (show Below w1.heap.size w1 _ by repeat (first | exact Below.refl _ _ | refine Below.drew ?_)).trans hb2; have HB := HB.trans (hb2'.mono HB.size); replace bx := bx.below hb2'; clear bx1 bx2 bx3 bx4; obtain ⟨bx1, bx2, bx3, bx4⟩ := bx.facts; replace by' := by'.below hb2'; clear by1 by2 by3 by4; obtain ⟨by1, by2, by3, by4⟩ := by'.facts; replace br := br.below hb2'; clear br1 br2 br3 br4; obtain ⟨br1, br2, br3, br4⟩ := br.facts)
        | (go_at_call 69; refine (plus_any _ _ _ _ xs (hx0.sl.below (by repeat (first | exact Below.refl _ _ | refine Below.drew ?_))) _ _ _ ys (hy0.sl.below (by repeat (first | exact Below.refl _ _ | refine Below.drew ?_))) (by omega) (by omega)).mono ?_; rintro e w1 ⟨v1, rfl, D1, hb1⟩; obtain ⟨p1, q1, d1, rfl, s1, e1, l1⟩ := D1.open; clear D1; have hb1' : Below w0.heap.size w0 w1 := (show Below w0.heap.size w0 _ by repeat (first | exact Below.refl _ _ | refine Below.drew ?_)).trans hb1; have HB := HB.trans (hb1'.mono HB.size); replace bx := bx.below hb1'; clear bx1 bx2 bx3 bx4; obtain ⟨bx1, bx2, bx3, bx4⟩ := bx.facts; replace by' := by'.below hb1'; clear by1 by2 by3 by4; obtain ⟨by1, by2, by3, by4⟩ := by'.facts; replace br := br.below hb1'; clear br1 br2 br3 br4; obtain ⟨br1, br2, br3, br4⟩ := br.facts))
    all_goals
      have X := hide (br.set ng2 (.slice p1 r2.length q1)).facts
      have Y := hide (br.wh ng2 (.slice p1 r2.length q1) G2)
      have Z := hide (below_set2 HB (show w.heap.size ≤ w.heap.size + 1 + 1 by omega) (.bool ng2) (.slice p1 r2.length q1))
      clear bx1 bx2 bx3 bx4 by1 by2 by3 by4
      go_wp2
      refine bodyPost_ret (v := .agg #[.bool ng2, .slice p1 r2.length q1]) ?_ rfl ⟨ng2, p1, q1, r2, rfl, by rw [← sg_add, ← hx.val, ← hy.val]; exact Y.out, by omega, Z.out⟩
      simp [results, Try.results46, go_sem, X.out.1, X.out.2.1]
  | true =>
    go_enter Try.func46, Try.ntmps46
    go_wp2_with fail
    rw [E0.out]
    obtain ⟨bx1, bx2, bx3, bx4⟩ := bx.facts
    obtain ⟨by1, by2, by3, by4⟩ := by'.facts
    obtain ⟨br1, br2, br3, br4⟩ := br.facts
    go_region_held3 (fun w' => w'.cell? ⟨w.heap.size, 0, none⟩ = some (.bool true) ∧ w'.cell? ⟨w.heap.size, 1, none⟩ = some (.slice a1 xs.length c1) ∧ w'.cell? ⟨w.heap.size + 1, 0, none⟩ = some (.bool true) ∧ w'.cell? ⟨w.heap.size + 1, 1, none⟩ = some (.slice a2 ys.length c2)) (go_keep) (first
        | (go_at_call 66; have _hq := hb1'; refine (made_w _ _ p1 q1 d1 _ (s1.below (by repeat (first | exact Below.refl _ _ | refine Below.drew ?_))) e1).mono ?_; rintro e w2 ⟨ng2, r2, rfl, G2, l2, hb2⟩; have hb2' : Below w1.heap.size w1 w2 := (show Below w1.heap.size w1 _ by repeat (first | exact Below.refl _ _ | refine Below.drew ?_)).trans hb2; have HB := HB.trans (hb2'.mono HB.size); replace bx := bx.below hb2'; clear bx1 bx2 bx3 bx4; obtain ⟨bx1, bx2, bx3, bx4⟩ := bx.facts; replace by' := by'.below hb2'; clear by1 by2 by3 by4; obtain ⟨by1, by2, by3, by4⟩ := by'.facts; replace br := br.below hb2'; clear br1 br2 br3 br4; obtain ⟨br1, br2, br3, br4⟩ := br.facts)
        | (go_at_call 69; refine (plus_any _ _ _ _ xs (hx0.sl.below (by repeat (first | exact Below.refl _ _ | refine Below.drew ?_))) _ _ _ ys (hy0.sl.below (by repeat (first | exact Below.refl _ _ | refine Below.drew ?_))) (by omega) (by omega)).mono ?_; rintro e w1 ⟨v1, rfl, D1, hb1⟩; obtain ⟨p1, q1, d1, rfl, s1, e1, l1⟩ := D1.open; clear D1; have hb1' : Below w0.heap.size w0 w1 := (show Below w0.heap.size w0 _ by repeat (first | exact Below.refl _ _ | refine Below.drew ?_)).trans hb1; have HB := HB.trans (hb1'.mono HB.size); replace bx := bx.below hb1'; clear bx1 bx2 bx3 bx4; obtain ⟨bx1, bx2, bx3, bx4⟩ := bx.facts; replace by' := by'.below hb1'; clear by1 by2 by3 by4; obtain ⟨by1, by2, by3, by4⟩ := by'.facts; replace br := br.below hb1'; clear br1 br2 br3 br4; obtain ⟨br1, br2, br3, br4⟩ := br.facts))
    all_goals
      have X := hide (br.set ng2 (.slice p1 r2.length q1)).facts
      have Y := hide (br.wh ng2 (.slice p1 r2.length q1) G2)
      have Z := hide (below_set2 HB (show w.heap.size ≤ w.heap.size + 1 + 1 by omega) (.bool ng2) (.slice p1 r2.length q1))
      clear bx1 bx2 bx3 bx4 by1 by2 by3 by4
      go_wp2
      refine bodyPost_ret (v := .agg #[.bool ng2, .slice p1 r2.length q1]) ?_ rfl ⟨ng2, p1, q1, r2, rfl, by rw [← sg_add, ← hx.val, ← hy.val]; exact Y.out, by omega, Z.out⟩
      simp [results, Try.results46, go_sem, X.out.1, X.out.2.1]

set_option maxRecDepth 20000 in
set_option maxHeartbeats 1000000 in
theorem nadd_ge (w : World) (n1 : Bool) (a1 : Option Addr) (c1 : Nat) (xs : List Int) (x : Int) (hx : Got w a1 c1 xs x) (a2 : Option Addr) (c2 : Nat) (ys : List Int) (y : Int) (hy : Got w a2 c2 ys y) (m1 : xs.length ≤ 400000) (m2 : ys.length ≤ 400000) (hle : y ≤ x) (h0 : 0 < x) :
    Calls Try.prog 46 #[.agg #[.bool n1, .slice a1 xs.length c1], .agg #[.bool (!n1), .slice a2 ys.length c2]] w fun e w' => ∃ ng' ao cap rs, e = .returned (.agg #[.bool ng', .slice ao rs.length cap]) ∧ Wh w' ng' ao cap rs (sg n1 x + sg (!n1) y) ∧ rs.length ≤ xs.length + ys.length + 1 ∧ Below w.heap.size w w' := by
  obtain ⟨w0, e0, bx, by', br, hb0, hs0⟩ := boxed3 w n1 (.slice a1 xs.length c1) (!n1) (.slice a2 ys.length c2)
  have E0 := hide e0
  have hx0 := hx.below hb0
  have hy0 := hy.below hb0
  have HB := hb0
  have ne1 : ¬ (w.heap.size = w.heap.size + 1 + 1) := by omega
  have ne2 : ¬ (w.heap.size + 1 + 1 = w.heap.size) := by omega
  clear e0 hs0
  have K := hide (fun w hx hy => size_any w n1 (!n1) a1 a2 c1 c2 xs ys x y hx hy)
  have hc : 0 ≤ cmpI x y := by
    rcases Int.lt_trichotomy x y with h | h | h
    · omega
    · rw [Lm.cmpI_eq h]; omega
    · rw [cmpI_gt h]; omega
  have hpos : 0 < xs.length := by
    apply Classical.byContradiction
    intro hn
    have := got_zero hx (by omega)
    omega
  have hlen : ys.length ≤ xs.length := by
    apply Classical.byContradiction
    intro hn
    have := canon_lt hx.canon hy.canon (by omega)
    rw [hx.val, hy.val] at this
    omega
  generalize cmpI x y = cv at K hc
  cases n1 with
  | false =>
    simp only [Bool.not_false] at E0 by' K ⊢
    go_enter Try.func46, Try.ntmps46
    go_wp2_with fail
    rw [E0.out]
    obtain ⟨bx1, bx2, bx3, bx4⟩ := bx.facts
    obtain ⟨by1, by2, by3, by4⟩ := by'.facts
    obtain ⟨br1, br2, br3, br4⟩ := br.facts
    refine (K.out _ hx0 hy0).mono ?_
    rintro e w9 ⟨rfl, hb9⟩
    replace HB := HB.trans (hb9.mono HB.size)
    replace hx0 := hx0.below hb9
    replace hy0 := hy0.below hb9
    replace bx := bx.below hb9
    replace by' := by'.below hb9
    replace br := br.below hb9
    clear bx1 bx2 bx3 bx4 by1 by2 by3 by4 br1 br2 br3 br4
    obtain ⟨bx1, bx2, bx3, bx4⟩ := bx.facts
    obtain ⟨by1, by2, by3, by4⟩ := by'.facts
    obtain ⟨br1, br2, br3, br4⟩ := br.facts
    go_wp2_with fail
    go_region_held3 (fun w' => w'.cell? ⟨w.heap.size, 0, none⟩ = some (.bool false) ∧ w'.cell? ⟨w.heap.size, 1, none⟩ = some (.slice a1 xs.length c1) ∧ w'.cell? ⟨w.heap.size + 1, 0, none⟩ = some (.bool true) ∧ w'.cell? ⟨w.heap.size + 1, 1, none⟩ = some (.slice a2 ys.length c2)) (go_keep) (first
        | (go_at_call 66; have _hq := hb1'; refine (made_w _ _ p1 q1 d1 _ (s1.below (by repeat (first | exact Below.refl _ _ | refine Below.drew ?_))) e1).mono ?_; rintro e w2 ⟨ng2, r2, rfl, G2, l2, hb2⟩; have hb2' : Below w1.heap.size w1 w2 := (show Below w1.heap.size w1 _ by repeat (first | exact Below.refl _ _ | refine Below.drew ?_)).trans hb2; have HB := HB.trans (hb2'.mono HB.size); replace bx := bx.below hb2'; clear bx1 bx2 bx3 bx4; obtain ⟨bx1, bx2, bx3, bx4⟩ := bx.facts; replace by' := by'.below hb2'; clear by1 by2 by3 by4; obtain ⟨by1, by2, by3, by4⟩ := by'.facts; replace br := br.below hb2'; clear br1 br2 br3 br4; obtain ⟨br1, br2, br3, br4⟩ := br.facts)
        | (go_at_call 70; refine (less_any _ _ _ _ xs (hx0.sl.below (by repeat (first | exact Below.refl _ _ | refine Below.drew ?_))) _ _ _ ys (hy0.sl.below (by repeat (first | exact Below.refl _ _ | refine Below.drew ?_))) (by omega) hlen (by rw [hx.val, hy.val]; exact hle) hpos).mono ?_; rintro e w1 ⟨v1, rfl, D1, hb1⟩; obtain ⟨p1, q1, d1, rfl, s1, e1, l1⟩ := D1.open; clear D1; have hb1' : Below w9.heap.size w9 w1 := (show Below w9.heap.size w9 _ by repeat (first | exact Below.refl _ _ | refine Below.drew ?_)).trans hb1; have HB := HB.trans (hb1'.mono HB.size); replace bx := bx.below hb1'; clear bx1 bx2 bx3 bx4; obtain ⟨bx1, bx2, bx3, bx4⟩ := bx.facts; replace by' := by'.below hb1'; clear by1 by2 by3 by4; obtain ⟨by1, by2, by3, by4⟩ := by'.facts; replace br := br.below hb1'; clear br1 br2 br3 br4; obtain ⟨br1, br2, br3, br4⟩ := br.facts))
    all_goals
      have X := hide (br.set ng2 (.slice p1 r2.length q1)).facts
      have Y := hide (br.wh ng2 (.slice p1 r2.length q1) G2)
      have Z := hide (below_set2 HB (show w.heap.size ≤ w.heap.size + 1 + 1 by omega) (.bool ng2) (.slice p1 r2.length q1))
      clear bx1 bx2 bx3 bx4 by1 by2 by3 by4
      go_wp2
      refine bodyPost_ret (v := .agg #[.bool ng2, .slice p1 r2.length q1]) ?_ rfl ⟨ng2, p1, q1, r2, rfl, by rw [show sg false x + sg true y = sg false (Dm.val xs - Dm.val ys) by rw [hx.val, hy.val]; simp [sg]; omega]; exact Y.out, by omega, Z.out⟩
      simp [results, Try.results46, go_sem, X.out.1, X.out.2.1]
  | true =>
    simp only [Bool.not_true] at E0 by' K ⊢
    go_enter Try.func46, Try.ntmps46
    go_wp2_with fail
    rw [E0.out]
    obtain ⟨bx1, bx2, bx3, bx4⟩ := bx.facts
    obtain ⟨by1, by2, by3, by4⟩ := by'.facts
    obtain ⟨br1, br2, br3, br4⟩ := br.facts
    refine (K.out _ hx0 hy0).mono ?_
    rintro e w9 ⟨rfl, hb9⟩
    replace HB := HB.trans (hb9.mono HB.size)
    replace hx0 := hx0.below hb9
    replace hy0 := hy0.below hb9
    replace bx := bx.below hb9
    replace by' := by'.below hb9
    replace br := br.below hb9
    clear bx1 bx2 bx3 bx4 by1 by2 by3 by4 br1 br2 br3 br4
    obtain ⟨bx1, bx2, bx3, bx4⟩ := bx.facts
    obtain ⟨by1, by2, by3, by4⟩ := by'.facts
    obtain ⟨br1, br2, br3, br4⟩ := br.facts
    go_wp2_with fail
    go_region_held3 (fun w' => w'.cell? ⟨w.heap.size, 0, none⟩ = some (.bool true) ∧ w'.cell? ⟨w.heap.size, 1, none⟩ = some (.slice a1 xs.length c1) ∧ w'.cell? ⟨w.heap.size + 1, 0, none⟩ = some (.bool false) ∧ w'.cell? ⟨w.heap.size + 1, 1, none⟩ = some (.slice a2 ys.length c2)) (go_keep) (first
        | (go_at_call 66; have _hq := hb1'; refine (made_w _ _ p1 q1 d1 _ (s1.below (by repeat (first | exact Below.refl _ _ | refine Below.drew ?_))) e1).mono ?_; rintro e w2 ⟨ng2, r2, rfl, G2, l2, hb2⟩; have hb2' : Below w1.heap.size w1 w2 := (show Below w1.heap.size w1 _ by repeat (first | exact Below.refl _ _ | refine Below.drew ?_)).trans hb2; have HB := HB.trans (hb2'.mono HB.size); replace bx := bx.below hb2'; clear bx1 bx2 bx3 bx4; obtain ⟨bx1, bx2, bx3, bx4⟩ := bx.facts; replace by' := by'.below hb2'; clear by1 by2 by3 by4; obtain ⟨by1, by2, by3, by4⟩ := by'.facts; replace br := br.below hb2'; clear br1 br2 br3 br4; obtain ⟨br1, br2, br3, br4⟩ := br.facts)
        | (go_at_call 70; refine (less_any _ _ _ _ xs (hx0.sl.below (by repeat (first | exact Below.refl _ _ | refine Below.drew ?_))) _ _ _ ys (hy0.sl.below (by repeat (first | exact Below.refl _ _ | refine Below.drew ?_))) (by omega) hlen (by rw [hx.val, hy.val]; exact hle) hpos).mono ?_; rintro e w1 ⟨v1, rfl, D1, hb1⟩; obtain ⟨p1, q1, d1, rfl, s1, e1, l1⟩ := D1.open; clear D1; have hb1' : Below w9.heap.size w9 w1 := (show Below w9.heap.size w9 _ by repeat (first | exact Below.refl _ _ | refine Below.drew ?_)).trans hb1; have HB := HB.trans (hb1'.mono HB.size); replace bx := bx.below hb1'; clear bx1 bx2 bx3 bx4; obtain ⟨bx1, bx2, bx3, bx4⟩ := bx.facts; replace by' := by'.below hb1'; clear by1 by2 by3 by4; obtain ⟨by1, by2, by3, by4⟩ := by'.facts; replace br := br.below hb1'; clear br1 br2 br3 br4; obtain ⟨br1, br2, br3, br4⟩ := br.facts))
    all_goals
      have X := hide (br.set ng2 (.slice p1 r2.length q1)).facts
      have Y := hide (br.wh ng2 (.slice p1 r2.length q1) G2)
      have Z := hide (below_set2 HB (show w.heap.size ≤ w.heap.size + 1 + 1 by omega) (.bool ng2) (.slice p1 r2.length q1))
      clear bx1 bx2 bx3 bx4 by1 by2 by3 by4
      go_wp2
      refine bodyPost_ret (v := .agg #[.bool ng2, .slice p1 r2.length q1]) ?_ rfl ⟨ng2, p1, q1, r2, rfl, by rw [show sg true x + sg false y = sg true (Dm.val xs - Dm.val ys) by rw [hx.val, hy.val]; simp [sg]; omega]; exact Y.out, by omega, Z.out⟩
      simp [results, Try.results46, go_sem, X.out.1, X.out.2.1]

set_option maxRecDepth 20000 in
set_option maxHeartbeats 1000000 in
theorem nadd_lt (w : World) (n1 : Bool) (a1 : Option Addr) (c1 : Nat) (xs : List Int) (x : Int) (hx : Got w a1 c1 xs x) (a2 : Option Addr) (c2 : Nat) (ys : List Int) (y : Int) (hy : Got w a2 c2 ys y) (m1 : xs.length ≤ 400000) (m2 : ys.length ≤ 400000) (hle : x < y) :
    Calls Try.prog 46 #[.agg #[.bool n1, .slice a1 xs.length c1], .agg #[.bool (!n1), .slice a2 ys.length c2]] w fun e w' => ∃ ng' ao cap rs, e = .returned (.agg #[.bool ng', .slice ao rs.length cap]) ∧ Wh w' ng' ao cap rs (sg n1 x + sg (!n1) y) ∧ rs.length ≤ xs.length + ys.length + 1 ∧ Below w.heap.size w w' := by
  obtain ⟨w0, e0, bx, by', br, hb0, hs0⟩ := boxed3 w n1 (.slice a1 xs.length c1) (!n1) (.slice a2 ys.length c2)
  have E0 := hide e0
  have hx0 := hx.below hb0
  have hy0 := hy.below hb0
  have HB := hb0
  have ne1 : ¬ (w.heap.size = w.heap.size + 1 + 1) := by omega
  have ne2 : ¬ (w.heap.size + 1 + 1 = w.heap.size) := by omega
  clear e0 hs0
  have K := hide (fun w hx hy => size_any w n1 (!n1) a1 a2 c1 c2 xs ys x y hx hy)
  have hc : ¬ 0 ≤ cmpI x y := by rw [cmpI_lt hle]; omega
  have hpos : 0 < ys.length := by
    apply Classical.byContradiction
    intro hn
    have h1 := got_zero hy (by omega)
    have h2 := (val_bounds hx.canon.1).1
    rw [hx.val] at h2
    omega
  have hlen : xs.length ≤ ys.length := by
    apply Classical.byContradiction
    intro hn
    have := canon_lt hy.canon hx.canon (by omega)
    rw [hx.val, hy.val] at this
    omega
  generalize cmpI x y = cv at K hc
  cases n1 with
  | false =>
    simp only [Bool.not_false] at E0 by' K ⊢
    go_enter Try.func46, Try.ntmps46
    go_wp2_with fail
    rw [E0.out]
    obtain ⟨bx1, bx2, bx3, bx4⟩ := bx.facts
    obtain ⟨by1, by2, by3, by4⟩ := by'.facts
    obtain ⟨br1, br2, br3, br4⟩ := br.facts
    refine (K.out _ hx0 hy0).mono ?_
    rintro e w9 ⟨rfl, hb9⟩
    replace HB := HB.trans (hb9.mono HB.size)
    replace hx0 := hx0.below hb9
    replace hy0 := hy0.below hb9
    replace bx := bx.below hb9
    replace by' := by'.below hb9
    replace br := br.below hb9
    clear bx1 bx2 bx3 bx4 by1 by2 by3 by4 br1 br2 br3 br4
    obtain ⟨bx1, bx2, bx3, bx4⟩ := bx.facts
    obtain ⟨by1, by2, by3, by4⟩ := by'.facts
    obtain ⟨br1, br2, br3, br4⟩ := br.facts
    go_wp2_with fail
    go_region_held3 (fun w' => w'.cell? ⟨w.heap.size, 0, none⟩ = some (.bool false) ∧ w'.cell? ⟨w.heap.size, 1, none⟩ = some (.slice a1 xs.length c1) ∧ w'.cell? ⟨w.heap.size + 1, 0, none⟩ = some (.bool true) ∧ w'.cell? ⟨w.heap.size + 1, 1, none⟩ = some (.slice a2 ys.length c2)) (go_keep) (first
        | (go_at_call 66; have _hq := hb1'; refine (made_w _ _ p1 q1 d1 _ (s1.below (by repeat (first | exact Below.refl _ _ | refine Below.drew ?_))) e1).mono ?_; rintro e w2 ⟨ng2, r2, rfl, G2, l2, hb2⟩; have hb2' : Below w1.heap.size w1 w2 := (show Below w1.heap.size w1 _ by repeat (first | exact Below.refl _ _ | refine Below.drew ?_)).trans hb2; have HB := HB.trans (hb2'.mono HB.size); replace bx := bx.below hb2'; clear bx1 bx2 bx3 bx4; obtain ⟨bx1, bx2, bx3, bx4⟩ := bx.facts; replace by' := by'.below hb2'; clear by1 by2 by3 by4; obtain ⟨by1, by2, by3, by4⟩ := by'.facts; replace br := br.below hb2'; clear br1 br2 br3 br4; obtain ⟨br1, br2, br3, br4⟩ := br.facts)
        | (go_at_call 70; refine (less_any _ _ _ _ ys (hy0.sl.below (by repeat (first | exact Below.refl _ _ | refine Below.drew ?_))) _ _ _ xs (hx0.sl.below (by repeat (first | exact Below.refl _ _ | refine Below.drew ?_))) (by omega) hlen (by rw [hx.val, hy.val]; omega) hpos).mono ?_; rintro e w1 ⟨v1, rfl, D1, hb1⟩; obtain ⟨p1, q1, d1, rfl, s1, e1, l1⟩ := D1.open; clear D1; have hb1' : Below w9.heap.size w9 w1 := (show Below w9.heap.size w9 _ by repeat (first | exact Below.refl _ _ | refine Below.drew ?_)).trans hb1; have HB := HB.trans (hb1'.mono HB.size); replace bx := bx.below hb1'; clear bx1 bx2 bx3 bx4; obtain ⟨bx1, bx2, bx3, bx4⟩ := bx.facts; replace by' := by'.below hb1'; clear by1 by2 by3 by4; obtain ⟨by1, by2, by3, by4⟩ := by'.facts; replace br := br.below hb1'; clear br1 br2 br3 br4; obtain ⟨br1, br2, br3, br4⟩ := br.facts))
    all_goals
      have X := hide (br.set ng2 (.slice p1 r2.length q1)).facts
      have Y := hide (br.wh ng2 (.slice p1 r2.length q1) G2)
      have Z := hide (below_set2 HB (show w.heap.size ≤ w.heap.size + 1 + 1 by omega) (.bool ng2) (.slice p1 r2.length q1))
      clear bx1 bx2 bx3 bx4 by1 by2 by3 by4
      go_wp2
      refine bodyPost_ret (v := .agg #[.bool ng2, .slice p1 r2.length q1]) ?_ rfl ⟨ng2, p1, q1, r2, rfl, by rw [show sg false x + sg true y = sg true (Dm.val ys - Dm.val xs) by rw [hx.val, hy.val]; simp [sg]; omega]; exact Y.out, by omega, Z.out⟩
      simp [results, Try.results46, go_sem, X.out.1, X.out.2.1]
  | true =>
    simp only [Bool.not_true] at E0 by' K ⊢
    go_enter Try.func46, Try.ntmps46
    go_wp2_with fail
    rw [E0.out]
    obtain ⟨bx1, bx2, bx3, bx4⟩ := bx.facts
    obtain ⟨by1, by2, by3, by4⟩ := by'.facts
    obtain ⟨br1, br2, br3, br4⟩ := br.facts
    refine (K.out _ hx0 hy0).mono ?_
    rintro e w9 ⟨rfl, hb9⟩
    replace HB := HB.trans (hb9.mono HB.size)
    replace hx0 := hx0.below hb9
    replace hy0 := hy0.below hb9
    replace bx := bx.below hb9
    replace by' := by'.below hb9
    replace br := br.below hb9
    clear bx1 bx2 bx3 bx4 by1 by2 by3 by4 br1 br2 br3 br4
    obtain ⟨bx1, bx2, bx3, bx4⟩ := bx.facts
    obtain ⟨by1, by2, by3, by4⟩ := by'.facts
    obtain ⟨br1, br2, br3, br4⟩ := br.facts
    go_wp2_with fail
    go_region_held3 (fun w' => w'.cell? ⟨w.heap.size, 0, none⟩ = some (.bool true) ∧ w'.cell? ⟨w.heap.size, 1, none⟩ = some (.slice a1 xs.length c1) ∧ w'.cell? ⟨w.heap.size + 1, 0, none⟩ = some (.bool false) ∧ w'.cell? ⟨w.heap.size + 1, 1, none⟩ = some (.slice a2 ys.length c2)) (go_keep) (first
        | (go_at_call 66; have _hq := hb1'; refine (made_w _ _ p1 q1 d1 _ (s1.below (by repeat (first | exact Below.refl _ _ | refine Below.drew ?_))) e1).mono ?_; rintro e w2 ⟨ng2, r2, rfl, G2, l2, hb2⟩; have hb2' : Below w1.heap.size w1 w2 := (show Below w1.heap.size w1 _ by repeat (first | exact Below.refl _ _ | refine Below.drew ?_)).trans hb2; have HB := HB.trans (hb2'.mono HB.size); replace bx := bx.below hb2'; clear bx1 bx2 bx3 bx4; obtain ⟨bx1, bx2, bx3, bx4⟩ := bx.facts; replace by' := by'.below hb2'; clear by1 by2 by3 by4; obtain ⟨by1, by2, by3, by4⟩ := by'.facts; replace br := br.below hb2'; clear br1 br2 br3 br4; obtain ⟨br1, br2, br3, br4⟩ := br.facts)
        | (go_at_call 70; refine (less_any _ _ _ _ ys (hy0.sl.below (by repeat (first | exact Below.refl _ _ | refine Below.drew ?_))) _ _ _ xs (hx0.sl.below (by repeat (first | exact Below.refl _ _ | refine Below.drew ?_))) (by omega) hlen (by rw [hx.val, hy.val]; omega) hpos).mono ?_; rintro e w1 ⟨v1, rfl, D1, hb1⟩; obtain ⟨p1, q1, d1, rfl, s1, e1, l1⟩ := D1.open; clear D1; have hb1' : Below w9.heap.size w9 w1 := (show Below w9.heap.size w9 _ by repeat (first | exact Below.refl _ _ | refine Below.drew ?_)).trans hb1; have HB := HB.trans (hb1'.mono HB.size); replace bx := bx.below hb1'; clear bx1 bx2 bx3 bx4; obtain ⟨bx1, bx2, bx3, bx4⟩ := bx.facts; replace by' := by'.below hb1'; clear by1 by2 by3 by4; obtain ⟨by1, by2, by3, by4⟩ := by'.facts; replace br := br.below hb1'; clear br1 br2 br3 br4; obtain ⟨br1, br2, br3, br4⟩ := br.facts))
    all_goals
      have X := hide (br.set ng2 (.slice p1 r2.length q1)).facts
      have Y := hide (br.wh ng2 (.slice p1 r2.length q1) G2)
      have Z := hide (below_set2 HB (show w.heap.size ≤ w.heap.size + 1 + 1 by omega) (.bool ng2) (.slice p1 r2.length q1))
      clear bx1 bx2 bx3 bx4 by1 by2 by3 by4
      go_wp2
      refine bodyPost_ret (v := .agg #[.bool ng2, .slice p1 r2.length q1]) ?_ rfl ⟨ng2, p1, q1, r2, rfl, by rw [show sg true x + sg false y = sg false (Dm.val ys - Dm.val xs) by rw [hx.val, hy.val]; simp [sg]; omega]; exact Y.out, by omega, Z.out⟩
      simp [results, Try.results46, go_sem, X.out.1, X.out.2.1]

theorem nadd_g (w : World) (n1 : Bool) (a1 : Option Addr) (c1 : Nat) (xs : List Int) (x : Int) (hx : Wh w n1 a1 c1 xs x) (n2 : Bool) (a2 : Option Addr) (c2 : Nat) (ys : List Int) (y : Int) (hy : Wh w n2 a2 c2 ys y) (m1 : xs.length ≤ 400000) (m2 : ys.length ≤ 400000) :
    Calls Try.prog 46 #[.agg #[.bool n1, .slice a1 xs.length c1], .agg #[.bool n2, .slice a2 ys.length c2]] w fun e w' => ∃ ng' ao cap rs, e = .returned (.agg #[.bool ng', .slice ao rs.length cap]) ∧ Wh w' ng' ao cap rs (x + y) ∧ rs.length ≤ xs.length + ys.length + 1 ∧ Below w.heap.size w w' := by
  have wx := hx.worth
  have wy := hy.worth
  rw [hx.1.val] at wx
  rw [hy.1.val] at wy
  rw [show x + y = sg n1 (x.natAbs : Int) + sg n2 (y.natAbs : Int) by rw [wx, wy]]
  by_cases hn : n1 = n2
  · subst hn
    exact nadd_same w n1 a1 c1 xs _ hx.1 a2 c2 ys _ hy.1 m1 m2
  · have hn2 : n2 = !n1 := by cases n1 <;> cases n2 <;> simp_all
    have s1 := hx.2
    have s2 := hy.2
    subst hn2
    by_cases hle : (y.natAbs : Int) ≤ (x.natAbs : Int)
    · refine nadd_ge w n1 a1 c1 xs _ hx.1 a2 c2 ys _ hy.1 m1 m2 hle ?_
      cases n1
      · have : y < 0 := by simpa using s2.symm
        omega
      · have : x < 0 := by simpa using s1.symm
        omega
    · exact nadd_lt w n1 a1 c1 xs _ hx.1 a2 c2 ys _ hy.1 m1 m2 (by omega)

end Dm
end Go.Proofs.Ythbomfboohjcfaa
