/-
  Whole numbers: the contract of DivMod.
-/
import Derived.Test.YtjhhjefobbhdlaaDivL
import Derived.Test.YtjhhjefobbhdlaaWD
namespace Go.Proofs.Ytjhhjefobbhdlaa
namespace Lm
open Go.RowKit

theorem boxed4 (w : World) (nx : Bool) (vx : Value) (ny : Bool) (vy : Value) : ∃ w0 : World, (((w.alloc (.cells #[.bool nx, vx] 24)).alloc (.cells #[.bool ny, vy] 24)).alloc (.cells #[.bool false, .slice none 0 0] 24)).alloc (.cells #[.bool false, .slice none 0 0] 24) = w0 ∧ Box w0 w.heap.size nx vx ∧ Box w0 (w.heap.size + 1) ny vy ∧ Box w0 (w.heap.size + 1 + 1) false (.slice none 0 0) ∧ Box w0 (w.heap.size + 1 + 1 + 1) false (.slice none 0 0) ∧ Below w.heap.size w w0 ∧ w0.heap.size = w.heap.size + 4 := by
  obtain ⟨w2, e2, b1, b2, b3, hb, hs⟩ := boxed3 w nx vx ny vy
  have h2 := boxed w2 false (.slice none 0 0)
  rw [e2]
  refine ⟨_, rfl, b1.below h2.2.1, b2.below h2.2.1, b3.below h2.2.1, ?_, hb.trans (h2.2.1.mono (by omega)), by rw [h2.2.2, hs]⟩
  have h3 := h2.1
  rw [hs] at h3
  exact h3

theorem ediv_sg (ny : Bool) (X Y : Int) : X / sg ny Y = sg ny (X / Y) ∧ X % sg ny Y = X % Y := by
  cases ny <;> simp [sg, Int.ediv_neg, Int.emod_neg]

theorem euclid_neg {X Y : Int} (hY : 0 < Y) : (X % Y = 0 → -X / Y = -(X / Y) ∧ -X % Y = 0) ∧ (X % Y ≠ 0 → -X / Y = -(X / Y + 1) ∧ -X % Y = Y - X % Y) := by
  have h1 := Int.mul_ediv_add_emod X Y
  have h2 := Int.emod_nonneg X (show Y ≠ 0 by omega)
  have h3 := Int.emod_lt_of_pos X hY
  constructor
  · intro h0
    refine div_of hY ?_ (Int.le_refl 0) hY
    rw [Int.neg_mul, Int.mul_comm (X / Y)]
    omega
  · intro h0
    refine div_of hY ?_ (by omega) (by omega)
    rw [Int.neg_mul, Int.add_mul, Int.mul_comm (X / Y)]
    omega

theorem Box.other {w : World} {g h : Nat} {ng : Bool} {v : Value} (H : Box w g ng v) (hn : g ≠ h) (b u : Value) : Box ((w.setCell ⟨h, 0, none⟩ b).setCell ⟨h, 1, none⟩ u) g ng v :=
  (heap_setCell_other _ ⟨h, 1, none⟩ g u hn).trans ((heap_setCell_other w ⟨h, 0, none⟩ g b hn).trans H)

/-- Two blocks written one behind the other. -/
theorem box_two {w : World} {g h : Nat} {n1 n2 nq nr : Bool} {v1 v2 vq vr : Value} (H1 : Box w g n1 v1) (H2 : Box w h n2 v2) (hn : g ≠ h) : Box ((((w.setCell ⟨g, 0, none⟩ (.bool nq)).setCell ⟨g, 1, none⟩ vq).setCell ⟨h, 0, none⟩ (.bool nr)).setCell ⟨h, 1, none⟩ vr) g nq vq ∧ Box ((((w.setCell ⟨g, 0, none⟩ (.bool nq)).setCell ⟨g, 1, none⟩ vq).setCell ⟨h, 0, none⟩ (.bool nr)).setCell ⟨h, 1, none⟩ vr) h nr vr :=
  ⟨(H1.set nq vq).other hn _ _, (H2.other (Ne.symm hn) _ _).set nr vr⟩

/-- Quotient and rest of two numbers with signs, by those of their magnitudes. -/
theorem wdiv_pos (ny : Bool) (X Y : Int) : sg (false != ny) (X / Y) = sg false X / sg ny Y ∧ sg false (X % Y) = sg false X % sg ny Y := by
  have h := ediv_sg ny (sg false X) Y
  rw [h.1, h.2]
  cases ny <;> simp [sg]

theorem wdiv_even (nx ny : Bool) {X Y : Int} (hY : 0 < Y) (h0 : X % Y = 0) : sg (nx != ny) (X / Y) = sg nx X / sg ny Y ∧ sg false (X % Y) = sg nx X % sg ny Y := by
  cases nx with
  | false => exact wdiv_pos ny X Y
  | true =>
    have h := ediv_sg ny (sg true X) Y
    have h2 := (euclid_neg (X := X) hY).1 h0
    rw [h.1, h.2, h0]
    cases ny <;> simp [sg, h2]

theorem wdiv_odd (ny : Bool) {X Y : Int} (hY : 0 < Y) (h0 : X % Y ≠ 0) : sg (true != ny) (X / Y + 1) = sg true X / sg ny Y ∧ sg false (Y - X % Y) = sg true X % sg ny Y := by
  have h := ediv_sg ny (sg true X) Y
  have h2 := (euclid_neg (X := X) hY).2 h0
  rw [h.1, h.2]
  cases ny <;> simp [sg, h2]

set_option maxRecDepth 20000 in
set_option maxHeartbeats 1000000 in
theorem wdivmod_none (w : World) (nx : Bool) (a1 : Option Addr) (n1 c1 : Nat) (xs : List Int) (hx : Sl w (.slice a1 n1 c1) xs) (ny : Bool) (a2 : Option Addr) (n2 c2 : Nat) (ys : List Int) (hy : Sl w (.slice a2 n2 c2) ys) (h0 : val ys = 0) :
    Calls Try.prog 40 #[.agg #[.bool nx, .slice a1 n1 c1], .agg #[.bool ny, .slice a2 n2 c2]] w fun e w' => e = .returned (.tuple #[.agg #[.bool false, .slice none 0 0], .agg #[.bool false, .slice none 0 0], .bool false]) ∧ Below w.heap.size w w' := by
  obtain ⟨w0, e0, bx, by', bq, br, hb0, hs0⟩ := boxed4 w nx (.slice a1 n1 c1) ny (.slice a2 n2 c2)
  have E0 := hide e0
  have hx0 := hx.below hb0
  have hy0 := hy.below hb0
  clear e0 hs0
  have H0 := hide h0
  clear h0
  go_enter Try.func40, Try.ntmps40
  go_wp2_with fail
  rw [E0.out]
  obtain ⟨ca, cb, cc, cd⟩ := bx.facts
  obtain ⟨ea, eb, ec, ed⟩ := by'.facts
  refine (divmod_none _ _ _ _ _ _ _ xs ys hx0 hy0 H0.out).mono ?_
  rintro e w1 ⟨rfl, hb1⟩
  have Z := hide (hb0.trans (hb1.mono hb0.size))
  obtain ⟨qa, qb, qc, qd⟩ := (bq.below hb1).facts
  obtain ⟨ra, rb, rc, rd⟩ := (br.below hb1).facts
  have F := hide (box_two (nq := false) (vq := .slice none 0 0) (nr := false) (vr := .slice none 0 0) (bq.below hb1) (br.below hb1) (by omega))
  have Z2 := hide (below_set2 (below_set2 Z.out (show w.heap.size ≤ w.heap.size + 1 + 1 by omega) (.bool false) (.slice none 0 0)) (show w.heap.size ≤ w.heap.size + 1 + 1 + 1 by omega) (.bool false) (.slice none 0 0))
  go_wp2
  refine bodyPost_ret (v := .tuple #[.agg #[.bool false, .slice none 0 0], .agg #[.bool false, .slice none 0 0], .bool false]) ?_ rfl ⟨rfl, Z2.out⟩
  simp [results, Try.results40, go_sem, F.out.1.facts.1, F.out.1.facts.2.1, F.out.2.facts.1, F.out.2.facts.2.1]

set_option maxRecDepth 20000 in
set_option maxHeartbeats 1000000 in
theorem wdivmod_pos (w : World) (a1 : Option Addr) (n1 c1 : Nat) (xs : List Int) (hx : Sl w (.slice a1 n1 c1) xs) (ny : Bool) (a2 : Option Addr) (n2 c2 : Nat) (ys : List Int) (hy : Sl w (.slice a2 n2 c2) ys) (hm1 : xs.length ≤ 400000) (hm2 : ys.length ≤ 400000) (h0 : val ys ≠ 0) :
    Calls Try.prog 40 #[.agg #[.bool false, .slice a1 n1 c1], .agg #[.bool ny, .slice a2 n2 c2]] w fun e w' => ∃ nq aq cq qs nr ar cr rs, e = .returned (.tuple #[.agg #[.bool nq, .slice aq qs.length cq], .agg #[.bool nr, .slice ar rs.length cr], .bool true]) ∧ Wh w' nq aq cq qs (sg false (val xs) / sg ny (val ys)) ∧ Wh w' nr ar cr rs (sg false (val xs) % sg ny (val ys)) ∧ qs.length ≤ xs.length + 4 ∧ rs.length ≤ ys.length ∧ Below w.heap.size w w' := by
  obtain ⟨w0, e0, bx, by', bq, br, hb0, hs0⟩ := boxed4 w false (.slice a1 n1 c1) ny (.slice a2 n2 c2)
  have E0 := hide e0
  have hx0 := hx.below hb0
  have hy0 := hy.below hb0
  clear e0 hs0
  have PY : Hid (0 < val ys) := by have := (val_bounds hy.parts.2.2.2).1; show _ < _; omega
  have LY := hide hy.parts.2.2.2
  have H0 := hide h0
  clear h0
  go_enter Try.func40, Try.ntmps40
  go_wp2_with fail
  rw [E0.out]
  refine (divmod_g _ _ _ _ _ _ _ xs ys hx0 hy0 (by omega) H0.out).mono ?_
  rintro e w1 ⟨p1, q1, r1, p2, q2, r2, rfl, G1, G2, l1, l2, hb1⟩
  have HB : Below w0.heap.size w0 w1 := hb1
  obtain ⟨xa, xb, xc, xd⟩ := (bx.below HB).facts
  obtain ⟨ya, yb, yc, yd⟩ := (by'.below HB).facts
  go_wp2_with fail
  refine (signed_g _ _ _ _ r1 _ G1 (by omega)).mono ?_
  rintro e w7 ⟨ng7, rfl, G7, hb7⟩
  replace HB := HB.trans (hb7.mono HB.size)
  have G2' := G2.below hb7
  clear xa xb xc xd ya yb yc yd
  obtain ⟨xa, xb, xc, xd⟩ := (bx.below HB).facts
  obtain ⟨ya, yb, yc, yd⟩ := (by'.below HB).facts
  go_wp2_with fail
  refine (signed_g _ _ _ _ r2 _ G2' (by omega)).mono ?_
  rintro e w8 ⟨ng8, rfl, G8, hb8⟩
  replace HB := HB.trans (hb8.mono HB.size)
  replace G7 := G7.below hb8
  clear xa xb xc xd ya yb yc yd
  have bq8 := bq.below HB
  have br8 := br.below HB
  obtain ⟨qa, qb, qc, qd⟩ := bq8.facts
  obtain ⟨ra, rb, rc, rd⟩ := br8.facts
  have VQ : Hid (sg ny (val xs / val ys) = sg false (val xs) / sg ny (val ys) ∧ sg false (val xs % val ys) = sg false (val xs) % sg ny (val ys)) := by have h := wdiv_pos ny (val xs) (val ys); rwa [show (false != ny) = ny by cases ny <;> rfl] at h
  have Y1 := hide ((br8.other (show w.heap.size + 1 + 1 + 1 ≠ w.heap.size + 1 + 1 by omega) (.bool ng7) (.slice p1 r1.length q1)).wh ng8 (.slice p2 r2.length q2) (bq8.wh ng7 (.slice p1 r1.length q1) G7))
  have Y2 := hide ((br8.other (show w.heap.size + 1 + 1 + 1 ≠ w.heap.size + 1 + 1 by omega) (.bool ng7) (.slice p1 r1.length q1)).wh ng8 (.slice p2 r2.length q2) (bq8.wh ng7 (.slice p1 r1.length q1) G8))
  have F := hide (box_two (nq := ng7) (vq := .slice p1 r1.length q1) (nr := ng8) (vr := .slice p2 r2.length q2) bq8 br8 (by omega))
  have Z := hide (hb0.trans (HB.mono hb0.size))
  have Z2 := hide (below_set2 (below_set2 Z.out (show w.heap.size ≤ w.heap.size + 1 + 1 by omega) (.bool ng7) (.slice p1 r1.length q1)) (show w.heap.size ≤ w.heap.size + 1 + 1 + 1 by omega) (.bool ng8) (.slice p2 r2.length q2))
  go_wp2
  refine bodyPost_ret (v := .tuple #[.agg #[.bool ng7, .slice p1 r1.length q1], .agg #[.bool ng8, .slice p2 r2.length q2], .bool true]) ?_ rfl ⟨ng7, p1, q1, r1, ng8, p2, q2, r2, rfl, by rw [← VQ.out.1]; exact Y1.out, by rw [← VQ.out.2]; exact Y2.out, by omega, by omega, Z2.out⟩
  simp [results, Try.results40, go_sem, F.out.1.facts.1, F.out.1.facts.2.1, F.out.2.facts.1, F.out.2.facts.2.1]

set_option maxRecDepth 20000 in
set_option maxHeartbeats 1000000 in
theorem wdivmod_even (w : World) (a1 : Option Addr) (n1 c1 : Nat) (xs : List Int) (hx : Sl w (.slice a1 n1 c1) xs) (ny : Bool) (a2 : Option Addr) (n2 c2 : Nat) (ys : List Int) (hy : Sl w (.slice a2 n2 c2) ys) (hm1 : xs.length ≤ 400000) (_hm2 : ys.length ≤ 400000) (h0 : val ys ≠ 0) (hev : val xs % val ys = 0) :
    Calls Try.prog 40 #[.agg #[.bool true, .slice a1 n1 c1], .agg #[.bool ny, .slice a2 n2 c2]] w fun e w' => ∃ nq aq cq qs nr ar cr rs, e = .returned (.tuple #[.agg #[.bool nq, .slice aq qs.length cq], .agg #[.bool nr, .slice ar rs.length cr], .bool true]) ∧ Wh w' nq aq cq qs (sg true (val xs) / sg ny (val ys)) ∧ Wh w' nr ar cr rs (sg true (val xs) % sg ny (val ys)) ∧ qs.length ≤ xs.length + 4 ∧ rs.length ≤ ys.length ∧ Below w.heap.size w w' := by
  obtain ⟨w0, e0, bx, by', bq, br, hb0, hs0⟩ := boxed4 w true (.slice a1 n1 c1) ny (.slice a2 n2 c2)
  have E0 := hide e0
  have hx0 := hx.below hb0
  have hy0 := hy.below hb0
  clear e0 hs0
  have PY : Hid (0 < val ys) := by have := (val_bounds hy.parts.2.2.2).1; show _ < _; omega
  have LY := hide hy.parts.2.2.2
  have H0 := hide h0
  have HE := hide hev
  clear hev
  clear h0
  go_enter Try.func40, Try.ntmps40
  go_wp2_with fail
  rw [E0.out]
  refine (divmod_g _ _ _ _ _ _ _ xs ys hx0 hy0 (by omega) H0.out).mono ?_
  rintro e w1 ⟨p1, q1, r1, p2, q2, r2, rfl, G1, G2, l1, l2, hb1⟩
  have HB : Below w0.heap.size w0 w1 := hb1
  have hr2 : ¬ 0 < (r2.length : Int) := by
    have h9 : r2 = [] := (canon_zero G2.canon).1 (by rw [G2.val]; exact HE.out)
    rw [h9]; simp
  obtain ⟨xa, xb, xc, xd⟩ := (bx.below HB).facts
  obtain ⟨ya, yb, yc, yd⟩ := (by'.below HB).facts
  go_wp2_with fail
  refine (signed_g _ _ _ _ r1 _ G1 (by omega)).mono ?_
  rintro e w7 ⟨ng7, rfl, G7, hb7⟩
  replace HB := HB.trans (hb7.mono HB.size)
  have G2' := G2.below hb7
  clear xa xb xc xd ya yb yc yd
  obtain ⟨xa, xb, xc, xd⟩ := (bx.below HB).facts
  obtain ⟨ya, yb, yc, yd⟩ := (by'.below HB).facts
  go_wp2_with fail
  refine (signed_g _ _ _ _ r2 _ G2' (by omega)).mono ?_
  rintro e w8 ⟨ng8, rfl, G8, hb8⟩
  replace HB := HB.trans (hb8.mono HB.size)
  replace G7 := G7.below hb8
  clear xa xb xc xd ya yb yc yd
  have bq8 := bq.below HB
  have br8 := br.below HB
  obtain ⟨qa, qb, qc, qd⟩ := bq8.facts
  obtain ⟨ra, rb, rc, rd⟩ := br8.facts
  have VQ : Hid (sg (!ny) (val xs / val ys) = sg true (val xs) / sg ny (val ys) ∧ sg false (val xs % val ys) = sg true (val xs) % sg ny (val ys)) := by have h := wdiv_even true ny PY.out HE.out; rwa [show (true != ny) = !ny by cases ny <;> rfl] at h
  have Y1 := hide ((br8.other (show w.heap.size + 1 + 1 + 1 ≠ w.heap.size + 1 + 1 by omega) (.bool ng7) (.slice p1 r1.length q1)).wh ng8 (.slice p2 r2.length q2) (bq8.wh ng7 (.slice p1 r1.length q1) G7))
  have Y2 := hide ((br8.other (show w.heap.size + 1 + 1 + 1 ≠ w.heap.size + 1 + 1 by omega) (.bool ng7) (.slice p1 r1.length q1)).wh ng8 (.slice p2 r2.length q2) (bq8.wh ng7 (.slice p1 r1.length q1) G8))
  have F := hide (box_two (nq := ng7) (vq := .slice p1 r1.length q1) (nr := ng8) (vr := .slice p2 r2.length q2) bq8 br8 (by omega))
  have Z := hide (hb0.trans (HB.mono hb0.size))
  have Z2 := hide (below_set2 (below_set2 Z.out (show w.heap.size ≤ w.heap.size + 1 + 1 by omega) (.bool ng7) (.slice p1 r1.length q1)) (show w.heap.size ≤ w.heap.size + 1 + 1 + 1 by omega) (.bool ng8) (.slice p2 r2.length q2))
  go_wp2
  refine bodyPost_ret (v := .tuple #[.agg #[.bool ng7, .slice p1 r1.length q1], .agg #[.bool ng8, .slice p2 r2.length q2], .bool true]) ?_ rfl ⟨ng7, p1, q1, r1, ng8, p2, q2, r2, rfl, by rw [← VQ.out.1]; exact Y1.out, by rw [← VQ.out.2]; exact Y2.out, by omega, by omega, Z2.out⟩
  simp [results, Try.results40, go_sem, F.out.1.facts.1, F.out.1.facts.2.1, F.out.2.facts.1, F.out.2.facts.2.1]

set_option maxRecDepth 20000 in
set_option maxHeartbeats 1000000 in
theorem wdivmod_odd (w : World) (a1 : Option Addr) (n1 c1 : Nat) (xs : List Int) (hx : Sl w (.slice a1 n1 c1) xs) (ny : Bool) (a2 : Option Addr) (n2 c2 : Nat) (ys : List Int) (hy : Sl w (.slice a2 n2 c2) ys) (hm1 : xs.length ≤ 400000) (hm2 : ys.length ≤ 400000) (h0 : val ys ≠ 0) (hod : val xs % val ys ≠ 0) :
    Calls Try.prog 40 #[.agg #[.bool true, .slice a1 n1 c1], .agg #[.bool ny, .slice a2 n2 c2]] w fun e w' => ∃ nq aq cq qs nr ar cr rs, e = .returned (.tuple #[.agg #[.bool nq, .slice aq qs.length cq], .agg #[.bool nr, .slice ar rs.length cr], .bool true]) ∧ Wh w' nq aq cq qs (sg true (val xs) / sg ny (val ys)) ∧ Wh w' nr ar cr rs (sg true (val xs) % sg ny (val ys)) ∧ qs.length ≤ xs.length + 4 ∧ rs.length ≤ ys.length ∧ Below w.heap.size w w' := by
  obtain ⟨w0, e0, bx, by', bq, br, hb0, hs0⟩ := boxed4 w true (.slice a1 n1 c1) ny (.slice a2 n2 c2)
  have E0 := hide e0
  have hx0 := hx.below hb0
  have hy0 := hy.below hb0
  clear e0 hs0
  have PY : Hid (0 < val ys) := by have := (val_bounds hy.parts.2.2.2).1; show _ < _; omega
  have LY := hide hy.parts.2.2.2
  have H0 := hide h0
  have HE := hide hod
  clear hod
  clear h0
  go_enter Try.func40, Try.ntmps40
  go_wp2_with fail
  rw [E0.out]
  refine (divmod_g _ _ _ _ _ _ _ xs ys hx0 hy0 (by omega) H0.out).mono ?_
  rintro e w1 ⟨p1, q1, r1, p2, q2, r2, rfl, G1, G2, l1, l2, hb1⟩
  have HB : Below w0.heap.size w0 w1 := hb1
  have hr2 : 0 < (r2.length : Int) := by
    have h9 : r2 ≠ [] := fun e => HE.out (by rw [← G2.val]; exact (canon_zero G2.canon).2 e)
    have h8 : r2.length ≠ 0 := fun e => h9 (List.eq_nil_of_length_eq_zero e)
    omega
  obtain ⟨xa, xb, xc, xd⟩ := (bx.below HB).facts
  go_wp2_with fail
  refine (small_any _ 1 (by omega) (by omega)).mono ?_
  rintro e w3 ⟨v3, rfl, hi3, hb3⟩
  obtain ⟨p3, q3, r3, rfl, G3, l3⟩ := got_small hi3 (by omega)
  clear hi3
  replace HB := HB.trans (hb3.mono HB.size)
  replace G1 := G1.below hb3
  replace G2 := G2.below hb3
  go_wp2_with fail
  refine (add_g _ _ _ _ _ _ _ r1 r3 G1.sl G3.sl (by omega) (by omega)).mono ?_
  rintro e w4 ⟨p4, q4, r4, rfl, G4, l4, hb4⟩
  replace HB := HB.trans (hb4.mono HB.size)
  replace G2 := G2.below hb4
  rw [G1.val, G3.val] at G4
  have hy4 := hy0.below HB
  obtain ⟨ya, yb, yc, yd⟩ := (by'.below HB).facts
  go_wp2_with fail
  refine (sub_g _ _ _ _ _ _ _ ys r2 hy4 G2.sl (by omega) (by rw [G2.val]; exact Int.le_of_lt (Int.emod_lt_of_pos _ PY.out))).mono ?_
  rintro e w5 ⟨p5, q5, r5, rfl, G5, l5, hb5⟩
  replace HB := HB.trans (hb5.mono HB.size)
  replace G4 := G4.below hb5
  rw [G2.val] at G5
  clear xa xb xc xd ya yb yc yd G1 G2 G3 hy4
  obtain ⟨xa, xb, xc, xd⟩ := (bx.below HB).facts
  obtain ⟨ya, yb, yc, yd⟩ := (by'.below HB).facts
  go_wp2_with fail
  refine (signed_g _ _ _ _ r4 _ G4 (by omega)).mono ?_
  rintro e w7 ⟨ng7, rfl, G7, hb7⟩
  replace HB := HB.trans (hb7.mono HB.size)
  have G2' := G5.below hb7
  clear xa xb xc xd ya yb yc yd
  obtain ⟨xa, xb, xc, xd⟩ := (bx.below HB).facts
  obtain ⟨ya, yb, yc, yd⟩ := (by'.below HB).facts
  go_wp2_with fail
  refine (signed_g _ _ _ _ r5 _ G2' (by omega)).mono ?_
  rintro e w8 ⟨ng8, rfl, G8, hb8⟩
  replace HB := HB.trans (hb8.mono HB.size)
  replace G7 := G7.below hb8
  clear xa xb xc xd ya yb yc yd
  have bq8 := bq.below HB
  have br8 := br.below HB
  obtain ⟨qa, qb, qc, qd⟩ := bq8.facts
  obtain ⟨ra, rb, rc, rd⟩ := br8.facts
  have VQ : Hid (sg (!ny) (val xs / val ys + 1) = sg true (val xs) / sg ny (val ys) ∧ sg false (val ys - val xs % val ys) = sg true (val xs) % sg ny (val ys)) := by have h := wdiv_odd ny PY.out HE.out; rwa [show (true != ny) = !ny by cases ny <;> rfl] at h
  have Y1 := hide ((br8.other (show w.heap.size + 1 + 1 + 1 ≠ w.heap.size + 1 + 1 by omega) (.bool ng7) (.slice p4 r4.length q4)).wh ng8 (.slice p5 r5.length q5) (bq8.wh ng7 (.slice p4 r4.length q4) G7))
  have Y2 := hide ((br8.other (show w.heap.size + 1 + 1 + 1 ≠ w.heap.size + 1 + 1 by omega) (.bool ng7) (.slice p4 r4.length q4)).wh ng8 (.slice p5 r5.length q5) (bq8.wh ng7 (.slice p4 r4.length q4) G8))
  have F := hide (box_two (nq := ng7) (vq := .slice p4 r4.length q4) (nr := ng8) (vr := .slice p5 r5.length q5) bq8 br8 (by omega))
  have Z := hide (hb0.trans (HB.mono hb0.size))
  have Z2 := hide (below_set2 (below_set2 Z.out (show w.heap.size ≤ w.heap.size + 1 + 1 by omega) (.bool ng7) (.slice p4 r4.length q4)) (show w.heap.size ≤ w.heap.size + 1 + 1 + 1 by omega) (.bool ng8) (.slice p5 r5.length q5))
  go_wp2
  refine bodyPost_ret (v := .tuple #[.agg #[.bool ng7, .slice p4 r4.length q4], .agg #[.bool ng8, .slice p5 r5.length q5], .bool true]) ?_ rfl ⟨ng7, p4, q4, r4, ng8, p5, q5, r5, rfl, by rw [← VQ.out.1]; exact Y1.out, by rw [← VQ.out.2]; exact Y2.out, by omega, by omega, Z2.out⟩
  simp [results, Try.results40, go_sem, F.out.1.facts.1, F.out.1.facts.2.1, F.out.2.facts.1, F.out.2.facts.2.1]

theorem wdivmod_g (w : World) (nx : Bool) (a1 : Option Addr) (n1 c1 : Nat) (xs : List Int) (hx : Sl w (.slice a1 n1 c1) xs) (ny : Bool) (a2 : Option Addr) (n2 c2 : Nat) (ys : List Int) (hy : Sl w (.slice a2 n2 c2) ys) (hm1 : xs.length ≤ 400000) (hm2 : ys.length ≤ 400000) (h0 : val ys ≠ 0) :
    Calls Try.prog 40 #[.agg #[.bool nx, .slice a1 n1 c1], .agg #[.bool ny, .slice a2 n2 c2]] w fun e w' => ∃ nq aq cq qs nr ar cr rs, e = .returned (.tuple #[.agg #[.bool nq, .slice aq qs.length cq], .agg #[.bool nr, .slice ar rs.length cr], .bool true]) ∧ Wh w' nq aq cq qs (sg nx (val xs) / sg ny (val ys)) ∧ Wh w' nr ar cr rs (sg nx (val xs) % sg ny (val ys)) ∧ qs.length ≤ xs.length + 4 ∧ rs.length ≤ ys.length ∧ Below w.heap.size w w' := by
  cases nx with
  | false => exact wdivmod_pos w a1 n1 c1 xs hx ny a2 n2 c2 ys hy hm1 hm2 h0
  | true =>
    by_cases he : val xs % val ys = 0
    · exact wdivmod_even w a1 n1 c1 xs hx ny a2 n2 c2 ys hy hm1 hm2 h0 he
    · exact wdivmod_odd w a1 n1 c1 xs hx ny a2 n2 c2 ys hy hm1 hm2 h0 he

end Lm
end Go.Proofs.Ytjhhjefobbhdlaa
