/-
  The reference's numbers with signs: what a sign and digits are worth; the contract of made. The contract of the reference's Add. The contract of the reference's Minus and Abs. The contracts of Lender's Lend and Back.
-/
import Derived.Test.YtkdcgnooeojjgabRMkLawM43
import Derived.Deep.QuietTactic
import Derived.BigQuiet
import Derived.Deep.RegionWith
import Derived.Deep.RegionHeld3
import Derived.Deep.AppendLies
import Derived.Test.YtkdcgnooeojjgabWrap
import Derived.Laws.CopyOwn
namespace Go.Proofs.Ytkdcgnooeojjgab
namespace Dm
open Go.RowKit
open Lm (hide lt_of_cell lt_of_heap)

/-- What a sign and a magnitude are worth. -/
def sg (ng : Bool) (x : Int) : Int := if ng then -x else x

/-- A number in its one form that is worth z. -/
def Wh (w : World) (ng : Bool) (ao : Option Addr) (cap : Nat) (rs : List Int) (z : Int) : Prop := Got w ao cap rs (z.natAbs : Int) ∧ ng = decide (z < 0)

theorem Wh.sl {w : World} {ng : Bool} {ao : Option Addr} {cap : Nat} {rs : List Int} {z : Int} (h : Wh w ng ao cap rs z) : Sl w (.slice ao rs.length cap) rs := h.1.sl

theorem Wh.below {w w' : World} {ng : Bool} {ao : Option Addr} {cap : Nat} {rs : List Int} {z : Int} (h : Wh w ng ao cap rs z) (hb : Below w.heap.size w w') : Wh w' ng ao cap rs z := ⟨h.1.below hb, h.2⟩

theorem Wh.worth {w : World} {ng : Bool} {ao : Option Addr} {cap : Nat} {rs : List Int} {z : Int} (h : Wh w ng ao cap rs z) : sg ng (Dm.val rs) = z := by
  rw [h.1.val, h.2, sg]
  by_cases hz : z < 0
  · simp [hz]; omega
  · simp [hz]; omega

theorem Wh.of {w : World} {ao : Option Addr} {cap : Nat} {rs : List Int} {x : Int} (ng : Bool) (h : Got w ao cap rs x) : Wh w (ng && decide (0 < rs.length)) ao cap rs (sg ng x) := by
  have h0 : 0 ≤ x := by rw [← h.val]; exact (val_bounds h.canon.1).1
  have hz := canon_zero h.canon
  rw [h.val] at hz
  have hl : rs = [] ↔ rs.length = 0 := List.length_eq_zero_iff.symm
  cases ng with
  | false =>
    refine ⟨?_, ?_⟩
    · have e : ((sg false x).natAbs : Int) = x := by simp [sg]; omega
      rw [e]; exact h
    · simp [sg]; omega
  | true =>
    refine ⟨?_, ?_⟩
    · have e : ((sg true x).natAbs : Int) = x := by simp [sg]; omega
      rw [e]; exact h
    · have e3 : (0 < rs.length) ↔ (sg true x < 0) := by
        simp only [sg, if_true]
        constructor
        · intro h1
          have : x ≠ 0 := fun h2 => by have := hl.1 (hz.1 h2); omega
          omega
        · intro h1
          have : rs.length ≠ 0 := fun h2 => by have := hz.2 (hl.2 h2); omega
          omega
      rw [Bool.true_and]
      exact decide_eq_decide.2 e3

/-- A block that holds a whole number. -/
def Box (w : World) (g : Nat) (ng : Bool) (v : Value) : Prop := w.heap[g]? = some (.cells #[.bool ng, v] 66 (0, 0))

theorem Box.below {w w' : World} {g : Nat} {ng : Bool} {v : Value} (h : Box w g ng v) (hb : Below w.heap.size w w') : Box w' g ng v := (hb.block g (lt_of_heap h)).trans h
theorem Box.facts {w : World} {g : Nat} {ng : Bool} {v : Value} (h : Box w g ng v) : w.cell? ⟨g, 0, none⟩ = some (.bool ng) ∧ w.cell? ⟨g, 1, none⟩ = some v ∧ w.frozen? ⟨g, 0, none⟩ = false ∧ w.frozen? ⟨g, 1, none⟩ = false :=
  ⟨by rw [cell_of_row _ _ _ _ _ (0, 0) h]; rfl, by rw [cell_of_row _ _ _ _ _ (0, 0) h]; rfl, frozen_of_row _ _ _ _ _ h, frozen_of_row _ _ _ _ _ h⟩

theorem Box.set {w : World} {g : Nat} {ng : Bool} {v : Value} (h : Box w g ng v) (b : Bool) (u : Value) : Box ((w.setCell ⟨g, 0, none⟩ (.bool b)).setCell ⟨g, 1, none⟩ u) g b u := by
  have h1 := heap_setCell_same w g 0 _ _ (.bool b) h
  have h2 := heap_setCell_same _ g 1 _ _ u h1
  exact h2

theorem Box.sl {w : World} {g : Nat} {ng : Bool} {ao : Option Addr} {n cap : Nat} (h : Box w g ng (.slice ao n cap)) (b : Bool) (u : Value) {v : Value} {zs : List Int} (hs : Sl w v zs) : Sl ((w.setCell ⟨g, 0, none⟩ (.bool b)).setCell ⟨g, 1, none⟩ u) v zs := by
  refine (hs.setCell h.facts.1 (fun z => by simp) _).setCell (u0 := .slice ao n cap) ?_ (fun z => by simp) _
  rw [World.cell?_setCell_other _ _ _ _ (by simp)]
  exact h.facts.2.1

theorem Box.wh {w : World} {g : Nat} {ng : Bool} {ao : Option Addr} {n cap : Nat} (h : Box w g ng (.slice ao n cap)) (b : Bool) (u : Value) {nz : Bool} {az : Option Addr} {cz : Nat} {rs : List Int} {z : Int} (hs : Wh w nz az cz rs z) : Wh ((w.setCell ⟨g, 0, none⟩ (.bool b)).setCell ⟨g, 1, none⟩ u) nz az cz rs z :=
  ⟨⟨h.sl b u hs.1.1, hs.1.2⟩, hs.2⟩

theorem below_set2 {B : Nat} {w w1 : World} {g : Nat} (hb : Below B w w1) (hg : B ≤ g) (b u : Value) : Below B w ((w1.setCell ⟨g, 0, none⟩ b).setCell ⟨g, 1, none⟩ u) := (hb.setCell hg _).setCell hg _

/-- The worlds behind an entry: blocks for what is handed in and for the answer. -/
theorem boxed (w : World) (ng : Bool) (v : Value) : Box (w.alloc (.cells #[.bool ng, v] 66)) w.heap.size ng v ∧ Below w.heap.size w (w.alloc (.cells #[.bool ng, v] 66)) ∧ (w.alloc (.cells #[.bool ng, v] 66)).heap.size = w.heap.size + 1 :=
  ⟨heap_alloc_new w _, (Below.refl _ _).alloc (Nat.le_refl _) _, by simp⟩

theorem boxed1 (w : World) (ng : Bool) (v : Value) : ∃ w0 : World, (w.alloc (.cells #[.bool ng, v] 66)).alloc (.cells #[.bool false, .slice none 0 0] 66) = w0 ∧ Box w0 w.heap.size ng v ∧ Box w0 (w.heap.size + 1) false (.slice none 0 0) ∧ Below w.heap.size w w0 ∧ w0.heap.size = w.heap.size + 2 := by
  have h1 := boxed w ng v
  have h2 := boxed (w.alloc (.cells #[.bool ng, v] 66)) false (.slice none 0 0)
  rw [h1.2.2] at h2
  refine ⟨_, rfl, h1.1.below (by rw [h1.2.2]; exact h2.2.1), h2.1, h1.2.1.trans (h2.2.1.mono (by omega)), h2.2.2⟩

theorem sg_neg (ng : Bool) (x : Int) : sg (!ng) x = - sg ng x := by cases ng <;> simp [sg]

theorem boxed0 (w : World) (ng : Bool) (v : Value) : ∃ w0 : World, w.alloc (.cells #[.bool ng, v] 66) = w0 ∧ Box w0 w.heap.size ng v ∧ Below w.heap.size w w0 ∧ w0.heap.size = w.heap.size + 1 :=
  ⟨_, rfl, (boxed w ng v).1, (boxed w ng v).2.1, (boxed w ng v).2.2⟩

theorem boxed2 (w : World) (nx : Bool) (vx : Value) (ny : Bool) (vy : Value) : ∃ w0 : World, (w.alloc (.cells #[.bool nx, vx] 66)).alloc (.cells #[.bool ny, vy] 66) = w0 ∧ Box w0 w.heap.size nx vx ∧ Box w0 (w.heap.size + 1) ny vy ∧ Below w.heap.size w w0 ∧ w0.heap.size = w.heap.size + 2 := by
  have h1 := boxed w nx vx
  have h2 := boxed (w.alloc (.cells #[.bool nx, vx] 66)) ny vy
  rw [h1.2.2] at h2
  refine ⟨_, rfl, h1.1.below (by rw [h1.2.2]; exact h2.2.1), h2.1, h1.2.1.trans (h2.2.1.mono (by omega)), h2.2.2⟩

theorem boxed3 (w : World) (nx : Bool) (vx : Value) (ny : Bool) (vy : Value) : ∃ w0 : World, ((w.alloc (.cells #[.bool nx, vx] 66)).alloc (.cells #[.bool ny, vy] 66)).alloc (.cells #[.bool false, .slice none 0 0] 66) = w0 ∧ Box w0 w.heap.size nx vx ∧ Box w0 (w.heap.size + 1) ny vy ∧ Box w0 (w.heap.size + 1 + 1) false (.slice none 0 0) ∧ Below w.heap.size w w0 ∧ w0.heap.size = w.heap.size + 3 := by
  obtain ⟨w2, e2, b1, b2, hb, hs⟩ := boxed2 w nx vx ny vy
  have h2 := boxed w2 false (.slice none 0 0)
  rw [e2]
  refine ⟨_, rfl, b1.below h2.2.1, b2.below h2.2.1, ?_, hb.trans (h2.2.1.mono (by omega)), by rw [h2.2.2, hs]⟩
  have h3 := h2.1
  rw [hs] at h3
  exact h3

theorem sg_add (ng : Bool) (x y : Int) : sg ng (x + y) = sg ng x + sg ng y := by cases ng <;> simp [sg] <;> omega
theorem sg_sub (ng : Bool) (x y : Int) : sg ng (x - y) = sg ng x + sg (!ng) y := by cases ng <;> simp [sg] <;> omega
theorem sg_sub' (ng : Bool) (x y : Int) : sg (!ng) (y - x) = sg ng x + sg (!ng) y := by cases ng <;> simp [sg] <;> omega
theorem sg_mul (n1 n2 : Bool) (x y : Int) : sg (n1 != n2) (x * y) = sg n1 x * sg n2 y := by cases n1 <;> cases n2 <;> simp [sg, Int.mul_neg, Int.neg_mul]


theorem Dl.open {B : Nat} {w : World} {v : Value} {x : Int} {n : Nat} (h : Dl B w v x n) : ∃ ao cap ds, v = .slice ao ds.length cap ∧ Sl w (.slice ao ds.length cap) ds ∧ Dm.val ds = x ∧ ds.length ≤ n := by
  obtain ⟨ds, ho, hv, hn⟩ := h
  obtain ⟨ao, cap, rfl, hs, _, _⟩ := ho.open
  exact ⟨ao, cap, ds, rfl, hs, hv, hn⟩

/-- A made number, whatever lies on top of its digits. -/
theorem made_w (w : World) (ng : Bool) (ao : Option Addr) (cap : Nat) (ds : List Int) (x : Int) (h : Sl w (.slice ao ds.length cap) ds) (hv : Dm.val ds = x) :
    Calls Try.prog 78 #[.bool ng, .slice ao ds.length cap] w fun e w' => ∃ ng' rs, e = .returned (.agg #[.bool ng', .slice ao rs.length cap]) ∧ Wh w' ng' ao cap rs (sg ng x) ∧ rs.length ≤ ds.length ∧ Below w.heap.size w w' := by
  refine (made_any w ng ao ds.length cap ds h).mono ?_
  rintro e w' ⟨rfl, hb⟩
  have hl := h.parts.2.2.2
  have ht := tl_le ds
  have e1 : (ds.take (tl ds)).length = tl ds := by rw [List.length_take]; omega
  have g : Got w' ao cap (ds.take (tl ds)) x := ⟨by rw [e1]; exact (h.take ht).below hb, canon_trim hl, by rw [val_take_tl, hv]⟩
  have g2 := Wh.of ng g
  rw [e1] at g2
  exact ⟨_, ds.take (tl ds), by rw [e1], g2, by omega, hb⟩

theorem Wh.abs {w : World} {ng : Bool} {ao : Option Addr} {cap : Nat} {rs : List Int} {z : Int} (h : Wh w ng ao cap rs z) : Got w ao cap rs (z.natAbs : Int) := h.1
theorem Wh.zero {w : World} {ng : Bool} {ao : Option Addr} {cap : Nat} {rs : List Int} {z : Int} (h : Wh w ng ao cap rs z) : z = 0 ↔ rs = [] := by
  have := canon_zero h.1.canon
  rw [h.1.val] at this
  rw [← this]
  omega
theorem Wh.len {w : World} {ng : Bool} {ao : Option Addr} {cap : Nat} {rs : List Int} {z : Int} (h : Wh w ng ao cap rs z) {m : Nat} (hz : (z.natAbs : Int) < pw m) : rs.length ≤ m := canon_len h.1.canon (by rw [h.1.val]; exact hz)

end Dm
end Go.Proofs.Ytkdcgnooeojjgab

namespace Go.Proofs.Ytkdcgnooeojjgab
namespace Dm
open Go.RowKit
open Lm (hide lt_of_cell lt_of_heap cmpI cmpI_lt cmpI_gt)

set_option maxRecDepth 20000 in
set_option maxHeartbeats 1000000 in
theorem nadd_same (w : World) (n1 : Bool) (a1 : Option Addr) (c1 : Nat) (xs : List Int) (x : Int) (hx : Got w a1 c1 xs x) (a2 : Option Addr) (c2 : Nat) (ys : List Int) (y : Int) (hy : Got w a2 c2 ys y) (m1 : xs.length ≤ 400000) (m2 : ys.length ≤ 400000) :
    Calls Try.prog 82 #[.agg #[.bool n1, .slice a1 xs.length c1], .agg #[.bool n1, .slice a2 ys.length c2]] w fun e w' => ∃ ng' ao cap rs, e = .returned (.agg #[.bool ng', .slice ao rs.length cap]) ∧ Wh w' ng' ao cap rs (sg n1 x + sg n1 y) ∧ rs.length ≤ xs.length + ys.length + 1 ∧ Below w.heap.size w w' := by
  obtain ⟨w0, e0, bx, by', br, hb0, hs0⟩ := boxed3 w n1 (.slice a1 xs.length c1) (n1) (.slice a2 ys.length c2)
  have E0 := hide e0
  have hx0 := hx.below hb0
  have hy0 := hy.below hb0
  have HB := hb0
  have ne1 : ¬ (w.heap.size = w.heap.size + 1 + 1) := by omega
  have ne2 : ¬ (w.heap.size + 1 + 1 = w.heap.size) := by omega
  clear e0 hs0
  cases n1 with
  | false =>
    go_enter Try.func82, Try.ntmps82
    go_wp2_with fail
    rw [E0.out]
    obtain ⟨bx1, bx2, bx3, bx4⟩ := bx.facts
    obtain ⟨by1, by2, by3, by4⟩ := by'.facts
    obtain ⟨br1, br2, br3, br4⟩ := br.facts
    go_region_held3 (fun w' => w'.cell? ⟨w.heap.size, 0, none⟩ = some (.bool false) ∧ w'.cell? ⟨w.heap.size, 1, none⟩ = some (.slice a1 xs.length c1) ∧ w'.cell? ⟨w.heap.size + 1, 0, none⟩ = some (.bool false) ∧ w'.cell? ⟨w.heap.size + 1, 1, none⟩ = some (.slice a2 ys.length c2)) (go_keep) (first
        | (go_at_call 78; have _hq := hb1'; refine (made_w _ _ p1 q1 d1 _ (s1.below (by repeat (first | exact Below.refl _ _ | refine Below.drew ?_))) e1).mono ?_; rintro e w2 ⟨ng2, r2, rfl, G2, l2, hb2⟩; have hb2' : Below w1.heap.size w1 w2 := (show Below w1.heap.size w1 _ by repeat (first | exact Below.refl _ _ | refine Below.drew ?_)).trans hb2; have HB := HB.trans (hb2'.mono HB.size); replace bx := bx.below hb2'; clear bx1 bx2 bx3 bx4; obtain ⟨bx1, bx2, bx3, bx4⟩ := bx.facts; replace by' := by'.below hb2'; clear by1 by2 by3 by4; obtain ⟨by1, by2, by3, by4⟩ := by'.facts; replace br := br.below hb2'; clear br1 br2 br3 br4; obtain ⟨br1, br2, br3, br4⟩ := br.facts)
        | (go_at_call 104; refine (plus_any _ _ _ _ xs (hx0.sl.below (by repeat (first | exact Below.refl _ _ | refine Below.drew ?_))) _ _ _ ys (hy0.sl.below (by repeat (first | exact Below.refl _ _ | refine Below.drew ?_))) (by omega) (by omega)).mono ?_; rintro e w1 ⟨v1, rfl, D1, hb1⟩; obtain ⟨p1, q1, d1, rfl, s1, e1, l1⟩ := D1.open; clear D1; have hb1' : Below w0.heap.size w0 w1 := (show Below w0.heap.size w0 _ by repeat (first | exact Below.refl _ _ | refine Below.drew ?_)).trans hb1; have HB := HB.trans (hb1'.mono HB.size); replace bx := bx.below hb1'; clear bx1 bx2 bx3 bx4; obtain ⟨bx1, bx2, bx3, bx4⟩ := bx.facts; replace by' := by'.below hb1'; clear by1 by2 by3 by4; obtain ⟨by1, by2, by3, by4⟩ := by'.facts; replace br := br.below hb1'; clear br1 br2 br3 br4; obtain ⟨br1, br2, br3, br4⟩ := br.facts))
    all_goals
      have X := hide (br.set ng2 (.slice p1 r2.length q1)).facts
      have Y := hide (br.wh ng2 (.slice p1 r2.length q1) G2)
      have Z := hide (below_set2 HB (show w.heap.size ≤ w.heap.size + 1 + 1 by omega) (.bool ng2) (.slice p1 r2.length q1))
      clear bx1 bx2 bx3 bx4 by1 by2 by3 by4
      go_wp2
      refine bodyPost_ret (v := .agg #[.bool ng2, .slice p1 r2.length q1]) ?_ rfl ⟨ng2, p1, q1, r2, rfl, by rw [← sg_add, ← hx.val, ← hy.val]; exact Y.out, by omega, Z.out⟩
      simp [results, Try.results82, go_sem, X.out.1, X.out.2.1]
  | true =>
    go_enter Try.func82, Try.ntmps82
    go_wp2_with fail
    rw [E0.out]
    obtain ⟨bx1, bx2, bx3, bx4⟩ := bx.facts
    obtain ⟨by1, by2, by3, by4⟩ := by'.facts
    obtain ⟨br1, br2, br3, br4⟩ := br.facts
    go_region_held3 (fun w' => w'.cell? ⟨w.heap.size, 0, none⟩ = some (.bool true) ∧ w'.cell? ⟨w.heap.size, 1, none⟩ = some (.slice a1 xs.length c1) ∧ w'.cell? ⟨w.heap.size + 1, 0, none⟩ = some (.bool true) ∧ w'.cell? ⟨w.heap.size + 1, 1, none⟩ = some (.slice a2 ys.length c2)) (go_keep) (first
        | (go_at_call 78; have _hq := hb1'; refine (made_w _ _ p1 q1 d1 _ (s1.below (by repeat (first | exact Below.refl _ _ | refine Below.drew ?_))) e1).mono ?_; rintro e w2 ⟨ng2, r2, rfl, G2, l2, hb2⟩; have hb2' : Below w1.heap.size w1 w2 := (show Below w1.heap.size w1 _ by repeat (first | exact Below.refl _ _ | refine Below.drew ?_)).trans hb2; have HB := HB.trans (hb2'.mono HB.size); replace bx := bx.below hb2'; clear bx1 bx2 bx3 bx4; obtain ⟨bx1, bx2, bx3, bx4⟩ := bx.facts; replace by' := by'.below hb2'; clear by1 by2 by3 by4; obtain ⟨by1, by2, by3, by4⟩ := by'.facts; replace br := br.below hb2'; clear br1 br2 br3 br4; obtain ⟨br1, br2, br3, br4⟩ := br.facts)
        | (go_at_call 104; refine (plus_any _ _ _ _ xs (hx0.sl.below (by repeat (first | exact Below.refl _ _ | refine Below.drew ?_))) _ _ _ ys (hy0.sl.below (by repeat (first | exact Below.refl _ _ | refine Below.drew ?_))) (by omega) (by omega)).mono ?_; rintro e w1 ⟨v1, rfl, D1, hb1⟩; obtain ⟨p1, q1, d1, rfl, s1, e1, l1⟩ := D1.open; clear D1; have hb1' : Below w0.heap.size w0 w1 := (show Below w0.heap.size w0 _ by repeat (first | exact Below.refl _ _ | refine Below.drew ?_)).trans hb1; have HB := HB.trans (hb1'.mono HB.size); replace bx := bx.below hb1'; clear bx1 bx2 bx3 bx4; obtain ⟨bx1, bx2, bx3, bx4⟩ := bx.facts; replace by' := by'.below hb1'; clear by1 by2 by3 by4; obtain ⟨by1, by2, by3, by4⟩ := by'.facts; replace br := br.below hb1'; clear br1 br2 br3 br4; obtain ⟨br1, br2, br3, br4⟩ := br.facts))
    all_goals
      have X := hide (br.set ng2 (.slice p1 r2.length q1)).facts
      have Y := hide (br.wh ng2 (.slice p1 r2.length q1) G2)
      have Z := hide (below_set2 HB (show w.heap.size ≤ w.heap.size + 1 + 1 by omega) (.bool ng2) (.slice p1 r2.length q1))
      clear bx1 bx2 bx3 bx4 by1 by2 by3 by4
      go_wp2
      refine bodyPost_ret (v := .agg #[.bool ng2, .slice p1 r2.length q1]) ?_ rfl ⟨ng2, p1, q1, r2, rfl, by rw [← sg_add, ← hx.val, ← hy.val]; exact Y.out, by omega, Z.out⟩
      simp [results, Try.results82, go_sem, X.out.1, X.out.2.1]

set_option maxRecDepth 20000 in
set_option maxHeartbeats 1000000 in
theorem nadd_ge (w : World) (n1 : Bool) (a1 : Option Addr) (c1 : Nat) (xs : List Int) (x : Int) (hx : Got w a1 c1 xs x) (a2 : Option Addr) (c2 : Nat) (ys : List Int) (y : Int) (hy : Got w a2 c2 ys y) (m1 : xs.length ≤ 400000) (m2 : ys.length ≤ 400000) (hle : y ≤ x) (h0 : 0 < x) :
    Calls Try.prog 82 #[.agg #[.bool n1, .slice a1 xs.length c1], .agg #[.bool (!n1), .slice a2 ys.length c2]] w fun e w' => ∃ ng' ao cap rs, e = .returned (.agg #[.bool ng', .slice ao rs.length cap]) ∧ Wh w' ng' ao cap rs (sg n1 x + sg (!n1) y) ∧ rs.length ≤ xs.length + ys.length + 1 ∧ Below w.heap.size w w' := by
  obtain ⟨w0, e0, bx, by', br, hb0, hs0⟩ := boxed3 w n1 (.slice a1 xs.length c1) (!n1) (.slice a2 ys.length c2)
  have E0 := hide e0
  have hx0 := hx.below hb0
  have hy0 := hy.below hb0
  have HB := hb0
  have ne1 : ¬ (w.heap.size = w.heap.size + 1 + 1) := by omega
  have ne2 : ¬ (w.heap.size + 1 + 1 = w.heap.size) := by omega
  clear e0 hs0
  have K := hide (fun w hx hy => size_any w n1 (!n1) a1 a2 c1 c2 xs ys x y hx hy)
  have hc : 0 ≤ cmpI x y := by
    rcases Int.lt_trichotomy x y with h | h | h
    · omega
    · rw [Lm.cmpI_eq h]; omega
    · rw [cmpI_gt h]; omega
  have hpos : 0 < xs.length := by
    apply Classical.byContradiction
    intro hn
    have := got_zero hx (by omega)
    omega
  have hlen : ys.length ≤ xs.length := by
    apply Classical.byContradiction
    intro hn
    have := canon_lt hx.canon hy.canon (by omega)
    rw [hx.val, hy.val] at this
    omega
  generalize cmpI x y = cv at K hc
  cases n1 with
  | false =>
    simp only [Bool.not_false] at E0 by' K ⊢
    go_enter Try.func82, Try.ntmps82
    go_wp2_with fail
    rw [E0.out]
    obtain ⟨bx1, bx2, bx3, bx4⟩ := bx.facts
    obtain ⟨by1, by2, by3, by4⟩ := by'.facts
    obtain ⟨br1, br2, br3, br4⟩ := br.facts
    refine (K.out _ hx0 hy0).mono ?_
    rintro e w9 ⟨rfl, hb9⟩
    replace HB := HB.trans (hb9.mono HB.size)
    replace hx0 := hx0.below hb9
    replace hy0 := hy0.below hb9
    replace bx := bx.below hb9
    replace by' := by'.below hb9
    replace br := br.below hb9
    clear bx1 bx2 bx3 bx4 by1 by2 by3 by4 br1 br2 br3 br4
    obtain ⟨bx1, bx2, bx3, bx4⟩ := bx.facts
    obtain ⟨by1, by2, by3, by4⟩ := by'.facts
    obtain ⟨br1, br2, br3, br4⟩ := br.facts
    go_wp2_with fail
    go_region_held3 (fun w' => w'.cell? ⟨w.heap.size, 0, none⟩ = some (.bool false) ∧ w'.cell? ⟨w.heap.size, 1, none⟩ = some (.slice a1 xs.length c1) ∧ w'.cell? ⟨w.heap.size + 1, 0, none⟩ = some (.bool true) ∧ w'.cell? ⟨w.heap.size + 1, 1, none⟩ = some (.slice a2 ys.length c2)) (go_keep) (first
        | (go_at_call 78; have _hq := hb1'; refine (made_w _ _ p1 q1 d1 _ (s1.below (by repeat (first | exact Below.refl _ _ | refine Below.drew ?_))) e1).mono ?_; rintro e w2 ⟨ng2, r2, rfl, G2, l2, hb2⟩; have hb2' : Below w1.heap.size w1 w2 := (show Below w1.heap.size w1 _ by repeat (first | exact Below.refl _ _ | refine Below.drew ?_)).trans hb2; have HB := HB.trans (hb2'.mono HB.size); replace bx := bx.below hb2'; clear bx1 bx2 bx3 bx4; obtain ⟨bx1, bx2, bx3, bx4⟩ := bx.facts; replace by' := by'.below hb2'; clear by1 by2 by3 by4; obtain ⟨by1, by2, by3, by4⟩ := by'.facts; replace br := br.below hb2'; clear br1 br2 br3 br4; obtain ⟨br1, br2, br3, br4⟩ := br.facts)
        | (go_at_call 105; refine (less_any _ _ _ _ xs (hx0.sl.below (by repeat (first | exact Below.refl _ _ | refine Below.drew ?_))) _ _ _ ys (hy0.sl.below (by repeat (first | exact Below.refl _ _ | refine Below.drew ?_))) (by omega) hlen (by rw [hx.val, hy.val]; exact hle) hpos).mono ?_; rintro e w1 ⟨v1, rfl, D1, hb1⟩; obtain ⟨p1, q1, d1, rfl, s1, e1, l1⟩ := D1.open; clear D1; have hb1' : Below w9.heap.size w9 w1 := (show Below w9.heap.size w9 _ by repeat (first | exact Below.refl _ _ | refine Below.drew ?_)).trans hb1; have HB := HB.trans (hb1'.mono HB.size); replace bx := bx.below hb1'; clear bx1 bx2 bx3 bx4; obtain ⟨bx1, bx2, bx3, bx4⟩ := bx.facts; replace by' := by'.below hb1'; clear by1 by2 by3 by4; obtain ⟨by1, by2, by3, by4⟩ := by'.facts; replace br := br.below hb1'; clear br1 br2 br3 br4; obtain ⟨br1, br2, br3, br4⟩ := br.facts))
    all_goals
      have X := hide (br.set ng2 (.slice p1 r2.length q1)).facts
      have Y := hide (br.wh ng2 (.slice p1 r2.length q1) G2)
      have Z := hide (below_set2 HB (show w.heap.size ≤ w.heap.size + 1 + 1 by omega) (.bool ng2) (.slice p1 r2.length q1))
      clear bx1 bx2 bx3 bx4 by1 by2 by3 by4
      go_wp2
      refine bodyPost_ret (v := .agg #[.bool ng2, .slice p1 r2.length q1]) ?_ rfl ⟨ng2, p1, q1, r2, rfl, by rw [show sg false x + sg true y = sg false (Dm.val xs - Dm.val ys) by rw [hx.val, hy.val]; simp [sg]; omega]; exact Y.out, by omega, Z.out⟩
      simp [results, Try.results82, go_sem, X.out.1, X.out.2.1]
  | true =>
    simp only [Bool.not_true] at E0 by' K ⊢
    go_enter Try.func82, Try.ntmps82
    go_wp2_with fail
    rw [E0.out]
    obtain ⟨bx1, bx2, bx3, bx4⟩ := bx.facts
    obtain ⟨by1, by2, by3, by4⟩ := by'.facts
    obtain ⟨br1, br2, br3, br4⟩ := br.facts
    refine (K.out _ hx0 hy0).mono ?_
    rintro e w9 ⟨rfl, hb9⟩
    replace HB := HB.trans (hb9.mono HB.size)
    replace hx0 := hx0.below hb9
    replace hy0 := hy0.below hb9
    replace bx := bx.below hb9
    replace by' := by'.below hb9
    replace br := br.below hb9
    clear bx1 bx2 bx3 bx4 by1 by2 by3 by4 br1 br2 br3 br4
    obtain ⟨bx1, bx2, bx3, bx4⟩ := bx.facts
    obtain ⟨by1, by2, by3, by4⟩ := by'.facts
    obtain ⟨br1, br2, br3, br4⟩ := br.facts
    go_wp2_with fail
    go_region_held3 (fun w' => w'.cell? ⟨w.heap.size, 0, none⟩ = some (.bool true) ∧ w'.cell? ⟨w.heap.size, 1, none⟩ = some (.slice a1 xs.length c1) ∧ w'.cell? ⟨w.heap.size + 1, 0, none⟩ = some (.bool false) ∧ w'.cell? ⟨w.heap.size + 1, 1, none⟩ = some (.slice a2 ys.length c2)) (go_keep) (first
        | (go_at_call 78; have _hq := hb1'; refine (made_w _ _ p1 q1 d1 _ (s1.below (by repeat (first | exact Below.refl _ _ | refine Below.drew ?_))) e1).mono ?_; rintro e w2 ⟨ng2, r2, rfl, G2, l2, hb2⟩; have hb2' : Below w1.heap.size w1 w2 := (show Below w1.heap.size w1 _ by repeat (first | exact Below.refl _ _ | refine Below.drew ?_)).trans hb2; have HB := HB.trans (hb2'.mono HB.size); replace bx := bx.below hb2'; clear bx1 bx2 bx3 bx4; obtain ⟨bx1, bx2, bx3, bx4⟩ := bx.facts; replace by' := by'.below hb2'; clear by1 by2 by3 by4; obtain ⟨by1, by2, by3, by4⟩ := by'.facts; replace br := br.below hb2'; clear br1 br2 br3 br4; obtain ⟨br1, br2, br3, br4⟩ := br.facts)
        | (go_at_call 105; refine (less_any _ _ _ _ xs (hx0.sl.below (by repeat (first | exact Below.refl _ _ | refine Below.drew ?_))) _ _ _ ys (hy0.sl.below (by repeat (first | exact Below.refl _ _ | refine Below.drew ?_))) (by omega) hlen (by rw [hx.val, hy.val]; exact hle) hpos).mono ?_; rintro e w1 ⟨v1, rfl, D1, hb1⟩; obtain ⟨p1, q1, d1, rfl, s1, e1, l1⟩ := D1.open; clear D1; have hb1' : Below w9.heap.size w9 w1 := (show Below w9.heap.size w9 _ by repeat (first | exact Below.refl _ _ | refine Below.drew ?_)).trans hb1; have HB := HB.trans (hb1'.mono HB.size); replace bx := bx.below hb1'; clear bx1 bx2 bx3 bx4; obtain ⟨bx1, bx2, bx3, bx4⟩ := bx.facts; replace by' := by'.below hb1'; clear by1 by2 by3 by4; obtain ⟨by1, by2, by3, by4⟩ := by'.facts; replace br := br.below hb1'; clear br1 br2 br3 br4; obtain ⟨br1, br2, br3, br4⟩ := br.facts))
    all_goals
      have X := hide (br.set ng2 (.slice p1 r2.length q1)).facts
      have Y := hide (br.wh ng2 (.slice p1 r2.length q1) G2)
      have Z := hide (below_set2 HB (show w.heap.size ≤ w.heap.size + 1 + 1 by omega) (.bool ng2) (.slice p1 r2.length q1))
      clear bx1 bx2 bx3 bx4 by1 by2 by3 by4
      go_wp2
      refine bodyPost_ret (v := .agg #[.bool ng2, .slice p1 r2.length q1]) ?_ rfl ⟨ng2, p1, q1, r2, rfl, by rw [show sg true x + sg false y = sg true (Dm.val xs - Dm.val ys) by rw [hx.val, hy.val]; simp [sg]; omega]; exact Y.out, by omega, Z.out⟩
      simp [results, Try.results82, go_sem, X.out.1, X.out.2.1]

set_option maxRecDepth 20000 in
set_option maxHeartbeats 1000000 in
theorem nadd_lt (w : World) (n1 : Bool) (a1 : Option Addr) (c1 : Nat) (xs : List Int) (x : Int) (hx : Got w a1 c1 xs x) (a2 : Option Addr) (c2 : Nat) (ys : List Int) (y : Int) (hy : Got w a2 c2 ys y) (m1 : xs.length ≤ 400000) (m2 : ys.length ≤ 400000) (hle : x < y) :
    Calls Try.prog 82 #[.agg #[.bool n1, .slice a1 xs.length c1], .agg #[.bool (!n1), .slice a2 ys.length c2]] w fun e w' => ∃ ng' ao cap rs, e = .returned (.agg #[.bool ng', .slice ao rs.length cap]) ∧ Wh w' ng' ao cap rs (sg n1 x + sg (!n1) y) ∧ rs.length ≤ xs.length + ys.length + 1 ∧ Below w.heap.size w w' := by
  obtain ⟨w0, e0, bx, by', br, hb0, hs0⟩ := boxed3 w n1 (.slice a1 xs.length c1) (!n1) (.slice a2 ys.length c2)
  have E0 := hide e0
  have hx0 := hx.below hb0
  have hy0 := hy.below hb0
  have HB := hb0
  have ne1 : ¬ (w.heap.size = w.heap.size + 1 + 1) := by omega
  have ne2 : ¬ (w.heap.size + 1 + 1 = w.heap.size) := by omega
  clear e0 hs0
  have K := hide (fun w hx hy => size_any w n1 (!n1) a1 a2 c1 c2 xs ys x y hx hy)
  have hc : ¬ 0 ≤ cmpI x y := by rw [cmpI_lt hle]; omega
  have hpos : 0 < ys.length := by
    apply Classical.byContradiction
    intro hn
    have h1 := got_zero hy (by omega)
    have h2 := (val_bounds hx.canon.1).1
    rw [hx.val] at h2
    omega
  have hlen : xs.length ≤ ys.length := by
    apply Classical.byContradiction
    intro hn
    have := canon_lt hy.canon hx.canon (by omega)
    rw [hx.val, hy.val] at this
    omega
  generalize cmpI x y = cv at K hc
  cases n1 with
  | false =>
    simp only [Bool.not_false] at E0 by' K ⊢
    go_enter Try.func82, Try.ntmps82
    go_wp2_with fail
    rw [E0.out]
    obtain ⟨bx1, bx2, bx3, bx4⟩ := bx.facts
    obtain ⟨by1, by2, by3, by4⟩ := by'.facts
    obtain ⟨br1, br2, br3, br4⟩ := br.facts
    refine (K.out _ hx0 hy0).mono ?_
    rintro e w9 ⟨rfl, hb9⟩
    replace HB := HB.trans (hb9.mono HB.size)
    replace hx0 := hx0.below hb9
    replace hy0 := hy0.below hb9
    replace bx := bx.below hb9
    replace by' := by'.below hb9
    replace br := br.below hb9
    clear bx1 bx2 bx3 bx4 by1 by2 by3 by4 br1 br2 br3 br4
    obtain ⟨bx1, bx2, bx3, bx4⟩ := bx.facts
    obtain ⟨by1, by2, by3, by4⟩ := by'.facts
    obtain ⟨br1, br2, br3, br4⟩ := br.facts
    go_wp2_with fail
    go_region_held3 (fun w' => w'.cell? ⟨w.heap.size, 0, none⟩ = some (.bool false) ∧ w'.cell? ⟨w.heap.size, 1, none⟩ = some (.slice a1 xs.length c1) ∧ w'.cell? ⟨w.heap.size + 1, 0, none⟩ = some (.bool true) ∧ w'.cell? ⟨w.heap.size + 1, 1, none⟩ = some (.slice a2 ys.length c2)) (go_keep) (first
        | (go_at_call 78; have _hq := hb1'; refine (made_w _ _ p1 q1 d1 _ (s1.below (by repeat (first | exact Below.refl _ _ | refine Below.drew ?_))) e1).mono ?_; rintro e w2 ⟨ng2, r2, rfl, G2, l2, hb2⟩; have hb2' : Below w1.heap.size w1 w2 := (show Below w1.heap.size w1 _ by repeat (first | exact Below.refl _ _ | refine Below.drew ?_)).trans hb2; have HB := HB.trans (hb2'.mono HB.size); replace bx := bx.below hb2'; clear bx1 bx2 bx3 bx4; obtain ⟨bx1, bx2, bx3, bx4⟩ := bx.facts; replace by' := by'.below hb2'; clear by1 by2 by3 by4; obtain ⟨by1, by2, by3, by4⟩ := by'.facts; replace br := br.below hb2'; clear br1 br2 br3 br4; obtain ⟨br1, br2, br3, br4⟩ := br.facts)
        | (go_at_call 105; refine (less_any _ _ _ _ ys (hy0.sl.below (by repeat (first | exact Below.refl _ _ | refine Below.drew ?_))) _ _ _ xs (hx0.sl.below (by repeat (first | exact Below.refl _ _ | refine Below.drew ?_))) (by omega) hlen (by rw [hx.val, hy.val]; omega) hpos).mono ?_; rintro e w1 ⟨v1, rfl, D1, hb1⟩; obtain ⟨p1, q1, d1, rfl, s1, e1, l1⟩ := D1.open; clear D1; have hb1' : Below w9.heap.size w9 w1 := (show Below w9.heap.size w9 _ by repeat (first | exact Below.refl _ _ | refine Below.drew ?_)).trans hb1; have HB := HB.trans (hb1'.mono HB.size); replace bx := bx.below hb1'; clear bx1 bx2 bx3 bx4; obtain ⟨bx1, bx2, bx3, bx4⟩ := bx.facts; replace by' := by'.below hb1'; clear by1 by2 by3 by4; obtain ⟨by1, by2, by3, by4⟩ := by'.facts; replace br := br.below hb1'; clear br1 br2 br3 br4; obtain ⟨br1, br2, br3, br4⟩ := br.facts))
    all_goals
      have X := hide (br.set ng2 (.slice p1 r2.length q1)).facts
      have Y := hide (br.wh ng2 (.slice p1 r2.length q1) G2)
      have Z := hide (below_set2 HB (show w.heap.size ≤ w.heap.size + 1 + 1 by omega) (.bool ng2) (.slice p1 r2.length q1))
      clear bx1 bx2 bx3 bx4 by1 by2 by3 by4
      go_wp2
      refine bodyPost_ret (v := .agg #[.bool ng2, .slice p1 r2.length q1]) ?_ rfl ⟨ng2, p1, q1, r2, rfl, by rw [show sg false x + sg true y = sg true (Dm.val ys - Dm.val xs) by rw [hx.val, hy.val]; simp [sg]; omega]; exact Y.out, by omega, Z.out⟩
      simp [results, Try.results82, go_sem, X.out.1, X.out.2.1]
  | true =>
    simp only [Bool.not_true] at E0 by' K ⊢
    go_enter Try.func82, Try.ntmps82
    go_wp2_with fail
    rw [E0.out]
    obtain ⟨bx1, bx2, bx3, bx4⟩ := bx.facts
    obtain ⟨by1, by2, by3, by4⟩ := by'.facts
    obtain ⟨br1, br2, br3, br4⟩ := br.facts
    refine (K.out _ hx0 hy0).mono ?_
    rintro e w9 ⟨rfl, hb9⟩
    replace HB := HB.trans (hb9.mono HB.size)
    replace hx0 := hx0.below hb9
    replace hy0 := hy0.below hb9
    replace bx := bx.below hb9
    replace by' := by'.below hb9
    replace br := br.below hb9
    clear bx1 bx2 bx3 bx4 by1 by2 by3 by4 br1 br2 br3 br4
    obtain ⟨bx1, bx2, bx3, bx4⟩ := bx.facts
    obtain ⟨by1, by2, by3, by4⟩ := by'.facts
    obtain ⟨br1, br2, br3, br4⟩ := br.facts
    go_wp2_with fail
    go_region_held3 (fun w' => w'.cell? ⟨w.heap.size, 0, none⟩ = some (.bool true) ∧ w'.cell? ⟨w.heap.size, 1, none⟩ = some (.slice a1 xs.length c1) ∧ w'.cell? ⟨w.heap.size + 1, 0, none⟩ = some (.bool false) ∧ w'.cell? ⟨w.heap.size + 1, 1, none⟩ = some (.slice a2 ys.length c2)) (go_keep) (first
        | (go_at_call 78; have _hq := hb1'; refine (made_w _ _ p1 q1 d1 _ (s1.below (by repeat (first | exact Below.refl _ _ | refine Below.drew ?_))) e1).mono ?_; rintro e w2 ⟨ng2, r2, rfl, G2, l2, hb2⟩; have hb2' : Below w1.heap.size w1 w2 := (show Below w1.heap.size w1 _ by repeat (first | exact Below.refl _ _ | refine Below.drew ?_)).trans hb2; have HB := HB.trans (hb2'.mono HB.size); replace bx := bx.below hb2'; clear bx1 bx2 bx3 bx4; obtain ⟨bx1, bx2, bx3, bx4⟩ := bx.facts; replace by' := by'.below hb2'; clear by1 by2 by3 by4; obtain ⟨by1, by2, by3, by4⟩ := by'.facts; replace br := br.below hb2'; clear br1 br2 br3 br4; obtain ⟨br1, br2, br3, br4⟩ := br.facts)
        | (go_at_call 105; refine (less_any _ _ _ _ ys (hy0.sl.below (by repeat (first | exact Below.refl _ _ | refine Below.drew ?_))) _ _ _ xs (hx0.sl.below (by repeat (first | exact Below.refl _ _ | refine Below.drew ?_))) (by omega) hlen (by rw [hx.val, hy.val]; omega) hpos).mono ?_; rintro e w1 ⟨v1, rfl, D1, hb1⟩; obtain ⟨p1, q1, d1, rfl, s1, e1, l1⟩ := D1.open; clear D1; have hb1' : Below w9.heap.size w9 w1 := (show Below w9.heap.size w9 _ by repeat (first | exact Below.refl _ _ | refine Below.drew ?_)).trans hb1; have HB := HB.trans (hb1'.mono HB.size); replace bx := bx.below hb1'; clear bx1 bx2 bx3 bx4; obtain ⟨bx1, bx2, bx3, bx4⟩ := bx.facts; replace by' := by'.below hb1'; clear by1 by2 by3 by4; obtain ⟨by1, by2, by3, by4⟩ := by'.facts; replace br := br.below hb1'; clear br1 br2 br3 br4; obtain ⟨br1, br2, br3, br4⟩ := br.facts))
    all_goals
      have X := hide (br.set ng2 (.slice p1 r2.length q1)).facts
      have Y := hide (br.wh ng2 (.slice p1 r2.length q1) G2)
      have Z := hide (below_set2 HB (show w.heap.size ≤ w.heap.size + 1 + 1 by omega) (.bool ng2) (.slice p1 r2.length q1))
      clear bx1 bx2 bx3 bx4 by1 by2 by3 by4
      go_wp2
      refine bodyPost_ret (v := .agg #[.bool ng2, .slice p1 r2.length q1]) ?_ rfl ⟨ng2, p1, q1, r2, rfl, by rw [show sg true x + sg false y = sg false (Dm.val ys - Dm.val xs) by rw [hx.val, hy.val]; simp [sg]; omega]; exact Y.out, by omega, Z.out⟩
      simp [results, Try.results82, go_sem, X.out.1, X.out.2.1]

theorem nadd_g (w : World) (n1 : Bool) (a1 : Option Addr) (c1 : Nat) (xs : List Int) (x : Int) (hx : Wh w n1 a1 c1 xs x) (n2 : Bool) (a2 : Option Addr) (c2 : Nat) (ys : List Int) (y : Int) (hy : Wh w n2 a2 c2 ys y) (m1 : xs.length ≤ 400000) (m2 : ys.length ≤ 400000) :
    Calls Try.prog 82 #[.agg #[.bool n1, .slice a1 xs.length c1], .agg #[.bool n2, .slice a2 ys.length c2]] w fun e w' => ∃ ng' ao cap rs, e = .returned (.agg #[.bool ng', .slice ao rs.length cap]) ∧ Wh w' ng' ao cap rs (x + y) ∧ rs.length ≤ xs.length + ys.length + 1 ∧ Below w.heap.size w w' := by
  have wx := hx.worth
  have wy := hy.worth
  rw [hx.1.val] at wx
  rw [hy.1.val] at wy
  rw [show x + y = sg n1 (x.natAbs : Int) + sg n2 (y.natAbs : Int) by rw [wx, wy]]
  by_cases hn : n1 = n2
  · subst hn
    exact nadd_same w n1 a1 c1 xs _ hx.1 a2 c2 ys _ hy.1 m1 m2
  · have hn2 : n2 = !n1 := by cases n1 <;> cases n2 <;> simp_all
    have s1 := hx.2
    have s2 := hy.2
    subst hn2
    by_cases hle : (y.natAbs : Int) ≤ (x.natAbs : Int)
    · refine nadd_ge w n1 a1 c1 xs _ hx.1 a2 c2 ys _ hy.1 m1 m2 hle ?_
      cases n1
      · have : y < 0 := by simpa using s2.symm
        omega
      · have : x < 0 := by simpa using s1.symm
        omega
    · exact nadd_lt w n1 a1 c1 xs _ hx.1 a2 c2 ys _ hy.1 m1 m2 (by omega)

end Dm
end Go.Proofs.Ytkdcgnooeojjgab

namespace Go.Proofs.Ytkdcgnooeojjgab
namespace Dm
open Go.RowKit
open Lm (hide lt_of_cell lt_of_heap cmpI cmpI_lt cmpI_gt)

/-- A copy reads as what was copied. -/
theorem copied {w : World} {B g n cap : Nat} {zs : List Int} (h : w.ownsRow B 3 1 (.slice (some ⟨g, 0, none⟩) n cap) n ([] ++ zs.map (Value.int .i64))) (hz : Limb zs) : Sl w (.slice (some ⟨g, 0, none⟩) zs.length cap) zs := by
  have hn : zs.length = n := by simpa using h.1
  subst hn
  rw [List.nil_append] at h
  exact (ow_of_row h hz).sl

set_option maxRecDepth 20000 in
set_option maxHeartbeats 1000000 in
theorem minus_some (w : World) (ng : Bool) (a1 : Option Addr) (c1 : Nat) (xs : List Int) (x : Int) (hx : Got w a1 c1 xs x) (m1 : xs.length ≤ 1000000) (h0 : 0 < xs.length) :
    Calls Try.prog 85 #[.agg #[.bool ng, .slice a1 xs.length c1]] w fun e w' => ∃ ng' ao cap rs, e = .returned (.agg #[.bool ng', .slice ao rs.length cap]) ∧ Wh w' ng' ao cap rs (sg (!ng) x) ∧ rs.length ≤ xs.length ∧ Below w.heap.size w w' := by
  obtain ⟨b, off, rfl, _⟩ := hx.sl.cells h0
  obtain ⟨w0, e0, bx, br, hb0, hs0⟩ := boxed1 w ng (.slice (some ⟨b, off, none⟩) xs.length c1)
  have E0 := hide e0
  obtain ⟨i0, hi, hz0, hz1, hz2⟩ := info_parts info64
  obtain ⟨_, p1, p2, p3⟩ := hx.sl.parts
  have P3 := hide p3
  have hx0 := hx.below hb0
  have HB := hb0
  clear e0 hs0 p3
  go_enter Try.func85, Try.ntmps85
  go_wp2_with fail
  rw [E0.out]
  obtain ⟨bx1, bx2, bx3, bx4⟩ := bx.facts
  obtain ⟨br1, br2, br3, br4⟩ := br.facts
  go_region_held3 (fun w' => w'.cell? ⟨w.heap.size, 0, none⟩ = some (.bool ng) ∧ w'.cell? ⟨w.heap.size, 1, none⟩ = some (.slice (some ⟨b, off, none⟩) xs.length c1)) (go_keep) (first
    | (go_at_call 78; refine (made_w _ _ _ _ xs _ (s1.below (by repeat (first | exact Below.refl _ _ | refine Below.drew ?_))) hx.val).mono ?_; rintro e w2 ⟨ng2, r2, rfl, G2, l2, hb2⟩; have hb2' : Below w1.heap.size w1 w2 := (show Below w1.heap.size w1 _ by repeat (first | exact Below.refl _ _ | refine Below.drew ?_)).trans hb2; have HB := HB.trans (hb2'.mono HB.size); replace bx := bx.below hb2'; clear bx1 bx2 bx3 bx4; obtain ⟨bx1, bx2, bx3, bx4⟩ := bx.facts; replace br := br.below hb2'; clear br1 br2 br3 br4; obtain ⟨br1, br2, br3, br4⟩ := br.facts)
    | ((refine step_append_lies _ (by rfl) _ _ _ (by rfl) w0.heap.size 3 i0 _ 1 8 Try.underlying64 hi hz0 hz1 hz2 rfl (by omega) (.slice none 0 0) 0 [] (by rfl) (World.ownsRow_nil _ _ _ _) ⟨b, off, none⟩ xs.length c1 (xs.map (Value.int .i64)) (by rfl) (by simp) (Sl.copy (hx0.sl.below (by repeat (first | exact Below.refl _ _ | refine Below.drew ?_)))) (one_cells xs) (by omega) (by unfold maxLen; omega) (by omega) (by simp) w0.heap.size (by simp) ?_; intro g1 q1 w1 hown hgrow hat hlt; have hb1' : Below w0.heap.size w0 w1 := (show Below w0.heap.size w0 _ by repeat (first | exact Below.refl _ _ | refine Below.drew ?_)).grown hgrow (by simp) (by intro k hk; simp [Value.ownBlock] at hk); have HB := HB.trans (hb1'.mono HB.size); have s1 := copied hown P3.out; replace bx := bx.below hb1'; clear bx1 bx2 bx3 bx4; obtain ⟨bx1, bx2, bx3, bx4⟩ := bx.facts; replace br := br.below hb1'; clear br1 br2 br3 br4; obtain ⟨br1, br2, br3, br4⟩ := br.facts)))
  all_goals
    have X := hide (br.set ng2 (.slice (some ⟨g1, 0, none⟩) r2.length q1)).facts
    have Y := hide (br.wh ng2 (.slice (some ⟨g1, 0, none⟩) r2.length q1) G2)
    have Z := hide (below_set2 HB (show w.heap.size ≤ w.heap.size + 1 by omega) (.bool ng2) (.slice (some ⟨g1, 0, none⟩) r2.length q1))
    clear bx1 bx2 bx3 bx4
    go_wp2
    refine bodyPost_ret (v := .agg #[.bool ng2, .slice (some ⟨g1, 0, none⟩) r2.length q1]) ?_ rfl ⟨ng2, (some ⟨g1, 0, none⟩), q1, r2, rfl, Y.out, by omega, Z.out⟩
    simp [results, Try.results85, go_sem, X.out.1, X.out.2.1]

set_option maxRecDepth 20000 in
set_option maxHeartbeats 1000000 in
theorem abs_some (w : World) (ng : Bool) (a1 : Option Addr) (c1 : Nat) (xs : List Int) (x : Int) (hx : Got w a1 c1 xs x) (m1 : xs.length ≤ 1000000) (h0 : 0 < xs.length) :
    Calls Try.prog 84 #[.agg #[.bool ng, .slice a1 xs.length c1]] w fun e w' => ∃ ng' ao cap rs, e = .returned (.agg #[.bool ng', .slice ao rs.length cap]) ∧ Wh w' ng' ao cap rs (sg false x) ∧ rs.length ≤ xs.length ∧ Below w.heap.size w w' := by
  obtain ⟨b, off, rfl, _⟩ := hx.sl.cells h0
  obtain ⟨w0, rfl, bx, br, hb0, hs0⟩ := boxed1 w ng (.slice (some ⟨b, off, none⟩) xs.length c1)
  obtain ⟨i0, hi, hz0, hz1, hz2⟩ := info_parts info64
  obtain ⟨_, p1, p2, p3⟩ := hx.sl.parts
  have P3 := hide p3
  have hx0 := hx.below hb0
  have HB := hb0
  clear p3
  go_enter Try.func84, Try.ntmps84
  go_wp2_with (at_builtin; refine wpList_append_lies _ rfl _ _ _ rfl w.heap.size 3 i0 _ 1 8 Try.underlying64 hi hz0 hz1 hz2 rfl (by omega) (.slice none 0 0) 0 [] rfl (World.ownsRow_nil _ _ _ _) ⟨b, off, none⟩ xs.length c1 (xs.map (Value.int .i64)) rfl (by simp) (Sl.copy hx0.sl) (one_cells xs) (by omega) (by unfold maxLen; omega) (by omega) (by simp; omega) (w.heap.size + 2) (by simp) ?_)
  intro g1 q1 w1 hown hgrow hat hlt
  have hb1 := Below.grown (Below.refl _ _) hgrow (Nat.le_refl _) (by intro k hk; simp [Value.ownBlock] at hk)
  have HB := HB.trans (hb1.mono HB.size)
  have s1 := copied hown P3.out
  replace bx := bx.below hb1
  replace br := br.below hb1
  clear hown hgrow hat hx0
  go_wp2_with fail
  try rw [Nat.zero_add]
  refine (made_w _ _ _ _ xs _ s1 hx.val).mono ?_
  rintro e w2 ⟨ng2, r2, rfl, G2, l2, hb2⟩
  replace HB := HB.trans (hb2.mono HB.size)
  replace bx := bx.below hb2
  replace br := br.below hb2
  obtain ⟨bx1, bx2, bx3, bx4⟩ := bx.facts
  obtain ⟨br1, br2, br3, br4⟩ := br.facts
  all_goals
    have X := hide (br.set ng2 (.slice (some ⟨g1, 0, none⟩) r2.length q1)).facts
    have Y := hide (br.wh ng2 (.slice (some ⟨g1, 0, none⟩) r2.length q1) G2)
    have Z := hide (below_set2 HB (show w.heap.size ≤ w.heap.size + 1 by omega) (.bool ng2) (.slice (some ⟨g1, 0, none⟩) r2.length q1))
    clear bx1 bx2 bx3 bx4
    go_wp2
    refine bodyPost_ret (v := .agg #[.bool ng2, .slice (some ⟨g1, 0, none⟩) r2.length q1]) ?_ rfl ⟨ng2, (some ⟨g1, 0, none⟩), q1, r2, rfl, Y.out, by omega, Z.out⟩
    simp [results, Try.results84, go_sem, X.out.1, X.out.2.1]

theorem sl_nil (w : World) : Sl w (.slice none ([] : List Int).length 0) [] := ⟨none, 0, rfl, Nat.le_refl _, by simp [maxLen], limb_nil, .inl rfl⟩

set_option maxRecDepth 20000 in
set_option maxHeartbeats 1000000 in
theorem minus_nonea (w : World) (ng : Bool) (c1 : Nat) (_hc : c1 ≤ 9223372036854775807) :
    Calls Try.prog 85 #[.agg #[.bool ng, .slice none 0 c1]] w fun e w' => ∃ ng' ao cap rs, e = .returned (.agg #[.bool ng', .slice ao rs.length cap]) ∧ Wh w' ng' ao cap rs (sg (!ng) 0) ∧ rs.length ≤ 0 ∧ Below w.heap.size w w' := by
  obtain ⟨w0, e0, bx, br, hb0, hs0⟩ := boxed1 w ng (.slice none 0 c1)
  have E0 := hide e0
  have HB := hb0
  clear e0 hs0
  go_enter Try.func85, Try.ntmps85
  go_wp2_with fail
  rw [E0.out]
  obtain ⟨bx1, bx2, bx3, bx4⟩ := bx.facts
  obtain ⟨br1, br2, br3, br4⟩ := br.facts
  go_region_held3 (fun w' => w'.cell? ⟨w.heap.size, 0, none⟩ = some (.bool ng) ∧ w'.cell? ⟨w.heap.size, 1, none⟩ = some (.slice none 0 c1)) (go_keep) (first
    | (go_at_call 78; refine (made_w _ _ none 0 [] 0 (sl_nil _) rfl).mono ?_; rintro e w2 ⟨ng2, r2, rfl, G2, l2, hb2⟩; have hb2' : Below w0.heap.size w0 w2 := (show Below w0.heap.size w0 _ by repeat (first | exact Below.refl _ _ | refine Below.drew ?_)).trans hb2; have HB := HB.trans (hb2'.mono HB.size); replace bx := bx.below hb2'; clear bx1 bx2 bx3 bx4; obtain ⟨bx1, bx2, bx3, bx4⟩ := bx.facts; replace br := br.below hb2'; clear br1 br2 br3 br4; obtain ⟨br1, br2, br3, br4⟩ := br.facts))
  all_goals
    have X := hide (br.set ng2 (.slice none r2.length 0)).facts
    have Y := hide (br.wh ng2 (.slice none r2.length 0) G2)
    have Z := hide (below_set2 HB (show w.heap.size ≤ w.heap.size + 1 by omega) (.bool ng2) (.slice none r2.length 0))
    clear bx1 bx2 bx3 bx4
    go_wp2
    refine bodyPost_ret (v := .agg #[.bool ng2, .slice none r2.length 0]) ?_ rfl ⟨ng2, none, 0, r2, rfl, Y.out, by simpa using l2, Z.out⟩
    simp [results, Try.results85, go_sem, X.out.1, X.out.2.1]

set_option maxRecDepth 20000 in
set_option maxHeartbeats 1000000 in
theorem minus_noneb (w : World) (ng : Bool) (ad : Addr) (c1 : Nat) (_hc : c1 ≤ 9223372036854775807) :
    Calls Try.prog 85 #[.agg #[.bool ng, .slice (some ad) 0 c1]] w fun e w' => ∃ ng' ao cap rs, e = .returned (.agg #[.bool ng', .slice ao rs.length cap]) ∧ Wh w' ng' ao cap rs (sg (!ng) 0) ∧ rs.length ≤ 0 ∧ Below w.heap.size w w' := by
  obtain ⟨w0, e0, bx, br, hb0, hs0⟩ := boxed1 w ng (.slice (some ad) 0 c1)
  have E0 := hide e0
  have HB := hb0
  clear e0 hs0
  go_enter Try.func85, Try.ntmps85
  go_wp2_with fail
  rw [E0.out]
  obtain ⟨bx1, bx2, bx3, bx4⟩ := bx.facts
  obtain ⟨br1, br2, br3, br4⟩ := br.facts
  go_region_held3 (fun w' => w'.cell? ⟨w.heap.size, 0, none⟩ = some (.bool ng) ∧ w'.cell? ⟨w.heap.size, 1, none⟩ = some (.slice (some ad) 0 c1)) (go_keep) (first
    | (go_at_call 78; refine (made_w _ _ none 0 [] 0 (sl_nil _) rfl).mono ?_; rintro e w2 ⟨ng2, r2, rfl, G2, l2, hb2⟩; have hb2' : Below w0.heap.size w0 w2 := (show Below w0.heap.size w0 _ by repeat (first | exact Below.refl _ _ | refine Below.drew ?_)).trans hb2; have HB := HB.trans (hb2'.mono HB.size); replace bx := bx.below hb2'; clear bx1 bx2 bx3 bx4; obtain ⟨bx1, bx2, bx3, bx4⟩ := bx.facts; replace br := br.below hb2'; clear br1 br2 br3 br4; obtain ⟨br1, br2, br3, br4⟩ := br.facts))
  all_goals
    have X := hide (br.set ng2 (.slice none r2.length 0)).facts
    have Y := hide (br.wh ng2 (.slice none r2.length 0) G2)
    have Z := hide (below_set2 HB (show w.heap.size ≤ w.heap.size + 1 by omega) (.bool ng2) (.slice none r2.length 0))
    clear bx1 bx2 bx3 bx4
    go_wp2
    refine bodyPost_ret (v := .agg #[.bool ng2, .slice none r2.length 0]) ?_ rfl ⟨ng2, none, 0, r2, rfl, Y.out, by simpa using l2, Z.out⟩
    simp [results, Try.results85, go_sem, X.out.1, X.out.2.1]

set_option maxRecDepth 20000 in
set_option maxHeartbeats 1000000 in
theorem abs_nonea (w : World) (ng : Bool) (c1 : Nat) (_hc : c1 ≤ 9223372036854775807) :
    Calls Try.prog 84 #[.agg #[.bool ng, .slice none 0 c1]] w fun e w' => ∃ ng' ao cap rs, e = .returned (.agg #[.bool ng', .slice ao rs.length cap]) ∧ Wh w' ng' ao cap rs (sg false 0) ∧ rs.length ≤ 0 ∧ Below w.heap.size w w' := by
  obtain ⟨w0, e0, bx, br, hb0, hs0⟩ := boxed1 w ng (.slice none 0 c1)
  have E0 := hide e0
  have HB := hb0
  clear e0 hs0
  go_enter Try.func84, Try.ntmps84
  go_wp2_with fail
  rw [E0.out]
  obtain ⟨bx1, bx2, bx3, bx4⟩ := bx.facts
  obtain ⟨br1, br2, br3, br4⟩ := br.facts
  refine (made_w _ _ none 0 [] 0 (sl_nil _) rfl).mono ?_
  rintro e w2 ⟨ng2, r2, rfl, G2, l2, hb2⟩
  replace HB := HB.trans (hb2.mono HB.size)
  replace bx := bx.below hb2
  replace br := br.below hb2
  clear bx1 bx2 bx3 bx4 br1 br2 br3 br4
  obtain ⟨bx1, bx2, bx3, bx4⟩ := bx.facts
  obtain ⟨br1, br2, br3, br4⟩ := br.facts
  all_goals
    have X := hide (br.set ng2 (.slice none r2.length 0)).facts
    have Y := hide (br.wh ng2 (.slice none r2.length 0) G2)
    have Z := hide (below_set2 HB (show w.heap.size ≤ w.heap.size + 1 by omega) (.bool ng2) (.slice none r2.length 0))
    clear bx1 bx2 bx3 bx4
    go_wp2
    refine bodyPost_ret (v := .agg #[.bool ng2, .slice none r2.length 0]) ?_ rfl ⟨ng2, none, 0, r2, rfl, Y.out, by simpa using l2, Z.out⟩
    simp [results, Try.results84, go_sem, X.out.1, X.out.2.1]

set_option maxRecDepth 20000 in
set_option maxHeartbeats 1000000 in
theorem abs_noneb (w : World) (ng : Bool) (ad : Addr) (c1 : Nat) (_hc : c1 ≤ 9223372036854775807) :
    Calls Try.prog 84 #[.agg #[.bool ng, .slice (some ad) 0 c1]] w fun e w' => ∃ ng' ao cap rs, e = .returned (.agg #[.bool ng', .slice ao rs.length cap]) ∧ Wh w' ng' ao cap rs (sg false 0) ∧ rs.length ≤ 0 ∧ Below w.heap.size w w' := by
  obtain ⟨w0, e0, bx, br, hb0, hs0⟩ := boxed1 w ng (.slice (some ad) 0 c1)
  have E0 := hide e0
  have HB := hb0
  clear e0 hs0
  go_enter Try.func84, Try.ntmps84
  go_wp2_with fail
  rw [E0.out]
  obtain ⟨bx1, bx2, bx3, bx4⟩ := bx.facts
  obtain ⟨br1, br2, br3, br4⟩ := br.facts
  refine (made_w _ _ none 0 [] 0 (sl_nil _) rfl).mono ?_
  rintro e w2 ⟨ng2, r2, rfl, G2, l2, hb2⟩
  replace HB := HB.trans (hb2.mono HB.size)
  replace bx := bx.below hb2
  replace br := br.below hb2
  clear bx1 bx2 bx3 bx4 br1 br2 br3 br4
  obtain ⟨bx1, bx2, bx3, bx4⟩ := bx.facts
  obtain ⟨br1, br2, br3, br4⟩ := br.facts
  all_goals
    have X := hide (br.set ng2 (.slice none r2.length 0)).facts
    have Y := hide (br.wh ng2 (.slice none r2.length 0) G2)
    have Z := hide (below_set2 HB (show w.heap.size ≤ w.heap.size + 1 by omega) (.bool ng2) (.slice none r2.length 0))
    clear bx1 bx2 bx3 bx4
    go_wp2
    refine bodyPost_ret (v := .agg #[.bool ng2, .slice none r2.length 0]) ?_ rfl ⟨ng2, none, 0, r2, rfl, Y.out, by simpa using l2, Z.out⟩
    simp [results, Try.results84, go_sem, X.out.1, X.out.2.1]

theorem minus_got (w : World) (ng : Bool) (a1 : Option Addr) (c1 : Nat) (xs : List Int) (x : Int) (hx : Got w a1 c1 xs x) (m1 : xs.length ≤ 1000000) :
    Calls Try.prog 85 #[.agg #[.bool ng, .slice a1 xs.length c1]] w fun e w' => ∃ ng' ao cap rs, e = .returned (.agg #[.bool ng', .slice ao rs.length cap]) ∧ Wh w' ng' ao cap rs (sg (!ng) x) ∧ rs.length ≤ xs.length ∧ Below w.heap.size w w' := by
  by_cases h0 : 0 < xs.length
  · exact minus_some w ng a1 c1 xs x hx m1 h0
  · have e : xs = [] := List.eq_nil_of_length_eq_zero (by omega)
    have hx0 : x = 0 := by rw [← hx.val, e]; rfl
    have hc := hx.sl.parts.2.2.1
    rw [hx0, e]
    cases a1 with
    | none => exact minus_nonea w ng c1 hc
    | some ad => exact minus_noneb w ng ad c1 hc

theorem abs_got (w : World) (ng : Bool) (a1 : Option Addr) (c1 : Nat) (xs : List Int) (x : Int) (hx : Got w a1 c1 xs x) (m1 : xs.length ≤ 1000000) :
    Calls Try.prog 84 #[.agg #[.bool ng, .slice a1 xs.length c1]] w fun e w' => ∃ ng' ao cap rs, e = .returned (.agg #[.bool ng', .slice ao rs.length cap]) ∧ Wh w' ng' ao cap rs (sg false x) ∧ rs.length ≤ xs.length ∧ Below w.heap.size w w' := by
  by_cases h0 : 0 < xs.length
  · exact abs_some w ng a1 c1 xs x hx m1 h0
  · have e : xs = [] := List.eq_nil_of_length_eq_zero (by omega)
    have hx0 : x = 0 := by rw [← hx.val, e]; rfl
    have hc := hx.sl.parts.2.2.1
    rw [hx0, e]
    cases a1 with
    | none => exact abs_nonea w ng c1 hc
    | some ad => exact abs_noneb w ng ad c1 hc

theorem minus_g (w : World) (n1 : Bool) (a1 : Option Addr) (c1 : Nat) (xs : List Int) (x : Int) (hx : Wh w n1 a1 c1 xs x) (m1 : xs.length ≤ 1000000) :
    Calls Try.prog 85 #[.agg #[.bool n1, .slice a1 xs.length c1]] w fun e w' => ∃ ng' ao cap rs, e = .returned (.agg #[.bool ng', .slice ao rs.length cap]) ∧ Wh w' ng' ao cap rs (-x) ∧ rs.length ≤ xs.length ∧ Below w.heap.size w w' := by
  have wx := hx.worth
  rw [hx.1.val] at wx
  rw [show -x = sg (!n1) (x.natAbs : Int) by rw [sg_neg, wx]]
  exact minus_got w n1 a1 c1 xs _ hx.1 m1

theorem abs_g (w : World) (n1 : Bool) (a1 : Option Addr) (c1 : Nat) (xs : List Int) (x : Int) (hx : Wh w n1 a1 c1 xs x) (m1 : xs.length ≤ 1000000) :
    Calls Try.prog 84 #[.agg #[.bool n1, .slice a1 xs.length c1]] w fun e w' => ∃ ng' ao cap rs, e = .returned (.agg #[.bool ng', .slice ao rs.length cap]) ∧ Wh w' ng' ao cap rs (x.natAbs : Int) ∧ rs.length ≤ xs.length ∧ Below w.heap.size w w' :=
  abs_got w n1 a1 c1 xs _ hx.1 m1

end Dm
end Go.Proofs.Ytkdcgnooeojjgab

namespace Go.Proofs.Ytkdcgnooeojjgab
namespace Lm
open Go.RowKit

/-- w' is w, but for block L and for new blocks. -/
structure Touch (w w' : World) (L : Nat) : Prop where
  os : w'.os = w.os
  tape : w'.tape = w.tape
  output : w'.output = w.output
  size : w.heap.size ≤ w'.heap.size
  other : ∀ k, k < w.heap.size → k ≠ L → w'.heap[k]? = w.heap[k]?

theorem Touch.below {w w' : World} {L B : Nat} (h : Touch w w' L) (hB : B ≤ L) (hs : B ≤ w.heap.size) : Below B w w' := ⟨h.os, h.tape, h.output, h.size, fun k hk => h.other k (by omega) (by omega)⟩
theorem Touch.of_below {w w' : World} {L : Nat} (h : Below w.heap.size w w') : Touch w w' L := ⟨h.os, h.tape, h.output, h.size, fun k hk _ => h.block k hk⟩
theorem Wr.touch {w w' : World} {g : Nat} {cur : Array Value} {e : TypeId} (h : Wr w w' g cur e) : Touch w w' g := ⟨h.os, h.tape, h.output, by rw [h.size]; exact Nat.le_refl _, fun k _ hk => h.other k hk⟩
theorem Touch.trans {w w' w'' : World} {L : Nat} (h : Touch w w' L) (h' : Touch w' w'' L) : Touch w w'' L :=
  ⟨h'.os.trans h.os, h'.tape.trans h.tape, h'.output.trans h.output, Nat.le_trans h.size h'.size, fun k hk hn => (h'.other k (Nat.lt_of_lt_of_le hk h.size) hn).trans (h.other k hk hn)⟩

theorem Ow.touch {B L : Nat} {w w' : World} {v : Value} {zs : List Int} (h : Ow B w v zs) (t : Touch w w' L) (hL : L < B) : Ow B w' v zs := by
  obtain ⟨ao, cap, rfl, h1, h2, h3, h4⟩ := h
  refine ⟨ao, cap, rfl, h1, h2, h3, ?_⟩
  rcases h4 with h4 | ⟨g, off, cur, rfl, hB, hh, hs, ha⟩
  · exact .inl h4
  · exact .inr ⟨g, off, cur, rfl, hB, by rw [t.other g (lt_of_heap hh) (by omega)]; exact hh, hs, ha⟩

theorem Is.touch {B L : Nat} {w w' : World} {v : Value} {x : Int} (h : Is B w v x) (t : Touch w w' L) (hL : L < B) : Is B w' v x := by
  obtain ⟨rs, h1, h2, h3⟩ := h
  exact ⟨rs, h1.touch t hL, h2, h3⟩

/-- The marks with which a lender fills its room. -/
def marks (n : Nat) : List Int := (List.range n).map fun i : Nat => 2779096485 + (i : Int)

/-- What a lender has lent: the list, five marks ahead of it and behind it. -/
def lent (xs : List Int) : List Int := (marks (xs.length + 10)).take 5 ++ xs ++ (marks (xs.length + 10)).drop (5 + xs.length)

theorem marks_length (n : Nat) : (marks n).length = n := by simp [marks]
theorem marks_getD {n i : Nat} (h : i < n) : (marks n).getD i 0 = 2779096485 + (i : Int) := by
  rw [List.getD_eq_getElem?_getD]
  simp [marks, h]

theorem lent_length (xs : List Int) : (lent xs).length = xs.length + 10 := by
  simp only [lent, List.length_append, List.length_take, List.length_drop, marks_length]
  omega

theorem lent_low {xs : List Int} {i : Nat} (h : i < 5) : (lent xs).getD i 0 = 2779096485 + (i : Int) := by
  rw [← marks_getD (n := xs.length + 10) (i := i) (by omega), List.getD_eq_getElem?_getD, lent, List.append_assoc, List.getElem?_append_left (by rw [List.length_take, marks_length]; omega), List.getElem?_take, if_pos h, List.getD_eq_getElem?_getD]

theorem lent_mid {xs : List Int} {i : Nat} (h : 5 ≤ i) (h' : i < 5 + xs.length) : (lent xs).getD i 0 = xs.getD (i - 5) 0 := by
  have e : ((marks (xs.length + 10)).take 5).length = 5 := by rw [List.length_take, marks_length]; omega
  rw [List.getD_eq_getElem?_getD, lent, List.append_assoc, List.getElem?_append_right (by omega), e, List.getElem?_append_left (by omega), List.getD_eq_getElem?_getD]

theorem lent_high {xs : List Int} {i : Nat} (h : 5 + xs.length ≤ i) (h' : i < xs.length + 10) : (lent xs).getD i 0 = 2779096485 + (i : Int) := by
  have e : ((marks (xs.length + 10)).take 5 ++ xs).length = 5 + xs.length := by rw [List.length_append, List.length_take, marks_length]; omega
  rw [← marks_getD (n := xs.length + 10) (i := i) (by omega), List.getD_eq_getElem?_getD, lent, List.getElem?_append_right (by omega), e, List.getElem?_drop, show 5 + xs.length + (i - (5 + xs.length)) = i by omega, List.getD_eq_getElem?_getD]

/-- A lender at block L that has lent xs out of block g. -/
def LendS (w : World) (L g : Nat) (xs : List Int) : Prop :=
  w.heap[L]? = some (.cells #[.slice (some ⟨g, 0, none⟩) (xs.length + 10) (xs.length + 10), .int .i64 xs.length] 30 (0, 0)) ∧
  ∃ cur, w.heap[g]? = some (.cells cur 73 (0, 0)) ∧ cur.size = xs.length + 10 ∧ At cur .u32 0 (lent xs) ∧ Limb xs

theorem LendS.sl {w : World} {L g : Nat} {xs : List Int} (h : LendS w L g xs) (hm : xs.length ≤ 1000000) : Sl w (.slice (some ⟨g, 5, none⟩) xs.length (xs.length + 5)) xs := by
  obtain ⟨_, cur, hh, hs, ha, hl⟩ := h
  refine ⟨_, xs.length + 5, rfl, by omega, by unfold maxLen; omega, hl, .inr ⟨g, 5, rfl, fun i hi => ?_⟩⟩
  rw [cell_of_row w g (5 + i) cur _ (0, 0) hh]
  have e := ha (5 + i) (by rw [lent_length]; omega)
  rw [Nat.zero_add] at e
  rw [e, lent_mid (by omega) (by omega), Nat.add_sub_cancel_left]

theorem LendS.touch {w w' : World} {L g M : Nat} {xs : List Int} (h : LendS w L g xs) (t : Touch w w' M) (h1 : L ≠ M) (h2 : g ≠ M) : LendS w' L g xs := by
  obtain ⟨h3, cur, hh, r⟩ := h
  exact ⟨by rw [t.other L (lt_of_heap h3) h1]; exact h3, cur, by rw [t.other g (lt_of_heap hh) h2]; exact hh, r⟩

theorem LendS.below {w w' : World} {L g : Nat} {xs : List Int} (h : LendS w L g xs) (hb : Below w.heap.size w w') : LendS w' L g xs := by
  obtain ⟨h3, cur, hh, r⟩ := h
  exact ⟨by rw [hb.block L (lt_of_heap h3)]; exact h3, cur, by rw [hb.block g (lt_of_heap hh)]; exact hh, r⟩

theorem marks_fill {qs : List Int} {n k : Nat} (hq : qs = marks k) (hk : k < n) : (qs ++ (List.replicate n (0 : Int)).drop k).set k (2779096485 + (k : Int)) = marks (k + 1) ++ (List.replicate n (0 : Int)).drop (k + 1) := by
  rw [set_snoc qs _ k _ (by rw [hq, marks_length]) (by simpa using hk), hq]
  congr 1
  simp [marks, List.range_succ]

theorem size32 : (Try.prog.info? 73).map (·.size) = some 1 := by kernel_rfl

theorem lrow_cells {w : World} {b off : Nat} {zs : List Int} (hc : ∀ i, i < zs.length → w.cell? ⟨b, off + i, none⟩ = some (.int .u32 (zs.getD i 0))) : ∀ j u, (zs.map (Value.int .u32))[j]? = some u → w.cell? ((⟨b, off, none⟩ : Addr).add j) = some u := by
  intro j u hu
  rw [List.getElem?_map] at hu
  have hj : j < zs.length := by
    apply Classical.byContradiction
    intro hn
    rw [List.getElem?_eq_none (by omega)] at hu
    cases hu
  rw [List.getElem?_eq_getElem hj] at hu
  have hcj := hc j hj
  rw [List.getD_eq_getElem?_getD, List.getElem?_eq_getElem hj] at hcj
  rw [show ((⟨b, off, none⟩ : Addr).add j) = ⟨b, off + j, none⟩ from by simp [Addr.add], hcj]
  exact hu

theorem lrow_one (zs : List Int) : ∀ u ∈ zs.map (Value.int .u32), u.oneCell' = true := by
  intro u hu
  obtain ⟨z, _, rfl⟩ := List.mem_map.1 hu
  rfl

/-- A slice that does not lie in block L reads as it did. -/
theorem Sl.touch {w w' : World} {L n c : Nat} {a : Option Addr} {zs : List Int} (h : Sl w (.slice a n c) zs) (t : Touch w w' L) (hne : 0 < zs.length → ∀ b off, a = some ⟨b, off, none⟩ → b ≠ L) : Sl w' (.slice a n c) zs := by
  obtain ⟨ao', cap', hv, h1, h2, h3, h4⟩ := h
  obtain ⟨rfl, rfl, rfl⟩ := (Value.slice.injEq .. ▸ hv)
  refine ⟨_, _, rfl, h1, h2, h3, ?_⟩
  rcases h4 with h4 | ⟨b, off, rfl, hc⟩
  · exact .inl h4
  · refine .inr ⟨b, off, rfl, fun i hi => ?_⟩
    have h5 := hc i hi
    rw [World.cell?_of_block (w := w) (t.other b (lt_of_cell h5) (hne (by omega) b off rfl))]
    exact h5

theorem at_splice {cur : Array Value} {xs : List Int} (hs : cur.size = xs.length + 10) (ha : At cur .u32 0 (marks (xs.length + 10))) : At (splice cur.toList 5 (xs.map (Value.int .u32))).toArray .u32 0 (lent xs) := by
  intro i hi
  rw [lent_length] at hi
  have hl5 : (cur.toList.take 5).length = 5 := by rw [List.length_take, Array.length_toList, hs]; omega
  rw [Nat.zero_add, List.getElem?_toArray, splice]
  by_cases h1 : i < 5
  · rw [List.getElem?_append_left (by omega), List.getElem?_take, if_pos h1, Array.getElem?_toList]
    have e := ha i (by rw [marks_length]; omega)
    rw [Nat.zero_add] at e
    rw [e, marks_getD (by omega), lent_low h1]
  · rw [List.getElem?_append_right (by omega), hl5]
    by_cases h2 : i < 5 + xs.length
    · rw [List.getElem?_append_left (by rw [List.length_map]; omega), List.getElem?_map, lent_mid (by omega) h2, List.getD_eq_getElem?_getD, List.getElem?_eq_getElem (by omega)]
      rfl
    · rw [List.getElem?_append_right (by rw [List.length_map]; omega), List.length_map, List.getElem?_drop, Array.getElem?_toList, show 5 + xs.length + (i - 5 - xs.length) = i by omega]
      have e := ha i (by rw [marks_length]; omega)
      rw [Nat.zero_add] at e
      rw [e, marks_getD (by omega), lent_high (by omega) (by omega)]

theorem ret_slice {a : Option Addr} {n m c : Nat} (h : n = m) : Ending.returned (.slice a n c) = .returned (.slice a m c) := by rw [h]

set_option maxRecDepth 20000 in
set_option maxHeartbeats 1000000 in
theorem lend_any (w : World) (L : Nat) (u0 u1 : Value) (a1 : Option Addr) (n c1 : Nat) (xs : List Int) (hL : w.heap[L]? = some (.cells #[u0, u1] 30 (0, 0))) (hx : Sl w (.slice a1 n c1) xs) (hm : xs.length ≤ 100000)
    (hne : 0 < xs.length → ∀ b off, a1 = some ⟨b, off, none⟩ → b ≠ L) :
    Calls Try.prog 40 #[.pointer (some ⟨L, 0, none⟩), .slice a1 n c1] w fun e w' => e = .returned (.slice (some ⟨w.heap.size, 5, none⟩) xs.length (xs.length + 5)) ∧ LendS w' L w.heap.size xs ∧ Touch w w' L := by
  obtain ⟨rfl, h1, h2, h3⟩ := hx.parts
  obtain ⟨i0, hi, hz0, hz1, hz2⟩ := info_parts info32
  have lL := lt_of_heap hL
  have cL := (cell_of_row w L 0 _ _ (0, 0) hL).trans (show (#[u0, u1] : Array Value)[0]? = some u0 from rfl)
  have dL := (cell_of_row w L 1 _ _ (0, 0) hL).trans (show (#[u0, u1] : Array Value)[1]? = some u1 from rfl)
  have fL := frozen_of_row w L 0 _ _ hL
  have H3 := hide h3
  have HL := hide hL
  clear h3 hL
  go_enter Try.func40, Try.ntmps40
  go_wp2_with (refine wpList_make_full _ rfl (.tmp 9) (.tmp 9) 22 rfl w.heap.size 73 i0 (.int .u32 0) 1 Try.underlying22 hi hz0 hz1 .i64 .i64 _ _ (xs.length + 10) rfl rfl (by omega) (by omega) (by rw [hz2]; omega) (by unfold maxLen; omega) (Nat.le_refl _) ?hK)
  case hK =>
    intro w1 hown hgrow
    obtain ⟨_, cur, hh, hcs, hat⟩ := block_of_made hown
    have hb1 : Below w.heap.size w w1 := (Below.refl w.heap.size w).grown hgrow (Nat.le_refl _) (by simp)
    have cL1 := (hb1.cell (p := ⟨L, 0, none⟩) lL).trans cL
    have dL1 := (hb1.cell (p := ⟨L, 1, none⟩) lL).trans dL
    have fL1 := (hb1.frozen (p := ⟨L, 0, none⟩) lL).trans fL
    have hL1 : w1.heap[L]? = some (.cells #[u0, u1] 30 (0, 0)) := by rw [hb1.block L lL]; exact HL.out
    have HL1 := hide hL1
    have HH := hide hh
    have HS := hide hcs
    have HA := hide hat
    clear hown hgrow hh hcs hat hL1
    go_wp2
    have hLg : L ≠ w.heap.size := by omega
    have a1' := heap_setCell_same w1 L 0 _ _ (.slice (some ⟨w.heap.size, 0, none⟩) (xs.length + 10) (xs.length + 10)) HL1.out
    have a2' : (w1.setCell ⟨L, 0, none⟩ (.slice (some ⟨w.heap.size, 0, none⟩) (xs.length + 10) (xs.length + 10))).heap[w.heap.size]? = some (.cells cur 73 (0, 0)) := by
      rw [heap_setCell_other w1 ⟨L, 0, none⟩ _ _ (by simpa using fun e => hLg e.symm)]; exact HH.out
    have t2 : Touch w (w1.setCell ⟨L, 0, none⟩ (.slice (some ⟨w.heap.size, 0, none⟩) (xs.length + 10) (xs.length + 10))) L :=
      ⟨hb1.os, hb1.tape, hb1.output, by simp [World.setCell]; exact hb1.size, fun k hk hn => (heap_setCell_other w1 ⟨L, 0, none⟩ k _ hn).trans (hb1.block k hk)⟩
    have A := hide (And.intro a1' (And.intro a2' t2))
    clear a1' a2' t2 cL1 dL1 fL1 cL dL fL
    generalize w1.setCell ⟨L, 0, none⟩ (.slice (some ⟨w.heap.size, 0, none⟩) (xs.length + 10) (xs.length + 10)) = w2 at A ⊢
    go_loopw [5] (fun i wr => ∃ (k : Nat) (cur' : Array Value), k ≤ xs.length + 10 ∧ i = .int .i64 k ∧ Wr w2 wr w.heap.size cur' 73 ∧ cur'.size = xs.length + 10 ∧ At cur' .u32 0 (marks k ++ (List.replicate (xs.length + 10) (0 : Int)).drop k)) (fun i _ => xs.length + 10 - (intOf i).toNat)
    case atStart => exact ⟨0, cur, Nat.zero_le _, rfl, Wr.refl A.out.2.1, HS.out, by simpa [marks] using HA.out⟩
    case round =>
      obtain ⟨k, cur', hk, rfl, hwr, hcs, hat⟩ := hrel
      have HW := hide hwr
      have HC := hide hcs
      have HT := hide hat
      have hLr : wr.heap[L]? = some (.cells #[.slice (some ⟨w.heap.size, 0, none⟩) (xs.length + 10) (xs.length + 10), u1] 30 (0, 0)) := by
        rw [hwr.other L hLg]; exact A.out.1
      have cLr := (cell_of_row wr L 0 _ _ (0, 0) hLr).trans (show (#[.slice (some ⟨w.heap.size, 0, none⟩) (xs.length + 10) (xs.length + 10), u1] : Array Value)[0]? = some _ from rfl)
      have HLr := hide hLr
      clear hwr hcs hat
      by_cases hlt : k < xs.length + 10
      · have hlen : (marks k ++ (List.replicate (xs.length + 10) (0 : Int)).drop k).length = xs.length + 10 := by rw [List.length_append, marks_length]; simp; omega
        have hcell := HT.out.cell HW.out.here k (by rw [hlen]; omega)
        rw [Nat.zero_add] at hcell
        generalize (marks k ++ (List.replicate (xs.length + 10) (0 : Int)).drop k).getD k 0 = old at hcell
        have hfree := HW.out.free k
        have HT' := hide (HT.out.set k (2779096485 + (k : Int)))
        have HW' := hide (HW.out.set k (.int .u32 (2779096485 + (k : Int))))
        clear hlen hLr
        go_wp2
        go_roundw
        case rel => exact ⟨k + 1, _, by omega, by go_num, HW'.out, by simpa using HC.out, by rw [← marks_fill rfl hlt]; simpa using HT'.out⟩
        case measure => simp [intOf]; omega
      · have hkn : k = xs.length + 10 := by omega
        subst hkn
        have dLr := (cell_of_row wr L 1 _ _ (0, 0) hLr).trans (show (#[.slice (some ⟨w.heap.size, 0, none⟩) (xs.length + 10) (xs.length + 10), u1] : Array Value)[1]? = some _ from rfl)
        have fLr := frozen_of_row wr L 1 _ _ hLr
        have hat2 := HT.out
        rw [List.drop_of_length_le (by simp), List.append_nil] at hat2
        have HT2 := hide hat2
        have b1 := heap_setCell_same wr L 1 _ _ (.int .i64 xs.length) hLr
        have b2 : (wr.setCell ⟨L, 1, none⟩ (.int .i64 xs.length)).heap[w.heap.size]? = some (.cells cur'.toList.toArray 73 (0, 0)) := by
          rw [heap_setCell_other wr ⟨L, 1, none⟩ _ _ (by simpa using fun e => hLg e.symm), Array.toArray_toList]; exact HW.out.here
        have b3 : Touch w (wr.setCell ⟨L, 1, none⟩ (.int .i64 xs.length)) L := by
          have t2 := A.out.2.2
          have hw := HW.out
          exact ⟨hw.os.trans t2.os, hw.tape.trans t2.tape, hw.output.trans t2.output, by simp [World.setCell]; rw [hw.size]; exact t2.size, fun j hj hn => (heap_setCell_other wr ⟨L, 1, none⟩ j _ hn).trans ((hw.other j (by omega)).trans (t2.other j hj hn))⟩
        have b4 := hx.touch b3 hne
        have hpos : 0 < (xs.map (Value.int .u32)).length → (some ⟨w.heap.size, 5, none⟩ : Option Addr) = some ⟨w.heap.size, 5, none⟩ ∧ ∃ ad, a1 = some ad ∧ ∀ j v, (xs.map (Value.int .u32))[j]? = some v → (wr.setCell ⟨L, 1, none⟩ (.int .i64 xs.length)).cell? (ad.add j) = some v := by
          intro h0
          rw [List.length_map] at h0
          obtain ⟨b, off, rfl, hc⟩ := b4.cells h0
          exact ⟨rfl, _, rfl, lrow_cells hc⟩
        have B := hide (And.intro b1 b3)
        clear hat2 hLr b1 b3 b4
        go_wp2_with (refine wpList_copy_splice rfl (.tmp 40) (.tmp 41) 22 22 rfl 73 Try.underlying22 size32 _ _ _ _ _ _ rfl rfl w.heap.size 5 cur'.toList 73 b2 (xs.map (Value.int .u32)) (by simp [Nat.min_def]) hpos ?hfit (lrow_one xs) w.heap.size _ (Below.refl _ _) (Nat.le_refl _) ?h)
        case hfit => have := HC.out; simp; omega
        case h =>
          intro w4 hg4 hb4
          have hfin : LendS w4 L w.heap.size xs := by
            refine ⟨?_, _, hg4.out, ?_, at_splice HC.out HT2.out, H3.out⟩
            · rw [hb4.block L (by omega)]
              exact B.out.1
            · rw [List.size_toArray, length_splice _ _ _ (by have := HC.out; simp; omega), Array.length_toList, HC.out]
          have hto : Touch w w4 L := by
            have t := B.out.2
            exact ⟨hb4.os.trans t.os, hb4.tape.trans t.tape, hb4.output.trans t.output, Nat.le_trans t.size hb4.size, fun j hj hn => (hb4.block j hj).trans (t.other j hj hn)⟩
          have cL4 := (cell_of_row w4 L 0 _ _ (0, 0) hfin.1).trans (show (#[.slice (some ⟨w.heap.size, 0, none⟩) (xs.length + 10) (xs.length + 10), .int .i64 xs.length] : Array Value)[0]? = some _ from rfl)
          clear hg4 hb4
          go_wp2
          go_ret
          exact ⟨ret_slice (by omega), hfin, hto⟩

end Lm
end Go.Proofs.Ytkdcgnooeojjgab
