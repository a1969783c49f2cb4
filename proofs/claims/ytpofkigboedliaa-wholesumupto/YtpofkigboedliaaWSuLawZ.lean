/-
  The given statement on WholeSum, for every input of bulk at most 1048576: the call answers true, and each argument reads behind it as it read before. Its condition: that bulk, and no other. Beside it: The reference's numbers with signs: what a sign and digits are worth; the contract of made. The contract of the reference's Add. The contract of the reference's Minus and Abs. The contracts of the reference's Of and Told: whole numbers as they are handed in, and as they are told. The contract of Book's Done. What is lent, and what lies in memory of its own, in regions that are gone through in stretches. What the reference's divided holds on its way: its memory, and the plain facts on quotient and rest. WholeDivides: what its walk uses beside the contracts. The book of what was answered, in regions that are gone through in stretches. Rows of whole numbers in memory: a slice of structs, each a sign and a list of limbs. Functions that go through rows of whole numbers. A row of whole numbers that is handed in: what it reads as. Rows of whole numbers held against one another. Structs that hold the document's own numbers and fractions, and single operations on them, over a frame that is not written out. The document's own whole numbers. The sum of a row. LimbsNumbers answers true, whatever number and list of limbs it is handed. Rows of whole numbers copied. Lists in memory of their own, as intervals of blocks: what is told of them without any reckoning in a great context. WholeSum answers true, whatever row it is handed (one that is not too long for any machine).
-/
import Derived.Deep.QuietTactic
import Derived.BigQuiet
import Derived.Deep.RegionWith
import Derived.Deep.RegionHeld3
import Derived.Deep.AppendLies
import Derived.Deep.DeepCutAuto
import Derived.Laws.AppendOwn
import Derived.Deep.LoopGhost
import Derived.Test.YtpofkigboedliaaRows
import Derived.ProofKit
import Derived.OpenShut
import Derived.Deep.SlicePairs
import Derived.ShutString
import Derived.ChangeOld
import Derived.JoinedCond
import Derived.Test.YtpofkigboedliaaWSuLawZ1
namespace Go.Proofs.Ytpofkigboedliaa
namespace Dm
open Go.RowKit
open Lm (hide lt_of_cell lt_of_heap)
def sg (ng : Bool) (x : Int) : Int := if ng then -x else x
def Wh (w : World) (ng : Bool) (ao : Option Addr) (cap : Nat) (rs : List Int) (z : Int) : Prop := Got w ao cap rs (z.natAbs : Int) ∧ ng = decide (z < 0)
theorem Wh.below {w w' : World} {ng : Bool} {ao : Option Addr} {cap : Nat} {rs : List Int} {z : Int} (h : Wh w ng ao cap rs z) (hb : Below w.heap.size w w') : Wh w' ng ao cap rs z := ⟨h.1.below hb, h.2⟩
theorem Wh.worth {w : World} {ng : Bool} {ao : Option Addr} {cap : Nat} {rs : List Int} {z : Int} (h : Wh w ng ao cap rs z) : sg ng (Dm.val rs) = z := by
  rw [h.1.val, h.2, sg]
  by_cases hz : z < 0
  · simp [hz]; omega
  · simp [hz]; omega
theorem Wh.of {w : World} {ao : Option Addr} {cap : Nat} {rs : List Int} {x : Int} (ng : Bool) (h : Got w ao cap rs x) : Wh w (ng && decide (0 < rs.length)) ao cap rs (sg ng x) := by
  have h0 : 0 ≤ x := by rw [← h.val]; exact (val_bounds h.canon.1).1
  have hz := canon_zero h.canon
  rw [h.val] at hz
  have hl : rs = [] ↔ rs.length = 0 := List.length_eq_zero_iff.symm
  cases ng with
  | false =>
    refine ⟨?_, ?_⟩
    · have e : ((sg false x).natAbs : Int) = x := by simp [sg]; omega
      rw [e]; exact h
    · simp [sg]; omega
  | true =>
    refine ⟨?_, ?_⟩
    · have e : ((sg true x).natAbs : Int) = x := by simp [sg]; omega
      rw [e]; exact h
    · have e3 : (0 < rs.length) ↔ (sg true x < 0) := by
        simp only [sg, if_true]
        constructor
        · intro h1
          have : x ≠ 0 := fun h2 => by have := hl.1 (hz.1 h2); omega
          omega
        · intro h1
          have : rs.length ≠ 0 := fun h2 => by have := hz.2 (hl.2 h2); omega
          omega
      rw [Bool.true_and]
      exact decide_eq_decide.2 e3
def Box (w : World) (g : Nat) (ng : Bool) (v : Value) : Prop := w.heap[g]? = some (.cells #[.bool ng, v] 63 (0, 0))
theorem Box.below {w w' : World} {g : Nat} {ng : Bool} {v : Value} (h : Box w g ng v) (hb : Below w.heap.size w w') : Box w' g ng v := (hb.block g (lt_of_heap h)).trans h
theorem Box.facts {w : World} {g : Nat} {ng : Bool} {v : Value} (h : Box w g ng v) : w.cell? ⟨g, 0, none⟩ = some (.bool ng) ∧ w.cell? ⟨g, 1, none⟩ = some v ∧ w.frozen? ⟨g, 0, none⟩ = false ∧ w.frozen? ⟨g, 1, none⟩ = false :=
  ⟨by rw [cell_of_row _ _ _ _ _ (0, 0) h]; rfl, by rw [cell_of_row _ _ _ _ _ (0, 0) h]; rfl, frozen_of_row _ _ _ _ _ h, frozen_of_row _ _ _ _ _ h⟩
theorem Box.set {w : World} {g : Nat} {ng : Bool} {v : Value} (h : Box w g ng v) (b : Bool) (u : Value) : Box ((w.setCell ⟨g, 0, none⟩ (.bool b)).setCell ⟨g, 1, none⟩ u) g b u := by
  have h1 := heap_setCell_same w g 0 _ _ (.bool b) h
  have h2 := heap_setCell_same _ g 1 _ _ u h1
  exact h2
theorem Box.sl {w : World} {g : Nat} {ng : Bool} {ao : Option Addr} {n cap : Nat} (h : Box w g ng (.slice ao n cap)) (b : Bool) (u : Value) {v : Value} {zs : List Int} (hs : Sl w v zs) : Sl ((w.setCell ⟨g, 0, none⟩ (.bool b)).setCell ⟨g, 1, none⟩ u) v zs := by
  refine (hs.setCell h.facts.1 (fun z => by simp) _).setCell (u0 := .slice ao n cap) ?_ (fun z => by simp) _
  rw [World.cell?_setCell_other _ _ _ _ (by simp)]
  exact h.facts.2.1
theorem Box.wh {w : World} {g : Nat} {ng : Bool} {ao : Option Addr} {n cap : Nat} (h : Box w g ng (.slice ao n cap)) (b : Bool) (u : Value) {nz : Bool} {az : Option Addr} {cz : Nat} {rs : List Int} {z : Int} (hs : Wh w nz az cz rs z) : Wh ((w.setCell ⟨g, 0, none⟩ (.bool b)).setCell ⟨g, 1, none⟩ u) nz az cz rs z :=
  ⟨⟨h.sl b u hs.1.1, hs.1.2⟩, hs.2⟩
theorem below_set2 {B : Nat} {w w1 : World} {g : Nat} (hb : Below B w w1) (hg : B ≤ g) (b u : Value) : Below B w ((w1.setCell ⟨g, 0, none⟩ b).setCell ⟨g, 1, none⟩ u) := (hb.setCell hg _).setCell hg _
theorem boxed (w : World) (ng : Bool) (v : Value) : Box (w.alloc (.cells #[.bool ng, v] 63)) w.heap.size ng v ∧ Below w.heap.size w (w.alloc (.cells #[.bool ng, v] 63)) ∧ (w.alloc (.cells #[.bool ng, v] 63)).heap.size = w.heap.size + 1 :=
  ⟨heap_alloc_new w _, (Below.refl _ _).alloc (Nat.le_refl _) _, by simp⟩
theorem boxed1 (w : World) (ng : Bool) (v : Value) : ∃ w0 : World, (w.alloc (.cells #[.bool ng, v] 63)).alloc (.cells #[.bool false, .slice none 0 0] 63) = w0 ∧ Box w0 w.heap.size ng v ∧ Box w0 (w.heap.size + 1) false (.slice none 0 0) ∧ Below w.heap.size w w0 ∧ w0.heap.size = w.heap.size + 2 := by
  have h1 := boxed w ng v
  have h2 := boxed (w.alloc (.cells #[.bool ng, v] 63)) false (.slice none 0 0)
  rw [h1.2.2] at h2
  refine ⟨_, rfl, h1.1.below (by rw [h1.2.2]; exact h2.2.1), h2.1, h1.2.1.trans (h2.2.1.mono (by omega)), h2.2.2⟩
theorem sg_neg (ng : Bool) (x : Int) : sg (!ng) x = - sg ng x := by cases ng <;> simp [sg]
theorem boxed0 (w : World) (ng : Bool) (v : Value) : ∃ w0 : World, w.alloc (.cells #[.bool ng, v] 63) = w0 ∧ Box w0 w.heap.size ng v ∧ Below w.heap.size w w0 ∧ w0.heap.size = w.heap.size + 1 :=
  ⟨_, rfl, (boxed w ng v).1, (boxed w ng v).2.1, (boxed w ng v).2.2⟩
theorem boxed2 (w : World) (nx : Bool) (vx : Value) (ny : Bool) (vy : Value) : ∃ w0 : World, (w.alloc (.cells #[.bool nx, vx] 63)).alloc (.cells #[.bool ny, vy] 63) = w0 ∧ Box w0 w.heap.size nx vx ∧ Box w0 (w.heap.size + 1) ny vy ∧ Below w.heap.size w w0 ∧ w0.heap.size = w.heap.size + 2 := by
  have h1 := boxed w nx vx
  have h2 := boxed (w.alloc (.cells #[.bool nx, vx] 63)) ny vy
  rw [h1.2.2] at h2
  refine ⟨_, rfl, h1.1.below (by rw [h1.2.2]; exact h2.2.1), h2.1, h1.2.1.trans (h2.2.1.mono (by omega)), h2.2.2⟩
theorem boxed3 (w : World) (nx : Bool) (vx : Value) (ny : Bool) (vy : Value) : ∃ w0 : World, ((w.alloc (.cells #[.bool nx, vx] 63)).alloc (.cells #[.bool ny, vy] 63)).alloc (.cells #[.bool false, .slice none 0 0] 63) = w0 ∧ Box w0 w.heap.size nx vx ∧ Box w0 (w.heap.size + 1) ny vy ∧ Box w0 (w.heap.size + 1 + 1) false (.slice none 0 0) ∧ Below w.heap.size w w0 ∧ w0.heap.size = w.heap.size + 3 := by
  obtain ⟨w2, e2, b1, b2, hb, hs⟩ := boxed2 w nx vx ny vy
  have h2 := boxed w2 false (.slice none 0 0)
  rw [e2]
  refine ⟨_, rfl, b1.below h2.2.1, b2.below h2.2.1, ?_, hb.trans (h2.2.1.mono (by omega)), by rw [h2.2.2, hs]⟩
  have h3 := h2.1
  rw [hs] at h3
  exact h3
theorem sg_add (ng : Bool) (x y : Int) : sg ng (x + y) = sg ng x + sg ng y := by cases ng <;> simp [sg] <;> omega
theorem Dl.open {B : Nat} {w : World} {v : Value} {x : Int} {n : Nat} (h : Dl B w v x n) : ∃ ao cap ds, v = .slice ao ds.length cap ∧ Sl w (.slice ao ds.length cap) ds ∧ Dm.val ds = x ∧ ds.length ≤ n := by
  obtain ⟨ds, ho, hv, hn⟩ := h
  obtain ⟨ao, cap, rfl, hs, _, _⟩ := ho.open
  exact ⟨ao, cap, ds, rfl, hs, hv, hn⟩
theorem made_w (w : World) (ng : Bool) (ao : Option Addr) (cap : Nat) (ds : List Int) (x : Int) (h : Sl w (.slice ao ds.length cap) ds) (hv : Dm.val ds = x) :
    Calls Try.prog 67 #[.bool ng, .slice ao ds.length cap] w fun e w' => ∃ ng' rs, e = .returned (.agg #[.bool ng', .slice ao rs.length cap]) ∧ Wh w' ng' ao cap rs (sg ng x) ∧ rs.length ≤ ds.length ∧ Below w.heap.size w w' := by
  refine (made_any w ng ao ds.length cap ds h).mono ?_
  rintro e w' ⟨rfl, hb⟩
  have hl := h.parts.2.2.2
  have ht := tl_le ds
  have e1 : (ds.take (tl ds)).length = tl ds := by rw [List.length_take]; omega
  have g : Got w' ao cap (ds.take (tl ds)) x := ⟨by rw [e1]; exact (h.take ht).below hb, canon_trim hl, by rw [val_take_tl, hv]⟩
  have g2 := Wh.of ng g
  rw [e1] at g2
  exact ⟨_, ds.take (tl ds), by rw [e1], g2, by omega, hb⟩
end Dm
end Go.Proofs.Ytpofkigboedliaa

namespace Go.Proofs.Ytpofkigboedliaa
namespace Dm
open Go.RowKit
open Lm (hide lt_of_cell lt_of_heap cmpI cmpI_lt cmpI_gt)
set_option maxRecDepth 20000 in
set_option maxHeartbeats 1000000 in
theorem nadd_same (w : World) (n1 : Bool) (a1 : Option Addr) (c1 : Nat) (xs : List Int) (x : Int) (hx : Got w a1 c1 xs x) (a2 : Option Addr) (c2 : Nat) (ys : List Int) (y : Int) (hy : Got w a2 c2 ys y) (m1 : xs.length ≤ 400000) (m2 : ys.length ≤ 400000) :
    Calls Try.prog 39 #[.agg #[.bool n1, .slice a1 xs.length c1], .agg #[.bool n1, .slice a2 ys.length c2]] w fun e w' => ∃ ng' ao cap rs, e = .returned (.agg #[.bool ng', .slice ao rs.length cap]) ∧ Wh w' ng' ao cap rs (sg n1 x + sg n1 y) ∧ rs.length ≤ xs.length + ys.length + 1 ∧ Below w.heap.size w w' := by
  obtain ⟨w0, e0, bx, by', br, hb0, hs0⟩ := boxed3 w n1 (.slice a1 xs.length c1) (n1) (.slice a2 ys.length c2)
  have E0 := hide e0
  have hx0 := hx.below hb0
  have hy0 := hy.below hb0
  have HB := hb0
  have ne1 : ¬ (w.heap.size = w.heap.size + 1 + 1) := by omega
  have ne2 : ¬ (w.heap.size + 1 + 1 = w.heap.size) := by omega
  clear e0 hs0
  cases n1 with
  | false =>
    go_enter Try.func39, Try.ntmps39
    go_wp2_with fail
    rw [E0.out]
    obtain ⟨bx1, bx2, bx3, bx4⟩ := bx.facts
    obtain ⟨by1, by2, by3, by4⟩ := by'.facts
    obtain ⟨br1, br2, br3, br4⟩ := br.facts
    go_region_held3 (fun w' => w'.cell? ⟨w.heap.size, 0, none⟩ = some (.bool false) ∧ w'.cell? ⟨w.heap.size, 1, none⟩ = some (.slice a1 xs.length c1) ∧ w'.cell? ⟨w.heap.size + 1, 0, none⟩ = some (.bool false) ∧ w'.cell? ⟨w.heap.size + 1, 1, none⟩ = some (.slice a2 ys.length c2)) (go_keep) (first
        | (go_at_call 67; have _hq := hb1'; refine (made_w _ _ p1 q1 d1 _ (s1.below (by repeat (first | exact Below.refl _ _ | refine Below.drew ?_))) e1).mono ?_; rintro e w2 ⟨ng2, r2, rfl, G2, l2, hb2⟩; have hb2' : Below w1.heap.size w1 w2 := (show Below w1.heap.size w1 _ by repeat (first | exact Below.refl _ _ | refine Below.drew ?_)).trans hb2; have HB := HB.trans (hb2'.mono HB.size); replace bx := bx.below hb2'; clear bx1 bx2 bx3 bx4; obtain ⟨bx1, bx2, bx3, bx4⟩ := bx.facts; replace by' := by'.below hb2'; clear by1 by2 by3 by4; obtain ⟨by1, by2, by3, by4⟩ := by'.facts; replace br := br.below hb2'; clear br1 br2 br3 br4; obtain ⟨br1, br2, br3, br4⟩ := br.facts)
        | (go_at_call 68; refine (plus_any _ _ _ _ xs (hx0.sl.below (by repeat (first | exact Below.refl _ _ | refine Below.drew ?_))) _ _ _ ys (hy0.sl.below (by repeat (first | exact Below.refl _ _ | refine Below.drew ?_))) (by omega) (by omega)).mono ?_; rintro e w1 ⟨v1, rfl, D1, hb1⟩; obtain ⟨p1, q1, d1, rfl, s1, e1, l1⟩ := D1.open; clear D1; have hb1' : Below w0.heap.size w0 w1 := (show Below w0.heap.size w0 _ by repeat (first | exact Below.refl _ _ | refine Below.drew ?_)).trans hb1; have HB := HB.trans (hb1'.mono HB.size); replace bx := bx.below hb1'; clear bx1 bx2 bx3 bx4; obtain ⟨bx1, bx2, bx3, bx4⟩ := bx.facts; replace by' := by'.below hb1'; clear by1 by2 by3 by4; obtain ⟨by1, by2, by3, by4⟩ := by'.facts; replace br := br.below hb1'; clear br1 br2 br3 br4; obtain ⟨br1, br2, br3, br4⟩ := br.facts))
    all_goals
      have X := hide (br.set ng2 (.slice p1 r2.length q1)).facts
      have Y := hide (br.wh ng2 (.slice p1 r2.length q1) G2)
      have Z := hide (below_set2 HB (show w.heap.size ≤ w.heap.size + 1 + 1 by omega) (.bool ng2) (.slice p1 r2.length q1))
      clear bx1 bx2 bx3 bx4 by1 by2 by3 by4
      go_wp2
      refine bodyPost_ret (v := .agg #[.bool ng2, .slice p1 r2.length q1]) ?_ rfl ⟨ng2, p1, q1, r2, rfl, by rw [← sg_add, ← hx.val, ← hy.val]; exact Y.out, by omega, Z.out⟩
      simp [results, Try.results39, go_sem, X.out.1, X.out.2.1]
  | true =>
    go_enter Try.func39, Try.ntmps39
    go_wp2_with fail
    rw [E0.out]
    obtain ⟨bx1, bx2, bx3, bx4⟩ := bx.facts
    obtain ⟨by1, by2, by3, by4⟩ := by'.facts
    obtain ⟨br1, br2, br3, br4⟩ := br.facts
    go_region_held3 (fun w' => w'.cell? ⟨w.heap.size, 0, none⟩ = some (.bool true) ∧ w'.cell? ⟨w.heap.size, 1, none⟩ = some (.slice a1 xs.length c1) ∧ w'.cell? ⟨w.heap.size + 1, 0, none⟩ = some (.bool true) ∧ w'.cell? ⟨w.heap.size + 1, 1, none⟩ = some (.slice a2 ys.length c2)) (go_keep) (first
        | (go_at_call 67; have _hq := hb1'; refine (made_w _ _ p1 q1 d1 _ (s1.below (by repeat (first | exact Below.refl _ _ | refine Below.drew ?_))) e1).mono ?_; rintro e w2 ⟨ng2, r2, rfl, G2, l2, hb2⟩; have hb2' : Below w1.heap.size w1 w2 := (show Below w1.heap.size w1 _ by repeat (first | exact Below.refl _ _ | refine Below.drew ?_)).trans hb2; have HB := HB.trans (hb2'.mono HB.size); replace bx := bx.below hb2'; clear bx1 bx2 bx3 bx4; obtain ⟨bx1, bx2, bx3, bx4⟩ := bx.facts; replace by' := by'.below hb2'; clear by1 by2 by3 by4; obtain ⟨by1, by2, by3, by4⟩ := by'.facts; replace br := br.below hb2'; clear br1 br2 br3 br4; obtain ⟨br1, br2, br3, br4⟩ := br.facts)
        | (go_at_call 68; refine (plus_any _ _ _ _ xs (hx0.sl.below (by repeat (first | exact Below.refl _ _ | refine Below.drew ?_))) _ _ _ ys (hy0.sl.below (by repeat (first | exact Below.refl _ _ | refine Below.drew ?_))) (by omega) (by omega)).mono ?_; rintro e w1 ⟨v1, rfl, D1, hb1⟩; obtain ⟨p1, q1, d1, rfl, s1, e1, l1⟩ := D1.open; clear D1; have hb1' : Below w0.heap.size w0 w1 := (show Below w0.heap.size w0 _ by repeat (first | exact Below.refl _ _ | refine Below.drew ?_)).trans hb1; have HB := HB.trans (hb1'.mono HB.size); replace bx := bx.below hb1'; clear bx1 bx2 bx3 bx4; obtain ⟨bx1, bx2, bx3, bx4⟩ := bx.facts; replace by' := by'.below hb1'; clear by1 by2 by3 by4; obtain ⟨by1, by2, by3, by4⟩ := by'.facts; replace br := br.below hb1'; clear br1 br2 br3 br4; obtain ⟨br1, br2, br3, br4⟩ := br.facts))
    all_goals
      have X := hide (br.set ng2 (.slice p1 r2.length q1)).facts
      have Y := hide (br.wh ng2 (.slice p1 r2.length q1) G2)
      have Z := hide (below_set2 HB (show w.heap.size ≤ w.heap.size + 1 + 1 by omega) (.bool ng2) (.slice p1 r2.length q1))
      clear bx1 bx2 bx3 bx4 by1 by2 by3 by4
      go_wp2
      refine bodyPost_ret (v := .agg #[.bool ng2, .slice p1 r2.length q1]) ?_ rfl ⟨ng2, p1, q1, r2, rfl, by rw [← sg_add, ← hx.val, ← hy.val]; exact Y.out, by omega, Z.out⟩
      simp [results, Try.results39, go_sem, X.out.1, X.out.2.1]
set_option maxRecDepth 20000 in
set_option maxHeartbeats 1000000 in
theorem nadd_ge (w : World) (n1 : Bool) (a1 : Option Addr) (c1 : Nat) (xs : List Int) (x : Int) (hx : Got w a1 c1 xs x) (a2 : Option Addr) (c2 : Nat) (ys : List Int) (y : Int) (hy : Got w a2 c2 ys y) (m1 : xs.length ≤ 400000) (m2 : ys.length ≤ 400000) (hle : y ≤ x) (h0 : 0 < x) :
    Calls Try.prog 39 #[.agg #[.bool n1, .slice a1 xs.length c1], .agg #[.bool (!n1), .slice a2 ys.length c2]] w fun e w' => ∃ ng' ao cap rs, e = .returned (.agg #[.bool ng', .slice ao rs.length cap]) ∧ Wh w' ng' ao cap rs (sg n1 x + sg (!n1) y) ∧ rs.length ≤ xs.length + ys.length + 1 ∧ Below w.heap.size w w' := by
  obtain ⟨w0, e0, bx, by', br, hb0, hs0⟩ := boxed3 w n1 (.slice a1 xs.length c1) (!n1) (.slice a2 ys.length c2)
  have E0 := hide e0
  have hx0 := hx.below hb0
  have hy0 := hy.below hb0
  have HB := hb0
  have ne1 : ¬ (w.heap.size = w.heap.size + 1 + 1) := by omega
  have ne2 : ¬ (w.heap.size + 1 + 1 = w.heap.size) := by omega
  clear e0 hs0
  have K := hide (fun w hx hy => size_any w n1 (!n1) a1 a2 c1 c2 xs ys x y hx hy)
  have hc : 0 ≤ cmpI x y := by
    rcases Int.lt_trichotomy x y with h | h | h
    · omega
    · rw [Lm.cmpI_eq h]; omega
    · rw [cmpI_gt h]; omega
  have hpos : 0 < xs.length := by
    apply Classical.byContradiction
    intro hn
    have := got_zero hx (by omega)
    omega
  have hlen : ys.length ≤ xs.length := by
    apply Classical.byContradiction
    intro hn
    have := canon_lt hx.canon hy.canon (by omega)
    rw [hx.val, hy.val] at this
    omega
  generalize cmpI x y = cv at K hc
  cases n1 with
  | false =>
    simp only [Bool.not_false] at E0 by' K ⊢
    go_enter Try.func39, Try.ntmps39
    go_wp2_with fail
    rw [E0.out]
    obtain ⟨bx1, bx2, bx3, bx4⟩ := bx.facts
    obtain ⟨by1, by2, by3, by4⟩ := by'.facts
    obtain ⟨br1, br2, br3, br4⟩ := br.facts
    refine (K.out _ hx0 hy0).mono ?_
    rintro e w9 ⟨rfl, hb9⟩
    replace HB := HB.trans (hb9.mono HB.size)
    replace hx0 := hx0.below hb9
    replace hy0 := hy0.below hb9
    replace bx := bx.below hb9
    replace by' := by'.below hb9
    replace br := br.below hb9
    clear bx1 bx2 bx3 bx4 by1 by2 by3 by4 br1 br2 br3 br4
    obtain ⟨bx1, bx2, bx3, bx4⟩ := bx.facts
    obtain ⟨by1, by2, by3, by4⟩ := by'.facts
    obtain ⟨br1, br2, br3, br4⟩ := br.facts
    go_wp2_with fail
    go_region_held3 (fun w' => w'.cell? ⟨w.heap.size, 0, none⟩ = some (.bool false) ∧ w'.cell? ⟨w.heap.size, 1, none⟩ = some (.slice a1 xs.length c1) ∧ w'.cell? ⟨w.heap.size + 1, 0, none⟩ = some (.bool true) ∧ w'.cell? ⟨w.heap.size + 1, 1, none⟩ = some (.slice a2 ys.length c2)) (go_keep) (first
        | (go_at_call 67; have _hq := hb1'; refine (made_w _ _ p1 q1 d1 _ (s1.below (by repeat (first | exact Below.refl _ _ | refine Below.drew ?_))) e1).mono ?_; rintro e w2 ⟨ng2, r2, rfl, G2, l2, hb2⟩; have hb2' : Below w1.heap.size w1 w2 := (show Below w1.heap.size w1 _ by repeat (first | exact Below.refl _ _ | refine Below.drew ?_)).trans hb2; have HB := HB.trans (hb2'.mono HB.size); replace bx := bx.below hb2'; clear bx1 bx2 bx3 bx4; obtain ⟨bx1, bx2, bx3, bx4⟩ := bx.facts; replace by' := by'.below hb2'; clear by1 by2 by3 by4; obtain ⟨by1, by2, by3, by4⟩ := by'.facts; replace br := br.below hb2'; clear br1 br2 br3 br4; obtain ⟨br1, br2, br3, br4⟩ := br.facts)
        | (go_at_call 70; refine (less_any _ _ _ _ xs (hx0.sl.below (by repeat (first | exact Below.refl _ _ | refine Below.drew ?_))) _ _ _ ys (hy0.sl.below (by repeat (first | exact Below.refl _ _ | refine Below.drew ?_))) (by omega) hlen (by rw [hx.val, hy.val]; exact hle) hpos).mono ?_; rintro e w1 ⟨v1, rfl, D1, hb1⟩; obtain ⟨p1, q1, d1, rfl, s1, e1, l1⟩ := D1.open; clear D1; have hb1' : Below w9.heap.size w9 w1 := (show Below w9.heap.size w9 _ by repeat (first | exact Below.refl _ _ | refine Below.drew ?_)).trans hb1; have HB := HB.trans (hb1'.mono HB.size); replace bx := bx.below hb1'; clear bx1 bx2 bx3 bx4; obtain ⟨bx1, bx2, bx3, bx4⟩ := bx.facts; replace by' := by'.below hb1'; clear by1 by2 by3 by4; obtain ⟨by1, by2, by3, by4⟩ := by'.facts; replace br := br.below hb1'; clear br1 br2 br3 br4; obtain ⟨br1, br2, br3, br4⟩ := br.facts))
    all_goals
      have X := hide (br.set ng2 (.slice p1 r2.length q1)).facts
      have Y := hide (br.wh ng2 (.slice p1 r2.length q1) G2)
      have Z := hide (below_set2 HB (show w.heap.size ≤ w.heap.size + 1 + 1 by omega) (.bool ng2) (.slice p1 r2.length q1))
      clear bx1 bx2 bx3 bx4 by1 by2 by3 by4
      go_wp2
      refine bodyPost_ret (v := .agg #[.bool ng2, .slice p1 r2.length q1]) ?_ rfl ⟨ng2, p1, q1, r2, rfl, by rw [show sg false x + sg true y = sg false (Dm.val xs - Dm.val ys) by rw [hx.val, hy.val]; simp [sg]; omega]; exact Y.out, by omega, Z.out⟩
      simp [results, Try.results39, go_sem, X.out.1, X.out.2.1]
  | true =>
    simp only [Bool.not_true] at E0 by' K ⊢
    go_enter Try.func39, Try.ntmps39
    go_wp2_with fail
    rw [E0.out]
    obtain ⟨bx1, bx2, bx3, bx4⟩ := bx.facts
    obtain ⟨by1, by2, by3, by4⟩ := by'.facts
    obtain ⟨br1, br2, br3, br4⟩ := br.facts
    refine (K.out _ hx0 hy0).mono ?_
    rintro e w9 ⟨rfl, hb9⟩
    replace HB := HB.trans (hb9.mono HB.size)
    replace hx0 := hx0.below hb9
    replace hy0 := hy0.below hb9
    replace bx := bx.below hb9
    replace by' := by'.below hb9
    replace br := br.below hb9
    clear bx1 bx2 bx3 bx4 by1 by2 by3 by4 br1 br2 br3 br4
    obtain ⟨bx1, bx2, bx3, bx4⟩ := bx.facts
    obtain ⟨by1, by2, by3, by4⟩ := by'.facts
    obtain ⟨br1, br2, br3, br4⟩ := br.facts
    go_wp2_with fail
    go_region_held3 (fun w' => w'.cell? ⟨w.heap.size, 0, none⟩ = some (.bool true) ∧ w'.cell? ⟨w.heap.size, 1, none⟩ = some (.slice a1 xs.length c1) ∧ w'.cell? ⟨w.heap.size + 1, 0, none⟩ = some (.bool false) ∧ w'.cell? ⟨w.heap.size + 1, 1, none⟩ = some (.slice a2 ys.length c2)) (go_keep) (first
        | (go_at_call 67; have _hq := hb1'; refine (made_w _ _ p1 q1 d1 _ (s1.below (by repeat (first | exact Below.refl _ _ | refine Below.drew ?_))) e1).mono ?_; rintro e w2 ⟨ng2, r2, rfl, G2, l2, hb2⟩; have hb2' : Below w1.heap.size w1 w2 := (show Below w1.heap.size w1 _ by repeat (first | exact Below.refl _ _ | refine Below.drew ?_)).trans hb2; have HB := HB.trans (hb2'.mono HB.size); replace bx := bx.below hb2'; clear bx1 bx2 bx3 bx4; obtain ⟨bx1, bx2, bx3, bx4⟩ := bx.facts; replace by' := by'.below hb2'; clear by1 by2 by3 by4; obtain ⟨by1, by2, by3, by4⟩ := by'.facts; replace br := br.below hb2'; clear br1 br2 br3 br4; obtain ⟨br1, br2, br3, br4⟩ := br.facts)
        | (go_at_call 70; refine (less_any _ _ _ _ xs (hx0.sl.below (by repeat (first | exact Below.refl _ _ | refine Below.drew ?_))) _ _ _ ys (hy0.sl.below (by repeat (first | exact Below.refl _ _ | refine Below.drew ?_))) (by omega) hlen (by rw [hx.val, hy.val]; exact hle) hpos).mono ?_; rintro e w1 ⟨v1, rfl, D1, hb1⟩; obtain ⟨p1, q1, d1, rfl, s1, e1, l1⟩ := D1.open; clear D1; have hb1' : Below w9.heap.size w9 w1 := (show Below w9.heap.size w9 _ by repeat (first | exact Below.refl _ _ | refine Below.drew ?_)).trans hb1; have HB := HB.trans (hb1'.mono HB.size); replace bx := bx.below hb1'; clear bx1 bx2 bx3 bx4; obtain ⟨bx1, bx2, bx3, bx4⟩ := bx.facts; replace by' := by'.below hb1'; clear by1 by2 by3 by4; obtain ⟨by1, by2, by3, by4⟩ := by'.facts; replace br := br.below hb1'; clear br1 br2 br3 br4; obtain ⟨br1, br2, br3, br4⟩ := br.facts))
    all_goals
      have X := hide (br.set ng2 (.slice p1 r2.length q1)).facts
      have Y := hide (br.wh ng2 (.slice p1 r2.length q1) G2)
      have Z := hide (below_set2 HB (show w.heap.size ≤ w.heap.size + 1 + 1 by omega) (.bool ng2) (.slice p1 r2.length q1))
      clear bx1 bx2 bx3 bx4 by1 by2 by3 by4
      go_wp2
      refine bodyPost_ret (v := .agg #[.bool ng2, .slice p1 r2.length q1]) ?_ rfl ⟨ng2, p1, q1, r2, rfl, by rw [show sg true x + sg false y = sg true (Dm.val xs - Dm.val ys) by rw [hx.val, hy.val]; simp [sg]; omega]; exact Y.out, by omega, Z.out⟩
      simp [results, Try.results39, go_sem, X.out.1, X.out.2.1]
set_option maxRecDepth 20000 in
set_option maxHeartbeats 1000000 in
theorem nadd_lt (w : World) (n1 : Bool) (a1 : Option Addr) (c1 : Nat) (xs : List Int) (x : Int) (hx : Got w a1 c1 xs x) (a2 : Option Addr) (c2 : Nat) (ys : List Int) (y : Int) (hy : Got w a2 c2 ys y) (m1 : xs.length ≤ 400000) (m2 : ys.length ≤ 400000) (hle : x < y) :
    Calls Try.prog 39 #[.agg #[.bool n1, .slice a1 xs.length c1], .agg #[.bool (!n1), .slice a2 ys.length c2]] w fun e w' => ∃ ng' ao cap rs, e = .returned (.agg #[.bool ng', .slice ao rs.length cap]) ∧ Wh w' ng' ao cap rs (sg n1 x + sg (!n1) y) ∧ rs.length ≤ xs.length + ys.length + 1 ∧ Below w.heap.size w w' := by
  obtain ⟨w0, e0, bx, by', br, hb0, hs0⟩ := boxed3 w n1 (.slice a1 xs.length c1) (!n1) (.slice a2 ys.length c2)
  have E0 := hide e0
  have hx0 := hx.below hb0
  have hy0 := hy.below hb0
  have HB := hb0
  have ne1 : ¬ (w.heap.size = w.heap.size + 1 + 1) := by omega
  have ne2 : ¬ (w.heap.size + 1 + 1 = w.heap.size) := by omega
  clear e0 hs0
  have K := hide (fun w hx hy => size_any w n1 (!n1) a1 a2 c1 c2 xs ys x y hx hy)
  have hc : ¬ 0 ≤ cmpI x y := by rw [cmpI_lt hle]; omega
  have hpos : 0 < ys.length := by
    apply Classical.byContradiction
    intro hn
    have h1 := got_zero hy (by omega)
    have h2 := (val_bounds hx.canon.1).1
    rw [hx.val] at h2
    omega
  have hlen : xs.length ≤ ys.length := by
    apply Classical.byContradiction
    intro hn
    have := canon_lt hy.canon hx.canon (by omega)
    rw [hx.val, hy.val] at this
    omega
  generalize cmpI x y = cv at K hc
  cases n1 with
  | false =>
    simp only [Bool.not_false] at E0 by' K ⊢
    go_enter Try.func39, Try.ntmps39
    go_wp2_with fail
    rw [E0.out]
    obtain ⟨bx1, bx2, bx3, bx4⟩ := bx.facts
    obtain ⟨by1, by2, by3, by4⟩ := by'.facts
    obtain ⟨br1, br2, br3, br4⟩ := br.facts
    refine (K.out _ hx0 hy0).mono ?_
    rintro e w9 ⟨rfl, hb9⟩
    replace HB := HB.trans (hb9.mono HB.size)
    replace hx0 := hx0.below hb9
    replace hy0 := hy0.below hb9
    replace bx := bx.below hb9
    replace by' := by'.below hb9
    replace br := br.below hb9
    clear bx1 bx2 bx3 bx4 by1 by2 by3 by4 br1 br2 br3 br4
    obtain ⟨bx1, bx2, bx3, bx4⟩ := bx.facts
    obtain ⟨by1, by2, by3, by4⟩ := by'.facts
    obtain ⟨br1, br2, br3, br4⟩ := br.facts
    go_wp2_with fail
    go_region_held3 (fun w' => w'.cell? ⟨w.heap.size, 0, none⟩ = some (.bool false) ∧ w'.cell? ⟨w.heap.size, 1, none⟩ = some (.slice a1 xs.length c1) ∧ w'.cell? ⟨w.heap.size + 1, 0, none⟩ = some (.bool true) ∧ w'.cell? ⟨w.heap.size + 1, 1, none⟩ = some (.slice a2 ys.length c2)) (go_keep) (first
        | (go_at_call 67; have _hq := hb1'; refine (made_w _ _ p1 q1 d1 _ (s1.below (by repeat (first | exact Below.refl _ _ | refine Below.drew ?_))) e1).mono ?_; rintro e w2 ⟨ng2, r2, rfl, G2, l2, hb2⟩; have hb2' : Below w1.heap.size w1 w2 := (show Below w1.heap.size w1 _ by repeat (first | exact Below.refl _ _ | refine Below.drew ?_)).trans hb2; have HB := HB.trans (hb2'.mono HB.size); replace bx := bx.below hb2'; clear bx1 bx2 bx3 bx4; obtain ⟨bx1, bx2, bx3, bx4⟩ := bx.facts; replace by' := by'.below hb2'; clear by1 by2 by3 by4; obtain ⟨by1, by2, by3, by4⟩ := by'.facts; replace br := br.below hb2'; clear br1 br2 br3 br4; obtain ⟨br1, br2, br3, br4⟩ := br.facts)
        | (go_at_call 70; refine (less_any _ _ _ _ ys (hy0.sl.below (by repeat (first | exact Below.refl _ _ | refine Below.drew ?_))) _ _ _ xs (hx0.sl.below (by repeat (first | exact Below.refl _ _ | refine Below.drew ?_))) (by omega) hlen (by rw [hx.val, hy.val]; omega) hpos).mono ?_; rintro e w1 ⟨v1, rfl, D1, hb1⟩; obtain ⟨p1, q1, d1, rfl, s1, e1, l1⟩ := D1.open; clear D1; have hb1' : Below w9.heap.size w9 w1 := (show Below w9.heap.size w9 _ by repeat (first | exact Below.refl _ _ | refine Below.drew ?_)).trans hb1; have HB := HB.trans (hb1'.mono HB.size); replace bx := bx.below hb1'; clear bx1 bx2 bx3 bx4; obtain ⟨bx1, bx2, bx3, bx4⟩ := bx.facts; replace by' := by'.below hb1'; clear by1 by2 by3 by4; obtain ⟨by1, by2, by3, by4⟩ := by'.facts; replace br := br.below hb1'; clear br1 br2 br3 br4; obtain ⟨br1, br2, br3, br4⟩ := br.facts))
    all_goals
      have X := hide (br.set ng2 (.slice p1 r2.length q1)).facts
      have Y := hide (br.wh ng2 (.slice p1 r2.length q1) G2)
      have Z := hide (below_set2 HB (show w.heap.size ≤ w.heap.size + 1 + 1 by omega) (.bool ng2) (.slice p1 r2.length q1))
      clear bx1 bx2 bx3 bx4 by1 by2 by3 by4
      go_wp2
      refine bodyPost_ret (v := .agg #[.bool ng2, .slice p1 r2.length q1]) ?_ rfl ⟨ng2, p1, q1, r2, rfl, by rw [show sg false x + sg true y = sg true (Dm.val ys - Dm.val xs) by rw [hx.val, hy.val]; simp [sg]; omega]; exact Y.out, by omega, Z.out⟩
      simp [results, Try.results39, go_sem, X.out.1, X.out.2.1]
  | true =>
    simp only [Bool.not_true] at E0 by' K ⊢
    go_enter Try.func39, Try.ntmps39
    go_wp2_with fail
    rw [E0.out]
    obtain ⟨bx1, bx2, bx3, bx4⟩ := bx.facts
    obtain ⟨by1, by2, by3, by4⟩ := by'.facts
    obtain ⟨br1, br2, br3, br4⟩ := br.facts
    refine (K.out _ hx0 hy0).mono ?_
    rintro e w9 ⟨rfl, hb9⟩
    replace HB := HB.trans (hb9.mono HB.size)
    replace hx0 := hx0.below hb9
    replace hy0 := hy0.below hb9
    replace bx := bx.below hb9
    replace by' := by'.below hb9
    replace br := br.below hb9
    clear bx1 bx2 bx3 bx4 by1 by2 by3 by4 br1 br2 br3 br4
    obtain ⟨bx1, bx2, bx3, bx4⟩ := bx.facts
    obtain ⟨by1, by2, by3, by4⟩ := by'.facts
    obtain ⟨br1, br2, br3, br4⟩ := br.facts
    go_wp2_with fail
    go_region_held3 (fun w' => w'.cell? ⟨w.heap.size, 0, none⟩ = some (.bool true) ∧ w'.cell? ⟨w.heap.size, 1, none⟩ = some (.slice a1 xs.length c1) ∧ w'.cell? ⟨w.heap.size + 1, 0, none⟩ = some (.bool false) ∧ w'.cell? ⟨w.heap.size + 1, 1, none⟩ = some (.slice a2 ys.length c2)) (go_keep) (first
        | (go_at_call 67; have _hq := hb1'; refine (made_w _ _ p1 q1 d1 _ (s1.below (by repeat (first | exact Below.refl _ _ | refine Below.drew ?_))) e1).mono ?_; rintro e w2 ⟨ng2, r2, rfl, G2, l2, hb2⟩; have hb2' : Below w1.heap.size w1 w2 := (show Below w1.heap.size w1 _ by repeat (first | exact Below.refl _ _ | refine Below.drew ?_)).trans hb2; have HB := HB.trans (hb2'.mono HB.size); replace bx := bx.below hb2'; clear bx1 bx2 bx3 bx4; obtain ⟨bx1, bx2, bx3, bx4⟩ := bx.facts; replace by' := by'.below hb2'; clear by1 by2 by3 by4; obtain ⟨by1, by2, by3, by4⟩ := by'.facts; replace br := br.below hb2'; clear br1 br2 br3 br4; obtain ⟨br1, br2, br3, br4⟩ := br.facts)
        | (go_at_call 70; refine (less_any _ _ _ _ ys (hy0.sl.below (by repeat (first | exact Below.refl _ _ | refine Below.drew ?_))) _ _ _ xs (hx0.sl.below (by repeat (first | exact Below.refl _ _ | refine Below.drew ?_))) (by omega) hlen (by rw [hx.val, hy.val]; omega) hpos).mono ?_; rintro e w1 ⟨v1, rfl, D1, hb1⟩; obtain ⟨p1, q1, d1, rfl, s1, e1, l1⟩ := D1.open; clear D1; have hb1' : Below w9.heap.size w9 w1 := (show Below w9.heap.size w9 _ by repeat (first | exact Below.refl _ _ | refine Below.drew ?_)).trans hb1; have HB := HB.trans (hb1'.mono HB.size); replace bx := bx.below hb1'; clear bx1 bx2 bx3 bx4; obtain ⟨bx1, bx2, bx3, bx4⟩ := bx.facts; replace by' := by'.below hb1'; clear by1 by2 by3 by4; obtain ⟨by1, by2, by3, by4⟩ := by'.facts; replace br := br.below hb1'; clear br1 br2 br3 br4; obtain ⟨br1, br2, br3, br4⟩ := br.facts))
    all_goals
      have X := hide (br.set ng2 (.slice p1 r2.length q1)).facts
      have Y := hide (br.wh ng2 (.slice p1 r2.length q1) G2)
      have Z := hide (below_set2 HB (show w.heap.size ≤ w.heap.size + 1 + 1 by omega) (.bool ng2) (.slice p1 r2.length q1))
      clear bx1 bx2 bx3 bx4 by1 by2 by3 by4
      go_wp2
      refine bodyPost_ret (v := .agg #[.bool ng2, .slice p1 r2.length q1]) ?_ rfl ⟨ng2, p1, q1, r2, rfl, by rw [show sg true x + sg false y = sg false (Dm.val ys - Dm.val xs) by rw [hx.val, hy.val]; simp [sg]; omega]; exact Y.out, by omega, Z.out⟩
      simp [results, Try.results39, go_sem, X.out.1, X.out.2.1]
theorem nadd_g (w : World) (n1 : Bool) (a1 : Option Addr) (c1 : Nat) (xs : List Int) (x : Int) (hx : Wh w n1 a1 c1 xs x) (n2 : Bool) (a2 : Option Addr) (c2 : Nat) (ys : List Int) (y : Int) (hy : Wh w n2 a2 c2 ys y) (m1 : xs.length ≤ 400000) (m2 : ys.length ≤ 400000) :
    Calls Try.prog 39 #[.agg #[.bool n1, .slice a1 xs.length c1], .agg #[.bool n2, .slice a2 ys.length c2]] w fun e w' => ∃ ng' ao cap rs, e = .returned (.agg #[.bool ng', .slice ao rs.length cap]) ∧ Wh w' ng' ao cap rs (x + y) ∧ rs.length ≤ xs.length + ys.length + 1 ∧ Below w.heap.size w w' := by
  have wx := hx.worth
  have wy := hy.worth
  rw [hx.1.val] at wx
  rw [hy.1.val] at wy
  rw [show x + y = sg n1 (x.natAbs : Int) + sg n2 (y.natAbs : Int) by rw [wx, wy]]
  by_cases hn : n1 = n2
  · subst hn
    exact nadd_same w n1 a1 c1 xs _ hx.1 a2 c2 ys _ hy.1 m1 m2
  · have hn2 : n2 = !n1 := by cases n1 <;> cases n2 <;> simp_all
    have s1 := hx.2
    have s2 := hy.2
    subst hn2
    by_cases hle : (y.natAbs : Int) ≤ (x.natAbs : Int)
    · refine nadd_ge w n1 a1 c1 xs _ hx.1 a2 c2 ys _ hy.1 m1 m2 hle ?_
      cases n1
      · have : y < 0 := by simpa using s2.symm
        omega
      · have : x < 0 := by simpa using s1.symm
        omega
    · exact nadd_lt w n1 a1 c1 xs _ hx.1 a2 c2 ys _ hy.1 m1 m2 (by omega)
end Dm
end Go.Proofs.Ytpofkigboedliaa

namespace Go.Proofs.Ytpofkigboedliaa
namespace Dm
open Go.RowKit
open Lm (hide lt_of_cell lt_of_heap cmpI cmpI_lt cmpI_gt)
theorem copied {w : World} {B g n cap : Nat} {zs : List Int} (h : w.ownsRow B 3 1 (.slice (some ⟨g, 0, none⟩) n cap) n ([] ++ zs.map (Value.int .i64))) (hz : Limb zs) : Sl w (.slice (some ⟨g, 0, none⟩) zs.length cap) zs := by
  have hn : zs.length = n := by simpa using h.1
  subst hn
  rw [List.nil_append] at h
  exact (ow_of_row h hz).sl
set_option maxRecDepth 20000 in
set_option maxHeartbeats 1000000 in
theorem minus_some (w : World) (ng : Bool) (a1 : Option Addr) (c1 : Nat) (xs : List Int) (x : Int) (hx : Got w a1 c1 xs x) (m1 : xs.length ≤ 1000000) (h0 : 0 < xs.length) :
    Calls Try.prog 72 #[.agg #[.bool ng, .slice a1 xs.length c1]] w fun e w' => ∃ ng' ao cap rs, e = .returned (.agg #[.bool ng', .slice ao rs.length cap]) ∧ Wh w' ng' ao cap rs (sg (!ng) x) ∧ rs.length ≤ xs.length ∧ Below w.heap.size w w' := by
  obtain ⟨b, off, rfl, _⟩ := hx.sl.cells h0
  obtain ⟨w0, e0, bx, br, hb0, hs0⟩ := boxed1 w ng (.slice (some ⟨b, off, none⟩) xs.length c1)
  have E0 := hide e0
  obtain ⟨i0, hi, hz0, hz1, hz2⟩ := info_parts info64
  obtain ⟨_, p1, p2, p3⟩ := hx.sl.parts
  have P3 := hide p3
  have hx0 := hx.below hb0
  have HB := hb0
  clear e0 hs0 p3
  go_enter Try.func72, Try.ntmps72
  go_wp2_with fail
  rw [E0.out]
  obtain ⟨bx1, bx2, bx3, bx4⟩ := bx.facts
  obtain ⟨br1, br2, br3, br4⟩ := br.facts
  go_region_held3 (fun w' => w'.cell? ⟨w.heap.size, 0, none⟩ = some (.bool ng) ∧ w'.cell? ⟨w.heap.size, 1, none⟩ = some (.slice (some ⟨b, off, none⟩) xs.length c1)) (go_keep) (first
    | (go_at_call 67; refine (made_w _ _ _ _ xs _ (s1.below (by repeat (first | exact Below.refl _ _ | refine Below.drew ?_))) hx.val).mono ?_; rintro e w2 ⟨ng2, r2, rfl, G2, l2, hb2⟩; have hb2' : Below w1.heap.size w1 w2 := (show Below w1.heap.size w1 _ by repeat (first | exact Below.refl _ _ | refine Below.drew ?_)).trans hb2; have HB := HB.trans (hb2'.mono HB.size); replace bx := bx.below hb2'; clear bx1 bx2 bx3 bx4; obtain ⟨bx1, bx2, bx3, bx4⟩ := bx.facts; replace br := br.below hb2'; clear br1 br2 br3 br4; obtain ⟨br1, br2, br3, br4⟩ := br.facts)
    | ((refine step_append_lies _ (by rfl) _ _ _ (by rfl) w0.heap.size 3 i0 _ 1 8 Try.underlying61 hi hz0 hz1 hz2 rfl (by omega) (.slice none 0 0) 0 [] (by rfl) (World.ownsRow_nil _ _ _ _) ⟨b, off, none⟩ xs.length c1 (xs.map (Value.int .i64)) (by rfl) (by simp) (Sl.copy (hx0.sl.below (by repeat (first | exact Below.refl _ _ | refine Below.drew ?_)))) (one_cells xs) (by omega) (by unfold maxLen; omega) (by omega) (by simp) w0.heap.size (by simp) ?_; intro g1 q1 w1 hown hgrow hat hlt; have hb1' : Below w0.heap.size w0 w1 := (show Below w0.heap.size w0 _ by repeat (first | exact Below.refl _ _ | refine Below.drew ?_)).grown hgrow (by simp) (by intro k hk; simp [Value.ownBlock] at hk); have HB := HB.trans (hb1'.mono HB.size); have s1 := copied hown P3.out; replace bx := bx.below hb1'; clear bx1 bx2 bx3 bx4; obtain ⟨bx1, bx2, bx3, bx4⟩ := bx.facts; replace br := br.below hb1'; clear br1 br2 br3 br4; obtain ⟨br1, br2, br3, br4⟩ := br.facts)))
  all_goals
    have X := hide (br.set ng2 (.slice (some ⟨g1, 0, none⟩) r2.length q1)).facts
    have Y := hide (br.wh ng2 (.slice (some ⟨g1, 0, none⟩) r2.length q1) G2)
    have Z := hide (below_set2 HB (show w.heap.size ≤ w.heap.size + 1 by omega) (.bool ng2) (.slice (some ⟨g1, 0, none⟩) r2.length q1))
    clear bx1 bx2 bx3 bx4
    go_wp2
    refine bodyPost_ret (v := .agg #[.bool ng2, .slice (some ⟨g1, 0, none⟩) r2.length q1]) ?_ rfl ⟨ng2, (some ⟨g1, 0, none⟩), q1, r2, rfl, Y.out, by omega, Z.out⟩
    simp [results, Try.results72, go_sem, X.out.1, X.out.2.1]
theorem sl_nil (w : World) : Sl w (.slice none ([] : List Int).length 0) [] := ⟨none, 0, rfl, Nat.le_refl _, by simp [maxLen], limb_nil, .inl rfl⟩
set_option maxRecDepth 20000 in
set_option maxHeartbeats 1000000 in
theorem minus_nonea (w : World) (ng : Bool) (c1 : Nat) (_hc : c1 ≤ 9223372036854775807) :
    Calls Try.prog 72 #[.agg #[.bool ng, .slice none 0 c1]] w fun e w' => ∃ ng' ao cap rs, e = .returned (.agg #[.bool ng', .slice ao rs.length cap]) ∧ Wh w' ng' ao cap rs (sg (!ng) 0) ∧ rs.length ≤ 0 ∧ Below w.heap.size w w' := by
  obtain ⟨w0, e0, bx, br, hb0, hs0⟩ := boxed1 w ng (.slice none 0 c1)
  have E0 := hide e0
  have HB := hb0
  clear e0 hs0
  go_enter Try.func72, Try.ntmps72
  go_wp2_with fail
  rw [E0.out]
  obtain ⟨bx1, bx2, bx3, bx4⟩ := bx.facts
  obtain ⟨br1, br2, br3, br4⟩ := br.facts
  go_region_held3 (fun w' => w'.cell? ⟨w.heap.size, 0, none⟩ = some (.bool ng) ∧ w'.cell? ⟨w.heap.size, 1, none⟩ = some (.slice none 0 c1)) (go_keep) (first
    | (go_at_call 67; refine (made_w _ _ none 0 [] 0 (sl_nil _) rfl).mono ?_; rintro e w2 ⟨ng2, r2, rfl, G2, l2, hb2⟩; have hb2' : Below w0.heap.size w0 w2 := (show Below w0.heap.size w0 _ by repeat (first | exact Below.refl _ _ | refine Below.drew ?_)).trans hb2; have HB := HB.trans (hb2'.mono HB.size); replace bx := bx.below hb2'; clear bx1 bx2 bx3 bx4; obtain ⟨bx1, bx2, bx3, bx4⟩ := bx.facts; replace br := br.below hb2'; clear br1 br2 br3 br4; obtain ⟨br1, br2, br3, br4⟩ := br.facts))
  all_goals
    have X := hide (br.set ng2 (.slice none r2.length 0)).facts
    have Y := hide (br.wh ng2 (.slice none r2.length 0) G2)
    have Z := hide (below_set2 HB (show w.heap.size ≤ w.heap.size + 1 by omega) (.bool ng2) (.slice none r2.length 0))
    clear bx1 bx2 bx3 bx4
    go_wp2
    refine bodyPost_ret (v := .agg #[.bool ng2, .slice none r2.length 0]) ?_ rfl ⟨ng2, none, 0, r2, rfl, Y.out, by simpa using l2, Z.out⟩
    simp [results, Try.results72, go_sem, X.out.1, X.out.2.1]
set_option maxRecDepth 20000 in
set_option maxHeartbeats 1000000 in
theorem minus_noneb (w : World) (ng : Bool) (ad : Addr) (c1 : Nat) (_hc : c1 ≤ 9223372036854775807) :
    Calls Try.prog 72 #[.agg #[.bool ng, .slice (some ad) 0 c1]] w fun e w' => ∃ ng' ao cap rs, e = .returned (.agg #[.bool ng', .slice ao rs.length cap]) ∧ Wh w' ng' ao cap rs (sg (!ng) 0) ∧ rs.length ≤ 0 ∧ Below w.heap.size w w' := by
  obtain ⟨w0, e0, bx, br, hb0, hs0⟩ := boxed1 w ng (.slice (some ad) 0 c1)
  have E0 := hide e0
  have HB := hb0
  clear e0 hs0
  go_enter Try.func72, Try.ntmps72
  go_wp2_with fail
  rw [E0.out]
  obtain ⟨bx1, bx2, bx3, bx4⟩ := bx.facts
  obtain ⟨br1, br2, br3, br4⟩ := br.facts
  go_region_held3 (fun w' => w'.cell? ⟨w.heap.size, 0, none⟩ = some (.bool ng) ∧ w'.cell? ⟨w.heap.size, 1, none⟩ = some (.slice (some ad) 0 c1)) (go_keep) (first
    | (go_at_call 67; refine (made_w _ _ none 0 [] 0 (sl_nil _) rfl).mono ?_; rintro e w2 ⟨ng2, r2, rfl, G2, l2, hb2⟩; have hb2' : Below w0.heap.size w0 w2 := (show Below w0.heap.size w0 _ by repeat (first | exact Below.refl _ _ | refine Below.drew ?_)).trans hb2; have HB := HB.trans (hb2'.mono HB.size); replace bx := bx.below hb2'; clear bx1 bx2 bx3 bx4; obtain ⟨bx1, bx2, bx3, bx4⟩ := bx.facts; replace br := br.below hb2'; clear br1 br2 br3 br4; obtain ⟨br1, br2, br3, br4⟩ := br.facts))
  all_goals
    have X := hide (br.set ng2 (.slice none r2.length 0)).facts
    have Y := hide (br.wh ng2 (.slice none r2.length 0) G2)
    have Z := hide (below_set2 HB (show w.heap.size ≤ w.heap.size + 1 by omega) (.bool ng2) (.slice none r2.length 0))
    clear bx1 bx2 bx3 bx4
    go_wp2
    refine bodyPost_ret (v := .agg #[.bool ng2, .slice none r2.length 0]) ?_ rfl ⟨ng2, none, 0, r2, rfl, Y.out, by simpa using l2, Z.out⟩
    simp [results, Try.results72, go_sem, X.out.1, X.out.2.1]
theorem minus_got (w : World) (ng : Bool) (a1 : Option Addr) (c1 : Nat) (xs : List Int) (x : Int) (hx : Got w a1 c1 xs x) (m1 : xs.length ≤ 1000000) :
    Calls Try.prog 72 #[.agg #[.bool ng, .slice a1 xs.length c1]] w fun e w' => ∃ ng' ao cap rs, e = .returned (.agg #[.bool ng', .slice ao rs.length cap]) ∧ Wh w' ng' ao cap rs (sg (!ng) x) ∧ rs.length ≤ xs.length ∧ Below w.heap.size w w' := by
  by_cases h0 : 0 < xs.length
  · exact minus_some w ng a1 c1 xs x hx m1 h0
  · have e : xs = [] := List.eq_nil_of_length_eq_zero (by omega)
    have hx0 : x = 0 := by rw [← hx.val, e]; rfl
    have hc := hx.sl.parts.2.2.1
    rw [hx0, e]
    cases a1 with
    | none => exact minus_nonea w ng c1 hc
    | some ad => exact minus_noneb w ng ad c1 hc
theorem minus_g (w : World) (n1 : Bool) (a1 : Option Addr) (c1 : Nat) (xs : List Int) (x : Int) (hx : Wh w n1 a1 c1 xs x) (m1 : xs.length ≤ 1000000) :
    Calls Try.prog 72 #[.agg #[.bool n1, .slice a1 xs.length c1]] w fun e w' => ∃ ng' ao cap rs, e = .returned (.agg #[.bool ng', .slice ao rs.length cap]) ∧ Wh w' ng' ao cap rs (-x) ∧ rs.length ≤ xs.length ∧ Below w.heap.size w w' := by
  have wx := hx.worth
  rw [hx.1.val] at wx
  rw [show -x = sg (!n1) (x.natAbs : Int) by rw [sg_neg, wx]]
  exact minus_got w n1 a1 c1 xs _ hx.1 m1
end Dm
end Go.Proofs.Ytpofkigboedliaa

namespace Go.Proofs.Ytpofkigboedliaa
namespace Dm
open Go.RowKit
open Lm (hide lt_of_cell lt_of_heap)
theorem sg_eq (ng : Bool) (x : Int) : sg ng x = Lm.sg ng x := by cases ng <;> simp [sg, Lm.sg]
theorem Wh.nats {w : World} {ao : Option Addr} {cap : Nat} {rs : List Int} {x : Int} (h : Got w ao cap rs x) : Wh w false ao cap rs x := by
  have := Wh.of false h
  simpa [sg] using this
set_option maxRecDepth 20000 in
set_option maxHeartbeats 1000000 in
theorem nof_g (w : World) (ng : Bool) (a1 : Option Addr) (n1 c1 : Nat) (xs : List Int) (hx : Lm.Sl w (.slice a1 n1 c1) xs) (m1 : xs.length ≤ 100000) :
    Calls Try.prog 40 #[.agg #[.bool ng, .slice a1 n1 c1]] w fun e w' => ∃ ng' ao cap rs, e = .returned (.agg #[.bool ng', .slice ao rs.length cap]) ∧ Wh w' ng' ao cap rs (Lm.sg ng (Lm.val xs)) ∧ rs.length ≤ 3 * xs.length ∧ Below w.heap.size w w' := by
  obtain ⟨w1, e1, bx, hb1, hs1⟩ := Lm.boxed0 w ng (.slice a1 n1 c1)
  obtain ⟨w2, e2, br, hb2, hs2⟩ := boxed0 w1 false (.slice none 0 0)
  have E1 := hide e1
  have E2 := hide e2
  have HB := hb1.trans (hb2.mono hb1.size)
  replace bx := bx.below hb2
  rw [hs1] at br
  have hx2 := hx.below HB
  have HS : w2.heap.size = w.heap.size + 2 := by omega
  rw [← sg_eq]
  clear e1 e2 hb1 hb2 hs1 hs2
  cases ng with
  | false =>
    go_enter Try.func40, Try.ntmps40
    go_upto_region 1 with fail
    rw [E1.out, E2.out]
    obtain ⟨bx1, bx2, bx3, bx4⟩ := bx.facts
    go_wp2_with fail
    refine (fromLimbs_any _ _ _ _ xs hx2 (by omega)).mono ?_
    rintro e w3 ⟨p3, q3, D3, rfl, G3, d3, hb3⟩
    obtain ⟨w4, e4, bn, hb4, hs4⟩ := boxed0 w3 false (.slice p3 D3.length q3)
    have E4 := hide e4
    have z3 := hb3.size
    replace HB := (HB.trans (hb3.mono HB.size)).trans (hb4.mono (Nat.le_trans HB.size z3))
    replace bx := (bx.below hb3).below hb4
    replace br := (br.below hb3).below hb4
    replace G3 := G3.below hb4
    clear e4 hb3 hb4 bx1 bx2 bx3 bx4
    go_upto_region 2 with fail
    rw [E4.out]
    obtain ⟨bx1, bx2, bx3, bx4⟩ := bx.facts
    obtain ⟨br1, br2, br3, br4⟩ := br.facts
    obtain ⟨bn1, bn2, bn3, bn4⟩ := bn.facts
    have F := hide (br.set false (.slice p3 D3.length q3)).facts
    have Y := hide (br.wh false (.slice p3 D3.length q3) (Wh.nats G3))
    have Z := hide (below_set2 HB (show w.heap.size ≤ w.heap.size + 1 by omega) (.bool false) (.slice p3 D3.length q3))
    go_wp2
    refine bodyPost_ret (v := .agg #[.bool false, .slice p3 D3.length q3]) ?_ rfl ⟨false, p3, q3, D3, rfl, Y.out, by omega, Z.out⟩
    simp [results, Try.results40, go_sem, F.out.1, F.out.2.1]
  | true =>
    go_enter Try.func40, Try.ntmps40
    go_upto_region 1 with fail
    rw [E1.out, E2.out]
    obtain ⟨bx1, bx2, bx3, bx4⟩ := bx.facts
    go_wp2_with fail
    refine (fromLimbs_any _ _ _ _ xs hx2 (by omega)).mono ?_
    rintro e w3 ⟨p3, q3, D3, rfl, G3, d3, hb3⟩
    obtain ⟨w4, e4, bn, hb4, hs4⟩ := boxed0 w3 false (.slice p3 D3.length q3)
    have E4 := hide e4
    have z3 := hb3.size
    replace HB := (HB.trans (hb3.mono HB.size)).trans (hb4.mono (Nat.le_trans HB.size z3))
    replace bx := (bx.below hb3).below hb4
    replace br := (br.below hb3).below hb4
    replace G3 := G3.below hb4
    clear e4 hb3 hb4 bx1 bx2 bx3 bx4
    go_upto_region 2 with fail
    rw [E4.out]
    obtain ⟨bx1, bx2, bx3, bx4⟩ := bx.facts
    obtain ⟨bn1, bn2, bn3, bn4⟩ := bn.facts
    go_wp2_with fail
    refine (minus_got _ _ _ _ D3 _ G3 (by omega)).mono ?_
    rintro e w5 ⟨n5, p5, q5, D5, rfl, G5, d5, hb5⟩
    replace HB := HB.trans (hb5.mono HB.size)
    replace br := br.below hb5
    clear bx1 bx2 bx3 bx4 bn1 bn2 bn3 bn4 hb5
    obtain ⟨br1, br2, br3, br4⟩ := br.facts
    have F := hide (br.set n5 (.slice p5 D5.length q5)).facts
    have Y := hide (br.wh n5 (.slice p5 D5.length q5) G5)
    have Z := hide (below_set2 HB (show w.heap.size ≤ w.heap.size + 1 by omega) (.bool n5) (.slice p5 D5.length q5))
    go_wp2
    refine bodyPost_ret (v := .agg #[.bool n5, .slice p5 D5.length q5]) ?_ rfl ⟨n5, p5, q5, D5, rfl, Y.out, by omega, Z.out⟩
    simp [results, Try.results40, go_sem, F.out.1, F.out.2.1]
theorem nof_z (w : World) (ng : Bool) (a1 : Option Addr) (n1 c1 : Nat) (xs : List Int) (x : Int) (hx : Lm.Ag w ng a1 n1 c1 xs x) (m1 : xs.length ≤ 100000) :
    Calls Try.prog 40 #[.agg #[.bool ng, .slice a1 n1 c1]] w fun e w' => ∃ ng' ao cap rs, e = .returned (.agg #[.bool ng', .slice ao rs.length cap]) ∧ Wh w' ng' ao cap rs x ∧ rs.length ≤ 3 * xs.length ∧ Below w.heap.size w w' := by
  have h := nof_g w ng a1 n1 c1 xs hx.sl m1
  rw [hx.worth] at h
  exact h
structure WFr (B T : Nat) (w : World) (ng : Bool) (ao : Option Addr) (cap : Nat) (rs : List Int) (z : Int) : Prop where
  fr : Lm.Fr B T w ao cap rs (z.natAbs : Int)
  sgn : ng = decide (z < 0)
theorem WFr.wh {B T : Nat} {w : World} {ng : Bool} {ao : Option Addr} {cap : Nat} {rs : List Int} {z : Int} (h : WFr B T w ng ao cap rs z) : Lm.Wh w ng ao cap rs z := ⟨h.fr.got, h.sgn⟩
theorem WFr.below {B T : Nat} {w w' : World} {ng : Bool} {ao : Option Addr} {cap : Nat} {rs : List Int} {z : Int} (h : WFr B T w ng ao cap rs z) (hb : Below w.heap.size w w') : WFr B T w' ng ao cap rs z := ⟨h.fr.below hb, h.sgn⟩
theorem WFr.kept {B T : Nat} {w w' : World} {ng : Bool} {ao : Option Addr} {cap : Nat} {rs : List Int} {z : Int} (h : WFr B T w ng ao cap rs z) (hk : ∀ g, g < w.heap.size → B ≤ g → g < T → w'.heap[g]? = w.heap[g]?) : WFr B T w' ng ao cap rs z := ⟨h.fr.kept hk, h.sgn⟩
theorem WFr.kp {B T p : Nat} {bs : List Nat} {w w' : World} {ng : Bool} {ao : Option Addr} {cap : Nat} {rs : List Int} {z : Int} (h : WFr B T w ng ao cap rs z) (k : Lm.Kp w w' p bs) (hp : p < B ∨ T ≤ p) (hb : ∀ j, j ∈ bs → j < B ∨ T ≤ j) : WFr B T w' ng ao cap rs z := ⟨h.fr.kp k hp hb, h.sgn⟩
theorem WFr.wide {B B' T T' : Nat} {w : World} {ng : Bool} {ao : Option Addr} {cap : Nat} {rs : List Int} {z : Int} (h : WFr B T w ng ao cap rs z) (hB : B' ≤ B) (hT : T ≤ T') : WFr B' T' w ng ao cap rs z :=
  ⟨⟨h.fr.ow.mono hB, h.fr.canon, h.fr.val, fun h0 g off e => by have := h.fr.lies h0 g off e; omega⟩, h.sgn⟩
theorem set2_kept {w : World} {k : Nat} (b u : Value) {g : Nat} (h : g ≠ k) : ((w.setCell ⟨k, 0, none⟩ b).setCell ⟨k, 1, none⟩ u).heap[g]? = w.heap[g]? := by
  rw [heap_setCell_other _ ⟨k, 1, none⟩ g _ h, heap_setCell_other _ ⟨k, 0, none⟩ g _ h]
set_option maxRecDepth 20000 in
set_option maxHeartbeats 1000000 in
theorem told_g (w : World) (ng : Bool) (ao : Option Addr) (cap : Nat) (rs : List Int) (z : Int) (h : Wh w ng ao cap rs z) (M : Nat) (hz : (z.natAbs : Int) < Lm.pw M) (hM : M ≤ 1000000) (hl : rs.length ≤ 1000000) :
    Calls Try.prog 41 #[.agg #[.bool ng, .slice ao rs.length cap]] w fun e w' => ∃ bo dap ls, e = .returned (.agg #[.bool ng, .slice bo ls.length dap]) ∧ WFr w.heap.size w'.heap.size w' ng bo dap ls z ∧ ls.length ≤ M ∧ Below w.heap.size w w' := by
  obtain ⟨w1, e1, bx, hb1, hs1⟩ := boxed0 w ng (.slice ao rs.length cap)
  obtain ⟨w2, e2, br, hb2, hs2⟩ := Lm.boxed0 w1 false (.slice none 0 0)
  have E1 := hide e1
  have E2 := hide e2
  have HB := hb1.trans (hb2.mono hb1.size)
  replace bx := bx.below hb2
  rw [hs1] at br
  have h2 := h.below HB
  have HS : w2.heap.size = w.heap.size + 2 := by omega
  have HSG := hide h.2
  have HZ := hide hz
  have ne1 : ¬ (w.heap.size = w.heap.size + 1) := by omega
  have ne2 : ¬ (w.heap.size + 1 = w.heap.size) := by omega
  clear e1 e2 hb1 hb2 hs1 hs2 hz
  go_enter Try.func41, Try.ntmps41
  go_upto_region 1 with fail
  rw [E1.out, E2.out]
  obtain ⟨bx1, bx2, bx3, bx4⟩ := bx.facts
  obtain ⟨br1, br2, br3, br4⟩ := br.facts
  go_region_held3 (fun w' => w'.cell? ⟨w.heap.size, 0, none⟩ = some (.bool ng) ∧ w'.cell? ⟨w.heap.size, 1, none⟩ = some (.slice ao rs.length cap)) (go_keep) (first
    | (go_at_call 73; refine (limbs_any _ _ _ _ rs _ (h2.1.below (by repeat (first | exact Below.refl _ _ | refine Below.drew ?_))) M HZ.out hM hl).mono ?_; rintro e w1' ⟨v1, rfl, I1, hb1⟩; have hb1' : Below w2.heap.size w2 w1' := (show Below w2.heap.size w2 _ by repeat (first | exact Below.refl _ _ | refine Below.drew ?_)).trans hb1; obtain ⟨p1, q1, r1, rfl, F1⟩ := I1.fr; clear I1; replace bx := bx.below hb1'; clear bx1 bx2 bx3 bx4; obtain ⟨bx1, bx2, bx3, bx4⟩ := bx.facts; replace br := br.below hb1'; clear br1 br2 br3 br4; obtain ⟨br1, br2, br3, br4⟩ := br.facts))
  all_goals
    have HB2 := HB.trans (hb1'.mono HB.size)
    have F := hide (br.set ng (.slice p1 r1.length q1)).facts
    have hkk := lt_of_heap br
    have Y := hide (show WFr w2.heap.size w1'.heap.size _ ng p1 q1 r1 z from (WFr.kept (w := w1') ⟨F1, HSG.out⟩ (fun g _ hg _ => set2_kept (.bool ng) (.slice p1 r1.length q1) (show g ≠ w.heap.size + 1 by omega))))
    have Z := hide (below_set2 HB2 (show w.heap.size ≤ w.heap.size + 1 by omega) (.bool ng) (.slice p1 r1.length q1))
    have LL := hide (Lm.canon_len F1.canon (m := M) (by rw [F1.val]; exact HZ.out))
    clear bx1 bx2 bx3 bx4
    go_wp2
    refine bodyPost_ret (v := .agg #[.bool ng, .slice p1 r1.length q1]) ?_ rfl ⟨p1, q1, r1, rfl, Y.out.wide (by omega) (by simp [World.setCell]), LL.out, Z.out⟩
    simp [results, Try.results41, go_sem, F.out.1, F.out.2.1]
end Dm
end Go.Proofs.Ytpofkigboedliaa

namespace Go.Proofs.Ytpofkigboedliaa
namespace Lm
open Go.RowKit
theorem owns_cell {w : World} {B e n : Nat} {a : Option Addr} {c : Nat} {xs : List Value} (h : w.ownsRow B e 1 (.slice a n c) n xs) {i : Nat} (hi : i < n) : ∃ g u, a = some ⟨g, 0, none⟩ ∧ xs[i]? = some u ∧ w.cell? ⟨g, i, none⟩ = some u := by
  have hl := h.1
  rcases h.2 with ⟨e, rfl⟩ | ⟨g, cap, cur, e, _, hh, h1, h2, hs, ht⟩
  · omega
  · simp only [Value.slice.injEq] at e
    obtain ⟨rfl, _, rfl⟩ := e
    have hx : xs[i]? = some (xs[i]'(by omega)) := List.getElem?_eq_getElem (by omega)
    refine ⟨g, _, rfl, hx, ?_⟩
    rw [cell_of_row w g i cur _ (0, 0) hh, ← Array.getElem?_toList, ← hx, ← ht, List.getElem?_take, if_pos (by omega)]
set_option maxRecDepth 20000 in
set_option maxHeartbeats 1000000 in
theorem done_any (w : World) (p Q : Nat) (bs : List Nat) (rv : List Value) (lv mv : Value) (hk : Bk w p Q bs rv rv.length lv mv) (_hr : rv.length ≤ 1000) :
    Calls Try.prog 13 #[.pointer (some ⟨p, 0, none⟩)] w fun e w' => e = .returned (.bool true) ∧ Below w.heap.size w w' := by
  obtain ⟨al, cl, rfl, al1, al2⟩ := owns_shape hk.lists
  obtain ⟨am, cm, rfl, am1, am2⟩ := owns_shape hk.marks
  go_enter Try.func13, Try.ntmps13
  go_wp2
  go_loopw [3] (fun iv wr => ∃ i : Nat, i ≤ rv.length ∧ iv = .int .i64 i ∧ Below w.heap.size w wr) (fun iv _ => rv.length - (intOf iv).toNat)
  case atStart => exact ⟨0, Nat.zero_le _, rfl, Below.refl _ _⟩
  case round =>
    obtain ⟨i, hi, rfl, hbel⟩ := hrel
    obtain ⟨k0, k1, k2, k3⟩ := (hk.below hbel).facts
    by_cases hlt : i < rv.length
    · have dI : (i : Int) < (rv.length : Int) := by omega
      have HBL := hide hbel
      clear hbel
      go_wp2
      clear k0 k1 k2 k3
      obtain ⟨g1, u, rfl, hu, hc1⟩ := owns_cell hk.lists hlt
      obtain ⟨g2, u2, rfl, hu2, hc2⟩ := owns_cell hk.marks hlt
      rw [bmks_get hlt] at hu2
      simp only [Option.some.injEq] at hu2
      subst hu2
      obtain ⟨ao, n, cap, rfl, n1, n2, n3, n4⟩ := hk.rooms i u hu
      have C1 := hide hc1
      have C2 := hide hc2
      have N4 := hide n4
      clear hc1 hc2 n4 hu
      go_loopw [4] (fun kv wr => ∃ k : Nat, k ≤ n ∧ kv = .int .i64 k ∧ Below w.heap.size w wr) (fun kv _ => n - (intOf kv).toNat)
      case atStart => exact ⟨0, Nat.zero_le _, rfl, HBL.out⟩
      case round =>
        clear HBL
        obtain ⟨k, hkn, rfl, hbel⟩ := hrel
        obtain ⟨k0, k1, k2, k3⟩ := (hk.below hbel).facts
        have c1 := (hbel.cell (p := ⟨g1, i, none⟩) (lt_of_cell C1.out)).trans C1.out
        have c2 := (hbel.cell (p := ⟨g2, i, none⟩) (lt_of_cell C2.out)).trans C2.out
        by_cases hlt2 : k < n
        · have dK : (k : Int) < (n : Int) := by omega
          rcases N4.out with h0 | ⟨g, off, rfl, _, _, _, hc⟩
          · omega
          have c3 := (hbel.cell (p := ⟨g, off + k, none⟩) (lt_of_cell (hc k hlt2))).trans (hc k hlt2)
          clear hc N4
          simp only [bmk] at c2 c3
          go_wp2
          go_quiet (fail)
          go_wp2
          go_roundw
          case rel => exact ⟨k + 1, by omega, by go_num, below_drewN hbel _⟩
          case measure => simp [intOf]; omega
        · have dK : ¬ (k : Int) < (n : Int) := by omega
          go_wp2
          go_roundw
          case rel => exact ⟨i + 1, by omega, by go_num, hbel⟩
          case measure => simp [intOf]; omega
    · have dI : ¬ (i : Int) < (rv.length : Int) := by omega
      go_wp2
      go_ret
      exact ⟨rfl, hbel⟩
theorem done_b (w : World) (p Q n : Nat) (bs : List Nat) (hb : Bs w p Q bs n) (hn : n ≤ 1000) :
    Calls Try.prog 13 #[.pointer (some ⟨p, 0, none⟩)] w fun e w' => e = .returned (.bool true) ∧ Below w.heap.size w w' := by
  obtain ⟨rv, lv, mv, rfl, hk⟩ := hb
  exact done_any w p Q bs rv lv mv hk hn
end Lm
end Go.Proofs.Ytpofkigboedliaa

namespace Go.Proofs.Ytpofkigboedliaa
namespace Lm
open Go Go.RowKit
open Dm (WFr)
theorem Ag.ru {w w' : World} {ng : Bool} {ao : Option Addr} {n cap : Nat} {xs : List Int} {z : Int} (h : Ag w ng ao n cap xs z) (hr : Ru w w') : Ag w' ng ao n cap xs z := ⟨h.sl.ru hr, h.worth⟩
theorem Got.ru {w w' : World} {ao : Option Addr} {cap : Nat} {rs : List Int} {x : Int} (h : Got w ao cap rs x) (hr : Ru w w') : Got w' ao cap rs x := ⟨h.1.ru hr, h.2⟩
theorem Wh.ru {w w' : World} {ng : Bool} {ao : Option Addr} {cap : Nat} {rs : List Int} {z : Int} (h : Wh w ng ao cap rs z) (hr : Ru w w') : Wh w' ng ao cap rs z := ⟨Got.ru h.1 hr, h.2⟩
theorem Ow.ru {B : Nat} {w w' : World} {v : Value} {zs : List Int} (h : Ow B w v zs) (hr : Ru w w') : Ow B w' v zs := by
  obtain ⟨ao, cap, rfl, h1, h2, h3, h4⟩ := h
  refine ⟨ao, cap, rfl, h1, h2, h3, ?_⟩
  rcases h4 with h4 | ⟨g, off, cur, rfl, hB, hh, r⟩
  · exact .inl h4
  · exact .inr ⟨g, off, cur, rfl, hB, hr.rows g cur hh, r⟩
theorem Fr.ru {B T : Nat} {w w' : World} {ao : Option Addr} {cap : Nat} {rs : List Int} {x : Int} (h : Fr B T w ao cap rs x) (hr : Ru w w') : Fr B T w' ao cap rs x := ⟨h.ow.ru hr, h.canon, h.val, h.lies⟩
theorem _root_.Go.Proofs.Ytpofkigboedliaa.Dm.WFr.ru {B T : Nat} {w w' : World} {ng : Bool} {ao : Option Addr} {cap : Nat} {rs : List Int} {z : Int} (h : WFr B T w ng ao cap rs z) (hr : Ru w w') : WFr B T w' ng ao cap rs z := ⟨h.fr.ru hr, h.sgn⟩
theorem _root_.Go.Proofs.Ytpofkigboedliaa.Dm.WFr.rl {B T : Nat} {w w' : World} {ng : Bool} {ao : Option Addr} {cap : Nat} {rs : List Int} {z : Int} (h : WFr B T w ng ao cap rs z) (hr : Rl w w') : WFr B T w' ng ao cap rs z := h.ru (Ru.of_rl hr)
theorem Eqs.mono5 (x : Value) : Mono5 (Eqs x) := fun _ _ _ _ h => h
theorem True.mono5 : Mono5 (fun _ _ => True) := fun _ _ _ _ h => h
theorem OutW.mono5 (z : Int) (L : Nat) : Mono5 (OutW z L) := fun _ _ _ hb ⟨ng, ao, cap, rs, e, h, l⟩ => ⟨ng, ao, cap, rs, e, h.ru hb, l⟩
def OwnWI (z : Int) (L : Nat) : SaysI := fun B T v w => ∃ ng ao cap rs, v = .agg #[.bool ng, .slice ao rs.length cap] ∧ WFr B T w ng ao cap rs z ∧ rs.length ≤ L
def FrW (K : Nat) (z : Int) (L : Nat) : Says := fun v w => ∃ ng ao cap rs B T, v = .agg #[.bool ng, .slice ao rs.length cap] ∧ WFr B T w ng ao cap rs z ∧ K ≤ B ∧ T ≤ w.heap.size ∧ rs.length ≤ L
theorem FrW.mono5 (K : Nat) (z : Int) (L : Nat) : Mono5 (FrW K z L) := fun _ _ _ hr ⟨ng, ao, cap, rs, B, T, e, h, h1, h2, l⟩ => ⟨ng, ao, cap, rs, B, T, e, h.ru hr, h1, Nat.le_trans h2 hr.size, l⟩
theorem FrW.mono4 (K : Nat) (z : Int) (L : Nat) : Mono4 (FrW K z L) := fun v w w' hr h => FrW.mono5 K z L v w w' (Ru.of_rl hr) h
theorem FrW.out {z : Int} {L K : Nat} {v : Value} {w : World} : FrW K z L v w → OutW z L v w := fun ⟨ng, ao, cap, rs, _, _, e, h, _, _, l⟩ => ⟨ng, ao, cap, rs, e, h.wh, l⟩
theorem FrW.cs {z : Int} {L K : Nat} (v : Value) (w : World) (h : FrW K z L v w) : ∃ cs, W2.Cs v cs := OutW.cs v w h.out
section
variable {P : Program} {o : Oper} {a : Act} {w : World} {Ds : List (Option Nat)} {Rs : List (Nat × Nat × (Value → Value → Prop))} {i : Nat}
theorem d6 {p : Says} (h : (Rs.all fun r => r.1 != i) = true) (hd : Does P o a.eval w fun v w' => Below w.heap.size w w' ∧ p v w') : Does P o a.eval w fun v w' => Below w.heap.size w w' ∧ p v w' ∧ TrI w.heap.size w'.heap.size v w' ∧ Rel Ds Rs i a v :=
  hd.mono fun v _ ⟨hb, hp⟩ => ⟨hb, hp, trivial, Rel.none h a v⟩
theorem ownf {z : Int} {L K : Nat} (hK : K ≤ w.heap.size) (hd : Does P o a.eval w fun v w' => Below w.heap.size w w' ∧ OwnWI z L w.heap.size w'.heap.size v w') : Does P o a.eval w fun v w' => Below w.heap.size w w' ∧ FrW K z L v w' :=
  hd.mono fun _ _ ⟨hb, ng, ao, cap, rs, e, h, l⟩ => ⟨hb, ng, ao, cap, rs, _, _, e, h, hK, Nat.le_refl _, l⟩
end
theorem nxt {Xt : List Xb} {i : Nat} (h : ((Xt.map (·.i)).all fun j => j != i) = true) : ∀ q ∈ Xt, q.i ≠ i := fun q hq e => by
  have := List.all_eq_true.1 h q.i (List.mem_map.2 ⟨q, hq, rfl⟩)
  simp [e] at this
theorem xok_nil {bx : List Bx} {w0 : World} : XOk bx [] w0 := by
  constructor <;> (intro q hq; cases hq)
def NeX : List Xb → Nat → Prop
  | [], _ => True
  | b :: bx, g => b.m ≠ g ∧ NeX bx g
theorem NeX.all : ∀ {bx : List Xb} {g : Nat}, NeX bx g → ∀ b ∈ bx, b.m ≠ g
  | [], _, _ => fun c hc => by cases hc
  | b :: bx, g, h => fun c hc => by
    rcases List.mem_cons.1 hc with rfl | hc
    · exact h.1
    · exact NeX.all h.2 c hc
def UpX (B : Nat) : List Xb → Prop
  | [] => True
  | b :: bx => B ≤ b.m ∧ UpX B bx
theorem UpX.all {B : Nat} : ∀ {bx : List Xb}, UpX B bx → ∀ b ∈ bx, B ≤ b.m
  | [], _ => fun c hc => by cases hc
  | b :: bx, h => fun c hc => by
    rcases List.mem_cons.1 hc with rfl | hc
    · exact h.1
    · exact UpX.all h.2 c hc
theorem BoxV.keep5 {τ : BoxTy} {bx : List Bx} {Xt : List Xb} {w w' : World} {g : Nat} {v : Value} (h : BoxV τ w g v) (hb : But5 bx Xt w w') (hn : NeOld bx g) (hx : NeX Xt g) : BoxV τ w' g v := by
  obtain ⟨cs, hc, h⟩ := h
  exact ⟨cs, hc, (hb.keep g (lt_of_heap h) hn.all hx.all).trans h⟩
def LendN (w : World) (L : Nat) : Prop := w.heap[L]? = some (.cells #[.slice none 0 0, .int .i64 0] 43 (0, 0))
theorem LendN.below {w w' : World} {L : Nat} (h : LendN w L) (hb : Below w.heap.size w w') : LendN w' L := (hb.block L (lt_of_heap h)).trans h
section
variable {dst : Option Tmp} {ty : TypeId} {pos : String} {after : Array Edge} {guard : Option (Nat × Bool)} {a : Act} {w : World} {ats : Array TypeId} {i j : Nat} {x y z u : Int} {L L1 L2 : Nat}
theorem op_eqlbs {b : Bool} (h1 : a.eval (.tmp i) = .bool b) (h2 : a.eval (.tmp j) = .bool b) :
    Does Try.prog { dst, op := .binOp .eql 4 (.tmp i) (.tmp j) 4, type := ty, pos, after, guard } a.eval w fun v' w' => Below w.heap.size w w' ∧ Eqs (.bool true) v' w' := by
  have := op_eqlb (dst := dst) (ty := ty) (pos := pos) (after := after) (guard := guard) (w := w) h1 h2
  rwa [beq_self_eq_true] at this
theorem ownw_of {w' : World} {ng' : Bool} {ao : Option Addr} {cap : Nat} {rs : List Int} (G : Wh w' ng' ao cap rs z) (l : rs.length ≤ L) (o : Li w.heap.size w'.heap.size w' ao cap rs) : OwnWI z L w.heap.size w'.heap.size (.agg #[.bool ng', .slice ao rs.length cap]) w' := ⟨_, _, _, _, rfl, ⟨o.fr G.1, G.2⟩, l⟩
end
section
variable {dst : Option Tmp} {ty : TypeId} {pos : String} {after : Array Edge} {guard : Option (Nat × Bool)} {a : Act} {w : World} {ats : Array TypeId} {i j : Nat} {x y : Int} {L1 L2 : Nat}
theorem op_addO (hx : IsW x L1 (a.eval (.tmp i)) w) (hy : IsW y L2 (a.eval (.tmp j)) w) (h1 : L1 ≤ 400000) (h2 : L2 ≤ 400000) :
    Does Try.prog { dst, op := .call { callee := .value (.func 37), args := #[.tmp i, .tmp j], argTypes := ats }, type := ty, pos, after, guard } a.eval w fun v w' => Below w.heap.size w w' ∧ OwnWI (x + y) (L1 + L2 + 1) w.heap.size w'.heap.size v w' := by
  obtain ⟨n1, a1, m1, c1, xs, e1, A1, l1⟩ := hx
  obtain ⟨n2, a2, m2, c2, ys, e2, A2, l2⟩ := hy
  refine does_call has_add _ (by simp only [List.map_toArray, List.map_cons, List.map_nil, e1, e2]) ((wadd_o _ n1 _ _ _ _ A1.sl n2 _ _ _ _ A2.sl (by omega) (by omega)).mono ?_)
  rintro e w' ⟨ng, ao, cap, rs, rfl, G, l, o, hb⟩
  rw [A1.worth, A2.worth] at G
  exact ⟨_, rfl, hb, ownw_of G (by omega) o⟩
end
end Lm
end Go.Proofs.Ytpofkigboedliaa

namespace Go.Proofs.Ytpofkigboedliaa
namespace Dm
open Go.RowKit
open Lm (hide lt_of_cell lt_of_heap cmpI cmpI_lt cmpI_gt)
def Cl (w : World) (b i : Nat) (v : Value) : Prop := w.cell? ⟨b, i, none⟩ = some v
theorem Cl.below {w w' : World} {b i : Nat} {v : Value} (h : Cl w b i v) (hb : Below w.heap.size w w') : Cl w' b i v := (hb.cell (p := ⟨b, i, none⟩) (lt_of_cell h)).trans h
section
variable {w wr wr' : World} {na : Bool} {va : Value} {g gy gr n : Nat} {Dl : List Int} {pY : Option Addr} {qY : Nat} {Y : List Int} {y : Int} {nR : Bool} {pR : Option Addr} {qR : Nat} {R : List Int} {r : Int}
end
end Dm
end Go.Proofs.Ytpofkigboedliaa

namespace Go.Proofs.Ytpofkigboedliaa
namespace Lm
open Go.RowKit
open Dm (WFr set2_kept)
theorem Kp.from {w w1 w' : World} {p : Nat} {bs : List Nat} (hb : Below w.heap.size w w1) (k : Kp w1 w' p bs) : Kp w w' p bs :=
  ⟨k.os.trans hb.os, k.tape.trans hb.tape, k.output.trans hb.output, Nat.le_trans hb.size k.size, fun j hj hp hn => (k.other j (Nat.lt_of_lt_of_le hj hb.size) hp hn).trans (hb.block j hj)⟩
set_option maxRecDepth 20000 in
set_option maxHeartbeats 400000 in
theorem ownWhole_b (w : World) (p Q n : Nat) (bs : List Nat) (hb : Bs w p Q bs n) (hn : n ≤ 1000) (B T : Nat) (ng : Bool) (ao : Option Addr) (cap : Nat) (rs : List Int) (x : Int) (h : Fr B T w ao cap rs x) (hQB : Q ≤ B) (hQ : Q ≤ w.heap.size) (hd : ∀ j, j ∈ bs → j < B ∨ T ≤ j) :
    Calls Try.prog 12 #[.pointer (some ⟨p, 0, none⟩), .agg #[.bool ng, .slice ao rs.length cap]] w fun e w' => e = .returned (.bool true) ∧ ∃ bs', Bs w' p Q bs' (n + 1) ∧ Kp w w' p bs' ∧ ∀ j, j ∈ bs' → j ∈ bs ∨ w.heap.size ≤ j ∨ (B ≤ j ∧ j < T) := by
  obtain ⟨w0, e0, bx, hb0, hs0⟩ := boxed0 w ng (.slice ao rs.length cap)
  have E0 := hide e0
  clear e0
  go_enter Try.func12, Try.ntmps12
  go_upto_region 1 with fail
  rw [E0.out]
  obtain ⟨bx1, bx2, bx3, bx4⟩ := bx.facts
  go_wp2_with fail
  refine (own_b _ _ _ _ bs (hb.below hb0) hn _ _ _ _ _ _ (h.below hb0) hQB (by omega) hd).mono ?_
  rintro e w1 ⟨rfl, bs1, B1, k1, j1⟩
  clear bx1 bx2 bx3 bx4
  go_wp2
  go_ret
  exact ⟨rfl, bs1, B1, k1.from hb0, fun j hj => by rcases j1 j hj with a | a | a; exact .inl a; exact .inr (.inl (by omega)); exact .inr (.inr a)⟩
theorem li_nil (B T : Nat) (w : World) : Li B T w none 0 [] := ⟨⟨none, 0, rfl, Nat.le_refl _, by simp [maxLen], limb_nil, .inl rfl⟩, fun h => by omega⟩
theorem wh_nil (w : World) : Wh w false none 0 [] 0 := ⟨⟨⟨none, 0, rfl, Nat.le_refl _, by simp [maxLen], limb_nil, .inl rfl⟩, canon_nil, rfl⟩, rfl⟩
theorem Li.wfr {B T : Nat} {w : World} {ng : Bool} {ao : Option Addr} {cap : Nat} {rs : List Int} {z : Int} (h : Li B T w ao cap rs) (g : Wh w ng ao cap rs z) : WFr B T w ng ao cap rs z := ⟨h.fr g.1, g.2⟩
end Lm
end Go.Proofs.Ytpofkigboedliaa

namespace Go.Proofs.Ytpofkigboedliaa
namespace Lm
open Go Go.RowKit
open Dm (WFr)
def SzGe (K : Nat) (w : World) : Prop := K ≤ w.heap.size
theorem SzGe.le {K : Nat} {w : World} (h : SzGe K w) : K ≤ w.heap.size := h
theorem SzGe.rl {K : Nat} {w w' : World} (h : SzGe K w) (hr : Rl w w') : SzGe K w' := Nat.le_trans h hr.size
theorem SzGe.ru {K : Nat} {w w' : World} (h : SzGe K w) (hr : Ru w w') : SzGe K w' := Nat.le_trans h hr.size
theorem SzGe.below {K : Nat} {w w' : World} (h : SzGe K w) (hb : Below w.heap.size w w') : SzGe K w' := Nat.le_trans h hb.size
theorem SzGe.kp {K p : Nat} {bs : List Nat} {w w' : World} (h : SzGe K w) (hb : Kp w w' p bs) : SzGe K w' := Nat.le_trans h hb.size
theorem BoxV.kp {τ : BoxTy} {w w' : World} {g p : Nat} {bs : List Nat} {v : Value} (h : BoxV τ w g v) (k : Kp w w' p bs) (hp : g ≠ p) (hb : g ∉ bs) : BoxV τ w' g v := by
  obtain ⟨cs, hc, h⟩ := h
  exact ⟨cs, hc, (k.other g (lt_of_heap h) hp hb).trans h⟩
section
variable {dst : Option Tmp} {ty : TypeId} {pos : String} {after : Array Edge} {guard : Option (Nat × Bool)} {a : Act} {w : World} {ats : Array TypeId} {i j : Nat} {z : Int}
theorem op_bBook : Does Try.prog { dst, op := .build 33 #[], type := ty, pos, after, guard } a.eval w fun v' w' => Below w.heap.size w w' ∧ Eqs (.agg #[.slice none 0 0, .slice none 0 0]) v' w' := by
  have e : (execOp a.eval { dst, op := .build 33 #[], type := ty, pos, after, guard }).run Try.prog w = .ok (.value (.agg #[.slice none 0 0, .slice none 0 0])) w := by
    simp only [execOp, List.map_toArray, List.map_nil]
    go_simp
  refine ⟨?_⟩
  unfold Turns
  rw [e]
  exact ⟨Below.refl _ _, rfl⟩
theorem op_bookn {Q : Nat} (h : a.eval (.tmp i) = .agg #[.slice none 0 0, .slice none 0 0]) : Does Try.prog { dst, op := .box 33 (.tmp i), type := ty, pos, after, guard } a.eval w fun v w' => v = .pointer (some ⟨w.heap.size, 0, none⟩) ∧ Bs w' w.heap.size Q [] 0 ∧ Below w.heap.size w w' := by
  have e : (execOp a.eval { dst, op := .box 33 (.tmp i), type := ty, pos, after, guard }).run Try.prog w = .ok (.value (.pointer (some ⟨w.heap.size, 0, none⟩))) (w.alloc (.cells #[.slice none 0 0, .slice none 0 0] 33)) := by
    simp only [execOp, h]
    go_simp
  refine ⟨?_⟩
  unfold Turns
  rw [e]
  exact ⟨rfl, Bs.new (heap_alloc_new _ _), (Below.refl _ _).alloc (Nat.le_refl _) _⟩
theorem op_neqsame {u : Int} (h1 : a.eval (.tmp i) = .int .i64 u) (h2 : a.eval (.tmp j) = .int .i64 u) :
    Does Try.prog { dst, op := .binOp .neq 3 (.tmp i) (.tmp j) 3, type := ty, pos, after, guard } a.eval w fun v' w' => Below w.heap.size w w' ∧ Eqs (.bool false) v' w' := by
  refine does_bin (v := .bool false) ?_ ?_ ⟨Below.refl _ _, rfl⟩
  · rw [h1, h2]; simp [go_sem]
  · rw [h1, h2]; simp [go_sem]
theorem op_addk {u v : Int} (h1 : a.eval (.tmp i) = .int .i64 u) (h : -9223372036854775808 ≤ u + v ∧ u + v ≤ 9223372036854775807) :
    Does Try.prog { dst, op := .binOp .add 3 (.tmp i) (.const (.int .i64 v)) 3, type := ty, pos, after, guard } a.eval w fun v' w' => Below w.heap.size w w' ∧ Eqs (.int .i64 (u + v)) v' w' := by
  refine does_bin (v := .int .i64 (u + v)) ?_ ?_ ⟨Below.refl _ _, rfl⟩
  · rw [h1]; simp [go_sem, Act.eval]
  · rw [h1]; simp [go_sem, Act.eval]; exact wrap64 h.1 h.2
theorem has_ownw : Has Try.prog 12 := by unfold Has; kernel_rfl
theorem op_ownw {p Q n B T : Nat} {bs : List Nat} {ng : Bool} {ao : Option Addr} {cap : Nat} {rs : List Int} (hp : a.eval (.tmp i) = .pointer (some ⟨p, 0, none⟩)) (hv : a.eval (.tmp j) = .agg #[.bool ng, .slice ao rs.length cap]) (hb : Bs w p Q bs n) (hn : n ≤ 1000) (h : WFr B T w ng ao cap rs z) (hQB : Q ≤ B) (hQ : Q ≤ w.heap.size) (hd : ∀ j, j ∈ bs → j < B ∨ T ≤ j) :
    Does Try.prog { dst, op := .call { callee := .value (.func 12), args := #[.tmp i, .tmp j], argTypes := ats }, type := ty, pos, after, guard } a.eval w fun v w' => v = .bool true ∧ ∃ bs', Bs w' p Q bs' (n + 1) ∧ Kp w w' p bs' ∧ ∀ j, j ∈ bs' → j ∈ bs ∨ w.heap.size ≤ j ∨ (B ≤ j ∧ j < T) := by
  refine does_call has_ownw _ (by simp only [List.map_toArray, List.map_cons, List.map_nil, hp, hv]) ((ownWhole_b w p Q n bs hb hn B T ng ao cap rs _ h.fr hQB hQ hd).mono ?_)
  rintro e w' ⟨rfl, h1⟩
  exact ⟨_, rfl, rfl, h1⟩
theorem has_bdone : Has Try.prog 13 := by unfold Has; kernel_rfl
theorem op_bdone {p Q n : Nat} {bs : List Nat} (hp : a.eval (.tmp i) = .pointer (some ⟨p, 0, none⟩)) (hb : Bs w p Q bs n) (hn : n ≤ 1000) :
    Does Try.prog { dst, op := .call { callee := .value (.func 13), args := #[.tmp i], argTypes := ats }, type := ty, pos, after, guard } a.eval w fun v w' => Below w.heap.size w w' ∧ Eqs (.bool true) v w' := by
  refine does_call has_bdone _ (by simp only [List.map_toArray, List.map_cons, List.map_nil, hp]) ((done_b w p Q n bs hb hn).mono ?_)
  rintro e w' ⟨rfl, hb⟩
  exact ⟨_, rfl, hb, rfl⟩
end
end Lm
end Go.Proofs.Ytpofkigboedliaa

namespace Go.Proofs.Ytpofkigboedliaa
namespace Lm
open Go Go.RowKit
def Cl (w : World) (v : Value) (size n : Nat) (xs : List Value) : Prop :=
  ∃ ao cap, v = .slice ao n cap ∧ n ≤ cap ∧ cap ≤ 9223372036854775807 ∧ xs.length = n * size ∧ (n = 0 ∨ ∃ b off, ao = some ⟨b, off, none⟩ ∧ b < w.heap.size ∧ ∀ j u, xs[j]? = some u → w.cell? ⟨b, off + j, none⟩ = some u)
theorem Cl.below {w w' : World} {v : Value} {size n : Nat} {xs : List Value} (h : Cl w v size n xs) (hb : Below w.heap.size w w') : Cl w' v size n xs := by
  obtain ⟨ao, cap, rfl, h1, h2, h3, h4⟩ := h
  refine ⟨ao, cap, rfl, h1, h2, h3, ?_⟩
  rcases h4 with h4 | ⟨b, off, rfl, hl, hc⟩
  · exact .inl h4
  · exact .inr ⟨b, off, rfl, Nat.lt_of_lt_of_le hl hb.size, fun j u hu => (hb.cell (p := ⟨b, off + j, none⟩) hl).trans (hc j u hu)⟩
theorem Cl.own {w : World} {base : Nat} {e : TypeId} {size n : Nat} {v : Value} {xs : List Value} (h : w.ownsRow base e size v n xs) : Cl w v size n xs := by
  obtain ⟨hl, ⟨rfl, rfl⟩ | ⟨g, cap, cur, rfl, hb, hh, h1, h2, h3, h4⟩⟩ := h
  · exact ⟨none, 0, rfl, Nat.le_refl _, by omega, hl, .inl rfl⟩
  · refine ⟨_, cap, rfl, h1, by simpa [maxLen] using h2, hl, .inr ⟨g, 0, rfl, lt_of_heap hh, fun j u hu => ?_⟩⟩
    rw [Nat.zero_add, cell_of_row w g j cur e (0, 0) hh]
    rw [← h4, List.getElem?_take] at hu
    split at hu
    · simpa using hu
    · cases hu
structure WE where
  ng : Bool
  a : Option Addr
  m : Nat
  c : Nat
  zs : List Int
def WE.z (e : WE) : Int := sg e.ng (val e.zs)
def flat : List WE → List Value
  | [] => []
  | e :: es => .bool e.ng :: .slice e.a e.m e.c :: flat es
theorem flat_length (es : List WE) : (flat es).length = es.length * 2 := by
  induction es with
  | nil => rfl
  | cons e es ih => simp only [flat, List.length_cons, ih]; omega
theorem flat_at {es : List WE} {k : Nat} {e : WE} (h : es[k]? = some e) : (flat es)[k * 2]? = some (.bool e.ng) ∧ (flat es)[k * 2 + 1]? = some (.slice e.a e.m e.c) := by
  induction es generalizing k with
  | nil => simp at h
  | cons x es ih =>
    cases k with
    | zero =>
      simp only [List.getElem?_cons_zero, Option.some.injEq] at h
      subst h
      simp [flat]
    | succ k =>
      have := ih (k := k) (by simpa using h)
      have e1 : (k + 1) * 2 = k * 2 + 1 + 1 := by omega
      rw [e1]
      simpa [flat] using this
theorem flat_append (es fs : List WE) : flat (es ++ fs) = flat es ++ flat fs := by
  induction es with
  | nil => rfl
  | cons e es ih => simp [flat, ih]
structure Rw (w : World) (v : Value) (es : List WE) : Prop where
  cl : Cl w v 2 es.length (flat es)
  sl : ∀ e ∈ es, Sl w (.slice e.a e.m e.c) e.zs
theorem Rw.below {w w' : World} {v : Value} {es : List WE} (h : Rw w v es) (hb : Below w.heap.size w w') : Rw w' v es := ⟨h.cl.below hb, fun e he => (h.sl e he).below hb⟩
theorem Rw.ag {w : World} {v : Value} {es : List WE} (h : Rw w v es) {e : WE} (he : e ∈ es) : Ag w e.ng e.a e.m e.c e.zs e.z := ⟨h.sl e he, rfl⟩
theorem Rw.parts {w : World} {ao : Option Addr} {n cap : Nat} {es : List WE} (h : Rw w (.slice ao n cap) es) : n = es.length ∧ es.length ≤ cap ∧ cap ≤ 9223372036854775807 := by
  obtain ⟨ao', cap', hv, h1, h2, h3, h4⟩ := h.cl
  obtain ⟨rfl, rfl, rfl⟩ := (Value.slice.injEq .. ▸ hv)
  exact ⟨rfl, h1, h2⟩
theorem Rw.cells {w : World} {ao : Option Addr} {n cap : Nat} {es : List WE} (h : Rw w (.slice ao n cap) es) (hp : 0 < es.length) : ∃ b off, ao = some ⟨b, off, none⟩ ∧ b < w.heap.size ∧ ∀ j u, (flat es)[j]? = some u → w.cell? ⟨b, off + j, none⟩ = some u := by
  obtain ⟨ao', cap', hv, h1, h2, h3, h4⟩ := h.cl
  obtain ⟨rfl, _, rfl⟩ := (Value.slice.injEq .. ▸ hv)
  rcases h4 with h4 | h4
  · omega
  · exact h4
section
variable {dst : Option Tmp} {ty : TypeId} {pos : String} {after : Array Edge} {guard : Option (Nat × Bool)} {a : Act} {w : World} {ats : Array TypeId} {i j : Nat}
theorem op_lenr {ao : Option Addr} {n c : Nat} (h : a.eval (.tmp i) = .slice ao n c) : Does Try.prog { dst, op := .call { callee := .builtin .len, args := #[.tmp i], argTypes := #[22] }, type := ty, pos, after, guard } a.eval w fun v' w' => Below w.heap.size w w' ∧ Eqs (.int .i64 n) v' w' := by
  have e : (execOp a.eval { dst, op := .call { callee := .builtin .len, args := #[.tmp i], argTypes := #[22] }, type := ty, pos, after, guard }).run Try.prog w = .ok (.value (.int .i64 n)) w := by
    have h' : a.tmps[i]?.getD undef = .slice ao n c := by simpa [Act.eval] using h
    simp [go_sem, h']
  refine ⟨?_⟩
  unfold Turns
  rw [e]
  exact ⟨Below.refl _ _, rfl⟩
theorem op_idxr {b off n c k : Nat} {ao : Option Addr} (h : a.eval (.tmp i) = .slice ao n c) (hao : ao = some ⟨b, off, none⟩) (hk : a.eval (.tmp j) = .int .i64 (k : Int)) (hl : k < n) : Does Try.prog { dst, op := .indexAddr 22 (.tmp i) (.tmp j), type := ty, pos, after, guard } a.eval w fun v' w' => Below w.heap.size w w' ∧ Eqs (.pointer (some ⟨b, off + k * 2, none⟩)) v' w' := by
  subst hao
  have e : (execOp a.eval { dst, op := .indexAddr 22 (.tmp i) (.tmp j), type := ty, pos, after, guard }).run Try.prog w = .ok (.value (.pointer (some ⟨b, off + k * 2, none⟩))) w := by
    simp only [execOp, h, hk]
    go_simp
  refine ⟨?_⟩
  unfold Turns
  rw [e]
  exact ⟨Below.refl _ _, rfl⟩
theorem op_ldr {b off k : Nat} {ao : Option Addr} {n cap : Nat} {es : List WE} {e : WE} (hp : a.eval (.tmp i) = .pointer (some ⟨b, off + k * 2, none⟩)) (hao : ao = some ⟨b, off, none⟩) (hR : Rw w (.slice ao n cap) es) (he : es[k]? = some e) : Does Try.prog { dst, op := .load 28 (.tmp i), type := ty, pos, after, guard } a.eval w fun v' w' => Below w.heap.size w w' ∧ Eqs (.agg #[.bool e.ng, .slice e.a e.m e.c]) v' w' := by
  have hk : k < es.length := (List.getElem?_eq_some_iff.1 he).1
  obtain ⟨b', off', e', hb, hc⟩ := hR.cells (by omega)
  obtain ⟨rfl, rfl⟩ : b' = b ∧ off' = off := by
    rw [hao] at e'
    simp only [Option.some.injEq, Addr.mk.injEq, and_true] at e'
    exact ⟨e'.1.symm, e'.2.symm⟩
  obtain ⟨f1, f2⟩ := flat_at he
  have h1 := hc _ _ f1
  have h2 : w.cell? ⟨b', off' + k * 2 + 1, none⟩ = _ := hc _ _ f2
  refine does_load (v := .agg #[.bool e.ng, .slice e.a e.m e.c]) ?_ ⟨Below.refl _ _, rfl⟩
  rw [hp]
  go_simp
end
end Lm
end Go.Proofs.Ytpofkigboedliaa

namespace Go.Proofs.Ytpofkigboedliaa
namespace Lm
open Go Go.RowKit
def lenW : List WE → Nat
  | [] => 0
  | e :: es => 1 + e.m + lenW es
theorem lenW_append (es fs : List WE) : lenW (es ++ fs) = lenW es + lenW fs := by
  induction es with
  | nil => simp [lenW]
  | cons e es ih => simp only [List.cons_append, lenW, ih]; omega
theorem lenW_take {es : List WE} {k : Nat} {e : WE} (h : es[k]? = some e) : lenW (es.take (k + 1)) = lenW (es.take k) + (1 + e.m) := by
  rw [List.take_add_one, h, lenW_append]
  simp [lenW]
theorem lenW_take_le (es : List WE) (k : Nat) : lenW (es.take k) ≤ lenW es := by
  have := lenW_append (es.take k) (es.drop k)
  rw [List.take_append_drop] at this
  omega
theorem lenW_mem {es : List WE} {e : WE} (h : e ∈ es) : 1 + e.m ≤ lenW es := by
  induction es with
  | nil => cases h
  | cons x es ih =>
    simp only [lenW]
    rcases List.mem_cons.1 h with rfl | h
    · omega
    · have := ih h; omega
theorem lenW_length (es : List WE) : es.length ≤ lenW es := by
  induction es with
  | nil => simp
  | cons x es ih => simp only [lenW, List.length_cons]; omega
section
variable {dst : Option Tmp} {ty : TypeId} {pos : String} {after : Array Edge} {guard : Option (Nat × Bool)} {a : Act} {w : World} {ats : Array TypeId} {i j : Nat}
theorem op_inck {k : Nat} (h1 : a.eval (.tmp i) = .int .i64 (k : Int)) (h : k < 9223372036854775807) :
    Does Try.prog { dst, op := .binOp .add 3 (.tmp i) (.const (.int .i64 1)) 3, type := ty, pos, after, guard } a.eval w fun v' w' => Below w.heap.size w w' ∧ Eqs (.int .i64 ((k + 1 : Nat) : Int)) v' w' := by
  have := op_addk (dst := dst) (ty := ty) (pos := pos) (after := after) (guard := guard) (w := w) (v := 1) h1 (by omega)
  rwa [show ((k : Int) + 1) = ((k + 1 : Nat) : Int) by omega] at this
theorem has_lenw0 : Has Try.prog 35 := by unfold Has; kernel_rfl
theorem op_lenw0 {ng : Bool} {ao : Option Addr} {n c : Nat} (h : a.eval (.tmp i) = .agg #[.bool ng, .slice ao n c]) (hn : n ≤ 35184372088832) :
    Does Try.prog { dst, op := .call { callee := .value (.func 35), args := #[.tmp i], argTypes := ats }, type := ty, pos, after, guard } a.eval w fun v w' => Below w.heap.size w w' ∧ Eqs (.int .i64 (1 + (n : Int))) v w' := by
  refine does_call has_lenw0 _ (by simp only [List.map_toArray, List.map_cons, List.map_nil, h]) ((wlen_any w ng ao n c hn).mono ?_)
  rintro e w' ⟨rfl, hb⟩
  exact ⟨_, rfl, hb, rfl⟩
theorem op_lssr {u v : Int} (h1 : a.eval (.tmp i) = .int .i64 u) (h2 : a.eval (.tmp j) = .int .i64 v) :
    Does Try.prog { dst, op := .binOp .lss 3 (.tmp i) (.tmp j) 3, type := ty, pos, after, guard } a.eval w fun v' w' => Below w.heap.size w w' ∧ Eqs (.bool (decide (u < v))) v' w' := by
  refine does_bin (v := .bool (decide (u < v))) ?_ ?_ ⟨Below.refl _ _, rfl⟩
  · rw [h1, h2]; simp [go_sem]
  · rw [h1, h2]; simp [go_sem]
theorem op_neqf {u v : Int} (h1 : a.eval (.tmp i) = .int .i64 u) (h2 : a.eval (.tmp j) = .int .i64 v) (h : u = v) :
    Does Try.prog { dst, op := .binOp .neq 3 (.tmp i) (.tmp j) 3, type := ty, pos, after, guard } a.eval w fun v' w' => Below w.heap.size w w' ∧ Eqs (.bool false) v' w' := by
  subst h
  exact op_neqsame h1 h2
end
set_option maxRecDepth 20000 in
set_option maxHeartbeats 1000000 in
theorem lenrow_z (w : World) (ax : Option Addr) (mx cx : Nat) (xs : List WE) (Rx0 : Rw w (.slice ax mx cx) xs) (hl : lenW xs ≤ 35184372088832) :
    Calls Try.prog 6 #[.slice ax mx cx] w fun e w' => e = .returned (.int .i64 (lenW xs : Int)) ∧ Below w.heap.size w w' := by
  go_enter Try.func6, Try.ntmps6
  generalize hA : (Act.mk _ _) = aa
  have hn : aa.tmps.size = 19 := by rw [← hA]; rfl
  have hd : aa.defers = [] := by rw [← hA]
  have f0 : aa.eval (.tmp 0) = .slice ax mx cx := by rw [← hA]; rfl
  clear hA
  have HB : Below w.heap.size w w := Below.refl _ _
  have px := Rx0.parts
  refine wp_seq ?_
  refine region4 [some 2] [Eqs ((.int .i64 0))] [] [] (by kernel_rfl) hn rfl (by kernel_rfl) (by kernel_rfl) (by kernel_rfl) (by kernel_rfl) (by kernel_rfl) (by kernel_rfl) ⟨Eqs.mono4 _, trivial⟩ ok_nil (IsOld.all (bx := []) trivial) (DisOld.all (bx := []) trivial) ?_ ?_
  · exact ⟨.norm 2 rfl rfl rfl (fun a_ w_ hn_ hBt hr hR hD hO hS => op_assign rfl),
      trivial⟩
  intro a1 w1 gs1 hn1 hd1 hBt hr hR hP hX hU
  replace hn := hn1; replace hd := hd1.trans hd
  replace f0 := (hR 0 rfl).trans f0
  have e2 : a1.eval (.tmp 2) = (.int .i64 0) := hP 0 (by decide)
  have f2 := e2
  replace HB := HB.trans (hBt.below HB.size (UpOld.all (bx := []) trivial))
  clear hBt hr hR hP hX hU
  refine wp_seq ?_
  refine region4 [some 3] [Eqs ((.int .i64 0))] [] [] (by kernel_rfl) hn rfl (by kernel_rfl) (by kernel_rfl) (by kernel_rfl) (by kernel_rfl) (by kernel_rfl) (by kernel_rfl) ⟨Eqs.mono4 _, trivial⟩ ok_nil (IsOld.all (bx := []) trivial) (DisOld.all (bx := []) trivial) ?_ ?_
  · exact ⟨.norm 3 rfl rfl rfl (fun a_ w_ hn_ hBt hr hR hD hO hS => op_assign rfl),
      trivial⟩
  intro a2 w2 gs2 hn2 hd2 hBt hr hR hP hX hU
  replace hn := hn2; replace hd := hd2.trans hd
  replace f0 := (hR 0 rfl).trans f0
  replace f2 := (hR 2 rfl).trans f2
  have e3 : a2.eval (.tmp 3) = (.int .i64 0) := hP 0 (by decide)
  have f3 := e3
  replace HB := HB.trans (hBt.below HB.size (UpOld.all (bx := []) trivial))
  clear hBt hr hR hP hX hU
  refine wp_seq ?_
  refine wp_seq ?_
  refine region4 [some 4] [Eqs ((.int .i64 0))] [] [] (by kernel_rfl) hn rfl (by kernel_rfl) (by kernel_rfl) (by kernel_rfl) (by kernel_rfl) (by kernel_rfl) (by kernel_rfl) ⟨Eqs.mono4 _, trivial⟩ ok_nil (IsOld.all (bx := []) trivial) (DisOld.all (bx := []) trivial) ?_ ?_
  · exact ⟨.norm 4 rfl rfl rfl (fun a_ w_ hn_ hBt hr hR hD hO hS => op_assign rfl),
      trivial⟩
  intro a3 w3 gs3 hn3 hd3 hBt hr hR hP hX hU
  replace hn := hn3; replace hd := hd3.trans hd
  replace f0 := (hR 0 rfl).trans f0
  replace f2 := (hR 2 rfl).trans f2
  replace f3 := (hR 3 rfl).trans f3
  have e4 : a3.eval (.tmp 4) = (.int .i64 0) := hP 0 (by decide)
  have f4 := e4
  replace HB := HB.trans (hBt.below HB.size (UpOld.all (bx := []) trivial))
  clear hBt hr hR hP hX hU
  refine wp_block ?_
  refine wp_loop_ghost (fun n a w' => a.tmps.size = 19 ∧ a.defers = [] ∧ a.eval (.tmp 0) = .slice ax mx cx ∧ Below w.heap.size w w' ∧ ∃ k : Nat, k + n = xs.length ∧ a.eval (.tmp 3) = .int .i64 (lenW (xs.take k) : Int) ∧ a.eval (.tmp 4) = .int .i64 (k : Int)) xs.length ⟨hn, hd, f0, HB, 0, by omega, f3, f4⟩ ?_
  clear hn hd HB f0 f2 f3 f4
  rintro nL aL wL ⟨hn, hd, f0, HB, kL, hk, f3, f4⟩
  have hlk := lenW_take_le xs kL
  refine wp_seq ?_
  refine wp_seq ?_
  refine region4 [some 5, some 6, some 7, some 8] [Eqs (.int .i64 (kL : Int)), Eqs (.slice ax mx cx), Eqs (.int .i64 (mx : Int)), Eqs (.bool (decide ((kL : Int) < (mx : Int))))] [] [] (by kernel_rfl) hn rfl (by kernel_rfl) (by kernel_rfl) (by kernel_rfl) (by kernel_rfl) (by kernel_rfl) (by kernel_rfl) ⟨Eqs.mono4 _, Eqs.mono4 _, Eqs.mono4 _, Eqs.mono4 _, trivial⟩ ok_nil (IsOld.all (bx := []) trivial) (DisOld.all (bx := []) trivial) ?_ ?_
  · exact ⟨.norm 5 rfl rfl rfl (fun a_ w_ hn_ hBt hr hR hD hO hS => op_mv ((hR 4 rfl).trans f4)),
      .norm 6 rfl rfl rfl (fun a_ w_ hn_ hBt hr hR hD hO hS => op_mv ((hR 0 rfl).trans f0)),
      .norm 7 rfl rfl rfl (fun a_ w_ hn_ hBt hr hR hD hO hS => op_lenr (show a_.eval (.tmp 6) = .slice ax mx cx from hD 1 rfl)),
      .norm 8 rfl rfl rfl (fun a_ w_ hn_ hBt hr hR hD hO hS => op_lssr (show a_.eval (.tmp 5) = .int .i64 (kL : Int) from hD 0 rfl) (show a_.eval (.tmp 7) = .int .i64 (mx : Int) from hD 2 rfl)),
      trivial⟩
  intro a4 w4 gs4 hn4 hd4 hBt hr hR hP hX hU
  replace hn := hn4; replace hd := hd4.trans hd
  replace f0 := (hR 0 rfl).trans f0
  replace f3 := (hR 3 rfl).trans f3
  replace f4 := (hR 4 rfl).trans f4
  have e8 : a4.eval (.tmp 8) = .bool (decide ((kL : Int) < (mx : Int))) := hP 3 (by decide)
  have f8 := e8
  replace HB := HB.trans (hBt.below HB.size (UpOld.all (bx := []) trivial))
  clear hBt hr hR hP hX hU
  refine wp_cond_split f8 (fun hc8 => ?_) (fun hc8 => ?_)
  · skip
    have hlt := of_decide_eq_true hc8
    obtain ⟨bx_, ox_, hax, _, _⟩ := Rx0.cells (by omega)
    obtain ⟨ex, hex⟩ : ∃ e, xs[kL]? = some e := ⟨_, List.getElem?_eq_getElem (by omega)⟩
    have Ax0 := Rx0.ag (List.mem_of_getElem? hex)
    have Ax := Ax0.below HB
    have lx := Ax.sl.parts.1
    have hem := lenW_take_le xs (kL + 1)
    rw [lenW_take hex] at hem
    refine wp_skip ?_
    refine wp_seq ?_
    refine wp_block ?_
    refine region4 [some 11, some 12, some 13, some 14, some 15, some 16, some 17, some 3] [Eqs (.int .i64 (lenW (xs.take kL) : Int)), Eqs (.slice ax mx cx), Eqs (.int .i64 (kL : Int)), Eqs (.pointer (some ⟨bx_, ox_ + kL * 2, none⟩)), Eqs (.agg #[.bool ex.ng, .slice ex.a ex.m ex.c]), Eqs (.int .i64 (1 + (ex.m : Int))), Eqs (.int .i64 ((lenW (xs.take kL) : Int) + (1 + (ex.m : Int)))), Eqs (.int .i64 ((lenW (xs.take kL) : Int) + (1 + (ex.m : Int))))] [] [(7, 0)] (by kernel_rfl) hn rfl (by kernel_rfl) (by kernel_rfl) (by kernel_rfl) (by kernel_rfl) (by kernel_rfl) (by kernel_rfl) ⟨Eqs.mono4 _, Eqs.mono4 _, Eqs.mono4 _, Eqs.mono4 _, Eqs.mono4 _, Eqs.mono4 _, Eqs.mono4 _, Eqs.mono4 _, trivial⟩ ok_nil (IsOld.all (bx := []) trivial) (DisOld.all (bx := []) trivial) ?_ ?_
    · exact ⟨.norm 11 rfl rfl rfl (fun a_ w_ hn_ hBt hr hR hD hO hS => op_mv ((hS 7 3 rfl rfl).trans f3)),
        .norm 12 rfl rfl rfl (fun a_ w_ hn_ hBt hr hR hD hO hS => op_mv ((hR 0 rfl).trans f0)),
        .norm 13 rfl rfl rfl (fun a_ w_ hn_ hBt hr hR hD hO hS => op_mv ((hR 4 rfl).trans f4)),
        .norm 14 rfl rfl rfl (fun a_ w_ hn_ hBt hr hR hD hO hS => op_idxr (show a_.eval (.tmp 12) = .slice ax mx cx from hD 1 rfl) hax (show a_.eval (.tmp 13) = .int .i64 (kL : Int) from hD 2 rfl) (by omega)),
        .norm 15 rfl rfl rfl (fun a_ w_ hn_ hBt hr hR hD hO hS => op_ldr (show a_.eval (.tmp 14) = .pointer (some ⟨bx_, ox_ + kL * 2, none⟩) from hD 3 rfl) hax (Rx0.below (HB.trans (hBt.below HB.size (UpOld.all (bx := []) trivial)))) hex),
        .norm 16 rfl rfl rfl (fun a_ w_ hn_ hBt hr hR hD hO hS => op_lenw0 (show a_.eval (.tmp 15) = .agg #[.bool ex.ng, .slice ex.a ex.m ex.c] from hD 4 rfl) (by omega)),
        .norm 17 rfl rfl rfl (fun a_ w_ hn_ hBt hr hR hD hO hS => op_plus (show a_.eval (.tmp 11) = .int .i64 (lenW (xs.take kL) : Int) from hD 0 rfl) (show a_.eval (.tmp 16) = .int .i64 (1 + (ex.m : Int)) from hD 5 rfl) (by omega)),
        .norm 3 rfl rfl rfl (fun a_ w_ hn_ hBt hr hR hD hO hS => op_assign (show a_.eval (.tmp 17) = .int .i64 ((lenW (xs.take kL) : Int) + (1 + (ex.m : Int))) from hD 6 rfl)),
        trivial⟩
    intro a5 w5 gs5 hn5 hd5 hBt hr hR hP hX hU
    replace hn := hn5; replace hd := hd5.trans hd
    replace f0 := (hR 0 rfl).trans f0
    replace f4 := (hR 4 rfl).trans f4
    have e3 : a5.eval (.tmp 3) = .int .i64 ((lenW (xs.take kL) : Int) + (1 + (ex.m : Int))) := hP 7 (by decide)
    have f3 := e3
    replace Ax := Ax.rl hr
    replace HB := HB.trans (hBt.below HB.size (UpOld.all (bx := []) trivial))
    clear hBt hr hR hP hX hU
    refine block_normal ?_
    refine region4 [some 9, some 10, some 4] [Eqs (.int .i64 (kL : Int)), Eqs (.int .i64 ((kL + 1 : Nat) : Int)), Eqs (.int .i64 ((kL + 1 : Nat) : Int))] [] [(2, 0)] (by kernel_rfl) hn rfl (by kernel_rfl) (by kernel_rfl) (by kernel_rfl) (by kernel_rfl) (by kernel_rfl) (by kernel_rfl) ⟨Eqs.mono4 _, Eqs.mono4 _, Eqs.mono4 _, trivial⟩ ok_nil (IsOld.all (bx := []) trivial) (DisOld.all (bx := []) trivial) ?_ ?_
    · exact ⟨.norm 9 rfl rfl rfl (fun a_ w_ hn_ hBt hr hR hD hO hS => op_mv ((hS 2 4 rfl rfl).trans f4)),
        .norm 10 rfl rfl rfl (fun a_ w_ hn_ hBt hr hR hD hO hS => op_inck (show a_.eval (.tmp 9) = .int .i64 (kL : Int) from hD 0 rfl) (by omega)),
        .norm 4 rfl rfl rfl (fun a_ w_ hn_ hBt hr hR hD hO hS => op_assign (show a_.eval (.tmp 10) = .int .i64 ((kL + 1 : Nat) : Int) from hD 1 rfl)),
        trivial⟩
    intro a6 w6 gs6 hn6 hd6 hBt hr hR hP hX hU
    replace hn := hn6; replace hd := hd6.trans hd
    replace f0 := (hR 0 rfl).trans f0
    replace f3 := (hR 3 rfl).trans f3
    have e4 : a6.eval (.tmp 4) = .int .i64 ((kL + 1 : Nat) : Int) := hP 2 (by decide)
    have f4 := e4
    replace Ax := Ax.rl hr
    replace HB := HB.trans (hBt.below HB.size (UpOld.all (bx := []) trivial))
    clear hBt hr hR hP hX hU
    exact ⟨nL - 1, by omega, hn, hd, f0, HB, kL + 1, by omega, f3.trans (by rw [lenW_take hex]; simp), f4⟩
  · skip
    have hlt := of_decide_eq_false hc8
    refine wp_exit ?_
    repeat (first | refine then_exit ?_ | refine scope_exit ?_ | refine block_pass (by decide) ?_)
    refine block_exit ?_
    refine wp_seq ?_
    refine region4 [some 18, some 2] [Eqs (.int .i64 (lenW (xs.take kL) : Int)), Eqs (.int .i64 (lenW (xs.take kL) : Int))] [] [] (by kernel_rfl) hn rfl (by kernel_rfl) (by kernel_rfl) (by kernel_rfl) (by kernel_rfl) (by kernel_rfl) (by kernel_rfl) ⟨Eqs.mono4 _, Eqs.mono4 _, trivial⟩ ok_nil (IsOld.all (bx := []) trivial) (DisOld.all (bx := []) trivial) ?_ ?_
    · exact ⟨.norm 18 rfl rfl rfl (fun a_ w_ hn_ hBt hr hR hD hO hS => op_mv ((hR 3 rfl).trans f3)),
        .norm 2 rfl rfl rfl (fun a_ w_ hn_ hBt hr hR hD hO hS => op_assign (show a_.eval (.tmp 18) = .int .i64 (lenW (xs.take kL) : Int) from hD 0 rfl)),
        trivial⟩
    intro a7 w7 gs7 hn7 hd7 hBt hr hR hP hX hU
    replace hn := hn7; replace hd := hd7.trans hd
    have e2 : a7.eval (.tmp 2) = .int .i64 (lenW (xs.take kL) : Int) := hP 1 (by decide)
    have f2 := e2
    replace HB := HB.trans (hBt.below HB.size (UpOld.all (bx := []) trivial))
    clear hBt hr hR hP hX hU
    refine wp_ret ?_
    repeat (first | refine then_ret ?_ | refine scope_ret ?_ | refine block_ret ?_)
    exact bodyPost_ret (v := .int .i64 (lenW (xs.take kL) : Int)) (res_t rfl f2) hd ⟨by rw [show kL = xs.length by omega, List.take_length], HB⟩
end Lm
end Go.Proofs.Ytpofkigboedliaa

namespace Go.Proofs.Ytpofkigboedliaa
namespace Lm
open Go Go.RowKit Go.ChangeShapes Go.WideShapes Go.ChangeAt Go.Deep
theorem sl_open {w : World} {x : Addr} {l c : Nat} {zs : List Int} (hl : l ≤ c) (hm : c ≤ maxLen) (hz : zs.length = c) (hcell : ∀ i, i < zs.length → w.cell? (x.add i) = some (.int .u32 (zs.getD i 0))) (hwz : ∀ n ∈ zs, (Lit.int .u32 n).wf = true) : Sl w (.slice (some x) l c) (zs.take l) := by
  have hll : (zs.take l).length = l := by rw [List.length_take]; omega
  refine ⟨some x, c, by rw [hll], by omega, hm, fun n hn => ?_, ?_⟩
  · have := bounds_u32 (hwz n (List.mem_of_mem_take hn))
    omega
  · by_cases h0 : l = 0
    · exact .inl (List.eq_nil_of_length_eq_zero (by omega))
    · obtain ⟨b, off, spot⟩ := x
      have h1 := hcell 0 (by omega)
      have hspot : spot = none := by simpa [Addr.add] using World.cell?_spot h1
      subst hspot
      refine .inr ⟨b, off, rfl, fun i hi => ?_⟩
      have h2 := hcell i (by omega)
      rw [getD_take _ _ _ (by omega)]
      have e : (⟨b, off, none⟩ : Addr).add i = ⟨b, off + i, none⟩ := by
        by_cases hi0 : i = 0
        · subst hi0; simp [Addr.add]
        · simp [Addr.add, hi0]
      rwa [e] at h2
instance : Inhabited WE := ⟨⟨false, none, 0, 0, []⟩⟩
theorem bulk_lits {H : Type} (zs : List Int) : Rows.uptoBulkAll (lits .u32 zs : List (DataW H)) = zs.length := by
  induction zs with
  | nil => rfl
  | cons z zs ih =>
    have e : (lits .u32 (z :: zs) : List (DataW H)) = .lit (.int .u32 z) :: lits .u32 zs := rfl
    rw [e, Rows.uptoBulkAll, ih, Rows.uptoBulk, List.length_cons]
    · omega
    · intro b hb; cases hb
theorem bulk_append {H : Type} (l r : List (DataW H)) : Rows.uptoBulkAll (l ++ r) = Rows.uptoBulkAll l + Rows.uptoBulkAll r := by
  induction l with
  | nil => simp [Rows.uptoBulkAll]
  | cons x l ih => simp only [List.cons_append, Rows.uptoBulkAll, ih]; omega
theorem flat_map (E : Nat → WE) (n : Nat) : ∀ j u, (flat ((List.range n).map E))[j]? = some u → j / 2 < n ∧ u = (if j % 2 = 0 then .bool (E (j / 2)).ng else .slice (E (j / 2)).a (E (j / 2)).m (E (j / 2)).c) := by
  intro j u hu
  have hj : j < (flat ((List.range n).map E)).length := (List.getElem?_eq_some_iff.1 hu).1
  rw [flat_length, List.length_map, List.length_range] at hj
  have hk : j / 2 < n := by omega
  have he : ((List.range n).map E)[j / 2]? = some (E (j / 2)) := by simp [hk]
  obtain ⟨h1, h2⟩ := flat_at he
  refine ⟨hk, ?_⟩
  by_cases h0 : j % 2 = 0
  · rw [if_pos h0]
    rw [show j / 2 * 2 = j by omega, hu] at h1
    exact Option.some.inj h1
  · rw [if_neg h0]
    rw [show j / 2 * 2 + 1 = j by omega, hu] at h2
    exact Option.some.inj h2
theorem open_row {H : Type} {enc : TypeId × Value → H} {w : World} {fuel : Nat} {ao : Option Addr} {n cap : Nat} {x : DataW H × List MemPlace} (h : DataW.trod enc Try.prog w 0 (fun _ => true) true fuel 22 [.slice ao n cap] = some x) :
    ∃ es, Rw w (.slice ao n cap) es ∧ lenW es + 1 ≤ Rows.uptoBulk x.1 := by
  rcases open_slice_pairs Try.underlying22 Try.underlying28 (by kernel_rfl) (by kernel_rfl) (by kernel_rfl) (by kernel_rfl) (by kernel_rfl) h with ⟨hcs, rfl⟩ | ⟨a, len, cap', m, k, V0, V1, D0, D1, P0, P1, hcs, _, hl, hm, hmm, rfl, hall⟩
  · obtain ⟨rfl, rfl, rfl⟩ : ao = none ∧ n = 0 ∧ cap = 0 := by simpa using hcs
    exact ⟨[], ⟨⟨none, 0, rfl, Nat.le_refl _, by omega, rfl, .inl rfl⟩, fun e he => by cases he⟩, by simp [lenW, Rows.uptoBulk]⟩
  obtain ⟨rfl, rfl, rfl⟩ : ao = some a ∧ n = len ∧ cap = cap' := by simpa using hcs
  simp only [if_true] at hmm
  subst hmm
  have each : ∀ i, i < m → ∃ e : WE, V0 i = .bool e.ng ∧ V1 i = .slice e.a e.m e.c ∧ Sl w (.slice e.a e.m e.c) e.zs ∧ e.m + 1 ≤ Rows.uptoBulk (DataW.agg (H := H) [D0 i, D1 i]) := by
    intro i hi
    obtain ⟨_, _, t0, t1⟩ := hall i hi
    obtain ⟨b, hb0, _⟩ := DataW.trod_bool Try.underlying4 t0
    obtain hb : V0 i = .bool b := by simpa using hb0
    rcases open_ints Try.underlying26 Try.underlying67 (by kernel_rfl) t1 with ⟨hcs, _⟩ | ⟨x, l, c, zs, hcs, _, hl, hm, hz, hx, hcell, hwz⟩
    · obtain hv : V1 i = .slice none 0 0 := by simpa using hcs
      exact ⟨⟨b, none, 0, 0, []⟩, hb, hv, ⟨none, 0, rfl, Nat.le_refl _, by simp [maxLen], limb_nil, .inl rfl⟩, by simp [Rows.uptoBulk]⟩
    · obtain hv : V1 i = .slice (some x) l c := by simpa using hcs
      have hz' : zs.length = c := by simpa using hz
      refine ⟨⟨b, some x, l, c, zs.take l⟩, hb, hv, sl_open hl hm hz' hcell hwz, ?_⟩
      have hd : D1 i = .slice (lits .u32 (zs.take l)) (lits .u32 (zs.drop l)) := congrArg Prod.fst hx
      have hll : (zs.take l).length = l := by rw [List.length_take]; omega
      simp only [Rows.uptoBulk, Rows.uptoBulkAll, hd, bulk_lits, hll]
      omega
  obtain ⟨E, hE⟩ := choose_lt each
  refine ⟨(List.range n).map E, ⟨⟨some a, m, by rw [List.length_map, List.length_range], by rw [List.length_map, List.length_range]; exact hl, by simpa [maxLen] using hm, flat_length _, ?_⟩, fun e he => ?_⟩, ?_⟩
  · by_cases h0 : n = 0
    · exact .inl (by rw [List.length_map, List.length_range]; exact h0)
    · obtain ⟨b, off, spot⟩ := a
      have h1 := (hall 0 (by omega)).1
      have hspot : spot = none := by simpa [Addr.add] using World.cell?_spot h1
      subst hspot
      have hadd : ∀ i, (⟨b, off, none⟩ : Addr).add i = ⟨b, off + i, none⟩ := fun i => by
        by_cases hi0 : i = 0
        · subst hi0; simp [Addr.add]
        · simp [Addr.add, hi0]
      refine .inr ⟨b, off, rfl, lt_of_cell (off := off + 0 * 2) (by rw [← hadd]; exact h1), fun j u hu => ?_⟩
      obtain ⟨hj, rfl⟩ := flat_map E n j u hu
      obtain ⟨c0, c1, _, _⟩ := hall (j / 2) (by omega)
      obtain ⟨e0, e1, _⟩ := hE (j / 2) (by omega)
      rw [hadd] at c0 c1
      by_cases hj0 : j % 2 = 0
      · rw [if_pos hj0, ← e0, ← c0]
        congr 2
        omega
      · rw [if_neg hj0, ← e1, ← c1]
        congr 2
        omega
  · obtain ⟨i, hi, rfl⟩ := List.mem_map.1 he
    exact (hE i (by have := List.mem_range.1 hi; omega)).2.2.1
  · have key : ∀ k, k ≤ n → lenW ((List.range k).map E) ≤ Rows.uptoBulkAll ((List.range k).map fun i => DataW.agg (H := H) [D0 i, D1 i]) := by
      intro k hk
      induction k with
      | zero => simp [lenW]
      | succ k ih =>
        have h1 := ih (by omega)
        have h2 := (hE k (by omega)).2.2.2
        rw [List.range_succ, List.map_append, List.map_append, lenW_append, bulk_append]
        simp only [List.map_cons, List.map_nil, lenW, Rows.uptoBulkAll] at h1 h2 ⊢
        omega
    have := key n (Nat.le_refl _)
    simp only [Rows.uptoBulk]
    omega
end Lm
end Go.Proofs.Ytpofkigboedliaa

namespace Go.Proofs.Ytpofkigboedliaa
namespace Lm
open Go Go.RowKit
section
variable {dst : Option Tmp} {ty : TypeId} {pos : String} {after : Array Edge} {guard : Option (Nat × Bool)} {a : Act} {w : World} {ats : Array TypeId} {i j : Nat}
theorem has_samel0 : Has Try.prog 38 := by unfold Has; kernel_rfl
theorem op_samelraw {ax ay : Option Addr} {mx cx my cy : Nat} {zs : List Int} (h1 : a.eval (.tmp i) = .slice ax mx cx) (h2 : a.eval (.tmp j) = .slice ay my cy) (S1 : Sl w (.slice ax mx cx) zs) (S2 : Sl w (.slice ay my cy) zs) :
    Does Try.prog { dst, op := .call { callee := .value (.func 38), args := #[.tmp i, .tmp j], argTypes := ats }, type := ty, pos, after, guard } a.eval w fun v w' => Below w.heap.size w w' ∧ Eqs (.bool true) v w' := by
  refine does_call has_samel0 _ (by simp only [List.map_toArray, List.map_cons, List.map_nil, h1, h2]) ((same_any w _ _ _ _ _ _ zs zs S1 S2).mono ?_)
  rintro e w' ⟨rfl, hb⟩
  exact ⟨_, rfl, hb, by rw [sameB_self]; rfl⟩
end
set_option maxRecDepth 20000 in
set_option maxHeartbeats 1000000 in
theorem sameraw_z (w : World) (nx : Bool) (ax ay : Option Addr) (mx cx my cy : Nat) (zs : List Int) (Tx : Sl w (.slice ax mx cx) zs) (Ty : Sl w (.slice ay my cy) zs) :
    Calls Try.prog 9 #[.agg #[.bool nx, .slice ax mx cx], .agg #[.bool nx, .slice ay my cy]] w fun e w' => e = .returned (.bool true) ∧ Below w.heap.size w w' := by
  go_enter Try.func9, Try.ntmps9
  generalize hA : (Act.mk _ _) = aa
  have hn : aa.tmps.size = 17 := by rw [← hA]; rfl
  have hd : aa.defers = [] := by rw [← hA]
  have f0 : aa.eval (.tmp 0) = .agg #[.bool nx, .slice ax mx cx] := by rw [← hA]; rfl
  have f1 : aa.eval (.tmp 1) = .agg #[.bool nx, .slice ay my cy] := by rw [← hA]; rfl
  clear hA
  have HB : Below w.heap.size w w := Below.refl _ _
  refine wp_seq ?_
  refine region4 [some 2, some 3, some 4] [(fun _ _ => True), (fun _ _ => True), Eqs ((.bool false))] [⟨W2, some 0, 0, 2, .agg #[.bool nx, .slice ax mx cx], none, []⟩, ⟨W2, some 1, 0, 3, .agg #[.bool nx, .slice ay my cy], none, []⟩] [] (by kernel_rfl) hn rfl (by kernel_rfl) (by kernel_rfl) (by kernel_rfl) (by kernel_rfl) (by kernel_rfl) (by kernel_rfl) ⟨True.mono4, True.mono4, Eqs.mono4 _, trivial⟩ (ok_cons W2ok (ok_cons W2ok ok_nil)) (IsOld.all (bx := [⟨W2, some 0, 0, 2, .agg #[.bool nx, .slice ax mx cx], none, []⟩, ⟨W2, some 1, 0, 3, .agg #[.bool nx, .slice ay my cy], none, []⟩]) ⟨someNe, someNe, trivial⟩) (DisOld.all (bx := [⟨W2, some 0, 0, 2, .agg #[.bool nx, .slice ax mx cx], none, []⟩, ⟨W2, some 1, 0, 3, .agg #[.bool nx, .slice ay my cy], none, []⟩]) ⟨someNe, someNe, trivial⟩) ?_ ?_
  · exact ⟨.alloc 0 _ rfl rfl (.inr ⟨_, rfl, w2_cs, fun a_ hR => (hR 0 rfl).trans f0⟩) rfl rfl rfl rfl rfl,
      .alloc 1 _ rfl rfl (.inr ⟨_, rfl, w2_cs, fun a_ hR => (hR 1 rfl).trans f1⟩) rfl rfl rfl rfl rfl,
      .norm 4 rfl rfl rfl (fun a_ w_ hn_ hBt hr hR hD hO hS => op_assign rfl),
      trivial⟩
  intro a1 w1 gs1 hn1 hd1 hBt hr hR hP hX hU
  replace hn := hn1; replace hd := hd1.trans hd
  have b2 : BoxV W2 w1 (gs1 0) (.agg #[.bool nx, .slice ax mx cx]) := (hX 0 _ rfl).2.2.2
  have f2 := (hX 0 _ rfl).1
  have u2 : w.heap.size ≤ gs1 0 := Nat.le_trans HB.size ((hX 0 _ rfl).2.2.1 (by simp))
  have b3 : BoxV W2 w1 (gs1 1) (.agg #[.bool nx, .slice ay my cy]) := (hX 1 _ rfl).2.2.2
  have f3 := (hX 1 _ rfl).1
  have u3 : w.heap.size ≤ gs1 1 := Nat.le_trans HB.size ((hX 1 _ rfl).2.2.1 (by simp))
  have e4 : a1.eval (.tmp 4) = (.bool false) := hP 2 (by decide)
  have f4 := e4
  replace Tx := Tx.rl hr
  replace Ty := Ty.rl hr
  replace HB := HB.trans (hBt.below HB.size (UpOld.all (bx := [⟨W2, some 0, 0, 2, .agg #[.bool nx, .slice ax mx cx], none, []⟩, ⟨W2, some 1, 0, 3, .agg #[.bool nx, .slice ay my cy], none, []⟩]) ⟨someNe, someNe, trivial⟩))
  clear hBt hr hR hP hX hU
  refine wp_seq ?_
  refine region4 [some 5, some 6, some 7, some 8, some 9, some 10, some 11, some 12, some 13, some 14, some 15, some 16, some 4] [Eqs (.pointer (some ⟨gs1 0, 0, none⟩)), Eqs (.bool nx), Eqs (.pointer (some ⟨gs1 1, 0, none⟩)), Eqs (.bool nx), Eqs (.bool true), Eqs (.bool true), Eqs (.pointer (some ⟨gs1 0, 1, none⟩)), Eqs (.slice ax mx cx), Eqs (.pointer (some ⟨gs1 1, 1, none⟩)), Eqs (.slice ay my cy), Eqs (.bool true), Eqs (.bool true), Eqs (.bool true)] [] [] (by kernel_rfl) hn rfl (by kernel_rfl) (by kernel_rfl) (by kernel_rfl) (by kernel_rfl) (by kernel_rfl) (by kernel_rfl) ⟨Eqs.mono4 _, Eqs.mono4 _, Eqs.mono4 _, Eqs.mono4 _, Eqs.mono4 _, Eqs.mono4 _, Eqs.mono4 _, Eqs.mono4 _, Eqs.mono4 _, Eqs.mono4 _, Eqs.mono4 _, Eqs.mono4 _, Eqs.mono4 _, trivial⟩ ok_nil (IsOld.all (bx := []) trivial) (DisOld.all (bx := []) trivial) ?_ ?_
  · exact ⟨.norm 5 rfl rfl rfl (fun a_ w_ hn_ hBt hr hR hD hO hS => op_fa fa_neg ((hR 2 rfl).trans f2)),
      .norm 6 rfl rfl rfl (fun a_ w_ hn_ hBt hr hR hD hO hS => op_ldneg (show a_.eval (.tmp 5) = .pointer (some ⟨gs1 0, 0, none⟩) from hD 0 rfl) (b2.keep hBt trivial)),
      .norm 7 rfl rfl rfl (fun a_ w_ hn_ hBt hr hR hD hO hS => op_fa fa_neg ((hR 3 rfl).trans f3)),
      .norm 8 rfl rfl rfl (fun a_ w_ hn_ hBt hr hR hD hO hS => op_ldneg (show a_.eval (.tmp 7) = .pointer (some ⟨gs1 1, 0, none⟩) from hD 2 rfl) (b3.keep hBt trivial)),
      .norm 9 rfl rfl rfl (fun a_ w_ hn_ hBt hr hR hD hO hS => op_eqlbs (show a_.eval (.tmp 6) = .bool nx from hD 1 rfl) (show a_.eval (.tmp 8) = .bool nx from hD 3 rfl)),
      .norm 10 rfl rfl rfl (fun a_ w_ hn_ hBt hr hR hD hO hS => op_mv (show a_.eval (.tmp 9) = .bool true from hD 4 rfl)),
      .norm 11 rfl rfl rfl (fun a_ w_ hn_ hBt hr hR hD hO hS => ⟨⟨_, rfl⟩, fun _ => op_fa fa_mag ((hR 2 rfl).trans f2), fun hne => absurd (hD 5 rfl) hne⟩),
      .norm 12 rfl rfl rfl (fun a_ w_ hn_ hBt hr hR hD hO hS => ⟨⟨_, rfl⟩, fun _ => op_ldmag (show a_.eval (.tmp 11) = .pointer (some ⟨gs1 0, 1, none⟩) from hD 6 rfl) (b2.keep hBt trivial), fun hne => absurd (hD 5 rfl) hne⟩),
      .norm 13 rfl rfl rfl (fun a_ w_ hn_ hBt hr hR hD hO hS => ⟨⟨_, rfl⟩, fun _ => op_fa fa_mag ((hR 3 rfl).trans f3), fun hne => absurd (hD 5 rfl) hne⟩),
      .norm 14 rfl rfl rfl (fun a_ w_ hn_ hBt hr hR hD hO hS => ⟨⟨_, rfl⟩, fun _ => op_ldmag (show a_.eval (.tmp 13) = .pointer (some ⟨gs1 1, 1, none⟩) from hD 8 rfl) (b3.keep hBt trivial), fun hne => absurd (hD 5 rfl) hne⟩),
      .norm 15 rfl rfl rfl (fun a_ w_ hn_ hBt hr hR hD hO hS => ⟨⟨_, rfl⟩, fun _ => op_samelraw (show a_.eval (.tmp 12) = .slice ax mx cx from hD 7 rfl) (show a_.eval (.tmp 14) = .slice ay my cy from hD 9 rfl) (Tx.rl hr) (Ty.rl hr), fun hne => absurd (hD 5 rfl) hne⟩),
      .norm 16 rfl rfl rfl (fun a_ w_ hn_ hBt hr hR hD hO hS => op_pickb (show a_.eval (.tmp 10) = .bool true from hD 5 rfl) (show a_.eval (.tmp 15) = .bool true from hD 10 rfl)),
      .norm 4 rfl rfl rfl (fun a_ w_ hn_ hBt hr hR hD hO hS => op_assign (show a_.eval (.tmp 16) = .bool true from hD 11 rfl)),
      trivial⟩
  intro a2 w2 gs2 hn2 hd2 hBt hr hR hP hX hU
  replace hn := hn2; replace hd := hd2.trans hd
  have e4 : a2.eval (.tmp 4) = .bool true := hP 12 (by decide)
  have f4 := e4
  replace Tx := Tx.rl hr
  replace Ty := Ty.rl hr
  replace HB := HB.trans (hBt.below HB.size (UpOld.all (bx := []) trivial))
  clear hBt hr hR hP hX hU
  refine wp_ret ?_
  repeat (first | refine then_ret ?_ | refine scope_ret ?_ | refine block_ret ?_)
  exact bodyPost_ret (v := .bool true) (res_t rfl f4) hd ⟨rfl, HB⟩
section
variable {dst : Option Tmp} {ty : TypeId} {pos : String} {after : Array Edge} {guard : Option (Nat × Bool)} {a : Act} {w : World} {ats : Array TypeId} {i j : Nat}
theorem op_sameraw {nx ny : Bool} {ax ay : Option Addr} {mx cx my cy : Nat} {xs ys : List Int} (h1 : a.eval (.tmp i) = .agg #[.bool nx, .slice ax mx cx]) (h2 : a.eval (.tmp j) = .agg #[.bool ny, .slice ay my cy]) (S1 : Sl w (.slice ax mx cx) xs) (S2 : Sl w (.slice ay my cy) ys) (hn : nx = ny) (hz : xs = ys) :
    Does Try.prog { dst, op := .call { callee := .value (.func 9), args := #[.tmp i, .tmp j], argTypes := ats }, type := ty, pos, after, guard } a.eval w fun v w' => Below w.heap.size w w' ∧ Eqs (.bool true) v w' := by
  subst hn hz
  refine does_call has_same _ (by simp only [List.map_toArray, List.map_cons, List.map_nil, h1, h2]) ((sameraw_z w nx _ _ _ _ _ _ xs S1 S2).mono ?_)
  rintro e w' ⟨rfl, hb⟩
  exact ⟨_, rfl, hb, rfl⟩
end
def WE.raw (e : WE) : Bool × List Int := (e.ng, e.zs)
def SameR (es fs : List WE) : Prop := es.map WE.raw = fs.map WE.raw
theorem SameR.len {es fs : List WE} (h : SameR es fs) : es.length = fs.length := by simpa using congrArg List.length h
theorem SameR.at {es fs : List WE} (h : SameR es fs) {k : Nat} {e f : WE} (he : es[k]? = some e) (hf : fs[k]? = some f) : e.ng = f.ng ∧ e.zs = f.zs := by
  have h1 := congrArg (fun l => l[k]?) h
  simp only [List.getElem?_map, he, hf, Option.map_some, Option.some.injEq, WE.raw, Prod.mk.injEq] at h1
  exact h1
set_option maxRecDepth 20000 in
set_option maxHeartbeats 1000000 in
theorem samerow_z (w : World) (ax : Option Addr) (mx cx : Nat) (xs : List WE) (Rx0 : Rw w (.slice ax mx cx) xs) (ay : Option Addr) (my cy : Nat) (ys : List WE) (Ry0 : Rw w (.slice ay my cy) ys) (hS : SameR xs ys) :
    Calls Try.prog 11 #[.slice ax mx cx, .slice ay my cy] w fun e w' => e = .returned (.bool true) ∧ Below w.heap.size w w' := by
  go_enter Try.func11, Try.ntmps11
  generalize hA : (Act.mk _ _) = aa
  have hn : aa.tmps.size = 27 := by rw [← hA]; rfl
  have hd : aa.defers = [] := by rw [← hA]
  have f0 : aa.eval (.tmp 0) = .slice ax mx cx := by rw [← hA]; rfl
  have f1 : aa.eval (.tmp 1) = .slice ay my cy := by rw [← hA]; rfl
  clear hA
  have HB : Below w.heap.size w w := Below.refl _ _
  have px := Rx0.parts; have py := Ry0.parts; have hSl := hS.len
  refine wp_seq ?_
  refine region4 [some 4] [Eqs ((.bool false))] [] [] (by kernel_rfl) hn rfl (by kernel_rfl) (by kernel_rfl) (by kernel_rfl) (by kernel_rfl) (by kernel_rfl) (by kernel_rfl) ⟨Eqs.mono4 _, trivial⟩ ok_nil (IsOld.all (bx := []) trivial) (DisOld.all (bx := []) trivial) ?_ ?_
  · exact ⟨.norm 4 rfl rfl rfl (fun a_ w_ hn_ hBt hr hR hD hO hS => op_assign rfl),
      trivial⟩
  intro a1 w1 gs1 hn1 hd1 hBt hr hR hP hX hU
  replace hn := hn1; replace hd := hd1.trans hd
  replace f0 := (hR 0 rfl).trans f0
  replace f1 := (hR 1 rfl).trans f1
  have e4 : a1.eval (.tmp 4) = (.bool false) := hP 0 (by decide)
  have f4 := e4
  replace HB := HB.trans (hBt.below HB.size (UpOld.all (bx := []) trivial))
  clear hBt hr hR hP hX hU
  refine wp_seq ?_
  refine wp_seq ?_
  refine region4 [some 6, some 7, some 8, some 9, some 10] [Eqs (.slice ax mx cx), Eqs (.int .i64 (mx : Int)), Eqs (.slice ay my cy), Eqs (.int .i64 (my : Int)), Eqs (.bool false)] [] [] (by kernel_rfl) hn rfl (by kernel_rfl) (by kernel_rfl) (by kernel_rfl) (by kernel_rfl) (by kernel_rfl) (by kernel_rfl) ⟨Eqs.mono4 _, Eqs.mono4 _, Eqs.mono4 _, Eqs.mono4 _, Eqs.mono4 _, trivial⟩ ok_nil (IsOld.all (bx := []) trivial) (DisOld.all (bx := []) trivial) ?_ ?_
  · exact ⟨.norm 6 rfl rfl rfl (fun a_ w_ hn_ hBt hr hR hD hO hS => op_mv ((hR 0 rfl).trans f0)),
      .norm 7 rfl rfl rfl (fun a_ w_ hn_ hBt hr hR hD hO hS => op_lenr (show a_.eval (.tmp 6) = .slice ax mx cx from hD 0 rfl)),
      .norm 8 rfl rfl rfl (fun a_ w_ hn_ hBt hr hR hD hO hS => op_mv ((hR 1 rfl).trans f1)),
      .norm 9 rfl rfl rfl (fun a_ w_ hn_ hBt hr hR hD hO hS => op_lenr (show a_.eval (.tmp 8) = .slice ay my cy from hD 2 rfl)),
      .norm 10 rfl rfl rfl (fun a_ w_ hn_ hBt hr hR hD hO hS => op_neqf (show a_.eval (.tmp 7) = .int .i64 (mx : Int) from hD 1 rfl) (show a_.eval (.tmp 9) = .int .i64 (my : Int) from hD 3 rfl) (by omega)),
      trivial⟩
  intro a2 w2 gs2 hn2 hd2 hBt hr hR hP hX hU
  replace hn := hn2; replace hd := hd2.trans hd
  replace f0 := (hR 0 rfl).trans f0
  replace f1 := (hR 1 rfl).trans f1
  replace f4 := (hR 4 rfl).trans f4
  have e10 : a2.eval (.tmp 10) = .bool false := hP 4 (by decide)
  have f10 := e10
  replace HB := HB.trans (hBt.below HB.size (UpOld.all (bx := []) trivial))
  clear hBt hr hR hP hX hU
  refine wp_cond_false f10 ?_
  refine wp_skip ?_
  refine wp_seq ?_
  refine wp_seq ?_
  refine region4 [some 5] [Eqs ((.int .i64 0))] [] [] (by kernel_rfl) hn rfl (by kernel_rfl) (by kernel_rfl) (by kernel_rfl) (by kernel_rfl) (by kernel_rfl) (by kernel_rfl) ⟨Eqs.mono4 _, trivial⟩ ok_nil (IsOld.all (bx := []) trivial) (DisOld.all (bx := []) trivial) ?_ ?_
  · exact ⟨.norm 5 rfl rfl rfl (fun a_ w_ hn_ hBt hr hR hD hO hS => op_assign rfl),
      trivial⟩
  intro a3 w3 gs3 hn3 hd3 hBt hr hR hP hX hU
  replace hn := hn3; replace hd := hd3.trans hd
  replace f0 := (hR 0 rfl).trans f0
  replace f1 := (hR 1 rfl).trans f1
  replace f4 := (hR 4 rfl).trans f4
  have e5 : a3.eval (.tmp 5) = (.int .i64 0) := hP 0 (by decide)
  have f5 := e5
  replace HB := HB.trans (hBt.below HB.size (UpOld.all (bx := []) trivial))
  clear hBt hr hR hP hX hU
  refine wp_block ?_
  refine wp_loop_ghost (fun n a w' => a.tmps.size = 27 ∧ a.defers = [] ∧ a.eval (.tmp 0) = .slice ax mx cx ∧ a.eval (.tmp 1) = .slice ay my cy ∧ Below w.heap.size w w' ∧ ∃ k : Nat, k + n = xs.length ∧ a.eval (.tmp 5) = .int .i64 (k : Int)) xs.length ⟨hn, hd, f0, f1, HB, 0, by omega, f5⟩ ?_
  clear hn hd HB f0 f1 f4 f5
  rintro nL aL wL ⟨hn, hd, f0, f1, HB, kL, hk, f5⟩
  refine wp_seq ?_
  refine wp_seq ?_
  refine region4 [some 11, some 12, some 13, some 14] [Eqs (.int .i64 (kL : Int)), Eqs (.slice ax mx cx), Eqs (.int .i64 (mx : Int)), Eqs (.bool (decide ((kL : Int) < (mx : Int))))] [] [] (by kernel_rfl) hn rfl (by kernel_rfl) (by kernel_rfl) (by kernel_rfl) (by kernel_rfl) (by kernel_rfl) (by kernel_rfl) ⟨Eqs.mono4 _, Eqs.mono4 _, Eqs.mono4 _, Eqs.mono4 _, trivial⟩ ok_nil (IsOld.all (bx := []) trivial) (DisOld.all (bx := []) trivial) ?_ ?_
  · exact ⟨.norm 11 rfl rfl rfl (fun a_ w_ hn_ hBt hr hR hD hO hS => op_mv ((hR 5 rfl).trans f5)),
      .norm 12 rfl rfl rfl (fun a_ w_ hn_ hBt hr hR hD hO hS => op_mv ((hR 0 rfl).trans f0)),
      .norm 13 rfl rfl rfl (fun a_ w_ hn_ hBt hr hR hD hO hS => op_lenr (show a_.eval (.tmp 12) = .slice ax mx cx from hD 1 rfl)),
      .norm 14 rfl rfl rfl (fun a_ w_ hn_ hBt hr hR hD hO hS => op_lssr (show a_.eval (.tmp 11) = .int .i64 (kL : Int) from hD 0 rfl) (show a_.eval (.tmp 13) = .int .i64 (mx : Int) from hD 2 rfl)),
      trivial⟩
  intro a4 w4 gs4 hn4 hd4 hBt hr hR hP hX hU
  replace hn := hn4; replace hd := hd4.trans hd
  replace f0 := (hR 0 rfl).trans f0
  replace f1 := (hR 1 rfl).trans f1
  replace f5 := (hR 5 rfl).trans f5
  have e14 : a4.eval (.tmp 14) = .bool (decide ((kL : Int) < (mx : Int))) := hP 3 (by decide)
  have f14 := e14
  replace HB := HB.trans (hBt.below HB.size (UpOld.all (bx := []) trivial))
  clear hBt hr hR hP hX hU
  refine wp_cond_split f14 (fun hc14 => ?_) (fun hc14 => ?_)
  · skip
    have hlt := of_decide_eq_true hc14
    obtain ⟨bx_, ox_, hax, _, _⟩ := Rx0.cells (by omega)
    obtain ⟨ex, hex⟩ : ∃ e, xs[kL]? = some e := ⟨_, List.getElem?_eq_getElem (by omega)⟩
    have Ax0 := Rx0.ag (List.mem_of_getElem? hex)
    have Ax := Ax0.below HB
    have lx := Ax.sl.parts.1
    obtain ⟨by_, oy_, hay, _, _⟩ := Ry0.cells (by omega)
    obtain ⟨ey, hey⟩ : ∃ e, ys[kL]? = some e := ⟨_, List.getElem?_eq_getElem (by omega)⟩
    have Ay0 := Ry0.ag (List.mem_of_getElem? hey)
    have Ay := Ay0.below HB
    have ly := Ay.sl.parts.1
    have hsm := hS.at hex hey
    refine wp_skip ?_
    refine wp_seq ?_
    refine wp_block ?_
    refine wp_seq ?_
    refine region4 [some 17, some 18, some 19, some 20, some 21, some 22, some 23, some 24, some 25, some 26] [Eqs (.slice ax mx cx), Eqs (.int .i64 (kL : Int)), Eqs (.pointer (some ⟨bx_, ox_ + kL * 2, none⟩)), Eqs (.agg #[.bool ex.ng, .slice ex.a ex.m ex.c]), Eqs (.slice ay my cy), Eqs (.int .i64 (kL : Int)), Eqs (.pointer (some ⟨by_, oy_ + kL * 2, none⟩)), Eqs (.agg #[.bool ey.ng, .slice ey.a ey.m ey.c]), Eqs (.bool true), Eqs (.bool false)] [] [] (by kernel_rfl) hn rfl (by kernel_rfl) (by kernel_rfl) (by kernel_rfl) (by kernel_rfl) (by kernel_rfl) (by kernel_rfl) ⟨Eqs.mono4 _, Eqs.mono4 _, Eqs.mono4 _, Eqs.mono4 _, Eqs.mono4 _, Eqs.mono4 _, Eqs.mono4 _, Eqs.mono4 _, Eqs.mono4 _, Eqs.mono4 _, trivial⟩ ok_nil (IsOld.all (bx := []) trivial) (DisOld.all (bx := []) trivial) ?_ ?_
    · exact ⟨.norm 17 rfl rfl rfl (fun a_ w_ hn_ hBt hr hR hD hO hS => op_mv ((hR 0 rfl).trans f0)),
        .norm 18 rfl rfl rfl (fun a_ w_ hn_ hBt hr hR hD hO hS => op_mv ((hR 5 rfl).trans f5)),
        .norm 19 rfl rfl rfl (fun a_ w_ hn_ hBt hr hR hD hO hS => op_idxr (show a_.eval (.tmp 17) = .slice ax mx cx from hD 0 rfl) hax (show a_.eval (.tmp 18) = .int .i64 (kL : Int) from hD 1 rfl) (by omega)),
        .norm 20 rfl rfl rfl (fun a_ w_ hn_ hBt hr hR hD hO hS => op_ldr (show a_.eval (.tmp 19) = .pointer (some ⟨bx_, ox_ + kL * 2, none⟩) from hD 2 rfl) hax (Rx0.below (HB.trans (hBt.below HB.size (UpOld.all (bx := []) trivial)))) hex),
        .norm 21 rfl rfl rfl (fun a_ w_ hn_ hBt hr hR hD hO hS => op_mv ((hR 1 rfl).trans f1)),
        .norm 22 rfl rfl rfl (fun a_ w_ hn_ hBt hr hR hD hO hS => op_mv ((hR 5 rfl).trans f5)),
        .norm 23 rfl rfl rfl (fun a_ w_ hn_ hBt hr hR hD hO hS => op_idxr (show a_.eval (.tmp 21) = .slice ay my cy from hD 4 rfl) hay (show a_.eval (.tmp 22) = .int .i64 (kL : Int) from hD 5 rfl) (by omega)),
        .norm 24 rfl rfl rfl (fun a_ w_ hn_ hBt hr hR hD hO hS => op_ldr (show a_.eval (.tmp 23) = .pointer (some ⟨by_, oy_ + kL * 2, none⟩) from hD 6 rfl) hay (Ry0.below (HB.trans (hBt.below HB.size (UpOld.all (bx := []) trivial)))) hey),
        .norm 25 rfl rfl rfl (fun a_ w_ hn_ hBt hr hR hD hO hS => op_sameraw (show a_.eval (.tmp 20) = .agg #[.bool ex.ng, .slice ex.a ex.m ex.c] from hD 3 rfl) (show a_.eval (.tmp 24) = .agg #[.bool ey.ng, .slice ey.a ey.m ey.c] from hD 7 rfl) (Ax.rl hr).sl (Ay.rl hr).sl hsm.1 hsm.2),
        .norm 26 rfl rfl rfl (fun a_ w_ hn_ hBt hr hR hD hO hS => op_not (show a_.eval (.tmp 25) = .bool true from hD 8 rfl)),
        trivial⟩
    intro a5 w5 gs5 hn5 hd5 hBt hr hR hP hX hU
    replace hn := hn5; replace hd := hd5.trans hd
    replace f0 := (hR 0 rfl).trans f0
    replace f1 := (hR 1 rfl).trans f1
    replace f5 := (hR 5 rfl).trans f5
    have e26 : a5.eval (.tmp 26) = .bool false := hP 9 (by decide)
    have f26 := e26
    replace Ax := Ax.rl hr
    replace Ay := Ay.rl hr
    replace HB := HB.trans (hBt.below HB.size (UpOld.all (bx := []) trivial))
    clear hBt hr hR hP hX hU
    refine wp_cond_false f26 ?_
    refine wp_skip ?_
    refine block_normal ?_
    refine region4 [some 15, some 16, some 5] [Eqs (.int .i64 (kL : Int)), Eqs (.int .i64 ((kL + 1 : Nat) : Int)), Eqs (.int .i64 ((kL + 1 : Nat) : Int))] [] [(2, 0)] (by kernel_rfl) hn rfl (by kernel_rfl) (by kernel_rfl) (by kernel_rfl) (by kernel_rfl) (by kernel_rfl) (by kernel_rfl) ⟨Eqs.mono4 _, Eqs.mono4 _, Eqs.mono4 _, trivial⟩ ok_nil (IsOld.all (bx := []) trivial) (DisOld.all (bx := []) trivial) ?_ ?_
    · exact ⟨.norm 15 rfl rfl rfl (fun a_ w_ hn_ hBt hr hR hD hO hS => op_mv ((hS 2 5 rfl rfl).trans f5)),
        .norm 16 rfl rfl rfl (fun a_ w_ hn_ hBt hr hR hD hO hS => op_inck (show a_.eval (.tmp 15) = .int .i64 (kL : Int) from hD 0 rfl) (by omega)),
        .norm 5 rfl rfl rfl (fun a_ w_ hn_ hBt hr hR hD hO hS => op_assign (show a_.eval (.tmp 16) = .int .i64 ((kL + 1 : Nat) : Int) from hD 1 rfl)),
        trivial⟩
    intro a6 w6 gs6 hn6 hd6 hBt hr hR hP hX hU
    replace hn := hn6; replace hd := hd6.trans hd
    replace f0 := (hR 0 rfl).trans f0
    replace f1 := (hR 1 rfl).trans f1
    have e5 : a6.eval (.tmp 5) = .int .i64 ((kL + 1 : Nat) : Int) := hP 2 (by decide)
    have f5 := e5
    replace Ax := Ax.rl hr
    replace Ay := Ay.rl hr
    replace HB := HB.trans (hBt.below HB.size (UpOld.all (bx := []) trivial))
    clear hBt hr hR hP hX hU
    exact ⟨nL - 1, by omega, hn, hd, f0, f1, HB, kL + 1, by omega, f5⟩
  · skip
    have hlt := of_decide_eq_false hc14
    refine wp_exit ?_
    repeat (first | refine then_exit ?_ | refine scope_exit ?_ | refine block_pass (by decide) ?_)
    refine block_exit ?_
    refine wp_seq ?_
    refine region4 [some 4] [Eqs ((.bool true))] [] [] (by kernel_rfl) hn rfl (by kernel_rfl) (by kernel_rfl) (by kernel_rfl) (by kernel_rfl) (by kernel_rfl) (by kernel_rfl) ⟨Eqs.mono4 _, trivial⟩ ok_nil (IsOld.all (bx := []) trivial) (DisOld.all (bx := []) trivial) ?_ ?_
    · exact ⟨.norm 4 rfl rfl rfl (fun a_ w_ hn_ hBt hr hR hD hO hS => op_assign rfl),
        trivial⟩
    intro a7 w7 gs7 hn7 hd7 hBt hr hR hP hX hU
    replace hn := hn7; replace hd := hd7.trans hd
    have e4 : a7.eval (.tmp 4) = (.bool true) := hP 0 (by decide)
    have f4 := e4
    replace HB := HB.trans (hBt.below HB.size (UpOld.all (bx := []) trivial))
    clear hBt hr hR hP hX hU
    refine wp_ret ?_
    repeat (first | refine then_ret ?_ | refine scope_ret ?_ | refine block_ret ?_)
    exact bodyPost_ret (v := .bool true) (res_t rfl f4) hd ⟨rfl, HB⟩
end Lm
end Go.Proofs.Ytpofkigboedliaa

namespace Go.Proofs.Ytpofkigboedliaa
namespace Dm
open Go Go.RowKit
theorem Sl.rl {w w' : World} {v : Value} {zs : List Int} (h : Sl w v zs) (hr : Lm.Rl w w') : Sl w' v zs := by
  obtain ⟨ao, cap, rfl, h1, h2, h3, h4⟩ := h
  refine ⟨ao, cap, rfl, h1, h2, h3, ?_⟩
  rcases h4 with h4 | ⟨b, off, rfl, hc⟩
  · exact .inl h4
  · exact .inr ⟨b, off, rfl, fun i hi => hr.ints _ _ _ (hc i hi)⟩
theorem Wh.rl {w w' : World} {ng : Bool} {ao : Option Addr} {cap : Nat} {rs : List Int} {z : Int} (h : Wh w ng ao cap rs z) (hr : Lm.Rl w w') : Wh w' ng ao cap rs z := ⟨⟨h.1.1.rl hr, h.1.2⟩, h.2⟩
theorem pw_small (n : Nat) : pw n ≤ Lm.pw n := by
  induction n with
  | zero => simp [pw, Lm.pw]
  | succ n ih =>
    have := pw_pos n
    simp only [pw, Lm.pw]
    omega
theorem Wh.bound {w : World} {ng : Bool} {ao : Option Addr} {cap : Nat} {rs : List Int} {z : Int} {L : Nat} (h : Wh w ng ao cap rs z) (hl : rs.length ≤ L) : (z.natAbs : Int) < Lm.pw L := by
  have h1 := (val_bounds h.1.canon.1).2
  rw [h.1.val] at h1
  have h2 := pw_mono hl
  have h3 := pw_small L
  omega
end Dm
namespace Lm
open Go Go.RowKit
def N2 : BoxTy := ⟨63, .agg #[.bool false, .slice none 0 0], fun v cs => ∃ ng ao n c, v = .agg #[.bool ng, .slice ao n c] ∧ cs = #[.bool ng, .slice ao n c]⟩
theorem N2ok : BoxOk Try.prog N2 where
  noInt := by
    rintro v cs ⟨ng, ao, n, c, rfl, rfl⟩ i k z
    match i with
    | 0 => simp
    | 1 => simp
    | i + 2 => simp
  ne := by unfold N2; exact ⟨by decide, by decide⟩
  alloc := fun w => ⟨#[.bool false, .slice none 0 0], ⟨_, _, _, _, rfl, rfl⟩, by unfold N2; go_simp⟩
  box := by
    rintro w v ⟨cs, ng, ao, n, c, rfl, rfl⟩
    exact ⟨_, ⟨_, _, _, _, rfl, rfl⟩, by unfold N2; go_simp⟩
  store := by
    rintro w g v0 v ⟨cs0, ⟨m, bo, p, d, rfl, rfl⟩, hh⟩ ⟨cs, ng, ao, n, c, rfl, rfl⟩
    have hb : Dm.Box w g m (.slice bo p d) := hh
    obtain ⟨b1, b2, b3, b4⟩ := hb.facts
    refine ⟨(w.setCell ⟨g, 0, none⟩ (.bool ng)).setCell ⟨g, 1, none⟩ (.slice ao n c), ?_, ⟨_, ⟨_, _, _, _, rfl, rfl⟩, hb.set ng (.slice ao n c)⟩, ⟨rfl, rfl, rfl, by simp [World.setCell], fun k hk => ?_⟩⟩
    · unfold N2
      go_simp
    · rw [Below.heap_setCell _ _ _ _ (by simpa using hk), Below.heap_setCell _ _ _ _ (by simpa using hk)]
  load := by
    rintro w g v ⟨cs, ⟨ng, ao, n, c, rfl, rfl⟩, hh⟩
    obtain ⟨b1, b2, b3, b4⟩ := (show Dm.Box w g ng (.slice ao n c) from hh).facts
    unfold N2
    go_simp
def OutN (z : Int) (L : Nat) : Says := fun v w => ∃ ng ao cap rs, v = .agg #[.bool ng, .slice ao rs.length cap] ∧ Dm.Wh w ng ao cap rs z ∧ rs.length ≤ L
theorem OutN.mono4 (z : Int) (L : Nat) : Mono4 (OutN z L) := fun _ _ _ hb ⟨ng, ao, cap, rs, e, h, l⟩ => ⟨ng, ao, cap, rs, e, h.rl hb, l⟩
theorem OutN.to {z z' : Int} {L L' : Nat} {v : Value} {w : World} (h : OutN z L v w) (e : z = z') (hl : L ≤ L') : OutN z' L' v w := by
  subst e
  obtain ⟨ng, ao, cap, rs, e', h, l⟩ := h
  exact ⟨ng, ao, cap, rs, e', h, Nat.le_trans l hl⟩
theorem OutN.cs {z : Int} {L : Nat} (v : Value) (w : World) (h : OutN z L v w) : ∃ cs, N2.Cs v cs := by
  obtain ⟨ng, ao, cap, rs, rfl, _⟩ := h
  exact ⟨_, _, _, _, _, rfl, rfl⟩
theorem n2_cs {ng : Bool} {ao : Option Addr} {n c : Nat} : ∃ cs, N2.Cs (.agg #[.bool ng, .slice ao n c]) cs := ⟨_, _, _, _, _, rfl, rfl⟩
theorem outn_eq {v : Value} {w : World} {ng : Bool} {ao : Option Addr} {c : Nat} {rs : List Int} {z : Int} {L : Nat} (h : v = .agg #[.bool ng, .slice ao rs.length c]) (hA : Dm.Wh w ng ao c rs z) (hl : rs.length ≤ L) : OutN z L v w := ⟨_, _, _, _, h, hA, hl⟩
section
variable {dst : Option Tmp} {ty : TypeId} {pos : String} {after : Array Edge} {guard : Option (Nat × Bool)} {a : Act} {w : World} {ats : Array TypeId} {i j k g : Nat} {x y z p q : Int} {L L1 L2 : Nat}
theorem has_nof : Has Try.prog 40 := by unfold Has; kernel_rfl
theorem op_nof (h : IsW z L (a.eval (.tmp i)) w) (hL : L ≤ 100000) :
    Does Try.prog { dst, op := .call { callee := .value (.func 40), args := #[.tmp i], argTypes := ats }, type := ty, pos, after, guard } a.eval w fun v w' => Below w.heap.size w w' ∧ OutN z (3 * L) v w' := by
  obtain ⟨n1, a1, m1, c1, xs, e1, A1, l1⟩ := h
  refine does_call has_nof _ (by simp only [List.map_toArray, List.map_cons, List.map_nil, e1]) ((Dm.nof_z w _ _ _ _ xs z A1 (by omega)).mono ?_)
  rintro e w' ⟨ng, ao, cap, rs, rfl, G, l, hb⟩
  exact ⟨_, rfl, hb, _, _, _, _, rfl, G, by omega⟩
theorem has_nminus : Has Try.prog 72 := by unfold Has; kernel_rfl
theorem op_nminus (h : OutN z L (a.eval (.tmp i)) w) (hL : L ≤ 1000000) :
    Does Try.prog { dst, op := .call { callee := .value (.func 72), args := #[.tmp i], argTypes := ats }, type := ty, pos, after, guard } a.eval w fun v w' => Below w.heap.size w w' ∧ OutN (-z) L v w' := by
  obtain ⟨ng, ao, cap, rs, e1, W, l⟩ := h
  refine does_call has_nminus _ (by simp only [List.map_toArray, List.map_cons, List.map_nil, e1]) ((Dm.minus_g w _ _ _ _ _ W (by omega)).mono ?_)
  rintro e w' ⟨ng, ao, cap, rs, rfl, G, l, hb⟩
  exact ⟨_, rfl, hb, _, _, _, _, rfl, G, by omega⟩
theorem has_ntold : Has Try.prog 41 := by unfold Has; kernel_rfl
theorem op_ntold (h : OutN z L (a.eval (.tmp i)) w) (hL : L ≤ 1000000) :
    Does Try.prog { dst, op := .call { callee := .value (.func 41), args := #[.tmp i], argTypes := ats }, type := ty, pos, after, guard } a.eval w fun v w' => Below w.heap.size w w' ∧ OutW z L v w' := by
  obtain ⟨ng, ao, cap, rs, e1, W, l⟩ := h
  refine does_call has_ntold _ (by simp only [List.map_toArray, List.map_cons, List.map_nil, e1]) ((Dm.told_g w _ _ _ _ _ W L (W.bound l) hL (by omega)).mono ?_)
  rintro e w' ⟨bo, dap, ls, rfl, F, l2, hb⟩
  exact ⟨_, rfl, hb, _, _, _, _, rfl, F.wh, l2⟩
end
end Lm
end Go.Proofs.Ytpofkigboedliaa

namespace Go.Proofs.Ytpofkigboedliaa
namespace Lm
open Go Go.RowKit
section
variable {dst : Option Tmp} {ty : TypeId} {pos : String} {after : Array Edge} {guard : Option (Nat × Bool)} {a : Act} {w : World} {ats : Array TypeId} {i j : Nat} {x y u v : Int} {L1 L2 : Nat}
theorem has_nadd : Has Try.prog 39 := by unfold Has; kernel_rfl
theorem op_nadd (h1 : OutN x L1 (a.eval (.tmp i)) w) (h2 : OutN y L2 (a.eval (.tmp j)) w) (hL : L1 ≤ 400000) (hL' : L2 ≤ 400000) :
    Does Try.prog { dst, op := .call { callee := .value (.func 39), args := #[.tmp i, .tmp j], argTypes := ats }, type := ty, pos, after, guard } a.eval w fun v w' => Below w.heap.size w w' ∧ OutN (x + y) (L1 + L2 + 1) v w' := by
  obtain ⟨ng, ao, cap, rs, e1, W, l⟩ := h1
  obtain ⟨mg, bo, dap, ss, e2, W', l'⟩ := h2
  refine does_call has_nadd _ (by simp only [List.map_toArray, List.map_cons, List.map_nil, e1, e2]) ((Dm.nadd_g w ng ao cap rs _ W mg bo dap ss _ W' (by omega) (by omega)).mono ?_)
  rintro e w' ⟨ng, ao, cap, rs, rfl, G, l, hb⟩
  exact ⟨_, rfl, hb, _, _, _, _, rfl, G, by omega⟩
end
end Lm
end Go.Proofs.Ytpofkigboedliaa

namespace Go.Proofs.Ytpofkigboedliaa
namespace Lm
open Go Go.RowKit
def sumW : List WE → Int
  | [] => 0
  | e :: es => e.z + sumW es
theorem sumW_append (es fs : List WE) : sumW (es ++ fs) = sumW es + sumW fs := by
  induction es with
  | nil => simp [sumW]
  | cons e es ih => simp only [List.cons_append, sumW, ih]; omega
theorem sumW_take {es : List WE} {k : Nat} {e : WE} (h : es[k]? = some e) : sumW (es.take (k + 1)) = sumW (es.take k) + e.z := by
  rw [List.take_add_one, h, sumW_append]
  simp [sumW]
theorem op_bN0 {dst : Option Tmp} {ty : TypeId} {pos : String} {after : Array Edge} {guard : Option (Nat × Bool)} {a : Act} {w : World} : Does Try.prog { dst, op := .build 63 #[], type := ty, pos, after, guard } a.eval w fun v' w' => Below w.heap.size w w' ∧ Eqs (.agg #[.bool false, .slice none 0 0]) v' w' := by
  refine does_build (v := .agg #[.bool false, .slice none 0 0]) ?_ ⟨Below.refl _ _, rfl⟩
  simp only [List.map_toArray, List.map_nil]
  go_simp
theorem frw_nil {K : Nat} (w : World) (hK : K ≤ w.heap.size) : FrW K 0 0 (.agg #[.bool false, .slice none 0 0]) w := ⟨false, none, 0, [], w.heap.size, w.heap.size, rfl, (li_nil _ _ _).wfr (wh_nil _), hK, Nat.le_refl _, by simp⟩
set_option maxRecDepth 20000 in
set_option maxHeartbeats 1000000 in
theorem wsum_z (w : World) (ax : Option Addr) (mx cx : Nat) (xs : List WE) (Rx0 : Rw w (.slice ax mx cx) xs) (hl : lenW xs ≤ 100000) :
    Calls Try.prog 8 #[.slice ax mx cx] w fun e w' => ∃ v, e = .returned v ∧ FrW w.heap.size (sumW xs) (lenW xs) v w' ∧ Below w.heap.size w w' := by
  go_enter Try.func8, Try.ntmps8
  generalize hA : (Act.mk _ _) = aa
  have hn : aa.tmps.size = 17 := by rw [← hA]; rfl
  have hd : aa.defers = [] := by rw [← hA]
  have f0 : aa.eval (.tmp 0) = .slice ax mx cx := by rw [← hA]; rfl
  clear hA
  have HB : Below w.heap.size w w := Below.refl _ _
  have px := Rx0.parts
  refine wp_seq ?_
  refine region4 [some 2] [(fun _ _ => True)] [⟨W2, some 0, 0, 2, .agg #[.bool false, .slice none 0 0], none, []⟩] [] (by kernel_rfl) hn rfl (by kernel_rfl) (by kernel_rfl) (by kernel_rfl) (by kernel_rfl) (by kernel_rfl) (by kernel_rfl) ⟨True.mono4, trivial⟩ (ok_cons W2ok ok_nil) (IsOld.all (bx := [⟨W2, some 0, 0, 2, .agg #[.bool false, .slice none 0 0], none, []⟩]) ⟨someNe, trivial⟩) (DisOld.all (bx := [⟨W2, some 0, 0, 2, .agg #[.bool false, .slice none 0 0], none, []⟩]) ⟨someNe, trivial⟩) ?_ ?_
  · exact ⟨.alloc 0 _ rfl rfl (.inl ⟨rfl, rfl⟩) rfl rfl rfl rfl rfl,
      trivial⟩
  intro a1 w1 gs1 hn1 hd1 hBt hr hR hP hX hU
  replace hn := hn1; replace hd := hd1.trans hd
  have b2 : BoxV W2 w1 (gs1 0) (.agg #[.bool false, .slice none 0 0]) := (hX 0 _ rfl).2.2.2
  have f2 := (hX 0 _ rfl).1
  have u2 : w.heap.size ≤ gs1 0 := Nat.le_trans HB.size ((hX 0 _ rfl).2.2.1 (by simp))
  replace f0 := (hR 0 rfl).trans f0
  replace HB := HB.trans (hBt.below HB.size (UpOld.all (bx := [⟨W2, some 0, 0, 2, .agg #[.bool false, .slice none 0 0], none, []⟩]) ⟨someNe, trivial⟩))
  clear hBt hr hR hP hX hU
  refine wp_seq ?_
  refine region4 [some 3] [(fun _ _ => True)] [⟨W2, some 0, 0, 3, .agg #[.bool false, .slice none 0 0], none, []⟩] [] (by kernel_rfl) hn rfl (by kernel_rfl) (by kernel_rfl) (by kernel_rfl) (by kernel_rfl) (by kernel_rfl) (by kernel_rfl) ⟨True.mono4, trivial⟩ (ok_cons W2ok ok_nil) (IsOld.all (bx := [⟨W2, some 0, 0, 3, .agg #[.bool false, .slice none 0 0], none, []⟩]) ⟨someNe, trivial⟩) (DisOld.all (bx := [⟨W2, some 0, 0, 3, .agg #[.bool false, .slice none 0 0], none, []⟩]) ⟨someNe, trivial⟩) ?_ ?_
  · exact ⟨.alloc 0 _ rfl rfl (.inl ⟨rfl, rfl⟩) rfl rfl rfl rfl rfl,
      trivial⟩
  intro a2 w2 gs2 hn2 hd2 hBt hr hR hP hX hU
  replace hn := hn2; replace hd := hd2.trans hd
  have ne2_3 : (gs1 0) ≠ gs2 0 := by have h1 := b2.lt; have h2 := (hX 0 _ rfl).2.2.1 (by simp); omega
  replace b2 := b2.keep hBt ⟨someNe, trivial⟩
  have b3 : BoxV W2 w2 (gs2 0) (.agg #[.bool false, .slice none 0 0]) := (hX 0 _ rfl).2.2.2
  have f3 := (hX 0 _ rfl).1
  have u3 : w.heap.size ≤ gs2 0 := Nat.le_trans HB.size ((hX 0 _ rfl).2.2.1 (by simp))
  replace f0 := (hR 0 rfl).trans f0
  replace f2 := (hR 2 rfl).trans f2
  replace HB := HB.trans (hBt.below HB.size (UpOld.all (bx := [⟨W2, some 0, 0, 3, .agg #[.bool false, .slice none 0 0], none, []⟩]) ⟨someNe, trivial⟩))
  clear hBt hr hR hP hX hU
  refine wp_seq ?_
  refine wp_seq ?_
  refine region4 [some 6, some 7, some 8] [Eqs (.slice ax mx cx), Eqs (.int .i64 (mx : Int)), Eqs ((.int .i64 0))] [] [] (by kernel_rfl) hn rfl (by kernel_rfl) (by kernel_rfl) (by kernel_rfl) (by kernel_rfl) (by kernel_rfl) (by kernel_rfl) ⟨Eqs.mono4 _, Eqs.mono4 _, Eqs.mono4 _, trivial⟩ ok_nil (IsOld.all (bx := []) trivial) (DisOld.all (bx := []) trivial) ?_ ?_
  · exact ⟨.norm 6 rfl rfl rfl (fun a_ w_ hn_ hBt hr hR hD hO hS => op_mv ((hR 0 rfl).trans f0)),
      .norm 7 rfl rfl rfl (fun a_ w_ hn_ hBt hr hR hD hO hS => op_lenr (show a_.eval (.tmp 6) = .slice ax mx cx from hD 0 rfl)),
      .norm 8 rfl rfl rfl (fun a_ w_ hn_ hBt hr hR hD hO hS => op_mv rfl),
      trivial⟩
  intro a3 w3 gs3 hn3 hd3 hBt hr hR hP hX hU
  replace hn := hn3; replace hd := hd3.trans hd
  replace b2 := b2.keep hBt trivial
  replace b3 := b3.keep hBt trivial
  replace f2 := (hR 2 rfl).trans f2
  replace f3 := (hR 3 rfl).trans f3
  have e6 : a3.eval (.tmp 6) = .slice ax mx cx := hP 0 (by decide)
  have f6 := e6
  have e7 : a3.eval (.tmp 7) = .int .i64 (mx : Int) := hP 1 (by decide)
  have f7 := e7
  have e8 : a3.eval (.tmp 8) = (.int .i64 0) := hP 2 (by decide)
  have f8 := e8
  replace HB := HB.trans (hBt.below HB.size (UpOld.all (bx := []) trivial))
  clear hBt hr hR hP hX hU
  refine wp_block ?_
  refine wp_loop_ghost (fun n a w' => a.tmps.size = 17 ∧ a.defers = [] ∧ a.eval (.tmp 2) = .pointer (some ⟨gs1 0, 0, none⟩) ∧ a.eval (.tmp 3) = .pointer (some ⟨gs2 0, 0, none⟩) ∧ a.eval (.tmp 6) = .slice ax mx cx ∧ a.eval (.tmp 7) = .int .i64 (mx : Int) ∧ BoxV W2 w' (gs1 0) (.agg #[.bool false, .slice none 0 0]) ∧ Below w.heap.size w w' ∧ ∃ k : Nat, k + n = xs.length ∧ a.eval (.tmp 8) = .int .i64 (k : Int) ∧ ∃ v, BoxV W2 w' (gs2 0) v ∧ FrW w.heap.size (sumW (xs.take k)) (lenW (xs.take k)) v w') xs.length ⟨hn, hd, f2, f3, f6, f7, b2, HB, 0, by omega, f8, _, b3, frw_nil _ HB.size⟩ ?_
  clear hn hd HB f2 f3 f6 f7 f8 b2 b3
  rintro nL aL wL ⟨hn, hd, f2, f3, f6, f7, b2, HB, kL, hk, f8, v_, b3, FR_⟩
  have hlk := lenW_take_le xs kL
  obtain ⟨n_S, a_S, c_S, r_S, BS, TS, rfl, FS, fbS, ftS, lS⟩ := FR_
  have GS := FS.wh; have AS := GS.ag; have HTS : SzGe TS wL := ftS
  refine wp_seq ?_
  refine region4 [some 9] [Eqs (.bool (decide ((kL : Int) < (mx : Int))))] [] [] (by kernel_rfl) hn rfl (by kernel_rfl) (by kernel_rfl) (by kernel_rfl) (by kernel_rfl) (by kernel_rfl) (by kernel_rfl) ⟨Eqs.mono4 _, trivial⟩ ok_nil (IsOld.all (bx := []) trivial) (DisOld.all (bx := []) trivial) ?_ ?_
  · exact ⟨.norm 9 rfl rfl rfl (fun a_ w_ hn_ hBt hr hR hD hO hS => op_lssr ((hR 8 rfl).trans f8) ((hR 7 rfl).trans f7)),
      trivial⟩
  intro a4 w4 gs4 hn4 hd4 hBt hr hR hP hX hU
  replace hn := hn4; replace hd := hd4.trans hd
  replace b2 := b2.keep hBt trivial
  replace b3 := b3.keep hBt trivial
  replace f2 := (hR 2 rfl).trans f2
  replace f3 := (hR 3 rfl).trans f3
  replace f6 := (hR 6 rfl).trans f6
  replace f7 := (hR 7 rfl).trans f7
  replace f8 := (hR 8 rfl).trans f8
  have e9 : a4.eval (.tmp 9) = .bool (decide ((kL : Int) < (mx : Int))) := hP 0 (by decide)
  have f9 := e9
  replace FS := FS.rl hr
  replace GS := GS.rl hr
  replace AS := AS.rl hr
  replace HTS := HTS.rl hr
  replace HB := HB.trans (hBt.below HB.size (UpOld.all (bx := []) trivial))
  clear hBt hr hR hP hX hU
  refine wp_seq ?_
  refine wp_cond_split f9 (fun hc9 => ?_) (fun hc9 => ?_)
  · skip
    have hlt := of_decide_eq_true hc9
    obtain ⟨bx_, ox_, hax, _, _⟩ := Rx0.cells (by omega)
    obtain ⟨ex, hex⟩ : ∃ e, xs[kL]? = some e := ⟨_, List.getElem?_eq_getElem (by omega)⟩
    have Ax0 := Rx0.ag (List.mem_of_getElem? hex)
    have Ax := Ax0.below HB
    have lx := Ax.sl.parts.1
    have hem := lenW_take_le xs (kL + 1)
    rw [lenW_take hex] at hem
    have lx' : ex.zs.length ≤ ex.m := by omega
    refine wp_skip ?_
    refine wp_seq ?_
    refine wp_block ?_
    refine wp_seq ?_
    refine region4 [some 10, some 11, some 5, none] [Eqs (.pointer (some ⟨bx_, ox_ + kL * 2, none⟩)), Eqs (.agg #[.bool ex.ng, .slice ex.a ex.m ex.c]), (fun _ _ => True), (fun _ _ => True)] [⟨W2, some 2, 0, 5, .agg #[.bool false, .slice none 0 0], some (3, 11, 1), []⟩] [] (by kernel_rfl) hn rfl (by kernel_rfl) (by kernel_rfl) (by kernel_rfl) (by kernel_rfl) (by kernel_rfl) (by kernel_rfl) ⟨Eqs.mono4 _, Eqs.mono4 _, True.mono4, True.mono4, trivial⟩ (ok_cons W2ok ok_nil) (IsOld.all (bx := [⟨W2, some 2, 0, 5, .agg #[.bool false, .slice none 0 0], some (3, 11, 1), []⟩]) ⟨someNe, trivial⟩) (DisOld.all (bx := [⟨W2, some 2, 0, 5, .agg #[.bool false, .slice none 0 0], some (3, 11, 1), []⟩]) ⟨someNe, trivial⟩) ?_ ?_
    · exact ⟨.norm 10 rfl rfl rfl (fun a_ w_ hn_ hBt hr hR hD hO hS => op_idxr ((hR 6 rfl).trans f6) hax ((hR 8 rfl).trans f8) (by omega)),
        .norm 11 rfl rfl rfl (fun a_ w_ hn_ hBt hr hR hD hO hS => op_ldr (show a_.eval (.tmp 10) = .pointer (some ⟨bx_, ox_ + kL * 2, none⟩) from hD 0 rfl) hax (Rx0.below (HB.trans (hBt.below HB.size (UpOld.all (bx := [⟨W2, some 2, 0, 5, .agg #[.bool false, .slice none 0 0], some (3, 11, 1), []⟩]) ⟨someNe, trivial⟩)))) hex),
        .alloc 0 _ rfl rfl (.inl ⟨rfl, rfl⟩) rfl rfl rfl rfl rfl,
        .store 0 _ _ _ rfl rfl rfl rfl rfl rfl rfl (fun ia h => by cases h; rfl) rfl rfl rfl (eqs_cs w2_cs),
        trivial⟩
    intro a5 w5 gs5 hn5 hd5 hBt hr hR hP hX hU
    replace hn := hn5; replace hd := hd5.trans hd
    have ne2_5 : (gs1 0) ≠ gs5 0 := by have h1 := b2.lt; have h2 := (hX 0 _ rfl).2.2.1 (by simp); omega
    have ne3_5 : (gs2 0) ≠ gs5 0 := by have h1 := b3.lt; have h2 := (hX 0 _ rfl).2.2.1 (by simp); omega
    replace b2 := b2.keep hBt ⟨someNe, trivial⟩
    replace b3 := b3.keep hBt ⟨someNe, trivial⟩
    have e11 : a5.eval (.tmp 11) = .agg #[.bool ex.ng, .slice ex.a ex.m ex.c] := hP 1 (by decide)
    have b5 : BoxV W2 w5 (gs5 0) (.agg #[.bool ex.ng, .slice ex.a ex.m ex.c]) := boxv_of (hX 0 _ rfl).2.2.2 e11
    have f5 := (hX 0 _ rfl).1
    have u5 : w.heap.size ≤ gs5 0 := Nat.le_trans HB.size ((hX 0 _ rfl).2.2.1 (by simp))
    replace f2 := (hR 2 rfl).trans f2
    replace f3 := (hR 3 rfl).trans f3
    replace f6 := (hR 6 rfl).trans f6
    replace f7 := (hR 7 rfl).trans f7
    replace f8 := (hR 8 rfl).trans f8
    replace FS := FS.rl hr
    replace GS := GS.rl hr
    replace AS := AS.rl hr
    replace HTS := HTS.rl hr
    replace Ax := Ax.rl hr
    replace HB := HB.trans (hBt.below HB.size (UpOld.all (bx := [⟨W2, some 2, 0, 5, .agg #[.bool false, .slice none 0 0], some (3, 11, 1), []⟩]) ⟨someNe, trivial⟩))
    clear hBt hr hR hP hX hU
    refine region4 [some 12, some 13, some 14, none] [Eqs (.agg #[.bool n_S, .slice a_S r_S.length c_S]), Eqs (.agg #[.bool ex.ng, .slice ex.a ex.m ex.c]), FrW (w.heap.size) (((sumW (xs.take kL)) + ex.z)) (((lenW (xs.take kL))) + (ex.m) + 1), (fun _ _ => True)] [⟨W2, none, (gs2 0), 3, .agg #[.bool n_S, .slice a_S r_S.length c_S], some (3, 14, 2), [0]⟩] [] (by kernel_rfl) hn rfl (by kernel_rfl) (by kernel_rfl) (by kernel_rfl) (by kernel_rfl) (by kernel_rfl) (by kernel_rfl) ⟨Eqs.mono4 _, Eqs.mono4 _, FrW.mono4 _ _ _, True.mono4, trivial⟩ (ok_cons W2ok ok_nil) (IsOld.all (bx := [⟨W2, none, (gs2 0), 3, .agg #[.bool n_S, .slice a_S r_S.length c_S], some (3, 14, 2), [0]⟩]) ⟨fun _ => ⟨f3, b3⟩, trivial⟩) (DisOld.all (bx := [⟨W2, none, (gs2 0), 3, .agg #[.bool n_S, .slice a_S r_S.length c_S], some (3, 14, 2), [0]⟩]) ⟨fun _ => trivial, trivial⟩) ?_ ?_
    · exact ⟨.norm 12 rfl rfl rfl (fun a_ w_ hn_ hBt hr hR hD hO hS => op_loadv W2ok ((hR 3 rfl).trans f3) (hO 0 _ rfl rfl rfl)),
        .norm 13 rfl rfl rfl (fun a_ w_ hn_ hBt hr hR hD hO hS => op_loadv W2ok ((hR 5 rfl).trans f5) (b5.keep hBt ⟨fun _ => ne3_5, trivial⟩)),
        .norm 14 rfl rfl rfl (fun a_ w_ hn_ hBt hr hR hD hO hS => ownf (Nat.le_trans HB.size hr.size) (op_addO (isw_eq (show a_.eval (.tmp 12) = .agg #[.bool n_S, .slice a_S r_S.length c_S] from hD 0 rfl) (AS.rl hr) lS) (isw_eq (show a_.eval (.tmp 13) = .agg #[.bool ex.ng, .slice ex.a ex.m ex.c] from hD 1 rfl) (Ax.rl hr) lx') (by omega) (by omega))),
        .store 0 _ _ _ rfl rfl rfl rfl rfl rfl rfl (fun ia h => by cases h) rfl rfl rfl FrW.cs,
        trivial⟩
    intro a6 w6 gs6 hn6 hd6 hBt hr hR hP hX hU
    replace hn := hn6; replace hd := hd6.trans hd
    replace b2 := b2.keep hBt ⟨fun _ => ne2_3.symm, trivial⟩
    obtain ⟨n_7, a_7, c_7, r_7, B7, T7, e14, F7, fb7, ft7, l7⟩ : FrW (w.heap.size) (((sumW (xs.take kL)) + ex.z)) (((lenW (xs.take kL))) + (ex.m) + 1) (a6.eval (.tmp 14)) w6 := hP 2 (by decide)
    have G7 := F7.wh; have A7 := G7.ag
    have lq7HTS := HTS.le
    have HT7 : SzGe T7 w6 := ft7
    have b3 : BoxV W2 w6 ((gs2 0)) (.agg #[.bool n_7, .slice a_7 r_7.length c_7]) := boxv_old ((hX 0 _ rfl).2.1 rfl) (hX 0 _ rfl).2.2.2 e14
    replace f3 : a6.eval (.tmp 3) = _ := (hR 3 rfl).trans f3
    replace f2 := (hR 2 rfl).trans f2
    replace f6 := (hR 6 rfl).trans f6
    replace f7 := (hR 7 rfl).trans f7
    replace f8 := (hR 8 rfl).trans f8
    replace FS := FS.rl hr
    replace GS := GS.rl hr
    replace AS := AS.rl hr
    replace HTS := HTS.rl hr
    replace Ax := Ax.rl hr
    replace HB := HB.trans (hBt.below HB.size (UpOld.all (bx := [⟨W2, none, (gs2 0), 3, .agg #[.bool n_S, .slice a_S r_S.length c_S], some (3, 14, 2), [0]⟩]) ⟨fun _ => u3, trivial⟩))
    clear hBt hr hR hP hX hU
    refine block_normal ?_
    refine region4 [some 15, some 8] [Eqs (.int .i64 ((kL + 1 : Nat) : Int)), Eqs (.int .i64 ((kL + 1 : Nat) : Int))] [] [(1, 0)] (by kernel_rfl) hn rfl (by kernel_rfl) (by kernel_rfl) (by kernel_rfl) (by kernel_rfl) (by kernel_rfl) (by kernel_rfl) ⟨Eqs.mono4 _, Eqs.mono4 _, trivial⟩ ok_nil (IsOld.all (bx := []) trivial) (DisOld.all (bx := []) trivial) ?_ ?_
    · exact ⟨.norm 15 rfl rfl rfl (fun a_ w_ hn_ hBt hr hR hD hO hS => op_inck ((hS 1 8 rfl rfl).trans f8) (by omega)),
        .norm 8 rfl rfl rfl (fun a_ w_ hn_ hBt hr hR hD hO hS => op_mv (show a_.eval (.tmp 15) = .int .i64 ((kL + 1 : Nat) : Int) from hD 0 rfl)),
        trivial⟩
    intro a8 w8 gs8 hn8 hd8 hBt hr hR hP hX hU
    replace hn := hn8; replace hd := hd8.trans hd
    replace b2 := b2.keep hBt trivial
    replace b3 := b3.keep hBt trivial
    replace f2 := (hR 2 rfl).trans f2
    replace f3 := (hR 3 rfl).trans f3
    replace f6 := (hR 6 rfl).trans f6
    replace f7 := (hR 7 rfl).trans f7
    have e8 : a8.eval (.tmp 8) = .int .i64 ((kL + 1 : Nat) : Int) := hP 1 (by decide)
    have f8 := e8
    replace FS := FS.rl hr
    replace GS := GS.rl hr
    replace AS := AS.rl hr
    replace HTS := HTS.rl hr
    replace Ax := Ax.rl hr
    replace F7 := F7.rl hr
    replace G7 := G7.rl hr
    replace A7 := A7.rl hr
    replace HT7 := HT7.rl hr
    replace HB := HB.trans (hBt.below HB.size (UpOld.all (bx := []) trivial))
    clear hBt hr hR hP hX hU
    exact ⟨nL - 1, by omega, hn, hd, f2, f3, f6, f7, b2, HB, kL + 1, by omega, f8, _, b3, ⟨n_7, a_7, c_7, r_7, B7, T7, rfl, by rw [sumW_take hex]; exact F7, fb7, HT7.le, by rw [lenW_take hex]; omega⟩⟩
  · skip
    have hlt := of_decide_eq_false hc9
    refine wp_exit ?_
    repeat (first | refine then_exit ?_ | refine scope_exit ?_ | refine block_pass (by decide) ?_)
    refine block_exit ?_
    refine wp_seq ?_
    refine region4 [some 16, none] [Eqs (.agg #[.bool n_S, .slice a_S r_S.length c_S]), (fun _ _ => True)] [⟨W2, none, (gs1 0), 2, .agg #[.bool false, .slice none 0 0], some (1, 16, 0), []⟩] [] (by kernel_rfl) hn rfl (by kernel_rfl) (by kernel_rfl) (by kernel_rfl) (by kernel_rfl) (by kernel_rfl) (by kernel_rfl) ⟨Eqs.mono4 _, True.mono4, trivial⟩ (ok_cons W2ok ok_nil) (IsOld.all (bx := [⟨W2, none, (gs1 0), 2, .agg #[.bool false, .slice none 0 0], some (1, 16, 0), []⟩]) ⟨fun _ => ⟨f2, b2⟩, trivial⟩) (DisOld.all (bx := [⟨W2, none, (gs1 0), 2, .agg #[.bool false, .slice none 0 0], some (1, 16, 0), []⟩]) ⟨fun _ => trivial, trivial⟩) ?_ ?_
    · exact ⟨.norm 16 rfl rfl rfl (fun a_ w_ hn_ hBt hr hR hD hO hS => op_loadv W2ok ((hR 3 rfl).trans f3) (b3.keep hBt ⟨fun _ => ne2_3, trivial⟩)),
        .store 0 _ _ _ rfl rfl rfl rfl rfl rfl rfl (fun ia h => by cases h) rfl rfl rfl (eqs_cs w2_cs),
        trivial⟩
    intro a9 w9 gs9 hn9 hd9 hBt hr hR hP hX hU
    replace hn := hn9; replace hd := hd9.trans hd
    have e16 : a9.eval (.tmp 16) = .agg #[.bool n_S, .slice a_S r_S.length c_S] := hP 0 (by decide)
    have b2 : BoxV W2 w9 ((gs1 0)) (.agg #[.bool n_S, .slice a_S r_S.length c_S]) := boxv_old ((hX 0 _ rfl).2.1 rfl) (hX 0 _ rfl).2.2.2 e16
    replace f2 : a9.eval (.tmp 2) = _ := (hR 2 rfl).trans f2
    replace FS := FS.rl hr
    replace GS := GS.rl hr
    replace AS := AS.rl hr
    replace HTS := HTS.rl hr
    replace HB := HB.trans (hBt.below HB.size (UpOld.all (bx := [⟨W2, none, (gs1 0), 2, .agg #[.bool false, .slice none 0 0], some (1, 16, 0), []⟩]) ⟨fun _ => u2, trivial⟩))
    clear hBt hr hR hP hX hU
    refine wp_ret ?_
    repeat (first | refine then_ret ?_ | refine scope_ret ?_ | refine block_ret ?_)
    exact bodyPost_ret (v := .agg #[.bool n_S, .slice a_S r_S.length c_S]) (res_c rfl f2 (lv_W2 b2)) hd ⟨_, rfl, ⟨n_S, a_S, c_S, r_S, BS, TS, rfl, by rw [show kL = xs.length by omega, List.take_length] at FS; exact FS, fbS, HTS.le, by rw [show kL = xs.length by omega, List.take_length] at lS; omega⟩, HB⟩
theorem outn_nil (w : World) : OutN 0 (3 * 0) (.agg #[.bool false, .slice none 0 0]) w := ⟨false, none, 0, [], rfl, ⟨⟨Dm.sl_nil w, Dm.canon_nil, rfl⟩, rfl⟩, by simp⟩
set_option maxRecDepth 20000 in
set_option maxHeartbeats 1000000 in
theorem rsum_z (w : World) (ax : Option Addr) (mx cx : Nat) (xs : List WE) (Rx0 : Rw w (.slice ax mx cx) xs) (hl : lenW xs ≤ 100000) :
    Calls Try.prog 10 #[.slice ax mx cx] w fun e w' => ∃ v, e = .returned v ∧ OutW (sumW xs) (3 * lenW xs) v w' ∧ Below w.heap.size w w' := by
  go_enter Try.func10, Try.ntmps10
  generalize hA : (Act.mk _ _) = aa
  have hn : aa.tmps.size = 21 := by rw [← hA]; rfl
  have hd : aa.defers = [] := by rw [← hA]
  have f0 : aa.eval (.tmp 0) = .slice ax mx cx := by rw [← hA]; rfl
  clear hA
  have HB : Below w.heap.size w w := Below.refl _ _
  have px := Rx0.parts
  refine wp_seq ?_
  refine region4 [some 2] [(fun _ _ => True)] [⟨W2, some 0, 0, 2, .agg #[.bool false, .slice none 0 0], none, []⟩] [] (by kernel_rfl) hn rfl (by kernel_rfl) (by kernel_rfl) (by kernel_rfl) (by kernel_rfl) (by kernel_rfl) (by kernel_rfl) ⟨True.mono4, trivial⟩ (ok_cons W2ok ok_nil) (IsOld.all (bx := [⟨W2, some 0, 0, 2, .agg #[.bool false, .slice none 0 0], none, []⟩]) ⟨someNe, trivial⟩) (DisOld.all (bx := [⟨W2, some 0, 0, 2, .agg #[.bool false, .slice none 0 0], none, []⟩]) ⟨someNe, trivial⟩) ?_ ?_
  · exact ⟨.alloc 0 _ rfl rfl (.inl ⟨rfl, rfl⟩) rfl rfl rfl rfl rfl,
      trivial⟩
  intro a1 w1 gs1 hn1 hd1 hBt hr hR hP hX hU
  replace hn := hn1; replace hd := hd1.trans hd
  have b2 : BoxV W2 w1 (gs1 0) (.agg #[.bool false, .slice none 0 0]) := (hX 0 _ rfl).2.2.2
  have f2 := (hX 0 _ rfl).1
  have u2 : w.heap.size ≤ gs1 0 := Nat.le_trans HB.size ((hX 0 _ rfl).2.2.1 (by simp))
  replace f0 := (hR 0 rfl).trans f0
  replace HB := HB.trans (hBt.below HB.size (UpOld.all (bx := [⟨W2, some 0, 0, 2, .agg #[.bool false, .slice none 0 0], none, []⟩]) ⟨someNe, trivial⟩))
  clear hBt hr hR hP hX hU
  refine wp_seq ?_
  refine region4 [some 5, some 3, none] [Eqs (.agg #[.bool false, .slice none 0 0]), (fun _ _ => True), (fun _ _ => True)] [⟨N2, some 1, 0, 3, .agg #[.bool false, .slice none 0 0], some (2, 5, 0), []⟩] [] (by kernel_rfl) hn rfl (by kernel_rfl) (by kernel_rfl) (by kernel_rfl) (by kernel_rfl) (by kernel_rfl) (by kernel_rfl) ⟨Eqs.mono4 _, True.mono4, True.mono4, trivial⟩ (ok_cons N2ok ok_nil) (IsOld.all (bx := [⟨N2, some 1, 0, 3, .agg #[.bool false, .slice none 0 0], some (2, 5, 0), []⟩]) ⟨someNe, trivial⟩) (DisOld.all (bx := [⟨N2, some 1, 0, 3, .agg #[.bool false, .slice none 0 0], some (2, 5, 0), []⟩]) ⟨someNe, trivial⟩) ?_ ?_
  · exact ⟨.norm 5 rfl rfl rfl (fun a_ w_ hn_ hBt hr hR hD hO hS => op_bN0),
      .alloc 0 _ rfl rfl (.inl ⟨rfl, rfl⟩) rfl rfl rfl rfl rfl,
      .store 0 _ _ _ rfl rfl rfl rfl rfl rfl rfl (fun ia h => by cases h; rfl) rfl rfl rfl (eqs_cs n2_cs),
      trivial⟩
  intro a2 w2 gs2 hn2 hd2 hBt hr hR hP hX hU
  replace hn := hn2; replace hd := hd2.trans hd
  have ne2_3 : (gs1 0) ≠ gs2 0 := by have h1 := b2.lt; have h2 := (hX 0 _ rfl).2.2.1 (by simp); omega
  replace b2 := b2.keep hBt ⟨someNe, trivial⟩
  have e5 : a2.eval (.tmp 5) = .agg #[.bool false, .slice none 0 0] := hP 0 (by decide)
  have b3 : BoxV N2 w2 (gs2 0) (.agg #[.bool false, .slice none 0 0]) := boxv_of (hX 0 _ rfl).2.2.2 e5
  have f3 := (hX 0 _ rfl).1
  have u3 : w.heap.size ≤ gs2 0 := Nat.le_trans HB.size ((hX 0 _ rfl).2.2.1 (by simp))
  replace f0 := (hR 0 rfl).trans f0
  replace f2 := (hR 2 rfl).trans f2
  replace HB := HB.trans (hBt.below HB.size (UpOld.all (bx := [⟨N2, some 1, 0, 3, .agg #[.bool false, .slice none 0 0], some (2, 5, 0), []⟩]) ⟨someNe, trivial⟩))
  clear hBt hr hR hP hX hU
  refine wp_seq ?_
  refine wp_seq ?_
  refine region4 [some 4] [Eqs ((.int .i64 0))] [] [] (by kernel_rfl) hn rfl (by kernel_rfl) (by kernel_rfl) (by kernel_rfl) (by kernel_rfl) (by kernel_rfl) (by kernel_rfl) ⟨Eqs.mono4 _, trivial⟩ ok_nil (IsOld.all (bx := []) trivial) (DisOld.all (bx := []) trivial) ?_ ?_
  · exact ⟨.norm 4 rfl rfl rfl (fun a_ w_ hn_ hBt hr hR hD hO hS => op_assign rfl),
      trivial⟩
  intro a3 w3 gs3 hn3 hd3 hBt hr hR hP hX hU
  replace hn := hn3; replace hd := hd3.trans hd
  replace b2 := b2.keep hBt trivial
  replace b3 := b3.keep hBt trivial
  replace f0 := (hR 0 rfl).trans f0
  replace f2 := (hR 2 rfl).trans f2
  replace f3 := (hR 3 rfl).trans f3
  have e4 : a3.eval (.tmp 4) = (.int .i64 0) := hP 0 (by decide)
  have f4 := e4
  replace HB := HB.trans (hBt.below HB.size (UpOld.all (bx := []) trivial))
  clear hBt hr hR hP hX hU
  refine wp_block ?_
  refine wp_loop_ghost (fun n a w' => a.tmps.size = 21 ∧ a.defers = [] ∧ a.eval (.tmp 0) = .slice ax mx cx ∧ a.eval (.tmp 2) = .pointer (some ⟨gs1 0, 0, none⟩) ∧ a.eval (.tmp 3) = .pointer (some ⟨gs2 0, 0, none⟩) ∧ BoxV W2 w' (gs1 0) (.agg #[.bool false, .slice none 0 0]) ∧ Below w.heap.size w w' ∧ ∃ k : Nat, k + n = xs.length ∧ a.eval (.tmp 4) = .int .i64 (k : Int) ∧ ∃ v, BoxV N2 w' (gs2 0) v ∧ OutN (sumW (xs.take k)) (3 * lenW (xs.take k)) v w') xs.length ⟨hn, hd, f0, f2, f3, b2, HB, 0, by omega, f4, _, b3, outn_nil _⟩ ?_
  clear hn hd HB f0 f2 f3 f4 b2 b3
  rintro nL aL wL ⟨hn, hd, f0, f2, f3, b2, HB, kL, hk, f4, v_, b3, FR_⟩
  have hlk := lenW_take_le xs kL
  obtain ⟨n_S, a_S, c_S, r_S, rfl, GS, lS⟩ := FR_
  refine wp_seq ?_
  refine wp_seq ?_
  refine region4 [some 6, some 7, some 8, some 9] [Eqs (.int .i64 (kL : Int)), Eqs (.slice ax mx cx), Eqs (.int .i64 (mx : Int)), Eqs (.bool (decide ((kL : Int) < (mx : Int))))] [] [] (by kernel_rfl) hn rfl (by kernel_rfl) (by kernel_rfl) (by kernel_rfl) (by kernel_rfl) (by kernel_rfl) (by kernel_rfl) ⟨Eqs.mono4 _, Eqs.mono4 _, Eqs.mono4 _, Eqs.mono4 _, trivial⟩ ok_nil (IsOld.all (bx := []) trivial) (DisOld.all (bx := []) trivial) ?_ ?_
  · exact ⟨.norm 6 rfl rfl rfl (fun a_ w_ hn_ hBt hr hR hD hO hS => op_mv ((hR 4 rfl).trans f4)),
      .norm 7 rfl rfl rfl (fun a_ w_ hn_ hBt hr hR hD hO hS => op_mv ((hR 0 rfl).trans f0)),
      .norm 8 rfl rfl rfl (fun a_ w_ hn_ hBt hr hR hD hO hS => op_lenr (show a_.eval (.tmp 7) = .slice ax mx cx from hD 1 rfl)),
      .norm 9 rfl rfl rfl (fun a_ w_ hn_ hBt hr hR hD hO hS => op_lssr (show a_.eval (.tmp 6) = .int .i64 (kL : Int) from hD 0 rfl) (show a_.eval (.tmp 8) = .int .i64 (mx : Int) from hD 2 rfl)),
      trivial⟩
  intro a4 w4 gs4 hn4 hd4 hBt hr hR hP hX hU
  replace hn := hn4; replace hd := hd4.trans hd
  replace b2 := b2.keep hBt trivial
  replace b3 := b3.keep hBt trivial
  replace f0 := (hR 0 rfl).trans f0
  replace f2 := (hR 2 rfl).trans f2
  replace f3 := (hR 3 rfl).trans f3
  replace f4 := (hR 4 rfl).trans f4
  have e9 : a4.eval (.tmp 9) = .bool (decide ((kL : Int) < (mx : Int))) := hP 3 (by decide)
  have f9 := e9
  replace GS := GS.rl hr
  replace HB := HB.trans (hBt.below HB.size (UpOld.all (bx := []) trivial))
  clear hBt hr hR hP hX hU
  refine wp_cond_split f9 (fun hc9 => ?_) (fun hc9 => ?_)
  · skip
    have hlt := of_decide_eq_true hc9
    obtain ⟨bx_, ox_, hax, _, _⟩ := Rx0.cells (by omega)
    obtain ⟨ex, hex⟩ : ∃ e, xs[kL]? = some e := ⟨_, List.getElem?_eq_getElem (by omega)⟩
    have Ax0 := Rx0.ag (List.mem_of_getElem? hex)
    have Ax := Ax0.below HB
    have lx := Ax.sl.parts.1
    have hem := lenW_take_le xs (kL + 1)
    rw [lenW_take hex] at hem
    have lx' : ex.zs.length ≤ ex.m := by omega
    refine wp_skip ?_
    refine wp_seq ?_
    refine wp_block ?_
    refine region4 [some 12, some 13, some 14, some 15, some 16, some 17, some 18, none] [Eqs (.agg #[.bool n_S, .slice a_S r_S.length c_S]), Eqs (.slice ax mx cx), Eqs (.int .i64 (kL : Int)), Eqs (.pointer (some ⟨bx_, ox_ + kL * 2, none⟩)), Eqs (.agg #[.bool ex.ng, .slice ex.a ex.m ex.c]), OutN (ex.z) (3 * (ex.m)), OutN (((sumW (xs.take kL)) + ex.z)) (((3 * lenW (xs.take kL))) + (3 * (ex.m)) + 1), (fun _ _ => True)] [⟨N2, none, (gs2 0), 3, .agg #[.bool n_S, .slice a_S r_S.length c_S], some (7, 18, 6), [0]⟩] [] (by kernel_rfl) hn rfl (by kernel_rfl) (by kernel_rfl) (by kernel_rfl) (by kernel_rfl) (by kernel_rfl) (by kernel_rfl) ⟨Eqs.mono4 _, Eqs.mono4 _, Eqs.mono4 _, Eqs.mono4 _, Eqs.mono4 _, OutN.mono4 _ _, OutN.mono4 _ _, True.mono4, trivial⟩ (ok_cons N2ok ok_nil) (IsOld.all (bx := [⟨N2, none, (gs2 0), 3, .agg #[.bool n_S, .slice a_S r_S.length c_S], some (7, 18, 6), [0]⟩]) ⟨fun _ => ⟨f3, b3⟩, trivial⟩) (DisOld.all (bx := [⟨N2, none, (gs2 0), 3, .agg #[.bool n_S, .slice a_S r_S.length c_S], some (7, 18, 6), [0]⟩]) ⟨fun _ => trivial, trivial⟩) ?_ ?_
    · exact ⟨.norm 12 rfl rfl rfl (fun a_ w_ hn_ hBt hr hR hD hO hS => op_loadv N2ok ((hR 3 rfl).trans f3) (hO 0 _ rfl rfl rfl)),
        .norm 13 rfl rfl rfl (fun a_ w_ hn_ hBt hr hR hD hO hS => op_mv ((hR 0 rfl).trans f0)),
        .norm 14 rfl rfl rfl (fun a_ w_ hn_ hBt hr hR hD hO hS => op_mv ((hR 4 rfl).trans f4)),
        .norm 15 rfl rfl rfl (fun a_ w_ hn_ hBt hr hR hD hO hS => op_idxr (show a_.eval (.tmp 13) = .slice ax mx cx from hD 1 rfl) hax (show a_.eval (.tmp 14) = .int .i64 (kL : Int) from hD 2 rfl) (by omega)),
        .norm 16 rfl rfl rfl (fun a_ w_ hn_ hBt hr hR hD hO hS => op_ldr (show a_.eval (.tmp 15) = .pointer (some ⟨bx_, ox_ + kL * 2, none⟩) from hD 3 rfl) hax (Rx0.below (HB.trans (hBt.below HB.size (UpOld.all (bx := [⟨N2, none, (gs2 0), 3, .agg #[.bool n_S, .slice a_S r_S.length c_S], some (7, 18, 6), [0]⟩]) ⟨fun _ => u3, trivial⟩)))) hex),
        .norm 17 rfl rfl rfl (fun a_ w_ hn_ hBt hr hR hD hO hS => op_nof (L := ex.m) (isw_eq (show a_.eval (.tmp 16) = .agg #[.bool ex.ng, .slice ex.a ex.m ex.c] from hD 4 rfl) (Ax.rl hr) lx') (by omega)),
        .norm 18 rfl rfl rfl (fun a_ w_ hn_ hBt hr hR hD hO hS => op_nadd (L1 := (3 * lenW (xs.take kL))) (L2 := 3 * (ex.m)) (outn_eq (show a_.eval (.tmp 12) = .agg #[.bool n_S, .slice a_S r_S.length c_S] from hD 0 rfl) (GS.rl hr) lS) (show OutN (ex.z) (3 * (ex.m)) (a_.eval (.tmp 17)) w_ from hD 5 rfl) (by omega) (by omega)),
        .store 0 _ _ _ rfl rfl rfl rfl rfl rfl rfl (fun ia h => by cases h) rfl rfl rfl OutN.cs,
        trivial⟩
    intro a5 w5 gs5 hn5 hd5 hBt hr hR hP hX hU
    replace hn := hn5; replace hd := hd5.trans hd
    replace b2 := b2.keep hBt ⟨fun _ => ne2_3.symm, trivial⟩
    obtain ⟨n_6, a_6, c_6, r_6, e18, G6, l6⟩ : OutN (((sumW (xs.take kL)) + ex.z)) (((3 * lenW (xs.take kL))) + (3 * (ex.m)) + 1) (a5.eval (.tmp 18)) w5 := hP 6 (by decide)
    have b3 : BoxV N2 w5 ((gs2 0)) (.agg #[.bool n_6, .slice a_6 r_6.length c_6]) := boxv_old ((hX 0 _ rfl).2.1 rfl) (hX 0 _ rfl).2.2.2 e18
    replace f3 : a5.eval (.tmp 3) = _ := (hR 3 rfl).trans f3
    replace f0 := (hR 0 rfl).trans f0
    replace f2 := (hR 2 rfl).trans f2
    replace f4 := (hR 4 rfl).trans f4
    replace GS := GS.rl hr
    replace Ax := Ax.rl hr
    replace HB := HB.trans (hBt.below HB.size (UpOld.all (bx := [⟨N2, none, (gs2 0), 3, .agg #[.bool n_S, .slice a_S r_S.length c_S], some (7, 18, 6), [0]⟩]) ⟨fun _ => u3, trivial⟩))
    clear hBt hr hR hP hX hU
    refine block_normal ?_
    refine region4 [some 10, some 11, some 4] [Eqs (.int .i64 (kL : Int)), Eqs (.int .i64 ((kL + 1 : Nat) : Int)), Eqs (.int .i64 ((kL + 1 : Nat) : Int))] [] [(2, 0)] (by kernel_rfl) hn rfl (by kernel_rfl) (by kernel_rfl) (by kernel_rfl) (by kernel_rfl) (by kernel_rfl) (by kernel_rfl) ⟨Eqs.mono4 _, Eqs.mono4 _, Eqs.mono4 _, trivial⟩ ok_nil (IsOld.all (bx := []) trivial) (DisOld.all (bx := []) trivial) ?_ ?_
    · exact ⟨.norm 10 rfl rfl rfl (fun a_ w_ hn_ hBt hr hR hD hO hS => op_mv ((hS 2 4 rfl rfl).trans f4)),
        .norm 11 rfl rfl rfl (fun a_ w_ hn_ hBt hr hR hD hO hS => op_inck (show a_.eval (.tmp 10) = .int .i64 (kL : Int) from hD 0 rfl) (by omega)),
        .norm 4 rfl rfl rfl (fun a_ w_ hn_ hBt hr hR hD hO hS => op_assign (show a_.eval (.tmp 11) = .int .i64 ((kL + 1 : Nat) : Int) from hD 1 rfl)),
        trivial⟩
    intro a7 w7 gs7 hn7 hd7 hBt hr hR hP hX hU
    replace hn := hn7; replace hd := hd7.trans hd
    replace b2 := b2.keep hBt trivial
    replace b3 := b3.keep hBt trivial
    replace f0 := (hR 0 rfl).trans f0
    replace f2 := (hR 2 rfl).trans f2
    replace f3 := (hR 3 rfl).trans f3
    have e4 : a7.eval (.tmp 4) = .int .i64 ((kL + 1 : Nat) : Int) := hP 2 (by decide)
    have f4 := e4
    replace GS := GS.rl hr
    replace Ax := Ax.rl hr
    replace G6 := G6.rl hr
    replace HB := HB.trans (hBt.below HB.size (UpOld.all (bx := []) trivial))
    clear hBt hr hR hP hX hU
    exact ⟨nL - 1, by omega, hn, hd, f0, f2, f3, b2, HB, kL + 1, by omega, f4, _, b3, by rw [sumW_take hex, lenW_take hex]; exact (outn_eq rfl G6 l6).to rfl (by omega)⟩
  · skip
    have hlt := of_decide_eq_false hc9
    refine wp_exit ?_
    repeat (first | refine then_exit ?_ | refine scope_exit ?_ | refine block_pass (by decide) ?_)
    refine block_exit ?_
    refine wp_seq ?_
    refine region4 [some 19, some 20, none] [Eqs (.agg #[.bool n_S, .slice a_S r_S.length c_S]), OutW ((sumW (xs.take kL))) ((3 * lenW (xs.take kL))), (fun _ _ => True)] [⟨W2, none, (gs1 0), 2, .agg #[.bool false, .slice none 0 0], some (2, 20, 1), []⟩] [] (by kernel_rfl) hn rfl (by kernel_rfl) (by kernel_rfl) (by kernel_rfl) (by kernel_rfl) (by kernel_rfl) (by kernel_rfl) ⟨Eqs.mono4 _, OutW.mono4 _ _, True.mono4, trivial⟩ (ok_cons W2ok ok_nil) (IsOld.all (bx := [⟨W2, none, (gs1 0), 2, .agg #[.bool false, .slice none 0 0], some (2, 20, 1), []⟩]) ⟨fun _ => ⟨f2, b2⟩, trivial⟩) (DisOld.all (bx := [⟨W2, none, (gs1 0), 2, .agg #[.bool false, .slice none 0 0], some (2, 20, 1), []⟩]) ⟨fun _ => trivial, trivial⟩) ?_ ?_
    · exact ⟨.norm 19 rfl rfl rfl (fun a_ w_ hn_ hBt hr hR hD hO hS => op_loadv N2ok ((hR 3 rfl).trans f3) (b3.keep hBt ⟨fun _ => ne2_3, trivial⟩)),
        .norm 20 rfl rfl rfl (fun a_ w_ hn_ hBt hr hR hD hO hS => op_ntold (outn_eq (show a_.eval (.tmp 19) = .agg #[.bool n_S, .slice a_S r_S.length c_S] from hD 0 rfl) (GS.rl hr) lS) (by omega)),
        .store 0 _ _ _ rfl rfl rfl rfl rfl rfl rfl (fun ia h => by cases h) rfl rfl rfl OutW.cs,
        trivial⟩
    intro a8 w8 gs8 hn8 hd8 hBt hr hR hP hX hU
    replace hn := hn8; replace hd := hd8.trans hd
    obtain ⟨n_9, a_9, c_9, r_9, e20, G9, l9⟩ : OutW ((sumW (xs.take kL))) ((3 * lenW (xs.take kL))) (a8.eval (.tmp 20)) w8 := hP 1 (by decide)
    have A9 := G9.ag
    have b2 : BoxV W2 w8 ((gs1 0)) (.agg #[.bool n_9, .slice a_9 r_9.length c_9]) := boxv_old ((hX 0 _ rfl).2.1 rfl) (hX 0 _ rfl).2.2.2 e20
    replace f2 : a8.eval (.tmp 2) = _ := (hR 2 rfl).trans f2
    replace GS := GS.rl hr
    replace HB := HB.trans (hBt.below HB.size (UpOld.all (bx := [⟨W2, none, (gs1 0), 2, .agg #[.bool false, .slice none 0 0], some (2, 20, 1), []⟩]) ⟨fun _ => u2, trivial⟩))
    clear hBt hr hR hP hX hU
    refine wp_ret ?_
    repeat (first | refine then_ret ?_ | refine scope_ret ?_ | refine block_ret ?_)
    have hkx : xs.take kL = xs := by rw [show kL = xs.length by omega, List.take_length]
    exact bodyPost_ret (v := .agg #[.bool n_9, .slice a_9 r_9.length c_9]) (res_c rfl f2 (lv_W2 b2)) hd ⟨_, rfl, by have h_ := outw_eq rfl G9 l9; rw [hkx] at h_; exact h_, HB⟩
end Lm
end Go.Proofs.Ytpofkigboedliaa

namespace Go.Proofs.Ytpofkigboedliaa
namespace Lm
open Go.RowKit
theorem row_cells {w : World} {b off : Nat} {zs : List Int} (hc : ∀ i, i < zs.length → w.cell? ⟨b, off + i, none⟩ = some (.int .u32 (zs.getD i 0))) : ∀ j u, (zs.map (Value.int .u32))[j]? = some u → w.cell? ((⟨b, off, none⟩ : Addr).add j) = some u := by
  intro j u hu
  rw [List.getElem?_map] at hu
  have hj : j < zs.length := by
    apply Classical.byContradiction
    intro hn
    rw [List.getElem?_eq_none (by omega)] at hu
    cases hu
  rw [List.getElem?_eq_getElem hj] at hu
  have hcj := hc j hj
  rw [List.getD_eq_getElem?_getD, List.getElem?_eq_getElem hj] at hcj
  rw [show ((⟨b, off, none⟩ : Addr).add j) = ⟨b, off + j, none⟩ from by simp [Addr.add], hcj]
  exact hu
theorem row_one (zs : List Int) : ∀ u ∈ zs.map (Value.int .u32), u.oneCell' = true := by
  intro u hu
  obtain ⟨z, _, rfl⟩ := List.mem_map.1 hu
  rfl
set_option maxRecDepth 20000 in
set_option maxHeartbeats 400000 in
theorem copy_any (w : World) (ao : Option Addr) (n cap : Nat) (xs : List Int) (hx : Sl w (.slice ao n cap) xs) (hl : xs.length ≤ 1000000) :
    Calls Try.prog 65 #[.slice ao n cap] w fun e w' => ∃ v, e = .returned v ∧ Ow w.heap.size w' v xs ∧ Below w.heap.size w w' := by
  obtain ⟨rfl, h1, h2, h3⟩ := hx.parts
  obtain ⟨i0, hi, hz0, hz1, hz2⟩ := info_parts info32
  by_cases h0 : 0 < xs.length
  · obtain ⟨b, off, rfl, hc⟩ := hx.cells h0
    have hcells := row_cells hc
    have H3 := hide h3
    clear hc h3 hx
    go_enter Try.func65, Try.ntmps65
    go_wp2_with (at_builtin; refine wpList_append_own _ rfl (.const (.slice none 0 0)) (.tmp 3) 26 rfl w.heap.size 67 i0 (.int .u32 0) 1 4 Try.underlying26 hi hz0 hz1 hz2 rfl (by decide) _ _ _ rfl (World.ownsRow_nil _ _ _ _) ⟨b, off, none⟩ xs.length cap (xs.map (Value.int .u32)) rfl (by simp) hcells (row_one xs) (by unfold maxLen; omega) (by omega) (by simp) ?_)
    intro v' w1 hown hgrow _
    have hb1 : Below w.heap.size w w1 := (Below.refl w.heap.size w).grown hgrow (by simp) (by intro k hk; simp [Value.ownBlock] at hk)
    have how := ow_of_row (zs := xs) (by simpa using hown) H3.out
    clear hown hgrow
    go_wp2
    go_ret
    exact ⟨_, rfl, how, hb1⟩
  · have e : xs = [] := List.eq_nil_of_length_eq_zero (by omega)
    subst e
    cases ao with
    | none =>
      go_enter Try.func65, Try.ntmps65
      go_wp2
      go_ret
      exact ⟨_, rfl, ⟨none, 0, rfl, Nat.le_refl _, by simp [maxLen], limb_nil, .inl rfl⟩, Below.refl _ _⟩
    | some ad =>
      go_enter Try.func65, Try.ntmps65
      go_wp2
      go_ret
      exact ⟨_, rfl, ⟨none, 0, rfl, Nat.le_refl _, by simp [maxLen], limb_nil, .inl rfl⟩, Below.refl _ _⟩
end Lm
end Go.Proofs.Ytpofkigboedliaa

namespace Go.Proofs.Ytpofkigboedliaa
namespace Lm
open Go Go.RowKit
def OwL (K : Nat) (zs : List Int) : Says := fun v w => ∃ ao cap, v = .slice ao zs.length cap ∧ Ow K w v zs
theorem OwL.mono5 (K : Nat) (zs : List Int) : Mono5 (OwL K zs) := fun _ _ _ hr ⟨ao, cap, e, h⟩ => ⟨ao, cap, e, h.ru hr⟩
theorem OwL.mono4 (K : Nat) (zs : List Int) : Mono4 (OwL K zs) := fun v w w' hr h => OwL.mono5 K zs v w w' (Ru.of_rl hr) h
def OwW (K : Nat) (ng : Bool) (zs : List Int) : Says := fun v w => ∃ ao cap, v = .agg #[.bool ng, .slice ao zs.length cap] ∧ Ow K w (.slice ao zs.length cap) zs
theorem OwW.mono5 (K : Nat) (ng : Bool) (zs : List Int) : Mono5 (OwW K ng zs) := fun _ _ _ hr ⟨ao, cap, e, h⟩ => ⟨ao, cap, e, h.ru hr⟩
theorem OwW.mono4 (K : Nat) (ng : Bool) (zs : List Int) : Mono4 (OwW K ng zs) := fun v w w' hr h => OwW.mono5 K ng zs v w w' (Ru.of_rl hr) h
theorem OwW.cs {K : Nat} {ng : Bool} {zs : List Int} (v : Value) (w : World) (h : OwW K ng zs v w) : ∃ cs, W2.Cs v cs := by
  obtain ⟨ao, cap, rfl, _⟩ := h
  exact ⟨_, _, _, _, _, rfl, rfl⟩
section
variable {dst : Option Tmp} {ty : TypeId} {pos : String} {after : Array Edge} {guard : Option (Nat × Bool)} {a : Act} {w : World} {ats : Array TypeId} {i j : Nat}
theorem has_lcopy0 : Has Try.prog 65 := by unfold Has; kernel_rfl
theorem op_lcopyO {K : Nat} {ao : Option Addr} {n c : Nat} {zs : List Int} (h : a.eval (.tmp i) = .slice ao n c) (S : Sl w (.slice ao n c) zs) (hl : zs.length ≤ 1000000) (hK : K ≤ w.heap.size) :
    Does Try.prog { dst, op := .call { callee := .value (.func 65), args := #[.tmp i], argTypes := ats }, type := ty, pos, after, guard } a.eval w fun v w' => Below w.heap.size w w' ∧ OwL K zs v w' := by
  refine does_call has_lcopy0 _ (by simp only [List.map_toArray, List.map_cons, List.map_nil, h]) ((copy_any w _ _ _ zs S hl).mono ?_)
  rintro e w' ⟨v, rfl, ho, hb⟩
  refine ⟨_, rfl, hb, ?_⟩
  obtain ⟨ao', cap', hv, _⟩ := id ho
  exact ⟨ao', cap', hv, ho.mono hK⟩
theorem op_bWO {K : Nat} {ng : Bool} {zs : List Int} (h1 : a.eval (.tmp i) = .bool ng) (h2 : OwL K zs (a.eval (.tmp j)) w) :
    Does Try.prog { dst, op := .build 28 #[(0, .tmp i), (1, .tmp j)], type := ty, pos, after, guard } a.eval w fun v w' => Below w.heap.size w w' ∧ OwW K ng zs v w' := by
  obtain ⟨ao, cap, e, ho⟩ := h2
  refine (op_bW2 h1 e).mono ?_
  rintro v w' ⟨hb, e'⟩
  exact ⟨hb, ao, cap, e', by rw [← e]; exact ho.below hb⟩
end
set_option maxRecDepth 20000 in
set_option maxHeartbeats 1000000 in
theorem copyw_z (w : World) (nx : Bool) (ax : Option Addr) (mx cx : Nat) (xs : List Int) (Tx : Sl w (.slice ax mx cx) xs) (hl : xs.length ≤ 1000000) :
    Calls Try.prog 36 #[.agg #[.bool nx, .slice ax mx cx]] w fun e w' => ∃ v, e = .returned v ∧ OwW w.heap.size nx xs v w' ∧ Below w.heap.size w w' := by
  go_enter Try.func36, Try.ntmps36
  generalize hA : (Act.mk _ _) = aa
  have hn : aa.tmps.size = 9 := by rw [← hA]; rfl
  have hd : aa.defers = [] := by rw [← hA]
  have f0 : aa.eval (.tmp 0) = .agg #[.bool nx, .slice ax mx cx] := by rw [← hA]; rfl
  clear hA
  have HB : Below w.heap.size w w := Below.refl _ _
  refine wp_seq ?_
  refine region4 [some 1, some 2] [(fun _ _ => True), (fun _ _ => True)] [⟨W2, some 0, 0, 1, .agg #[.bool nx, .slice ax mx cx], none, []⟩, ⟨W2, some 1, 0, 2, .agg #[.bool false, .slice none 0 0], none, []⟩] [] (by kernel_rfl) hn rfl (by kernel_rfl) (by kernel_rfl) (by kernel_rfl) (by kernel_rfl) (by kernel_rfl) (by kernel_rfl) ⟨True.mono4, True.mono4, trivial⟩ (ok_cons W2ok (ok_cons W2ok ok_nil)) (IsOld.all (bx := [⟨W2, some 0, 0, 1, .agg #[.bool nx, .slice ax mx cx], none, []⟩, ⟨W2, some 1, 0, 2, .agg #[.bool false, .slice none 0 0], none, []⟩]) ⟨someNe, someNe, trivial⟩) (DisOld.all (bx := [⟨W2, some 0, 0, 1, .agg #[.bool nx, .slice ax mx cx], none, []⟩, ⟨W2, some 1, 0, 2, .agg #[.bool false, .slice none 0 0], none, []⟩]) ⟨someNe, someNe, trivial⟩) ?_ ?_
  · exact ⟨.alloc 0 _ rfl rfl (.inr ⟨_, rfl, w2_cs, fun a_ hR => (hR 0 rfl).trans f0⟩) rfl rfl rfl rfl rfl,
      .alloc 1 _ rfl rfl (.inl ⟨rfl, rfl⟩) rfl rfl rfl rfl rfl,
      trivial⟩
  intro a1 w1 gs1 hn1 hd1 hBt hr hR hP hX hU
  replace hn := hn1; replace hd := hd1.trans hd
  have ne1_2 : gs1 0 ≠ gs1 1 := hU 0 1 (by simp) (by simp) (by decide)
  have b1 : BoxV W2 w1 (gs1 0) (.agg #[.bool nx, .slice ax mx cx]) := (hX 0 _ rfl).2.2.2
  have f1 := (hX 0 _ rfl).1
  have u1 : w.heap.size ≤ gs1 0 := Nat.le_trans HB.size ((hX 0 _ rfl).2.2.1 (by simp))
  have b2 : BoxV W2 w1 (gs1 1) (.agg #[.bool false, .slice none 0 0]) := (hX 1 _ rfl).2.2.2
  have f2 := (hX 1 _ rfl).1
  have u2 : w.heap.size ≤ gs1 1 := Nat.le_trans HB.size ((hX 1 _ rfl).2.2.1 (by simp))
  replace Tx := Tx.rl hr
  replace HB := HB.trans (hBt.below HB.size (UpOld.all (bx := [⟨W2, some 0, 0, 1, .agg #[.bool nx, .slice ax mx cx], none, []⟩, ⟨W2, some 1, 0, 2, .agg #[.bool false, .slice none 0 0], none, []⟩]) ⟨someNe, someNe, trivial⟩))
  clear hBt hr hR hP hX hU
  refine wp_seq ?_
  refine region4 [some 3, some 4, some 5, some 6, some 7, some 8, none] [Eqs (.pointer (some ⟨gs1 0, 0, none⟩)), Eqs (.bool nx), Eqs (.pointer (some ⟨gs1 0, 1, none⟩)), Eqs (.slice ax mx cx), OwL (w.heap.size) (xs), OwW (w.heap.size) (nx) (xs), (fun _ _ => True)] [⟨W2, none, (gs1 1), 2, .agg #[.bool false, .slice none 0 0], some (6, 8, 5), []⟩] [] (by kernel_rfl) hn rfl (by kernel_rfl) (by kernel_rfl) (by kernel_rfl) (by kernel_rfl) (by kernel_rfl) (by kernel_rfl) ⟨Eqs.mono4 _, Eqs.mono4 _, Eqs.mono4 _, Eqs.mono4 _, OwL.mono4 _ _, OwW.mono4 _ _ _, True.mono4, trivial⟩ (ok_cons W2ok ok_nil) (IsOld.all (bx := [⟨W2, none, (gs1 1), 2, .agg #[.bool false, .slice none 0 0], some (6, 8, 5), []⟩]) ⟨fun _ => ⟨f2, b2⟩, trivial⟩) (DisOld.all (bx := [⟨W2, none, (gs1 1), 2, .agg #[.bool false, .slice none 0 0], some (6, 8, 5), []⟩]) ⟨fun _ => trivial, trivial⟩) ?_ ?_
  · exact ⟨.norm 3 rfl rfl rfl (fun a_ w_ hn_ hBt hr hR hD hO hS => op_fa fa_neg ((hR 1 rfl).trans f1)),
      .norm 4 rfl rfl rfl (fun a_ w_ hn_ hBt hr hR hD hO hS => op_ldneg (show a_.eval (.tmp 3) = .pointer (some ⟨gs1 0, 0, none⟩) from hD 0 rfl) (b1.keep hBt ⟨fun _ => ne1_2.symm, trivial⟩)),
      .norm 5 rfl rfl rfl (fun a_ w_ hn_ hBt hr hR hD hO hS => op_fa fa_mag ((hR 1 rfl).trans f1)),
      .norm 6 rfl rfl rfl (fun a_ w_ hn_ hBt hr hR hD hO hS => op_ldmag (show a_.eval (.tmp 5) = .pointer (some ⟨gs1 0, 1, none⟩) from hD 2 rfl) (b1.keep hBt ⟨fun _ => ne1_2.symm, trivial⟩)),
      .norm 7 rfl rfl rfl (fun a_ w_ hn_ hBt hr hR hD hO hS => op_lcopyO (show a_.eval (.tmp 6) = .slice ax mx cx from hD 3 rfl) (Tx.rl hr) (by omega) (Nat.le_trans HB.size hr.size)),
      .norm 8 rfl rfl rfl (fun a_ w_ hn_ hBt hr hR hD hO hS => op_bWO (show a_.eval (.tmp 4) = .bool nx from hD 1 rfl) (show OwL (w.heap.size) (xs) (a_.eval (.tmp 7)) w_ from hD 4 rfl)),
      .store 0 _ _ _ rfl rfl rfl rfl rfl rfl rfl (fun ia h => by cases h) rfl rfl rfl OwW.cs,
      trivial⟩
  intro a2 w2 gs2 hn2 hd2 hBt hr hR hP hX hU
  replace hn := hn2; replace hd := hd2.trans hd
  obtain ⟨a_3, c_3, e8, O3⟩ : OwW (w.heap.size) (nx) (xs) (a2.eval (.tmp 8)) w2 := hP 5 (by decide)
  have b2 : BoxV W2 w2 ((gs1 1)) (.agg #[.bool nx, .slice a_3 xs.length c_3]) := boxv_old ((hX 0 _ rfl).2.1 rfl) (hX 0 _ rfl).2.2.2 e8
  replace f2 : a2.eval (.tmp 2) = _ := (hR 2 rfl).trans f2
  replace Tx := Tx.rl hr
  replace HB := HB.trans (hBt.below HB.size (UpOld.all (bx := [⟨W2, none, (gs1 1), 2, .agg #[.bool false, .slice none 0 0], some (6, 8, 5), []⟩]) ⟨fun _ => u2, trivial⟩))
  clear hBt hr hR hP hX hU
  refine wp_ret ?_
  repeat (first | refine then_ret ?_ | refine scope_ret ?_ | refine block_ret ?_)
  exact bodyPost_ret (v := .agg #[.bool nx, .slice a_3 xs.length c_3]) (res_c rfl f2 (lv_W2 b2)) hd ⟨_, rfl, ⟨_, _, rfl, O3⟩, HB⟩
theorem Ow.grown {B : Nat} {w w' : World} {v : Value} {zs : List Int} {row : Option Nat} {cur : Nat → Array Value} (h : Ow B w v zs) (hg : w.grownBy w' row) (hr : ∀ k, row = some k → w.heap[k]? = some (.cells (cur k) 28 (0, 0))) : Ow B w' v zs := by
  obtain ⟨ao, cap, rfl, h1, h2, h3, h4⟩ := h
  refine ⟨ao, cap, rfl, h1, h2, h3, ?_⟩
  rcases h4 with h4 | ⟨g, off, c, rfl, hB, hh, h5, h6⟩
  · exact .inl h4
  · refine .inr ⟨g, off, c, rfl, hB, (hg.block g (lt_of_heap hh) (fun e => ?_)).trans hh, h5, h6⟩
    have := hr g e.symm
    rw [hh] at this
    injection this with this
    injection this with _ this
    exact absurd this (by decide)
structure RwO (B : Nat) (w : World) (v : Value) (es : List WE) : Prop where
  own : w.ownsRow B 28 2 v es.length (flat es)
  ow : ∀ e ∈ es, Ow B w (.slice e.a e.m e.c) e.zs
theorem RwO.below {B : Nat} {w w' : World} {v : Value} {es : List WE} (h : RwO B w v es) (hb : Below w.heap.size w w') : RwO B w' v es :=
  ⟨h.own.kept (row := none) ⟨hb.os, hb.tape, hb.output, hb.size, fun k hk _ => hb.block k hk⟩ (by cases hv : v.ownBlock <;> simp), fun e he => (h.ow e he).below hb⟩
theorem RwO.rw {B : Nat} {w : World} {v : Value} {es : List WE} (h : RwO B w v es) : Rw w v es := ⟨Cl.own h.own, fun e he => (h.ow e he).sl⟩
theorem rwo_nil (B : Nat) (w : World) : RwO B w (.slice none 0 0) [] := ⟨World.ownsRow_nil w B _ 2, fun e he => by cases he⟩
def One (w : World) (g : Nat) (ng : Bool) (ao : Option Addr) (n c : Nat) : Prop := w.heap[g]? = some (.cells #[.bool ng, .slice ao n c] 28 (0, 0))
theorem One.below {w w' : World} {g : Nat} {ng : Bool} {ao : Option Addr} {n c : Nat} (h : One w g ng ao n c) (hb : Below w.heap.size w w') : One w' g ng ao n c := (hb.block g (lt_of_heap h)).trans h
section
variable {dst : Option Tmp} {ty : TypeId} {pos : String} {after : Array Edge} {guard : Option (Nat × Bool)} {a : Act} {w : World} {ats : Array TypeId} {i j : Nat}
theorem has_copyw0 : Has Try.prog 36 := by unfold Has; kernel_rfl
theorem op_copywO {K : Nat} {ng : Bool} {ao : Option Addr} {n c : Nat} {zs : List Int} (h : a.eval (.tmp i) = .agg #[.bool ng, .slice ao n c]) (S : Sl w (.slice ao n c) zs) (hl : zs.length ≤ 1000000) (hK : K ≤ w.heap.size) :
    Does Try.prog { dst, op := .call { callee := .value (.func 36), args := #[.tmp i], argTypes := ats }, type := ty, pos, after, guard } a.eval w fun v w' => Below w.heap.size w w' ∧ OwW K ng zs v w' := by
  refine does_call has_copyw0 _ (by simp only [List.map_toArray, List.map_cons, List.map_nil, h]) ((copyw_z w ng _ _ _ zs S hl).mono ?_)
  rintro e w' ⟨v, rfl, ⟨ao', cap', hv, ho⟩, hb⟩
  exact ⟨_, rfl, hb, ao', cap', hv, ho.mono hK⟩
theorem op_bsl {ng : Bool} {ao : Option Addr} {n c : Nat} (h : a.eval (.tmp i) = .agg #[.bool ng, .slice ao n c]) :
    Does Try.prog { dst, op := .buildSlice 22 1 #[(0, .tmp i)], type := ty, pos, after, guard } a.eval w fun v w' => v = .slice (some ⟨w.heap.size, 0, none⟩) 1 1 ∧ One w' w.heap.size ng ao n c ∧ Below w.heap.size w w' := by
  refine does_buildSlice (v := .slice (some ⟨w.heap.size, 0, none⟩) 1 1) (w' := w.alloc (.cells #[.bool ng, .slice ao n c] 28)) ?_ ⟨rfl, heap_alloc_new _ _, (Below.refl _ _).alloc (Nat.le_refl _) _⟩
  simp only [List.map_toArray, List.map_cons, List.map_nil, h]
  go_simp
theorem infoW : (Try.prog.info? 28).map (fun i => (i.zero, i.size, i.bytes)) = some (some (.agg #[.bool false, .slice none 0 0]), 2, 32) := by kernel_rfl
theorem op_appr {B g : Nat} {v : Value} {es : List WE} {ng : Bool} {ao : Option Addr} {n c : Nat} {zs : List Int} (h1 : a.eval (.tmp i) = v) (h2 : a.eval (.tmp j) = .slice (some ⟨g, 0, none⟩) 1 1) (R : RwO B w v es) (O : One w g ng ao n c) (S : Ow B w (.slice ao n c) zs) (hn : es.length ≤ 1000000) (hB : B ≤ w.heap.size) :
    Does Try.prog { dst, op := .call { callee := .builtin .append, args := #[.tmp i, .tmp j], argTypes := #[22, 22] }, type := ty, pos, after, guard } a.eval w fun v' w' => RwO B w' v' (es ++ [⟨ng, ao, n, c, zs⟩]) ∧ Below B w w' := by
  obtain ⟨i0, hi, hz0, hz1, hz2⟩ := info_parts infoW
  have hfl : flat (es ++ [⟨ng, ao, n, c, zs⟩]) = flat es ++ [.bool ng, .slice ao n c] := by rw [flat_append]; rfl
  obtain ⟨v', w', hr, ho, hgr, _⟩ := run_append_own (P := Try.prog) w B 22 ty 28 i0 _ 2 32 Try.underlying22 hi hz0 hz1 hz2 rfl (by decide) v es.length (flat es) R.own ⟨g, 0, none⟩ 1 1 [.bool ng, .slice ao n c] rfl (fun k u hu => by
    have hc : ∀ k, w.cell? ⟨g, k, none⟩ = #[Value.bool ng, .slice ao n c][k]? := fun k => cell_of_row w g k _ _ (0, 0) O
    have ha : (⟨g, 0, none⟩ : Addr).add k = ⟨g, k, none⟩ := by unfold Addr.add; split <;> simp_all
    rw [ha, hc]
    simpa using hu) (by simp [Value.oneCell']) (by simp [maxLen]; omega) (by omega) hB
  have e : (execOp a.eval { dst, op := .call { callee := .builtin .append, args := #[.tmp i, .tmp j], argTypes := #[22, 22] }, type := ty, pos, after, guard }).run Try.prog w = .ok (.value v') w' := by
    simp only [execOp, resolve, invoke, builtin, Sem.run_bind, Sem.run_pure, Result.andThen_ok, List.map_toArray, List.map_cons, List.map_nil, h1, h2, hr]
  refine ⟨?_⟩
  unfold Turns
  rw [e]
  have hrow : ∃ cur : Nat → Array Value, ∀ k, v.ownBlock = some k → w.heap[k]? = some (.cells (cur k) 28 (0, 0)) := by
    rcases R.own.2 with ⟨rfl, _⟩ | ⟨g', cap, cur, rfl, _, hh, _⟩
    · exact ⟨fun _ => #[], fun k hk => by simp [Value.ownBlock] at hk⟩
    · refine ⟨fun _ => cur, fun k hk => ?_⟩
      simp only [Value.ownBlock, Option.some.injEq] at hk
      subst hk
      exact hh
  obtain ⟨cur, hcur⟩ := hrow
  refine ⟨⟨by rw [hfl, List.length_append]; exact ho, fun e he => ?_⟩, ⟨hgr.os, hgr.tape, hgr.output, hgr.size, fun k hk => hgr.block k (by omega) (fun e => ?_)⟩⟩
  · rcases List.mem_append.1 he with he | he
    · exact (R.ow e he).grown hgr hcur
    · obtain rfl := List.mem_singleton.1 he
      exact S.grown hgr hcur
  · have := R.own.lt k e.symm
    omega
end
theorem sameR_snoc {es xs : List WE} {k : Nat} {e f : WE} (h : SameR es (xs.take k)) (he : xs[k]? = some e) (hf : f.raw = e.raw) : SameR (es ++ [f]) (xs.take (k + 1)) := by
  unfold SameR at *
  rw [List.take_add_one, he, List.map_append, List.map_append, h]
  simp [hf]
set_option maxRecDepth 20000 in
set_option maxHeartbeats 1000000 in
theorem copyrow_z (w : World) (ax : Option Addr) (mx cx : Nat) (xs : List WE) (Rx0 : Rw w (.slice ax mx cx) xs) (hl : lenW xs ≤ 100000) :
    Calls Try.prog 7 #[.slice ax mx cx] w fun e w' => ∃ v es, e = .returned v ∧ RwO w.heap.size w' v es ∧ SameR es xs ∧ Below w.heap.size w w' := by
  go_enter Try.func7, Try.ntmps7
  generalize hA : (Act.mk _ _) = aa
  have hn : aa.tmps.size = 20 := by rw [← hA]; rfl
  have hd : aa.defers = [] := by rw [← hA]
  have f0 : aa.eval (.tmp 0) = .slice ax mx cx := by rw [← hA]; rfl
  clear hA
  have HB : Below w.heap.size w w := Below.refl _ _
  have px := Rx0.parts
  refine wp_seq ?_
  refine region4 [some 2] [Eqs ((.slice none 0 0))] [] [] (by kernel_rfl) hn rfl (by kernel_rfl) (by kernel_rfl) (by kernel_rfl) (by kernel_rfl) (by kernel_rfl) (by kernel_rfl) ⟨Eqs.mono4 _, trivial⟩ ok_nil (IsOld.all (bx := []) trivial) (DisOld.all (bx := []) trivial) ?_ ?_
  · exact ⟨.norm 2 rfl rfl rfl (fun a_ w_ hn_ hBt hr hR hD hO hS => op_assign rfl),
      trivial⟩
  intro a1 w1 gs1 hn1 hd1 hBt hr hR hP hX hU
  replace hn := hn1; replace hd := hd1.trans hd
  replace f0 := (hR 0 rfl).trans f0
  have e2 : a1.eval (.tmp 2) = (.slice none 0 0) := hP 0 (by decide)
  have f2 := e2
  replace HB := HB.trans (hBt.below HB.size (UpOld.all (bx := []) trivial))
  clear hBt hr hR hP hX hU
  refine wp_seq ?_
  refine region4 [some 3] [Eqs ((.slice none 0 0))] [] [] (by kernel_rfl) hn rfl (by kernel_rfl) (by kernel_rfl) (by kernel_rfl) (by kernel_rfl) (by kernel_rfl) (by kernel_rfl) ⟨Eqs.mono4 _, trivial⟩ ok_nil (IsOld.all (bx := []) trivial) (DisOld.all (bx := []) trivial) ?_ ?_
  · exact ⟨.norm 3 rfl rfl rfl (fun a_ w_ hn_ hBt hr hR hD hO hS => op_assign rfl),
      trivial⟩
  intro a2 w2 gs2 hn2 hd2 hBt hr hR hP hX hU
  replace hn := hn2; replace hd := hd2.trans hd
  replace f0 := (hR 0 rfl).trans f0
  replace f2 := (hR 2 rfl).trans f2
  have e3 : a2.eval (.tmp 3) = (.slice none 0 0) := hP 0 (by decide)
  have f3 := e3
  replace HB := HB.trans (hBt.below HB.size (UpOld.all (bx := []) trivial))
  clear hBt hr hR hP hX hU
  refine wp_seq ?_
  refine wp_seq ?_
  refine region4 [some 4] [Eqs ((.int .i64 0))] [] [] (by kernel_rfl) hn rfl (by kernel_rfl) (by kernel_rfl) (by kernel_rfl) (by kernel_rfl) (by kernel_rfl) (by kernel_rfl) ⟨Eqs.mono4 _, trivial⟩ ok_nil (IsOld.all (bx := []) trivial) (DisOld.all (bx := []) trivial) ?_ ?_
  · exact ⟨.norm 4 rfl rfl rfl (fun a_ w_ hn_ hBt hr hR hD hO hS => op_assign rfl),
      trivial⟩
  intro a3 w3 gs3 hn3 hd3 hBt hr hR hP hX hU
  replace hn := hn3; replace hd := hd3.trans hd
  replace f0 := (hR 0 rfl).trans f0
  replace f2 := (hR 2 rfl).trans f2
  replace f3 := (hR 3 rfl).trans f3
  have e4 : a3.eval (.tmp 4) = (.int .i64 0) := hP 0 (by decide)
  have f4 := e4
  replace HB := HB.trans (hBt.below HB.size (UpOld.all (bx := []) trivial))
  clear hBt hr hR hP hX hU
  refine wp_block ?_
  refine wp_loop_ghost (fun n a w' => a.tmps.size = 20 ∧ a.defers = [] ∧ a.eval (.tmp 0) = .slice ax mx cx ∧ Below w.heap.size w w' ∧ ∃ (k : Nat) (v : Value) (es : List WE), k + n = xs.length ∧ a.eval (.tmp 4) = .int .i64 (k : Int) ∧ a.eval (.tmp 3) = v ∧ RwO w.heap.size w' v es ∧ SameR es (xs.take k)) xs.length ⟨hn, hd, f0, HB, 0, _, [], by omega, f4, f3, rwo_nil _ _, rfl⟩ ?_
  clear hn hd HB f0 f2 f3 f4
  rintro nL aL wL ⟨hn, hd, f0, HB, kL, vL, es, hk, f4, f3, RO, hS⟩
  have hkl : es.length = kL := by have h_ := hS.len; rw [List.length_take] at h_; omega
  refine wp_seq ?_
  refine wp_seq ?_
  refine region4 [some 5, some 6, some 7, some 8] [Eqs (.int .i64 (kL : Int)), Eqs (.slice ax mx cx), Eqs (.int .i64 (mx : Int)), Eqs (.bool (decide ((kL : Int) < (mx : Int))))] [] [] (by kernel_rfl) hn rfl (by kernel_rfl) (by kernel_rfl) (by kernel_rfl) (by kernel_rfl) (by kernel_rfl) (by kernel_rfl) ⟨Eqs.mono4 _, Eqs.mono4 _, Eqs.mono4 _, Eqs.mono4 _, trivial⟩ ok_nil (IsOld.all (bx := []) trivial) (DisOld.all (bx := []) trivial) ?_ ?_
  · exact ⟨.norm 5 rfl rfl rfl (fun a_ w_ hn_ hBt hr hR hD hO hS => op_mv ((hR 4 rfl).trans f4)),
      .norm 6 rfl rfl rfl (fun a_ w_ hn_ hBt hr hR hD hO hS => op_mv ((hR 0 rfl).trans f0)),
      .norm 7 rfl rfl rfl (fun a_ w_ hn_ hBt hr hR hD hO hS => op_lenr (show a_.eval (.tmp 6) = .slice ax mx cx from hD 1 rfl)),
      .norm 8 rfl rfl rfl (fun a_ w_ hn_ hBt hr hR hD hO hS => op_lssr (show a_.eval (.tmp 5) = .int .i64 (kL : Int) from hD 0 rfl) (show a_.eval (.tmp 7) = .int .i64 (mx : Int) from hD 2 rfl)),
      trivial⟩
  intro a4 w4 gs4 hn4 hd4 hBt hr hR hP hX hU
  replace hn := hn4; replace hd := hd4.trans hd
  replace f0 := (hR 0 rfl).trans f0
  replace f3 := (hR 3 rfl).trans f3
  replace f4 := (hR 4 rfl).trans f4
  have e8 : a4.eval (.tmp 8) = .bool (decide ((kL : Int) < (mx : Int))) := hP 3 (by decide)
  have f8 := e8
  replace HB := HB.trans (hBt.below HB.size (UpOld.all (bx := []) trivial))
  have hBl_ := hBt.below (Nat.le_refl _) (UpOld.all (bx := []) trivial)
  replace RO := RO.below hBl_
  clear hBt hr hR hP hX hU
  refine wp_cond_split f8 (fun hc8 => ?_) (fun hc8 => ?_)
  · skip
    have hlt := of_decide_eq_true hc8
    obtain ⟨bx_, ox_, hax, _, _⟩ := Rx0.cells (by omega)
    obtain ⟨ex, hex⟩ : ∃ e, xs[kL]? = some e := ⟨_, List.getElem?_eq_getElem (by omega)⟩
    have Ax0 := Rx0.ag (List.mem_of_getElem? hex)
    have Ax := Ax0.below HB
    have lx := Ax.sl.parts.1
    have hem := lenW_mem (List.mem_of_getElem? hex)
    have hln := lenW_length xs
    refine wp_skip ?_
    refine wp_seq ?_
    refine wp_block ?_
    refine wp_of_good (by kernel_rfl) (by kernel_rfl) (fun w_0 hb_0 => ?_)
    replace RO := RO.below hb_0
    replace Ax := Ax.below hb_0
    replace HB := HB.trans (hb_0.mono HB.size); clear hb_0
    refine good6 0 6 (some 6) [some 11, some 12, some 13, some 14, some 15, some 16, some 17, some 18, some 3] [Eqs (vL), Eqs (.slice ax mx cx), Eqs (.int .i64 (kL : Int)), Eqs (.pointer (some ⟨bx_, ox_ + kL * 2, none⟩)), Eqs (.agg #[.bool ex.ng, .slice ex.a ex.m ex.c]), OwW (w.heap.size) (ex.ng) (ex.zs), (fun _ _ => True), (fun _ _ => True), (fun _ _ => True)] [] [] [] [] [(8, 0)] (by kernel_rfl) hn rfl (by kernel_rfl) (by kernel_rfl) (by kernel_rfl) (by kernel_rfl) (by kernel_rfl) (by kernel_rfl) (by kernel_rfl) (by kernel_rfl) (by kernel_rfl) (by decide) ⟨Eqs.mono5 _, Eqs.mono5 _, Eqs.mono5 _, Eqs.mono5 _, Eqs.mono5 _, OwW.mono5 _ _ _, True.mono5, True.mono5, True.mono5, trivial⟩ trivial xok_nil ok_nil (IsOld.all (bx := []) trivial) (DisOld.all (bx := []) trivial) trivial ?_ ?_ ?_
    · exact ⟨.inr (.norm 11 rfl rfl (nxt rfl) rfl (fun a_ w_ hn_ hBt hr hR hD hO hS => d6 rfl (op_mv ((hS 8 3 rfl rfl).trans f3)))),
        .inr (.norm 12 rfl rfl (nxt rfl) rfl (fun a_ w_ hn_ hBt hr hR hD hO hS => d6 rfl (op_mv ((hR 0 rfl).trans f0)))),
        .inr (.norm 13 rfl rfl (nxt rfl) rfl (fun a_ w_ hn_ hBt hr hR hD hO hS => d6 rfl (op_mv ((hR 4 rfl).trans f4)))),
        .inr (.norm 14 rfl rfl (nxt rfl) rfl (fun a_ w_ hn_ hBt hr hR hD hO hS => d6 rfl (op_idxr (show a_.eval (.tmp 12) = .slice ax mx cx from hD 1 rfl) hax (show a_.eval (.tmp 13) = .int .i64 (kL : Int) from hD 2 rfl) (by omega)))),
        .inr (.norm 15 rfl rfl (nxt rfl) rfl (fun a_ w_ hn_ hBt hr hR hD hO hS => d6 rfl (op_ldr (show a_.eval (.tmp 14) = .pointer (some ⟨bx_, ox_ + kL * 2, none⟩) from hD 3 rfl) hax (Rx0.below (HB.trans (hBt.below HB.size (UpOld.all (bx := []) trivial) (UpX.all (bx := []) trivial)))) hex))),
        .inr (.norm 16 rfl rfl (nxt rfl) rfl (fun a_ w_ hn_ hBt hr hR hD hO hS => d6 rfl (op_copywO (show a_.eval (.tmp 15) = .agg #[.bool ex.ng, .slice ex.a ex.m ex.c] from hD 4 rfl) (Ax.ru hr).sl (by omega) (Nat.le_trans HB.size hr.size)))),
        .inl rfl,
        .inl rfl,
        .inl rfl,
        trivial⟩
    rotate_left
    · exact fun h => by cases h
    intro t_ o_ ht_ ho_ a5 w5 gs5 B5 T5 F_
    obtain rfl := Option.some.inj ht_; obtain rfl := Option.some.inj ho_; clear ht_ ho_
    obtain ⟨hn5, hd5, hBt, hr, hR, hP, hTs, hLi, hX, hU, hRel, hSl⟩ := F_
    replace hn := hn5; replace hd := hd5.trans hd
    replace f0 := (hR 0 rfl).trans f0
    replace f3 := (hSl 8 3 (by decide) rfl).trans f3
    replace f4 := (hR 4 rfl).trans f4
    have e11 : a5.eval (.tmp 11) = vL := hP 0 (by decide)
    have f11 := e11
    obtain ⟨a_C, c_C, e16, OC⟩ : OwW (w.heap.size) (ex.ng) (ex.zs) (a5.eval (.tmp 16)) w5 := hP 5 (by decide)
    have f16 := e16
    have hBl_ := hBt.below (Nat.le_refl _) (UpOld.all (bx := []) trivial) (UpX.all (bx := []) trivial)
    replace RO := RO.below hBl_
    replace Ax := Ax.ru hr
    replace HB := HB.trans (hBt.below HB.size (UpOld.all (bx := []) trivial) (UpX.all (bx := []) trivial))
    clear hBt hr hR hP hTs hLi hX hU hRel hSl
    refine ⟨trivial, (op_bsl f16).mono ?_⟩
    rintro v_ w7 ⟨rfl, ON, hbN⟩
    obtain ⟨gN, hgN⟩ : ∃ g, g = w5.heap.size := ⟨_, rfl⟩
    rw [← hgN] at ON ⊢
    replace RO := RO.below hbN
    replace Ax := Ax.below hbN
    replace OC := OC.below hbN
    replace HB := HB.trans (hbN.mono HB.size); clear hbN hgN
    change Good _ _ _ _ _ (Act.put a5 (some 17) (.slice (some ⟨gN, 0, none⟩) 1 1)) _
    have q_ : 17 < a5.tmps.size := by rw [hn]; decide
    generalize hA_ : Act.put a5 (some 17) (.slice (some ⟨gN, 0, none⟩) 1 1) = a8
    replace hn : a8.tmps.size = 20 := by rw [← hA_, put_tmps]; simp [hn]
    replace hd : a8.defers = [] := by rw [← hA_]; exact hd
    replace f0 : a8.eval (.tmp 0) = .slice ax mx cx := by rw [← hA_]; exact (eval_put_ne (by decide)).trans f0
    replace f3 : a8.eval (.tmp 3) = vL := by rw [← hA_]; exact (eval_put_ne (by decide)).trans f3
    replace f4 : a8.eval (.tmp 4) = .int .i64 (kL : Int) := by rw [← hA_]; exact (eval_put_ne (by decide)).trans f4
    replace f11 : a8.eval (.tmp 11) = vL := by rw [← hA_]; exact (eval_put_ne (by decide)).trans f11
    replace f16 : a8.eval (.tmp 16) = .agg #[.bool ex.ng, .slice a_C ex.zs.length c_C] := by rw [← hA_]; exact (eval_put_ne (by decide)).trans f16
    have f17 : a8.eval (.tmp 17) = .slice (some ⟨gN, 0, none⟩) 1 1 := by rw [← hA_]; exact eval_put_same q_
    clear q_
    clear hA_
    refine good6 7 7 (some 7) [some 11, some 12, some 13, some 14, some 15, some 16, some 17, some 18, some 3] [Eqs (vL), (fun _ _ => True), (fun _ _ => True), (fun _ _ => True), (fun _ _ => True), (fun _ _ => True), Eqs (.slice (some ⟨gN, 0, none⟩) 1 1), (fun _ _ => True), (fun _ _ => True)] [] [] [] [] [] (by kernel_rfl) hn rfl (by kernel_rfl) (by kernel_rfl) (by kernel_rfl) (by kernel_rfl) (by kernel_rfl) (by kernel_rfl) (by kernel_rfl) (by kernel_rfl) (by kernel_rfl) (by decide) ⟨Eqs.mono5 _, True.mono5, True.mono5, True.mono5, True.mono5, True.mono5, Eqs.mono5 _, True.mono5, True.mono5, trivial⟩ trivial xok_nil ok_nil (IsOld.all (bx := []) trivial) (DisOld.all (bx := []) trivial) ⟨⟨⟨⟨⟨⟨⟨trivial, f11⟩, trivial⟩, trivial⟩, trivial⟩, trivial⟩, trivial⟩, f17⟩ ?_ ?_ ?_
    · exact ⟨.inl rfl,
        .inl rfl,
        .inl rfl,
        .inl rfl,
        .inl rfl,
        .inl rfl,
        .inl rfl,
        .inl rfl,
        .inl rfl,
        trivial⟩
    rotate_left
    · exact fun h => by cases h
    intro t_ o_ ht_ ho_ a9 w9 gs9 B9 T9 F_
    obtain rfl := Option.some.inj ht_; obtain rfl := Option.some.inj ho_; clear ht_ ho_
    obtain ⟨hn9, hd9, hBt, hr, hR, hP, hTs, hLi, hX, hU, hRel, hSl⟩ := F_
    replace hn := hn9; replace hd := hd9.trans hd
    replace f0 := (hR 0 rfl).trans f0
    replace f3 := (hSl 8 3 (by decide) rfl).trans f3
    replace f4 := (hR 4 rfl).trans f4
    have e11 : a9.eval (.tmp 11) = vL := hP 0 (by decide)
    have f11 := e11
    have e17 : a9.eval (.tmp 17) = .slice (some ⟨gN, 0, none⟩) 1 1 := hP 6 (by decide)
    have f17 := e17
    have hBl_ := hBt.below (Nat.le_refl _) (UpOld.all (bx := []) trivial) (UpX.all (bx := []) trivial)
    replace RO := RO.below hBl_
    replace Ax := Ax.ru hr
    replace OC := OC.ru hr
    replace ON := ON.below hBl_
    replace HB := HB.trans (hBt.below HB.size (UpOld.all (bx := []) trivial) (UpX.all (bx := []) trivial))
    clear hBt hr hR hP hTs hLi hX hU hRel hSl
    refine ⟨trivial, (op_appr f11 f17 RO ON OC (by omega) HB.size).mono ?_⟩
    rintro v_ w10 ⟨RO_, hbN⟩
    replace HB := HB.trans hbN; replace RO := RO_; clear hbN RO_ ON OC Ax
    replace hS := sameR_snoc hS hex (f := ⟨ex.ng, a_C, ex.zs.length, c_C, ex.zs⟩) rfl
    change Good _ _ _ _ _ (Act.put a9 (some 18) (v_)) _
    have q_ : 18 < a9.tmps.size := by rw [hn]; decide
    generalize hA_ : Act.put a9 (some 18) (v_) = a11
    replace hn : a11.tmps.size = 20 := by rw [← hA_, put_tmps]; simp [hn]
    replace hd : a11.defers = [] := by rw [← hA_]; exact hd
    replace f0 : a11.eval (.tmp 0) = .slice ax mx cx := by rw [← hA_]; exact (eval_put_ne (by decide)).trans f0
    replace f3 : a11.eval (.tmp 3) = vL := by rw [← hA_]; exact (eval_put_ne (by decide)).trans f3
    replace f4 : a11.eval (.tmp 4) = .int .i64 (kL : Int) := by rw [← hA_]; exact (eval_put_ne (by decide)).trans f4
    replace f11 : a11.eval (.tmp 11) = vL := by rw [← hA_]; exact (eval_put_ne (by decide)).trans f11
    replace f17 : a11.eval (.tmp 17) = .slice (some ⟨gN, 0, none⟩) 1 1 := by rw [← hA_]; exact (eval_put_ne (by decide)).trans f17
    have f18 : a11.eval (.tmp 18) = v_ := by rw [← hA_]; exact eval_put_same q_
    clear q_
    clear hA_
    refine good6 8 9 none [some 11, some 12, some 13, some 14, some 15, some 16, some 17, some 18, some 3] [Eqs (vL), (fun _ _ => True), (fun _ _ => True), (fun _ _ => True), (fun _ _ => True), (fun _ _ => True), Eqs (.slice (some ⟨gN, 0, none⟩) 1 1), Eqs (v_), Eqs (v_)] [] [] [] [] [] (by kernel_rfl) hn rfl (by kernel_rfl) (by kernel_rfl) (by kernel_rfl) (by kernel_rfl) (by kernel_rfl) (by kernel_rfl) (by kernel_rfl) (by kernel_rfl) (by kernel_rfl) (by decide) ⟨Eqs.mono5 _, True.mono5, True.mono5, True.mono5, True.mono5, True.mono5, Eqs.mono5 _, Eqs.mono5 _, Eqs.mono5 _, trivial⟩ trivial xok_nil ok_nil (IsOld.all (bx := []) trivial) (DisOld.all (bx := []) trivial) ⟨⟨⟨⟨⟨⟨⟨⟨trivial, f11⟩, trivial⟩, trivial⟩, trivial⟩, trivial⟩, trivial⟩, f17⟩, f18⟩ ?_ ?_ ?_
    · exact ⟨.inl rfl,
        .inl rfl,
        .inl rfl,
        .inl rfl,
        .inl rfl,
        .inl rfl,
        .inl rfl,
        .inl rfl,
        .inr (.norm 3 rfl rfl (nxt rfl) rfl (fun a_ w_ hn_ hBt hr hR hD hO hS => d6 rfl (op_assign (show a_.eval (.tmp 18) = v_ from hD 7 rfl)))),
        trivial⟩
    · exact fun _ _ h => by cases h
    intro _ a12 w12 gs12 B12 T12 F_
    obtain ⟨hn12, hd12, hBt, hr, hR, hP, hTs, hLi, hX, hU, hRel, hSl⟩ := F_
    replace hn := hn12; replace hd := hd12.trans hd
    replace f0 := (hR 0 rfl).trans f0
    replace f4 := (hR 4 rfl).trans f4
    have e3 : a12.eval (.tmp 3) = v_ := hP 8 (by decide)
    have f3 := e3
    have hBl_ := hBt.below (Nat.le_refl _) (UpOld.all (bx := []) trivial) (UpX.all (bx := []) trivial)
    replace RO := RO.below hBl_
    replace HB := HB.trans (hBt.below HB.size (UpOld.all (bx := []) trivial) (UpX.all (bx := []) trivial))
    clear hBt hr hR hP hTs hLi hX hU hRel hSl
    refine block_normal ?_
    refine region4 [some 9, some 10, some 4] [Eqs (.int .i64 (kL : Int)), Eqs (.int .i64 ((kL + 1 : Nat) : Int)), Eqs (.int .i64 ((kL + 1 : Nat) : Int))] [] [(2, 0)] (by kernel_rfl) hn rfl (by kernel_rfl) (by kernel_rfl) (by kernel_rfl) (by kernel_rfl) (by kernel_rfl) (by kernel_rfl) ⟨Eqs.mono4 _, Eqs.mono4 _, Eqs.mono4 _, trivial⟩ ok_nil (IsOld.all (bx := []) trivial) (DisOld.all (bx := []) trivial) ?_ ?_
    · exact ⟨.norm 9 rfl rfl rfl (fun a_ w_ hn_ hBt hr hR hD hO hS => op_mv ((hS 2 4 rfl rfl).trans f4)),
        .norm 10 rfl rfl rfl (fun a_ w_ hn_ hBt hr hR hD hO hS => op_inck (show a_.eval (.tmp 9) = .int .i64 (kL : Int) from hD 0 rfl) (by omega)),
        .norm 4 rfl rfl rfl (fun a_ w_ hn_ hBt hr hR hD hO hS => op_assign (show a_.eval (.tmp 10) = .int .i64 ((kL + 1 : Nat) : Int) from hD 1 rfl)),
        trivial⟩
    intro a13 w13 gs13 hn13 hd13 hBt hr hR hP hX hU
    replace hn := hn13; replace hd := hd13.trans hd
    replace f0 := (hR 0 rfl).trans f0
    replace f3 := (hR 3 rfl).trans f3
    have e4 : a13.eval (.tmp 4) = .int .i64 ((kL + 1 : Nat) : Int) := hP 2 (by decide)
    have f4 := e4
    replace HB := HB.trans (hBt.below HB.size (UpOld.all (bx := []) trivial))
    have hBl_ := hBt.below (Nat.le_refl _) (UpOld.all (bx := []) trivial)
    replace RO := RO.below hBl_
    clear hBt hr hR hP hX hU
    exact ⟨nL - 1, by omega, hn, hd, f0, HB, kL + 1, _, _, by omega, f4, f3, RO, hS⟩
  · skip
    have hlt := of_decide_eq_false hc8
    refine wp_exit ?_
    repeat (first | refine then_exit ?_ | refine scope_exit ?_ | refine block_pass (by decide) ?_)
    refine block_exit ?_
    refine wp_seq ?_
    refine region4 [some 19, some 2] [Eqs (vL), Eqs (vL)] [] [] (by kernel_rfl) hn rfl (by kernel_rfl) (by kernel_rfl) (by kernel_rfl) (by kernel_rfl) (by kernel_rfl) (by kernel_rfl) ⟨Eqs.mono4 _, Eqs.mono4 _, trivial⟩ ok_nil (IsOld.all (bx := []) trivial) (DisOld.all (bx := []) trivial) ?_ ?_
    · exact ⟨.norm 19 rfl rfl rfl (fun a_ w_ hn_ hBt hr hR hD hO hS => op_mv ((hR 3 rfl).trans f3)),
        .norm 2 rfl rfl rfl (fun a_ w_ hn_ hBt hr hR hD hO hS => op_assign (show a_.eval (.tmp 19) = vL from hD 0 rfl)),
        trivial⟩
    intro a14 w14 gs14 hn14 hd14 hBt hr hR hP hX hU
    replace hn := hn14; replace hd := hd14.trans hd
    have e2 : a14.eval (.tmp 2) = vL := hP 1 (by decide)
    have f2 := e2
    replace HB := HB.trans (hBt.below HB.size (UpOld.all (bx := []) trivial))
    have hBl_ := hBt.below (Nat.le_refl _) (UpOld.all (bx := []) trivial)
    replace RO := RO.below hBl_
    clear hBt hr hR hP hX hU
    refine wp_ret ?_
    repeat (first | refine then_ret ?_ | refine scope_ret ?_ | refine block_ret ?_)
    exact bodyPost_ret (v := vL) (res_t rfl f2) hd ⟨_, _, rfl, RO, by rw [show kL = xs.length by omega, List.take_length] at hS; exact hS, HB⟩
end Lm
end Go.Proofs.Ytpofkigboedliaa

namespace Go.Proofs.Ytpofkigboedliaa
namespace Lm
open Go Go.RowKit
open Dm (WFr)
structure Nr (K B T p q : Nat) : Prop where
  lo : K ≤ p
  le : p ≤ q
  emp : p = q → p = K
  ins : p < q → B ≤ p ∧ q ≤ T
theorem Nr.apart {K B T p q B' T' p' q' : Nat} (h : Nr K B T p q) (h' : Nr K B' T' p' q') (hd : T ≤ B' ∨ T' ≤ B) : q ≤ p' ∨ q' ≤ p := by
  obtain ⟨h1, h2, h3, h4⟩ := h
  obtain ⟨k1, k2, k3, k4⟩ := h'
  omega
theorem Nr.top {K B T p q M : Nat} (h : Nr K B T p q) (hK : K ≤ M) (hT : T ≤ M) : q ≤ M := by
  obtain ⟨h1, h2, h3, h4⟩ := h
  omega
def Bl (w : World) (p q : Nat) : Prop := ∀ j, p ≤ j → j < q → ∃ cur, w.heap[j]? = some (.cells cur 67 (0, 0))
theorem Fr.nr {B T K : Nat} {w : World} {ao : Option Addr} {cap : Nat} {rs : List Int} {x : Int} (h : Fr B T w ao cap rs x) (hK : K ≤ B) : ∃ p q, Fr p q w ao cap rs x ∧ Nr K B T p q ∧ Bl w p q := by
  obtain ⟨ho, hc, hv, hl⟩ := h
  obtain ⟨e, h1, h2, h4⟩ := ho.sl'
  by_cases h0 : 0 < cap
  · rcases h4 with h4 | ⟨g, off, cur, rfl, hB, hh, h5, h6⟩
    · omega
    · have hg := hl h0 g off rfl
      refine ⟨g, g + 1, ⟨?_, hc, hv, fun _ g' off' e' => ?_⟩, ⟨by omega, by omega, fun _ => by omega, fun _ => by omega⟩, fun j h7 h8 => ?_⟩
      · obtain ⟨ao', cap', hv', k1, k2, k3, k4⟩ := ho
        obtain ⟨rfl, _, rfl⟩ := (Value.slice.injEq .. ▸ hv')
        exact ⟨_, _, rfl, k1, k2, k3, .inr ⟨g, off, cur, rfl, Nat.le_refl _, hh, h5, h6⟩⟩
      · simp only [Option.some.injEq, Addr.mk.injEq, and_true] at e'
        omega
      · obtain rfl : j = g := by omega
        exact ⟨cur, hh⟩
  · exact ⟨K, K, ⟨ho.mono hK, hc, hv, fun h => by omega⟩, ⟨Nat.le_refl _, Nat.le_refl _, fun _ => rfl, fun h => by omega⟩, fun j h7 h8 => by omega⟩
theorem WFr.nr {B T K : Nat} {w : World} {ng : Bool} {ao : Option Addr} {cap : Nat} {rs : List Int} {z : Int} (h : WFr B T w ng ao cap rs z) (hK : K ≤ B) : ∃ p q, WFr p q w ng ao cap rs z ∧ Nr K B T p q ∧ Bl w p q := by
  obtain ⟨p, q, h1, h2, h3⟩ := h.fr.nr hK
  exact ⟨p, q, ⟨h1, h.sgn⟩, h2, h3⟩
theorem Bl.out {τ : BoxTy} {w : World} {g p q : Nat} {v : Value} (h : Bl w p q) (hτ : τ.T ≠ 67) (b : BoxV τ w g v) : ¬ (p ≤ g ∧ g < q) := by
  rintro ⟨h1, h2⟩
  obtain ⟨cur, hc⟩ := h g h1 h2
  obtain ⟨cs, _, b⟩ := b
  rw [b] at hc
  injection hc with hc
  injection hc with _ hc
  exact hτ hc
def InU (NN : Nat) : List (Nat × Nat) → Nat → Prop
  | [], j => NN ≤ j
  | i :: l, j => (i.1 ≤ j ∧ j < i.2) ∨ InU NN l j
theorem nin_nil {NN g : Nat} (h : g < NN) : ¬ InU NN [] g := fun e => by simp only [InU] at e; omega
theorem nin_cons {NN g p q : Nat} {l : List (Nat × Nat)} (h : ¬ (p ≤ g ∧ g < q)) (h' : ¬ InU NN l g) : ¬ InU NN ((p, q) :: l) g := fun e => e.elim h h'
def AptU (NN : Nat) (l : List (Nat × Nat)) (p q : Nat) : Prop := ∀ j, InU NN l j → j < p ∨ q ≤ j
theorem apt_nil {NN p q : Nat} (h : q ≤ NN) : AptU NN [] p q := fun j e => by simp only [InU] at e; omega
theorem apt_cons {NN p q p' q' : Nat} {l : List (Nat × Nat)} (h : q' ≤ p ∨ q ≤ p') (h' : AptU NN l p q) : AptU NN ((p', q') :: l) p q := fun j e => by
  rcases e with ⟨e1, e2⟩ | e
  · simp only at e1 e2
    omega
  · exact h' j e
def LowU (NN : Nat) (l : List (Nat × Nat)) (B : Nat) : Prop := ∀ j, InU NN l j → B ≤ j
theorem low_nil {NN B : Nat} (h : B ≤ NN) : LowU NN [] B := fun j e => by simp only [InU] at e; omega
theorem low_cons {NN B p q : Nat} {l : List (Nat × Nat)} (h : B ≤ p) (h' : LowU NN l B) : LowU NN ((p, q) :: l) B := fun j e => by
  rcases e with ⟨e1, e2⟩ | e
  · simp only at e1
    omega
  · exact h' j e
theorem growU1 {NN S p q : Nat} {l : List (Nat × Nat)} {bs bs' : List Nat} (hN : NN ≤ S) (h : ∀ j ∈ bs, InU NN l j) (hj : ∀ j, j ∈ bs' → j ∈ bs ∨ S ≤ j ∨ (p ≤ j ∧ j < q)) : ∀ j ∈ bs', InU NN ((p, q) :: l) j := by
  have far : ∀ l j, NN ≤ j → InU NN l j := by
    intro l j hj
    induction l with
    | nil => exact hj
    | cons i l ih => exact .inr ih
  intro j h1
  rcases hj j h1 with e | e | e
  · exact .inr (h j e)
  · exact .inr (far l j (by omega))
  · exact .inl e
theorem bsT_ne {τ : BoxTy} {w : World} {p Q n g : Nat} {bs : List Nat} {v : Value} (hτ : τ.T ≠ 33) (h : Bs w p Q bs n) (b : BoxV τ w g v) : g ≠ p := by
  obtain ⟨rv, lv, mv, _, hk⟩ := h
  obtain ⟨cs, _, b⟩ := b
  intro e
  subst e
  have := hk.here
  rw [b] at this
  injection this with this
  injection this with _ this
  exact hτ this
end Lm
end Go.Proofs.Ytpofkigboedliaa

namespace Go.Proofs.Ytpofkigboedliaa
namespace Lm
open Go Go.RowKit
theorem bk_out0 {w : World} {p q b Q n : Nat} {bs : List Nat} (h : Bl w p q) (k : Bs w b Q bs n) : b < p ∨ q ≤ b := by
  apply Classical.byContradiction
  intro hn
  obtain ⟨rv, lv, mv, _, hk⟩ := k
  obtain ⟨cur, hc⟩ := h b (by omega) (by omega)
  have := hk.here
  rw [hc] at this
  injection this with this
  injection this with _ this
  exact absurd this (by decide)
theorem sameR_sum : ∀ {es xs : List WE}, SameR es xs → sumW es = sumW xs
  | [], [], _ => rfl
  | e :: es, x :: xs, h => by
    simp only [SameR, List.map_cons, List.cons.injEq, WE.raw, Prod.mk.injEq] at h
    simp only [sumW, WE.z, h.1.1, h.1.2, sameR_sum (show SameR es xs from h.2)]
  | [], _ :: _, h => by simp [SameR] at h
  | _ :: _, [], h => by simp [SameR] at h
theorem lenW_zs {es : List WE} (h : ∀ e ∈ es, e.m = e.zs.length) : lenW es = es.length + ((es.map WE.raw).map fun p => p.2.length).sum := by
  induction es with
  | nil => rfl
  | cons e es ih =>
    have h1 := h e (by simp)
    have h2 := ih (fun x hx => h x (by simp [hx]))
    simp only [lenW, List.length_cons, List.map_cons, List.sum_cons, WE.raw] at h2 ⊢
    omega
theorem sameR_len {w w' : World} {v v' : Value} {es xs : List WE} (R : Rw w v es) (R' : Rw w' v' xs) (h : SameR es xs) : lenW es = lenW xs := by
  rw [lenW_zs (fun e he => (R.sl e he).parts.1), lenW_zs (fun e he => (R'.sl e he).parts.1), h, h.len]
section
variable {dst : Option Tmp} {ty : TypeId} {pos : String} {after : Array Edge} {guard : Option (Nat × Bool)} {a : Act} {w : World} {ats : Array TypeId} {i j : Nat} {v v' : Value} {es fs : List WE}
theorem frw1' {P : Program} {o : Oper} {z : Int} {L K : Nat} (hK : K ≤ w.heap.size) (hd : Does P o a.eval w fun v w' => Below w.heap.size w w' ∧ FrW w.heap.size z L v w') : Does P o a.eval w fun v w' => Below w.heap.size w w' ∧ FrW K z L v w' :=
  hd.mono fun _ _ ⟨hb, ng, ao, cap, rs, B, T, e', h, h1, h2⟩ => ⟨hb, ng, ao, cap, rs, B, T, e', h, Nat.le_trans hK h1, h2⟩
theorem has_wawake0 : Has Try.prog 5 := by unfold Has; kernel_rfl
theorem op_wawake0 : Does Try.prog { dst, op := .call { callee := .value (.func 5), args := #[], argTypes := ats }, type := ty, pos, after, guard } a.eval w fun v w' => Below w.heap.size w w' ∧ Eqs (.bool true) v w' := by
  refine does_call has_wawake0 #[] (by simp) ((wawake_any w).mono ?_)
  rintro e w' ⟨rfl, hb⟩
  exact ⟨_, rfl, hb, rfl⟩
theorem has_lenrow : Has Try.prog 6 := by unfold Has; kernel_rfl
theorem op_lenrow (h : a.eval (.tmp i) = v) (R : Rw w v es) (hl : lenW es ≤ 35184372088832) : Does Try.prog { dst, op := .call { callee := .value (.func 6), args := #[.tmp i], argTypes := ats }, type := ty, pos, after, guard } a.eval w fun v w' => Below w.heap.size w w' ∧ Eqs (.int .i64 (lenW es : Int)) v w' := by
  obtain ⟨ao, cap, hv, _⟩ := id R.cl
  subst hv
  refine does_call has_lenrow _ (by simp only [List.map_toArray, List.map_cons, List.map_nil, h]) ((lenrow_z w _ _ _ es R hl).mono ?_)
  rintro e w' ⟨rfl, hb⟩
  exact ⟨_, rfl, hb, rfl⟩
theorem has_wsum : Has Try.prog 8 := by unfold Has; kernel_rfl
theorem op_wsum (h : a.eval (.tmp i) = v) (R : Rw w v es) (hl : lenW es ≤ 100000) : Does Try.prog { dst, op := .call { callee := .value (.func 8), args := #[.tmp i], argTypes := ats }, type := ty, pos, after, guard } a.eval w fun v w' => Below w.heap.size w w' ∧ FrW w.heap.size (sumW es) (lenW es) v w' := by
  obtain ⟨ao, cap, hv, _⟩ := id R.cl
  subst hv
  refine does_call has_wsum _ (by simp only [List.map_toArray, List.map_cons, List.map_nil, h]) ((wsum_z w _ _ _ es R hl).mono ?_)
  rintro e w' ⟨v, rfl, hF, hb⟩
  exact ⟨_, rfl, hb, hF⟩
theorem has_rsum : Has Try.prog 10 := by unfold Has; kernel_rfl
theorem op_rsum (h : a.eval (.tmp i) = v) (R : Rw w v es) (hl : lenW es ≤ 100000) : Does Try.prog { dst, op := .call { callee := .value (.func 10), args := #[.tmp i], argTypes := ats }, type := ty, pos, after, guard } a.eval w fun v w' => Below w.heap.size w w' ∧ OutW (sumW es) (3 * lenW es) v w' := by
  obtain ⟨ao, cap, hv, _⟩ := id R.cl
  subst hv
  refine does_call has_rsum _ (by simp only [List.map_toArray, List.map_cons, List.map_nil, h]) ((rsum_z w _ _ _ es R hl).mono ?_)
  rintro e w' ⟨v, rfl, hF, hb⟩
  exact ⟨_, rfl, hb, hF⟩
theorem has_copyrow : Has Try.prog 7 := by unfold Has; kernel_rfl
theorem op_copyrow (h : a.eval (.tmp i) = v) (R : Rw w v es) (hl : lenW es ≤ 100000) : Does Try.prog { dst, op := .call { callee := .value (.func 7), args := #[.tmp i], argTypes := ats }, type := ty, pos, after, guard } a.eval w fun v w' => ∃ fs, RwO w.heap.size w' v fs ∧ SameR fs es ∧ Below w.heap.size w w' := by
  obtain ⟨ao, cap, hv, _⟩ := id R.cl
  subst hv
  refine does_call has_copyrow _ (by simp only [List.map_toArray, List.map_cons, List.map_nil, h]) ((copyrow_z w _ _ _ es R hl).mono ?_)
  rintro e w' ⟨v, fs, rfl, hF⟩
  exact ⟨_, rfl, fs, hF⟩
theorem has_samerow : Has Try.prog 11 := by unfold Has; kernel_rfl
theorem op_samerow (h : a.eval (.tmp i) = v) (h' : a.eval (.tmp j) = v') (R : Rw w v es) (R' : Rw w v' fs) (hS : SameR es fs) : Does Try.prog { dst, op := .call { callee := .value (.func 11), args := #[.tmp i, .tmp j], argTypes := ats }, type := ty, pos, after, guard } a.eval w fun v w' => Below w.heap.size w w' ∧ Eqs (.bool true) v w' := by
  obtain ⟨ao, cap, hv, _⟩ := id R.cl
  obtain ⟨ao', cap', hv', _⟩ := id R'.cl
  subst hv hv'
  refine does_call has_samerow _ (by simp only [List.map_toArray, List.map_cons, List.map_nil, h, h']) ((samerow_z w _ _ _ es R _ _ _ fs R' hS).mono ?_)
  rintro e w' ⟨rfl, hb⟩
  exact ⟨_, rfl, hb, rfl⟩
end
set_option maxRecDepth 20000 in
set_option maxHeartbeats 4000000 in
theorem wsum_law (w : World) (ax : Option Addr) (mx cx : Nat) (xs : List WE) (Rx0 : Rw w (.slice ax mx cx) xs) (hlx : lenW xs ≤ 1048576) :
    Calls Try.prog 3 #[.slice ax mx cx] w fun e w' => e = .returned (.bool true) ∧ Below w.heap.size w w' := by
  go_enter Try.func3, Try.ntmps3
  generalize hA : (Act.mk _ _) = aa
  have hn : aa.tmps.size = 48 := by rw [← hA]; rfl
  have hd : aa.defers = [] := by rw [← hA]
  have f0 : aa.eval (.tmp 0) = .slice ax mx cx := by rw [← hA]; rfl
  clear hA
  have HB : Below w.heap.size w w := Below.refl _ _
  refine wp_seq ?_
  refine region4 [some 2] [Eqs ((.bool false))] [] [] (by kernel_rfl) hn rfl (by kernel_rfl) (by kernel_rfl) (by kernel_rfl) (by kernel_rfl) (by kernel_rfl) (by kernel_rfl) ⟨Eqs.mono4 _, trivial⟩ ok_nil (IsOld.all (bx := []) trivial) (DisOld.all (bx := []) trivial) ?_ ?_
  · exact ⟨.norm 2 rfl rfl rfl (fun a_ w_ hn_ hBt hr hR hD hO hS => op_assign rfl),
      trivial⟩
  intro a1 w1 gs1 hn1 hd1 hBt hr hR hP hX hU
  replace hn := hn1; replace hd := hd1.trans hd
  replace f0 := (hR 0 rfl).trans f0
  have e2 : a1.eval (.tmp 2) = (.bool false) := hP 0 (by decide)
  have f2 := e2
  replace HB := HB.trans (hBt.below HB.size (UpOld.all (bx := []) trivial))
  clear hBt hr hR hP hX hU
  refine wp_seq ?_
  refine wp_seq ?_
  refine region4 [some 7, some 8] [Eqs (.bool true), Eqs (.bool false)] [] [] (by kernel_rfl) hn rfl (by kernel_rfl) (by kernel_rfl) (by kernel_rfl) (by kernel_rfl) (by kernel_rfl) (by kernel_rfl) ⟨Eqs.mono4 _, Eqs.mono4 _, trivial⟩ ok_nil (IsOld.all (bx := []) trivial) (DisOld.all (bx := []) trivial) ?_ ?_
  · exact ⟨.norm 7 rfl rfl rfl (fun a_ w_ hn_ hBt hr hR hD hO hS => op_wawake0),
      .norm 8 rfl rfl rfl (fun a_ w_ hn_ hBt hr hR hD hO hS => op_not (show a_.eval (.tmp 7) = .bool true from hD 0 rfl)),
      trivial⟩
  intro a2 w2 gs2 hn2 hd2 hBt hr hR hP hX hU
  replace hn := hn2; replace hd := hd2.trans hd
  replace f0 := (hR 0 rfl).trans f0
  replace f2 := (hR 2 rfl).trans f2
  have e8 : a2.eval (.tmp 8) = .bool false := hP 1 (by decide)
  have f8 := e8
  replace HB := HB.trans (hBt.below HB.size (UpOld.all (bx := []) trivial))
  clear hBt hr hR hP hX hU
  refine wp_cond_false f8 ?_
  refine wp_skip ?_
  refine wp_seq ?_
  refine wp_seq ?_
  refine region4 [some 9, some 10, some 11] [Eqs (.slice ax mx cx), Eqs (.int .i64 (lenW xs : Int)), Eqs (.bool (decide (1500 < (lenW xs : Int))))] [] [] (by kernel_rfl) hn rfl (by kernel_rfl) (by kernel_rfl) (by kernel_rfl) (by kernel_rfl) (by kernel_rfl) (by kernel_rfl) ⟨Eqs.mono4 _, Eqs.mono4 _, Eqs.mono4 _, trivial⟩ ok_nil (IsOld.all (bx := []) trivial) (DisOld.all (bx := []) trivial) ?_ ?_
  · exact ⟨.norm 9 rfl rfl rfl (fun a_ w_ hn_ hBt hr hR hD hO hS => op_mv ((hR 0 rfl).trans f0)),
      .norm 10 rfl rfl rfl (fun a_ w_ hn_ hBt hr hR hD hO hS => op_lenrow (show a_.eval (.tmp 9) = .slice ax mx cx from hD 0 rfl) (Rx0.below (HB.trans (hBt.below HB.size (UpOld.all (bx := []) trivial)))) (by omega)),
      .norm 11 rfl rfl rfl (fun a_ w_ hn_ hBt hr hR hD hO hS => op_gtrk (show a_.eval (.tmp 10) = .int .i64 (lenW xs : Int) from hD 1 rfl)),
      trivial⟩
  intro a3 w3 gs3 hn3 hd3 hBt hr hR hP hX hU
  replace hn := hn3; replace hd := hd3.trans hd
  replace f0 := (hR 0 rfl).trans f0
  replace f2 := (hR 2 rfl).trans f2
  have e11 : a3.eval (.tmp 11) = .bool (decide (1500 < (lenW xs : Int))) := hP 2 (by decide)
  have f11 := e11
  replace HB := HB.trans (hBt.below HB.size (UpOld.all (bx := []) trivial))
  clear hBt hr hR hP hX hU
  refine wp_cond_split f11 (fun hc11 => ?_) (fun hc11 => ?_)
  · skip
    refine wp_seq ?_
    refine region4 [some 2] [Eqs ((.bool true))] [] [] (by kernel_rfl) hn rfl (by kernel_rfl) (by kernel_rfl) (by kernel_rfl) (by kernel_rfl) (by kernel_rfl) (by kernel_rfl) ⟨Eqs.mono4 _, trivial⟩ ok_nil (IsOld.all (bx := []) trivial) (DisOld.all (bx := []) trivial) ?_ ?_
    · exact ⟨.norm 2 rfl rfl rfl (fun a_ w_ hn_ hBt hr hR hD hO hS => op_assign rfl),
        trivial⟩
    intro a4 w4 gs4 hn4 hd4 hBt hr hR hP hX hU
    replace hn := hn4; replace hd := hd4.trans hd
    replace f0 := (hR 0 rfl).trans f0
    have e2 : a4.eval (.tmp 2) = (.bool true) := hP 0 (by decide)
    have f2 := e2
    replace HB := HB.trans (hBt.below HB.size (UpOld.all (bx := []) trivial))
    clear hBt hr hR hP hX hU
    refine wp_ret ?_
    repeat (first | refine then_ret ?_ | refine scope_ret ?_ | refine block_ret ?_)
    exact bodyPost_ret (v := .bool true) (res_t rfl f2) hd ⟨rfl, HB⟩
  · skip
    have hlen := of_decide_eq_false hc11
    have hL15 : lenW xs ≤ 1500 := by omega
    refine wp_skip ?_
    refine wp_seq ?_
    refine wp_of_good (by kernel_rfl) (by kernel_rfl) (fun w_0 hb_0 => ?_)
    replace HB := HB.trans (hb_0.mono HB.size); clear hb_0
    refine good6 0 1 (some 1) [some 12, some 13, some 3] [Eqs (.slice ax mx cx), (fun _ _ => True), (fun _ _ => True)] [] [] [] [] [] (by kernel_rfl) hn rfl (by kernel_rfl) (by kernel_rfl) (by kernel_rfl) (by kernel_rfl) (by kernel_rfl) (by kernel_rfl) (by kernel_rfl) (by kernel_rfl) (by kernel_rfl) (by decide) ⟨Eqs.mono5 _, True.mono5, True.mono5, trivial⟩ trivial xok_nil ok_nil (IsOld.all (bx := []) trivial) (DisOld.all (bx := []) trivial) trivial ?_ ?_ ?_
    · exact ⟨.inr (.norm 12 rfl rfl (nxt rfl) rfl (fun a_ w_ hn_ hBt hr hR hD hO hS => d6 rfl (op_mv ((hR 0 rfl).trans f0)))),
        .inl rfl,
        .inl rfl,
        trivial⟩
    rotate_left
    · exact fun h => by cases h
    intro t_ o_ ht_ ho_ a5 w5 gs5 B5 T5 F_
    obtain rfl := Option.some.inj ht_; obtain rfl := Option.some.inj ho_; clear ht_ ho_
    obtain ⟨hn5, hd5, hBt, hr, hR, hP, hTs, hLi, hX, hU, hRel, hSl⟩ := F_
    replace hn := hn5; replace hd := hd5.trans hd
    replace f0 := (hR 0 rfl).trans f0
    replace f2 := (hR 2 rfl).trans f2
    have e12 : a5.eval (.tmp 12) = .slice ax mx cx := hP 0 (by decide)
    have f12 := e12
    replace HB := HB.trans (hBt.below HB.size (UpOld.all (bx := []) trivial) (UpX.all (bx := []) trivial))
    clear hBt hr hR hP hTs hLi hX hU hRel hSl
    refine ⟨trivial, (op_copyrow f12 (Rx0.below HB) (by omega)).mono ?_⟩
    rintro vR w6 ⟨es, RO, hSR, hbN⟩
    replace HB := HB.trans (hbN.mono HB.size); clear hbN
    have hLe : lenW es = lenW xs := sameR_len RO.rw Rx0 hSR; have hSum : sumW es = sumW xs := sameR_sum hSR
    change Good _ _ _ _ _ (Act.put a5 (some 13) (vR)) _
    have q_ : 13 < a5.tmps.size := by rw [hn]; decide
    generalize hA_ : Act.put a5 (some 13) (vR) = a7
    replace hn : a7.tmps.size = 48 := by rw [← hA_, put_tmps]; simp [hn]
    replace hd : a7.defers = [] := by rw [← hA_]; exact hd
    replace f0 : a7.eval (.tmp 0) = .slice ax mx cx := by rw [← hA_]; exact (eval_put_ne (by decide)).trans f0
    replace f2 : a7.eval (.tmp 2) = (.bool false) := by rw [← hA_]; exact (eval_put_ne (by decide)).trans f2
    replace f12 : a7.eval (.tmp 12) = .slice ax mx cx := by rw [← hA_]; exact (eval_put_ne (by decide)).trans f12
    have f13 : a7.eval (.tmp 13) = vR := by rw [← hA_]; exact eval_put_same q_
    clear q_
    clear hA_
    refine good6 2 3 none [some 12, some 13, some 3] [Eqs (.slice ax mx cx), Eqs (vR), Eqs (vR)] [] [] [] [] [] (by kernel_rfl) hn rfl (by kernel_rfl) (by kernel_rfl) (by kernel_rfl) (by kernel_rfl) (by kernel_rfl) (by kernel_rfl) (by kernel_rfl) (by kernel_rfl) (by kernel_rfl) (by decide) ⟨Eqs.mono5 _, Eqs.mono5 _, Eqs.mono5 _, trivial⟩ trivial xok_nil ok_nil (IsOld.all (bx := []) trivial) (DisOld.all (bx := []) trivial) ⟨⟨trivial, f12⟩, f13⟩ ?_ ?_ ?_
    · exact ⟨.inl rfl,
        .inl rfl,
        .inr (.norm 3 rfl rfl (nxt rfl) rfl (fun a_ w_ hn_ hBt hr hR hD hO hS => d6 rfl (op_assign (show a_.eval (.tmp 13) = vR from hD 1 rfl)))),
        trivial⟩
    · exact fun _ _ h => by cases h
    intro _ a8 w8 gs8 B8 T8 F_
    obtain ⟨hn8, hd8, hBt, hr, hR, hP, hTs, hLi, hX, hU, hRel, hSl⟩ := F_
    replace hn := hn8; replace hd := hd8.trans hd
    replace f0 := (hR 0 rfl).trans f0
    replace f2 := (hR 2 rfl).trans f2
    have e3 : a8.eval (.tmp 3) = vR := hP 2 (by decide)
    have f3 := e3
    have hBl_ := hBt.below (Nat.le_refl _) (UpOld.all (bx := []) trivial) (UpX.all (bx := []) trivial)
    replace RO := RO.below hBl_
    replace HB := HB.trans (hBt.below HB.size (UpOld.all (bx := []) trivial) (UpX.all (bx := []) trivial))
    clear hBt hr hR hP hTs hLi hX hU hRel hSl
    refine wp_seq ?_
    have hz6_ := HB.size
    refine region4 [some 14, some 15, some 4, none] [Eqs (vR), FrW (w8.heap.size) (sumW es) (lenW es), (fun _ _ => True), (fun _ _ => True)] [⟨W2, some 2, 0, 4, .agg #[.bool false, .slice none 0 0], some (3, 15, 1), []⟩] [] (by kernel_rfl) hn rfl (by kernel_rfl) (by kernel_rfl) (by kernel_rfl) (by kernel_rfl) (by kernel_rfl) (by kernel_rfl) ⟨Eqs.mono4 _, FrW.mono4 _ _ _, True.mono4, True.mono4, trivial⟩ (ok_cons W2ok ok_nil) (IsOld.all (bx := [⟨W2, some 2, 0, 4, .agg #[.bool false, .slice none 0 0], some (3, 15, 1), []⟩]) ⟨someNe, trivial⟩) (DisOld.all (bx := [⟨W2, some 2, 0, 4, .agg #[.bool false, .slice none 0 0], some (3, 15, 1), []⟩]) ⟨someNe, trivial⟩) ?_ ?_
    · exact ⟨.norm 14 rfl rfl rfl (fun a_ w_ hn_ hBt hr hR hD hO hS => op_mv ((hR 3 rfl).trans f3)),
        .norm 15 rfl rfl rfl (fun a_ w_ hn_ hBt hr hR hD hO hS => frw1' hr.size (op_wsum (show a_.eval (.tmp 14) = vR from hD 0 rfl) (RO.below (hBt.below (Nat.le_refl _) (UpOld.all (bx := [⟨W2, some 2, 0, 4, .agg #[.bool false, .slice none 0 0], some (3, 15, 1), []⟩]) ⟨someNe, trivial⟩))).rw (by omega))),
        .alloc 0 _ rfl rfl (.inl ⟨rfl, rfl⟩) rfl rfl rfl rfl rfl,
        .store 0 _ _ _ rfl rfl rfl rfl rfl rfl rfl (fun ia h => by cases h; rfl) rfl rfl rfl FrW.cs,
        trivial⟩
    intro a9 w9 gs9 hn9 hd9 hBt hr hR hP hX hU
    replace hn := hn9; replace hd := hd9.trans hd
    obtain ⟨n_10, a_10, c_10, r_10, B10, T10, e15, F10, fb10, ft10, l10⟩ : FrW (w8.heap.size) (sumW es) (lenW es) (a9.eval (.tmp 15)) w9 := hP 1 (by decide)
    have G10 := F10.wh; have A10 := G10.ag
    have HT10 : SzGe T10 w9 := ft10
    have b4 : BoxV W2 w9 (gs9 0) (.agg #[.bool n_10, .slice a_10 r_10.length c_10]) := boxv_of (hX 0 _ rfl).2.2.2 e15
    have f4 := (hX 0 _ rfl).1
    have u4 : w.heap.size ≤ gs9 0 := Nat.le_trans HB.size ((hX 0 _ rfl).2.2.1 (by simp))
    replace f0 := (hR 0 rfl).trans f0
    replace f2 := (hR 2 rfl).trans f2
    replace f3 := (hR 3 rfl).trans f3
    replace HB := HB.trans (hBt.below HB.size (UpOld.all (bx := [⟨W2, some 2, 0, 4, .agg #[.bool false, .slice none 0 0], some (3, 15, 1), []⟩]) ⟨someNe, trivial⟩))
    have hBl_ := hBt.below (Nat.le_refl _) (UpOld.all (bx := [⟨W2, some 2, 0, 4, .agg #[.bool false, .slice none 0 0], some (3, 15, 1), []⟩]) ⟨someNe, trivial⟩)
    replace RO := RO.below hBl_
    clear hBt hr hR hP hX hU
    refine wp_seq ?_
    have hz7_ := HB.size
    refine region4 [some 16, some 17, some 5, none] [Eqs (vR), FrW (w9.heap.size) (sumW es) (lenW es), (fun _ _ => True), (fun _ _ => True)] [⟨W2, some 2, 0, 5, .agg #[.bool false, .slice none 0 0], some (3, 17, 1), []⟩] [] (by kernel_rfl) hn rfl (by kernel_rfl) (by kernel_rfl) (by kernel_rfl) (by kernel_rfl) (by kernel_rfl) (by kernel_rfl) ⟨Eqs.mono4 _, FrW.mono4 _ _ _, True.mono4, True.mono4, trivial⟩ (ok_cons W2ok ok_nil) (IsOld.all (bx := [⟨W2, some 2, 0, 5, .agg #[.bool false, .slice none 0 0], some (3, 17, 1), []⟩]) ⟨someNe, trivial⟩) (DisOld.all (bx := [⟨W2, some 2, 0, 5, .agg #[.bool false, .slice none 0 0], some (3, 17, 1), []⟩]) ⟨someNe, trivial⟩) ?_ ?_
    · exact ⟨.norm 16 rfl rfl rfl (fun a_ w_ hn_ hBt hr hR hD hO hS => op_mv ((hR 3 rfl).trans f3)),
        .norm 17 rfl rfl rfl (fun a_ w_ hn_ hBt hr hR hD hO hS => frw1' hr.size (op_wsum (show a_.eval (.tmp 16) = vR from hD 0 rfl) (RO.below (hBt.below (Nat.le_refl _) (UpOld.all (bx := [⟨W2, some 2, 0, 5, .agg #[.bool false, .slice none 0 0], some (3, 17, 1), []⟩]) ⟨someNe, trivial⟩))).rw (by omega))),
        .alloc 0 _ rfl rfl (.inl ⟨rfl, rfl⟩) rfl rfl rfl rfl rfl,
        .store 0 _ _ _ rfl rfl rfl rfl rfl rfl rfl (fun ia h => by cases h; rfl) rfl rfl rfl FrW.cs,
        trivial⟩
    intro a11 w11 gs11 hn11 hd11 hBt hr hR hP hX hU
    replace hn := hn11; replace hd := hd11.trans hd
    replace b4 := b4.keep hBt ⟨someNe, trivial⟩
    obtain ⟨n_12, a_12, c_12, r_12, B12, T12, e17, F12, fb12, ft12, l12⟩ : FrW (w9.heap.size) (sumW es) (lenW es) (a11.eval (.tmp 17)) w11 := hP 1 (by decide)
    have G12 := F12.wh; have A12 := G12.ag
    have lq12HT10 := HT10.le
    have HT12 : SzGe T12 w11 := ft12
    have b5 : BoxV W2 w11 (gs11 0) (.agg #[.bool n_12, .slice a_12 r_12.length c_12]) := boxv_of (hX 0 _ rfl).2.2.2 e17
    have f5 := (hX 0 _ rfl).1
    have u5 : w.heap.size ≤ gs11 0 := Nat.le_trans HB.size ((hX 0 _ rfl).2.2.1 (by simp))
    replace f0 := (hR 0 rfl).trans f0
    replace f2 := (hR 2 rfl).trans f2
    replace f3 := (hR 3 rfl).trans f3
    replace f4 := (hR 4 rfl).trans f4
    replace F10 := F10.rl hr
    replace G10 := G10.rl hr
    replace A10 := A10.rl hr
    replace HT10 := HT10.rl hr
    replace HB := HB.trans (hBt.below HB.size (UpOld.all (bx := [⟨W2, some 2, 0, 5, .agg #[.bool false, .slice none 0 0], some (3, 17, 1), []⟩]) ⟨someNe, trivial⟩))
    have hBl_ := hBt.below (Nat.le_refl _) (UpOld.all (bx := [⟨W2, some 2, 0, 5, .agg #[.bool false, .slice none 0 0], some (3, 17, 1), []⟩]) ⟨someNe, trivial⟩)
    replace RO := RO.below hBl_
    clear hBt hr hR hP hX hU
    refine wp_seq ?_
    refine wp_of_good (by kernel_rfl) (by kernel_rfl) (fun w_0 hb_0 => ?_)
    replace b4 := b4.below hb_0
    replace b5 := b5.below hb_0
    replace F10 := F10.below hb_0
    replace G10 := G10.below hb_0
    replace A10 := A10.below hb_0
    replace HT10 := HT10.below hb_0
    replace F12 := F12.below hb_0
    replace G12 := G12.below hb_0
    replace A12 := A12.below hb_0
    replace HT12 := HT12.below hb_0
    replace RO := RO.below hb_0
    replace HB := HB.trans (hb_0.mono HB.size); clear hb_0
    refine good6 0 1 (some 1) [some 18, some 19, some 6] [Eqs (.agg #[.slice none 0 0, .slice none 0 0]), (fun _ _ => True), (fun _ _ => True)] [] [] [] [] [] (by kernel_rfl) hn rfl (by kernel_rfl) (by kernel_rfl) (by kernel_rfl) (by kernel_rfl) (by kernel_rfl) (by kernel_rfl) (by kernel_rfl) (by kernel_rfl) (by kernel_rfl) (by decide) ⟨Eqs.mono5 _, True.mono5, True.mono5, trivial⟩ trivial xok_nil ok_nil (IsOld.all (bx := []) trivial) (DisOld.all (bx := []) trivial) trivial ?_ ?_ ?_
    · exact ⟨.inr (.norm 18 rfl rfl (nxt rfl) rfl (fun a_ w_ hn_ hBt hr hR hD hO hS => d6 rfl op_bBook)),
        .inl rfl,
        .inl rfl,
        trivial⟩
    rotate_left
    · exact fun h => by cases h
    intro t_ o_ ht_ ho_ a13 w13 gs13 B13 T13 F_
    obtain rfl := Option.some.inj ht_; obtain rfl := Option.some.inj ho_; clear ht_ ho_
    obtain ⟨hn13, hd13, hBt, hr, hR, hP, hTs, hLi, hX, hU, hRel, hSl⟩ := F_
    replace hn := hn13; replace hd := hd13.trans hd
    have lq13HT10 := HT10.le
    have lq13HT12 := HT12.le
    replace b4 := b4.keep5 hBt trivial trivial
    replace b5 := b5.keep5 hBt trivial trivial
    replace f0 := (hR 0 rfl).trans f0
    replace f2 := (hR 2 rfl).trans f2
    replace f3 := (hR 3 rfl).trans f3
    replace f4 := (hR 4 rfl).trans f4
    replace f5 := (hR 5 rfl).trans f5
    have e18 : a13.eval (.tmp 18) = .agg #[.slice none 0 0, .slice none 0 0] := hP 0 (by decide)
    have f18 := e18
    have hBl_ := hBt.below (Nat.le_refl _) (UpOld.all (bx := []) trivial) (UpX.all (bx := []) trivial)
    replace F10 := F10.ru hr
    replace G10 := G10.ru hr
    replace A10 := A10.ru hr
    replace HT10 := HT10.ru hr
    replace F12 := F12.ru hr
    replace G12 := G12.ru hr
    replace A12 := A12.ru hr
    replace HT12 := HT12.ru hr
    replace RO := RO.below hBl_
    replace HB := HB.trans (hBt.below HB.size (UpOld.all (bx := []) trivial) (UpX.all (bx := []) trivial))
    clear hBt hr hR hP hTs hLi hX hU hRel hSl
    refine ⟨trivial, (op_bookn (Q := w.heap.size) f18).mono ?_⟩
    rintro v_ w14 ⟨rfl, BK, hbN⟩
    obtain ⟨pB, hpB⟩ : ∃ g, g = w13.heap.size := ⟨_, rfl⟩
    rw [← hpB] at BK ⊢
    have upB : w.heap.size ≤ pB := by rw [hpB]; exact HB.size
    replace b4 := b4.below hbN
    replace b5 := b5.below hbN
    replace F10 := F10.below hbN
    replace G10 := G10.below hbN
    replace A10 := A10.below hbN
    replace HT10 := HT10.below hbN
    replace F12 := F12.below hbN
    replace G12 := G12.below hbN
    replace A12 := A12.below hbN
    replace HT12 := HT12.below hbN
    replace RO := RO.below hbN
    replace HB := HB.trans (hbN.mono HB.size); clear hbN
    change Good _ _ _ _ _ (Act.put a13 (some 19) (.pointer (some ⟨pB, 0, none⟩))) _
    have q_ : 19 < a13.tmps.size := by rw [hn]; decide
    generalize hA_ : Act.put a13 (some 19) (.pointer (some ⟨pB, 0, none⟩)) = a15
    replace hn : a15.tmps.size = 48 := by rw [← hA_, put_tmps]; simp [hn]
    replace hd : a15.defers = [] := by rw [← hA_]; exact hd
    replace f0 : a15.eval (.tmp 0) = .slice ax mx cx := by rw [← hA_]; exact (eval_put_ne (by decide)).trans f0
    replace f2 : a15.eval (.tmp 2) = (.bool false) := by rw [← hA_]; exact (eval_put_ne (by decide)).trans f2
    replace f3 : a15.eval (.tmp 3) = vR := by rw [← hA_]; exact (eval_put_ne (by decide)).trans f3
    replace f4 : a15.eval (.tmp 4) = .pointer (some ⟨gs9 0, 0, none⟩) := by rw [← hA_]; exact (eval_put_ne (by decide)).trans f4
    replace f5 : a15.eval (.tmp 5) = .pointer (some ⟨gs11 0, 0, none⟩) := by rw [← hA_]; exact (eval_put_ne (by decide)).trans f5
    replace f18 : a15.eval (.tmp 18) = .agg #[.slice none 0 0, .slice none 0 0] := by rw [← hA_]; exact (eval_put_ne (by decide)).trans f18
    have f19 : a15.eval (.tmp 19) = .pointer (some ⟨pB, 0, none⟩) := by rw [← hA_]; exact eval_put_same q_
    clear q_
    clear hA_
    refine good6 2 3 none [some 18, some 19, some 6] [Eqs (.agg #[.slice none 0 0, .slice none 0 0]), Eqs (.pointer (some ⟨pB, 0, none⟩)), Eqs (.pointer (some ⟨pB, 0, none⟩))] [] [] [] [] [] (by kernel_rfl) hn rfl (by kernel_rfl) (by kernel_rfl) (by kernel_rfl) (by kernel_rfl) (by kernel_rfl) (by kernel_rfl) (by kernel_rfl) (by kernel_rfl) (by kernel_rfl) (by decide) ⟨Eqs.mono5 _, Eqs.mono5 _, Eqs.mono5 _, trivial⟩ trivial xok_nil ok_nil (IsOld.all (bx := []) trivial) (DisOld.all (bx := []) trivial) ⟨⟨trivial, f18⟩, f19⟩ ?_ ?_ ?_
    · exact ⟨.inl rfl,
        .inl rfl,
        .inr (.norm 6 rfl rfl (nxt rfl) rfl (fun a_ w_ hn_ hBt hr hR hD hO hS => d6 rfl (op_assign (show a_.eval (.tmp 19) = .pointer (some ⟨pB, 0, none⟩) from hD 1 rfl)))),
        trivial⟩
    · exact fun _ _ h => by cases h
    intro _ a16 w16 gs16 B16 T16 F_
    obtain ⟨hn16, hd16, hBt, hr, hR, hP, hTs, hLi, hX, hU, hRel, hSl⟩ := F_
    replace hn := hn16; replace hd := hd16.trans hd
    have lq16HT10 := HT10.le
    have lq16HT12 := HT12.le
    have lq16BK := BK.lt.2
    replace b4 := b4.keep5 hBt trivial trivial
    replace b5 := b5.keep5 hBt trivial trivial
    replace f0 := (hR 0 rfl).trans f0
    replace f2 := (hR 2 rfl).trans f2
    replace f3 := (hR 3 rfl).trans f3
    replace f4 := (hR 4 rfl).trans f4
    replace f5 := (hR 5 rfl).trans f5
    have e6 : a16.eval (.tmp 6) = .pointer (some ⟨pB, 0, none⟩) := hP 2 (by decide)
    have f6 := e6
    have hBl_ := hBt.below (Nat.le_refl _) (UpOld.all (bx := []) trivial) (UpX.all (bx := []) trivial)
    replace F10 := F10.ru hr
    replace G10 := G10.ru hr
    replace A10 := A10.ru hr
    replace HT10 := HT10.ru hr
    replace F12 := F12.ru hr
    replace G12 := G12.ru hr
    replace A12 := A12.ru hr
    replace HT12 := HT12.ru hr
    replace RO := RO.below hBl_
    replace BK := BK.below hBl_
    replace HB := HB.trans (hBt.below HB.size (UpOld.all (bx := []) trivial) (UpX.all (bx := []) trivial))
    clear hBt hr hR hP hTs hLi hX hU hRel hSl
    refine wp_seq ?_
    obtain ⟨NN, hNN⟩ : ∃ k, k = w16.heap.size := ⟨_, rfl⟩
    have HN : SzGe NN w16 := Nat.le_of_eq hNN
    have hWN : w.heap.size ≤ NN := by rw [hNN]; exact HB.size
    have hu10_ : T10 ≤ NN := by rw [hNN]; exact HT10.le
    have hu12_ : T12 ≤ NN := by rw [hNN]; exact HT12.le
    obtain ⟨p10, q10, Fn_, Nr10, Bl10⟩ := WFr.nr (K := w.heap.size) F10 (by omega); replace F10 := Fn_; clear Fn_
    have hq10 : q10 ≤ NN := Nr10.top hWN (by omega)
    have hb10 := hide (bk_out0 Bl10 BK)
    obtain ⟨p12, q12, Fn_, Nr12, Bl12⟩ := WFr.nr (K := w.heap.size) F12 (by omega); replace F12 := Fn_; clear Fn_
    have hq12 : q12 ≤ NN := Nr12.top hWN (by omega)
    have hb12 := hide (bk_out0 Bl12 BK)
    have ap10_12 := hide (Nr10.apart Nr12 (by omega))
    have lo10 := Nr10.lo
    have nb5_10 := hide (Bl10.out (by decide) b5)
    clear Bl10 Nr10
    have lo12 := Nr12.lo
    have nb5_12 := hide (Bl12.out (by decide) b5)
    clear Bl12 Nr12
    have kb5 : (gs11 0) < NN := by rw [hNN]; exact b5.lt
    have hbs : ∀ j ∈ ([] : List Nat), InU NN [] j := fun j hj => by cases hj
    refine wp_of_good (by kernel_rfl) (by kernel_rfl) (fun w_0 hb_0 => ?_)
    replace b4 := b4.below hb_0
    replace b5 := b5.below hb_0
    replace F10 := F10.below hb_0
    replace G10 := G10.below hb_0
    replace A10 := A10.below hb_0
    replace HT10 := HT10.below hb_0
    replace F12 := F12.below hb_0
    replace G12 := G12.below hb_0
    replace A12 := A12.below hb_0
    replace HT12 := HT12.below hb_0
    replace RO := RO.below hb_0
    replace BK := BK.below hb_0
    replace HN := HN.below hb_0
    replace HB := HB.trans (hb_0.mono HB.size); clear hb_0
    refine good6 0 17 (some 17) [some 20, some 21, some 22, some 23, some 24, some 25, some 26, some 27, some 28, some 29, some 30, some 31, some 32, some 33, some 34, some 35, some 36, some 37, some 38, some 39, some 40, some 41, some 42, some 43, some 44, some 45, some 46, some 47, some 2] [Eqs (.agg #[.bool n_10, .slice a_10 r_10.length c_10]), Eqs (.slice ax mx cx), OutW (sumW xs) (3 * lenW xs), Eqs (.bool true), Eqs (.bool true), Eqs (.agg #[.bool n_12, .slice a_12 r_12.length c_12]), Eqs (.agg #[.bool n_10, .slice a_10 r_10.length c_10]), Eqs (.bool true), Eqs (.bool true), Eqs (.bool true), Eqs (vR), Eqs (.slice ax mx cx), Eqs (.bool true), Eqs (.bool true), Eqs (.bool true), Eqs (.pointer (some ⟨pB, 0, none⟩)), Eqs (.agg #[.bool n_10, .slice a_10 r_10.length c_10]), (fun _ _ => True), (fun _ _ => True), (fun _ _ => True), (fun _ _ => True), (fun _ _ => True), (fun _ _ => True), (fun _ _ => True), (fun _ _ => True), (fun _ _ => True), (fun _ _ => True), (fun _ _ => True), (fun _ _ => True)] [] [] [] [] [] (by kernel_rfl) hn rfl (by kernel_rfl) (by kernel_rfl) (by kernel_rfl) (by kernel_rfl) (by kernel_rfl) (by kernel_rfl) (by kernel_rfl) (by kernel_rfl) (by kernel_rfl) (by decide) ⟨Eqs.mono5 _, Eqs.mono5 _, OutW.mono5 _ _, Eqs.mono5 _, Eqs.mono5 _, Eqs.mono5 _, Eqs.mono5 _, Eqs.mono5 _, Eqs.mono5 _, Eqs.mono5 _, Eqs.mono5 _, Eqs.mono5 _, Eqs.mono5 _, Eqs.mono5 _, Eqs.mono5 _, Eqs.mono5 _, Eqs.mono5 _, True.mono5, True.mono5, True.mono5, True.mono5, True.mono5, True.mono5, True.mono5, True.mono5, True.mono5, True.mono5, True.mono5, True.mono5, trivial⟩ trivial xok_nil ok_nil (IsOld.all (bx := []) trivial) (DisOld.all (bx := []) trivial) trivial ?_ ?_ ?_
    · exact ⟨.inr (.norm 20 rfl rfl (nxt rfl) rfl (fun a_ w_ hn_ hBt hr hR hD hO hS => d6 rfl (op_loadv W2ok ((hR 4 rfl).trans f4) (b4.keep5 hBt trivial trivial)))),
        .inr (.norm 21 rfl rfl (nxt rfl) rfl (fun a_ w_ hn_ hBt hr hR hD hO hS => d6 rfl (op_mv ((hR 0 rfl).trans f0)))),
        .inr (.norm 22 rfl rfl (nxt rfl) rfl (fun a_ w_ hn_ hBt hr hR hD hO hS => d6 rfl (op_rsum (show a_.eval (.tmp 21) = .slice ax mx cx from hD 1 rfl) (Rx0.below (HB.trans (hBt.below HB.size (UpOld.all (bx := []) trivial) (UpX.all (bx := []) trivial)))) (by omega)))),
        .inr (.norm 23 rfl rfl (nxt rfl) rfl (fun a_ w_ hn_ hBt hr hR hD hO hS => d6 rfl (op_same (outw_eq (show a_.eval (.tmp 20) = .agg #[.bool n_10, .slice a_10 r_10.length c_10] from hD 0 rfl) (G10.ru hr) l10) (show OutW (sumW xs) (3 * lenW xs) (a_.eval (.tmp 22)) w_ from hD 2 rfl) hSum))),
        .inr (.norm 24 rfl rfl (nxt rfl) rfl (fun a_ w_ hn_ hBt hr hR hD hO hS => d6 rfl (op_mv (show a_.eval (.tmp 23) = .bool true from hD 3 rfl)))),
        .inr (.norm 25 rfl rfl (nxt rfl) rfl (fun a_ w_ hn_ hBt hr hR hD hO hS => ⟨⟨_, rfl⟩, fun _ => d6 rfl (op_loadv W2ok ((hR 5 rfl).trans f5) (b5.keep5 hBt trivial trivial)), fun hne => absurd (hD 4 rfl) hne⟩)),
        .inr (.norm 26 rfl rfl (nxt rfl) rfl (fun a_ w_ hn_ hBt hr hR hD hO hS => ⟨⟨_, rfl⟩, fun _ => d6 rfl (op_loadv W2ok ((hR 4 rfl).trans f4) (b4.keep5 hBt trivial trivial)), fun hne => absurd (hD 4 rfl) hne⟩)),
        .inr (.norm 27 rfl rfl (nxt rfl) rfl (fun a_ w_ hn_ hBt hr hR hD hO hS => ⟨⟨_, rfl⟩, fun _ => d6 rfl (op_same (outw_eq (show a_.eval (.tmp 25) = .agg #[.bool n_12, .slice a_12 r_12.length c_12] from hD 5 rfl) (G12.ru hr) l12) (outw_eq (show a_.eval (.tmp 26) = .agg #[.bool n_10, .slice a_10 r_10.length c_10] from hD 6 rfl) (G10.ru hr) l10) rfl), fun hne => absurd (hD 4 rfl) hne⟩)),
        .inr (.norm 28 rfl rfl (nxt rfl) rfl (fun a_ w_ hn_ hBt hr hR hD hO hS => d6 rfl (op_pickb (show a_.eval (.tmp 24) = .bool true from hD 4 rfl) (show a_.eval (.tmp 27) = .bool true from hD 7 rfl)))),
        .inr (.norm 29 rfl rfl (nxt rfl) rfl (fun a_ w_ hn_ hBt hr hR hD hO hS => d6 rfl (op_mv (show a_.eval (.tmp 28) = .bool true from hD 8 rfl)))),
        .inr (.norm 30 rfl rfl (nxt rfl) rfl (fun a_ w_ hn_ hBt hr hR hD hO hS => ⟨⟨_, rfl⟩, fun _ => d6 rfl (op_mv ((hR 3 rfl).trans f3)), fun hne => absurd (hD 9 rfl) hne⟩)),
        .inr (.norm 31 rfl rfl (nxt rfl) rfl (fun a_ w_ hn_ hBt hr hR hD hO hS => ⟨⟨_, rfl⟩, fun _ => d6 rfl (op_mv ((hR 0 rfl).trans f0)), fun hne => absurd (hD 9 rfl) hne⟩)),
        .inr (.norm 32 rfl rfl (nxt rfl) rfl (fun a_ w_ hn_ hBt hr hR hD hO hS => ⟨⟨_, rfl⟩, fun _ => d6 rfl (op_samerow (show a_.eval (.tmp 30) = vR from hD 10 rfl) (show a_.eval (.tmp 31) = .slice ax mx cx from hD 11 rfl) (RO.below (hBt.below (Nat.le_refl _) (UpOld.all (bx := []) trivial) (UpX.all (bx := []) trivial))).rw (Rx0.below (HB.trans (hBt.below HB.size (UpOld.all (bx := []) trivial) (UpX.all (bx := []) trivial)))) hSR), fun hne => absurd (hD 9 rfl) hne⟩)),
        .inr (.norm 33 rfl rfl (nxt rfl) rfl (fun a_ w_ hn_ hBt hr hR hD hO hS => d6 rfl (op_pickb (show a_.eval (.tmp 29) = .bool true from hD 9 rfl) (show a_.eval (.tmp 32) = .bool true from hD 12 rfl)))),
        .inr (.norm 34 rfl rfl (nxt rfl) rfl (fun a_ w_ hn_ hBt hr hR hD hO hS => d6 rfl (op_mv (show a_.eval (.tmp 33) = .bool true from hD 13 rfl)))),
        .inr (.norm 35 rfl rfl (nxt rfl) rfl (fun a_ w_ hn_ hBt hr hR hD hO hS => ⟨⟨_, rfl⟩, fun _ => d6 rfl (op_mv ((hR 6 rfl).trans f6)), fun hne => absurd (hD 14 rfl) hne⟩)),
        .inr (.norm 36 rfl rfl (nxt rfl) rfl (fun a_ w_ hn_ hBt hr hR hD hO hS => ⟨⟨_, rfl⟩, fun _ => d6 rfl (op_loadv W2ok ((hR 4 rfl).trans f4) (b4.keep5 hBt trivial trivial)), fun hne => absurd (hD 14 rfl) hne⟩)),
        .inl rfl,
        .inl rfl,
        .inl rfl,
        .inl rfl,
        .inl rfl,
        .inl rfl,
        .inl rfl,
        .inl rfl,
        .inl rfl,
        .inl rfl,
        .inl rfl,
        .inl rfl,
        trivial⟩
    rotate_left
    · exact fun h => by cases h
    intro t_ o_ ht_ ho_ a17 w17 gs17 B17 T17 F_
    obtain rfl := Option.some.inj ht_; obtain rfl := Option.some.inj ho_; clear ht_ ho_
    obtain ⟨hn17, hd17, hBt, hr, hR, hP, hTs, hLi, hX, hU, hRel, hSl⟩ := F_
    replace hn := hn17; replace hd := hd17.trans hd
    have lq17HT10 := HT10.le
    have lq17HT12 := HT12.le
    have lq17BK := BK.lt.2
    have lq17HN := HN.le
    replace b5 := b5.keep5 hBt trivial trivial
    replace f2 := (hSl 28 2 (by decide) rfl).trans f2
    replace f5 := (hR 5 rfl).trans f5
    replace f6 := (hR 6 rfl).trans f6
    have e34 : a17.eval (.tmp 34) = .bool true := hP 14 (by decide)
    have f34 := e34
    have e35 : a17.eval (.tmp 35) = .pointer (some ⟨pB, 0, none⟩) := hP 15 (by decide)
    have f35 := e35
    have e36 : a17.eval (.tmp 36) = .agg #[.bool n_10, .slice a_10 r_10.length c_10] := hP 16 (by decide)
    have f36 := e36
    have hBl_ := hBt.below (Nat.le_refl _) (UpOld.all (bx := []) trivial) (UpX.all (bx := []) trivial)
    replace F10 := F10.ru hr
    replace G10 := G10.ru hr
    replace A10 := A10.ru hr
    replace HT10 := HT10.ru hr
    replace F12 := F12.ru hr
    replace G12 := G12.ru hr
    replace A12 := A12.ru hr
    replace HT12 := HT12.ru hr
    replace RO := RO.below hBl_
    replace BK := BK.below hBl_
    replace HN := HN.ru hr
    replace HB := HB.trans (hBt.below HB.size (UpOld.all (bx := []) trivial) (UpX.all (bx := []) trivial))
    clear hBt hr hR hP hTs hLi hX hU hRel hSl
    refine ⟨⟨⟨34, rfl⟩, f34⟩, (op_ownw f35 f36 BK (by decide) F10 lo10 HB.size (fun j hj => (apt_nil hq10) j (hbs j hj))).mono ?_⟩
    rintro v_ w18 ⟨rfl, bs18, BK_, kp_, hj_⟩
    have hbs_ := growU1 HN.le hbs hj_
    replace b5 := b5.kp kp_ (bsT_ne (by decide) BK b5) (fun h => (nin_cons nb5_10.out (nin_nil kb5)) (hbs_ _ h))
    replace HT10 := HT10.kp kp_
    replace F12 := F12.kp kp_ hb12.out (fun j hj => (apt_cons ap10_12.out (apt_nil hq12)) j (hbs_ j hj))
    replace HT12 := HT12.kp kp_
    replace HN := HN.kp kp_
    replace HB := HB.trans (kp_.below upB (fun j hj => (low_cons lo10 (low_nil hWN)) j (hbs_ j hj)) HB.size)
    replace BK := BK_; replace hbs : ∀ j ∈ bs18, _ := hbs_; clear BK_ hbs_ kp_ hj_ F10 G10 A10 G12 A12 RO
    change Good _ _ _ _ _ (Act.put a17 (some 37) (.bool true)) _
    have q_ : 37 < a17.tmps.size := by rw [hn]; decide
    generalize hA_ : Act.put a17 (some 37) (.bool true) = a19
    replace hn : a19.tmps.size = 48 := by rw [← hA_, put_tmps]; simp [hn]
    replace hd : a19.defers = [] := by rw [← hA_]; exact hd
    replace f2 : a19.eval (.tmp 2) = (.bool false) := by rw [← hA_]; exact (eval_put_ne (by decide)).trans f2
    replace f5 : a19.eval (.tmp 5) = .pointer (some ⟨gs11 0, 0, none⟩) := by rw [← hA_]; exact (eval_put_ne (by decide)).trans f5
    replace f6 : a19.eval (.tmp 6) = .pointer (some ⟨pB, 0, none⟩) := by rw [← hA_]; exact (eval_put_ne (by decide)).trans f6
    replace f34 : a19.eval (.tmp 34) = .bool true := by rw [← hA_]; exact (eval_put_ne (by decide)).trans f34
    replace f35 : a19.eval (.tmp 35) = .pointer (some ⟨pB, 0, none⟩) := by rw [← hA_]; exact (eval_put_ne (by decide)).trans f35
    replace f36 : a19.eval (.tmp 36) = .agg #[.bool n_10, .slice a_10 r_10.length c_10] := by rw [← hA_]; exact (eval_put_ne (by decide)).trans f36
    have f37 : a19.eval (.tmp 37) = .bool true := by rw [← hA_]; exact eval_put_same q_
    clear q_
    clear hA_
    refine good6 18 22 (some 22) [some 20, some 21, some 22, some 23, some 24, some 25, some 26, some 27, some 28, some 29, some 30, some 31, some 32, some 33, some 34, some 35, some 36, some 37, some 38, some 39, some 40, some 41, some 42, some 43, some 44, some 45, some 46, some 47, some 2] [(fun _ _ => True), (fun _ _ => True), (fun _ _ => True), (fun _ _ => True), (fun _ _ => True), (fun _ _ => True), (fun _ _ => True), (fun _ _ => True), (fun _ _ => True), (fun _ _ => True), (fun _ _ => True), (fun _ _ => True), (fun _ _ => True), (fun _ _ => True), Eqs (.bool true), Eqs (.pointer (some ⟨pB, 0, none⟩)), Eqs (.agg #[.bool n_10, .slice a_10 r_10.length c_10]), Eqs (.bool true), Eqs (.bool true), Eqs (.bool true), Eqs (.pointer (some ⟨pB, 0, none⟩)), Eqs (.agg #[.bool n_12, .slice a_12 r_12.length c_12]), (fun _ _ => True), (fun _ _ => True), (fun _ _ => True), (fun _ _ => True), (fun _ _ => True), (fun _ _ => True), (fun _ _ => True)] [] [] [] [] [] (by kernel_rfl) hn rfl (by kernel_rfl) (by kernel_rfl) (by kernel_rfl) (by kernel_rfl) (by kernel_rfl) (by kernel_rfl) (by kernel_rfl) (by kernel_rfl) (by kernel_rfl) (by decide) ⟨True.mono5, True.mono5, True.mono5, True.mono5, True.mono5, True.mono5, True.mono5, True.mono5, True.mono5, True.mono5, True.mono5, True.mono5, True.mono5, True.mono5, Eqs.mono5 _, Eqs.mono5 _, Eqs.mono5 _, Eqs.mono5 _, Eqs.mono5 _, Eqs.mono5 _, Eqs.mono5 _, Eqs.mono5 _, True.mono5, True.mono5, True.mono5, True.mono5, True.mono5, True.mono5, True.mono5, trivial⟩ trivial xok_nil ok_nil (IsOld.all (bx := []) trivial) (DisOld.all (bx := []) trivial) ⟨⟨⟨⟨⟨⟨⟨⟨⟨⟨⟨⟨⟨⟨⟨⟨⟨⟨trivial, trivial⟩, trivial⟩, trivial⟩, trivial⟩, trivial⟩, trivial⟩, trivial⟩, trivial⟩, trivial⟩, trivial⟩, trivial⟩, trivial⟩, trivial⟩, trivial⟩, f34⟩, f35⟩, f36⟩, f37⟩ ?_ ?_ ?_
    · exact ⟨.inl rfl,
        .inl rfl,
        .inl rfl,
        .inl rfl,
        .inl rfl,
        .inl rfl,
        .inl rfl,
        .inl rfl,
        .inl rfl,
        .inl rfl,
        .inl rfl,
        .inl rfl,
        .inl rfl,
        .inl rfl,
        .inl rfl,
        .inl rfl,
        .inl rfl,
        .inl rfl,
        .inr (.norm 38 rfl rfl (nxt rfl) rfl (fun a_ w_ hn_ hBt hr hR hD hO hS => d6 rfl (op_pickb (show a_.eval (.tmp 34) = .bool true from hD 14 rfl) (show a_.eval (.tmp 37) = .bool true from hD 17 rfl)))),
        .inr (.norm 39 rfl rfl (nxt rfl) rfl (fun a_ w_ hn_ hBt hr hR hD hO hS => d6 rfl (op_mv (show a_.eval (.tmp 38) = .bool true from hD 18 rfl)))),
        .inr (.norm 40 rfl rfl (nxt rfl) rfl (fun a_ w_ hn_ hBt hr hR hD hO hS => ⟨⟨_, rfl⟩, fun _ => d6 rfl (op_mv ((hR 6 rfl).trans f6)), fun hne => absurd (hD 19 rfl) hne⟩)),
        .inr (.norm 41 rfl rfl (nxt rfl) rfl (fun a_ w_ hn_ hBt hr hR hD hO hS => ⟨⟨_, rfl⟩, fun _ => d6 rfl (op_loadv W2ok ((hR 5 rfl).trans f5) (b5.keep5 hBt trivial trivial)), fun hne => absurd (hD 19 rfl) hne⟩)),
        .inl rfl,
        .inl rfl,
        .inl rfl,
        .inl rfl,
        .inl rfl,
        .inl rfl,
        .inl rfl,
        trivial⟩
    rotate_left
    · exact fun h => by cases h
    intro t_ o_ ht_ ho_ a20 w20 gs20 B20 T20 F_
    obtain rfl := Option.some.inj ht_; obtain rfl := Option.some.inj ho_; clear ht_ ho_
    obtain ⟨hn20, hd20, hBt, hr, hR, hP, hTs, hLi, hX, hU, hRel, hSl⟩ := F_
    replace hn := hn20; replace hd := hd20.trans hd
    have lq20HT10 := HT10.le
    have lq20HT12 := HT12.le
    have lq20BK := BK.lt.2
    have lq20HN := HN.le
    replace f2 := (hSl 28 2 (by decide) rfl).trans f2
    replace f6 := (hR 6 rfl).trans f6
    have e39 : a20.eval (.tmp 39) = .bool true := hP 19 (by decide)
    have f39 := e39
    have e40 : a20.eval (.tmp 40) = .pointer (some ⟨pB, 0, none⟩) := hP 20 (by decide)
    have f40 := e40
    have e41 : a20.eval (.tmp 41) = .agg #[.bool n_12, .slice a_12 r_12.length c_12] := hP 21 (by decide)
    have f41 := e41
    have hBl_ := hBt.below (Nat.le_refl _) (UpOld.all (bx := []) trivial) (UpX.all (bx := []) trivial)
    replace HT10 := HT10.ru hr
    replace F12 := F12.ru hr
    replace HT12 := HT12.ru hr
    replace BK := BK.below hBl_
    replace HN := HN.ru hr
    replace HB := HB.trans (hBt.below HB.size (UpOld.all (bx := []) trivial) (UpX.all (bx := []) trivial))
    clear hBt hr hR hP hTs hLi hX hU hRel hSl
    refine ⟨⟨⟨39, rfl⟩, f39⟩, (op_ownw f40 f41 BK (by decide) F12 lo12 HB.size (fun j hj => (apt_cons ap10_12.out (apt_nil hq12)) j (hbs j hj))).mono ?_⟩
    rintro v_ w21 ⟨rfl, bs21, BK_, kp_, hj_⟩
    have hbs_ := growU1 HN.le hbs hj_
    replace HT10 := HT10.kp kp_
    replace HT12 := HT12.kp kp_
    replace HN := HN.kp kp_
    replace HB := HB.trans (kp_.below upB (fun j hj => (low_cons lo12 (low_cons lo10 (low_nil hWN))) j (hbs_ j hj)) HB.size)
    replace BK := BK_; replace hbs : ∀ j ∈ bs21, _ := hbs_; clear BK_ hbs_ kp_ hj_ F12
    change Good _ _ _ _ _ (Act.put a20 (some 42) (.bool true)) _
    have q_ : 42 < a20.tmps.size := by rw [hn]; decide
    generalize hA_ : Act.put a20 (some 42) (.bool true) = a22
    replace hn : a22.tmps.size = 48 := by rw [← hA_, put_tmps]; simp [hn]
    replace hd : a22.defers = [] := by rw [← hA_]; exact hd
    replace f2 : a22.eval (.tmp 2) = (.bool false) := by rw [← hA_]; exact (eval_put_ne (by decide)).trans f2
    replace f6 : a22.eval (.tmp 6) = .pointer (some ⟨pB, 0, none⟩) := by rw [← hA_]; exact (eval_put_ne (by decide)).trans f6
    replace f39 : a22.eval (.tmp 39) = .bool true := by rw [← hA_]; exact (eval_put_ne (by decide)).trans f39
    replace f40 : a22.eval (.tmp 40) = .pointer (some ⟨pB, 0, none⟩) := by rw [← hA_]; exact (eval_put_ne (by decide)).trans f40
    replace f41 : a22.eval (.tmp 41) = .agg #[.bool n_12, .slice a_12 r_12.length c_12] := by rw [← hA_]; exact (eval_put_ne (by decide)).trans f41
    have f42 : a22.eval (.tmp 42) = .bool true := by rw [← hA_]; exact eval_put_same q_
    clear q_
    clear hA_
    refine good6 23 29 none [some 20, some 21, some 22, some 23, some 24, some 25, some 26, some 27, some 28, some 29, some 30, some 31, some 32, some 33, some 34, some 35, some 36, some 37, some 38, some 39, some 40, some 41, some 42, some 43, some 44, some 45, some 46, some 47, some 2] [(fun _ _ => True), (fun _ _ => True), (fun _ _ => True), (fun _ _ => True), (fun _ _ => True), (fun _ _ => True), (fun _ _ => True), (fun _ _ => True), (fun _ _ => True), (fun _ _ => True), (fun _ _ => True), (fun _ _ => True), (fun _ _ => True), (fun _ _ => True), (fun _ _ => True), (fun _ _ => True), (fun _ _ => True), (fun _ _ => True), (fun _ _ => True), Eqs (.bool true), Eqs (.pointer (some ⟨pB, 0, none⟩)), Eqs (.agg #[.bool n_12, .slice a_12 r_12.length c_12]), Eqs (.bool true), Eqs (.bool true), Eqs (.bool true), Eqs (.pointer (some ⟨pB, 0, none⟩)), Eqs (.bool true), Eqs (.bool true), Eqs (.bool true)] [] [] [] [] [] (by kernel_rfl) hn rfl (by kernel_rfl) (by kernel_rfl) (by kernel_rfl) (by kernel_rfl) (by kernel_rfl) (by kernel_rfl) (by kernel_rfl) (by kernel_rfl) (by kernel_rfl) (by decide) ⟨True.mono5, True.mono5, True.mono5, True.mono5, True.mono5, True.mono5, True.mono5, True.mono5, True.mono5, True.mono5, True.mono5, True.mono5, True.mono5, True.mono5, True.mono5, True.mono5, True.mono5, True.mono5, True.mono5, Eqs.mono5 _, Eqs.mono5 _, Eqs.mono5 _, Eqs.mono5 _, Eqs.mono5 _, Eqs.mono5 _, Eqs.mono5 _, Eqs.mono5 _, Eqs.mono5 _, Eqs.mono5 _, trivial⟩ trivial xok_nil ok_nil (IsOld.all (bx := []) trivial) (DisOld.all (bx := []) trivial) ⟨⟨⟨⟨⟨⟨⟨⟨⟨⟨⟨⟨⟨⟨⟨⟨⟨⟨⟨⟨⟨⟨⟨trivial, trivial⟩, trivial⟩, trivial⟩, trivial⟩, trivial⟩, trivial⟩, trivial⟩, trivial⟩, trivial⟩, trivial⟩, trivial⟩, trivial⟩, trivial⟩, trivial⟩, trivial⟩, trivial⟩, trivial⟩, trivial⟩, trivial⟩, f39⟩, f40⟩, f41⟩, f42⟩ ?_ ?_ ?_
    · exact ⟨.inl rfl,
        .inl rfl,
        .inl rfl,
        .inl rfl,
        .inl rfl,
        .inl rfl,
        .inl rfl,
        .inl rfl,
        .inl rfl,
        .inl rfl,
        .inl rfl,
        .inl rfl,
        .inl rfl,
        .inl rfl,
        .inl rfl,
        .inl rfl,
        .inl rfl,
        .inl rfl,
        .inl rfl,
        .inl rfl,
        .inl rfl,
        .inl rfl,
        .inl rfl,
        .inr (.norm 43 rfl rfl (nxt rfl) rfl (fun a_ w_ hn_ hBt hr hR hD hO hS => d6 rfl (op_pickb (show a_.eval (.tmp 39) = .bool true from hD 19 rfl) (show a_.eval (.tmp 42) = .bool true from hD 22 rfl)))),
        .inr (.norm 44 rfl rfl (nxt rfl) rfl (fun a_ w_ hn_ hBt hr hR hD hO hS => d6 rfl (op_mv (show a_.eval (.tmp 43) = .bool true from hD 23 rfl)))),
        .inr (.norm 45 rfl rfl (nxt rfl) rfl (fun a_ w_ hn_ hBt hr hR hD hO hS => ⟨⟨_, rfl⟩, fun _ => d6 rfl (op_mv ((hR 6 rfl).trans f6)), fun hne => absurd (hD 24 rfl) hne⟩)),
        .inr (.norm 46 rfl rfl (nxt rfl) rfl (fun a_ w_ hn_ hBt hr hR hD hO hS => ⟨⟨_, rfl⟩, fun _ => d6 rfl (op_bdone (show a_.eval (.tmp 45) = .pointer (some ⟨pB, 0, none⟩) from hD 25 rfl) (BK.below (hBt.below (Nat.le_refl _) (UpOld.all (bx := []) trivial) (UpX.all (bx := []) trivial))) (by decide)), fun hne => absurd (hD 24 rfl) hne⟩)),
        .inr (.norm 47 rfl rfl (nxt rfl) rfl (fun a_ w_ hn_ hBt hr hR hD hO hS => d6 rfl (op_pickb (show a_.eval (.tmp 44) = .bool true from hD 24 rfl) (show a_.eval (.tmp 46) = .bool true from hD 26 rfl)))),
        .inr (.norm 2 rfl rfl (nxt rfl) rfl (fun a_ w_ hn_ hBt hr hR hD hO hS => d6 rfl (op_assign (show a_.eval (.tmp 47) = .bool true from hD 27 rfl)))),
        trivial⟩
    · exact fun _ _ h => by cases h
    intro _ a23 w23 gs23 B23 T23 F_
    obtain ⟨hn23, hd23, hBt, hr, hR, hP, hTs, hLi, hX, hU, hRel, hSl⟩ := F_
    replace hn := hn23; replace hd := hd23.trans hd
    have lq23HT10 := HT10.le
    have lq23HT12 := HT12.le
    have lq23BK := BK.lt.2
    have lq23HN := HN.le
    have e2 : a23.eval (.tmp 2) = .bool true := hP 28 (by decide)
    have f2 := e2
    have hBl_ := hBt.below (Nat.le_refl _) (UpOld.all (bx := []) trivial) (UpX.all (bx := []) trivial)
    replace HT10 := HT10.ru hr
    replace HT12 := HT12.ru hr
    replace BK := BK.below hBl_
    replace HN := HN.ru hr
    replace HB := HB.trans (hBt.below HB.size (UpOld.all (bx := []) trivial) (UpX.all (bx := []) trivial))
    clear hBt hr hR hP hTs hLi hX hU hRel hSl
    refine wp_ret ?_
    repeat (first | refine then_ret ?_ | refine scope_ret ?_ | refine block_ret ?_)
    exact bodyPost_ret (v := .bool true) (res_t rfl f2) hd ⟨rfl, HB⟩
end Lm
end Go.Proofs.Ytpofkigboedliaa

namespace Go.Proofs.Ytpofkigboedliaa
namespace wholeSumLaw
open Go.ChangeShapes Go.WideShapes Go.ChangeAt Go.RowKit
open Go.ChangeMaps (open_string shut_string)
theorem own : ownKnob Try.prog.godebug = none := by kernel_rfl
theorem laidOut : laidOutB Try.prog = true := by kernel_rfl
set_option linter.unusedVariables false in
set_option maxRecDepth 100000 in
theorem lifted (os : Os) (started : os.Started) (H : Type) (enc : TypeId × Value → H) (F : Stop.Interp) :
    ReturnsInHanded {} Try.checked os 3 .any ((Rows.OpenSpec.upto Rows.wholeSumSpec).pre6 enc Try.prog Try.f3 Rows.wholeSumUptoRow.domain false) (((Rows.OpenSpec.upto Rows.wholeSumSpec).at F).post enc Try.prog Try.f3 false true false false) := by
  refine returnsInHanded_of_cond (C := Try.checked) (s := Rows.OpenSpec.upto Rows.wholeSumSpec) (k := Rows.uptoSmall) rfl own started (by kernel_rfl) Try.func3
    (OpenSpec.witness (enc := enc) (C := Try.checked) (s := Rows.OpenSpec.upto Rows.wholeSumSpec) (k := Rows.uptoSmall) rfl false ⟨#[], #[.slice none 0 0], []⟩ 8 (by kernel_rfl) (by kernel_rfl) (by kernel_rfl)
      (x := ([.nil], [], [])) (by kernel_rfl) rfl (by kernel_rfl)) ?_
  intro W base args ds gs before hval0 hW _ hk _
  have hval : ∀ (j : Nat) t v, Try.f3.params[j]? = some t → args[j]? = some v → Value.okWide Try.prog W .any base t v := hval0
  have hW' := hW
  obtain ⟨p, q, hA0, hV, rfl, hfz, hnd⟩ := hW
  have hA : DataW.TrodAll enc Try.prog W 0 (fun _ => true) true Try.f3.params.toList args.toList ds p := hA0
  rw [Try.params3] at hA hval
  obtain ⟨v0, vs0, d0, ds0, p0, q0, hargs, rfl, rfl, h0, r0⟩ := trodAll_cons hA
  obtain ⟨rfl, rfl, rfl⟩ := trodAll_nil r0
  obtain rfl : args = #[v0] := by cases args; simp_all
  obtain ⟨rfl, rfl⟩ := trodVars_none hV
  have hbulk : Rows.uptoBulkAll ([d0] : List (DataW H)) ≤ 1048576 := by
    have h := of_decide_eq_true hk
    simpa only [List.append_nil] using h
  simp only [Rows.uptoBulkAll] at hbulk
  obtain ⟨a0, len0, cap0, rfl⟩ := okWide_slice Try.underlying22 (hval 0 22 v0 rfl rfl)
  have k0 := h0
  have lt0 : ∀ x ∈ p0, x.block < W.heap.size := by obtain ⟨m, hm⟩ := k0; exact DataW.trod_lt m _ _ _ hm
  obtain ⟨z0, w0, b0⟩ : ∃ es, Lm.Rw W (.slice a0 len0 cap0) es ∧ Lm.lenW es + 1 ≤ Rows.uptoBulk d0 := by
    obtain ⟨fuel, hf⟩ := h0
    exact Lm.open_row (x := (d0, p0)) (by simpa [Value.cells] using hf)
  clear hA0 hval0
  refine (Lm.wsum_law W a0 len0 cap0 z0 w0 (by omega)).mono fun e W' ⟨he, bel⟩ => ?_
  subst he
  exact ⟨_, rfl, _, _, _, [], _, [], hW', trodAll_mk1 (shut_bool Try.underlying4 _), (trodAll_cons_mk (Below.trod laidOut (by kernel_rfl) (of_decide_eq_true (by kernel_rfl)) k0 bel lt0) trodAll_mk0), rfl, bel.frame _, fun h => by cases h⟩
theorem over : Rows.WholeSumUptoSaid :=
  OpenClaim.holds_of_cond 3 Try.f3 rfl rfl rfl rfl rfl rfl rfl ⟨rfl, rfl, rfl, rfl, rfl⟩ rfl rfl rfl rfl rfl (by kernel_rfl) Try.func3 (by kernel_rfl)
    (of_decide_eq_true (by kernel_rfl)) (by unfold Func.isWrapper; first | (rw [if_pos (by decide +kernel)]; kernel_rfl) | (rw [if_neg (by decide +kernel)]; exact ⟨rfl, rfl⟩))
    (fun os started H enc _ F => lifted os started H enc F)
end wholeSumLaw
theorem wholeSum_upto : Rows.WholeSumUptoSaid := wholeSumLaw.over
#print axioms wholeSum_upto
end Go.Proofs.Ytpofkigboedliaa

