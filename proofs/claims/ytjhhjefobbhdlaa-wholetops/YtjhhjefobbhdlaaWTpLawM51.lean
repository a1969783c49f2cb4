/-
  The reference's numbers with signs: what a sign and digits are worth; the contract of made. The contract of the reference's Add. The contract of the reference's Minus and Abs. The contracts of the reference's Of and Told: whole numbers as they are handed in, and as they are told. The contract of Book's Done. What the laws with lenders and books use beside their contracts. How many limbs a whole number has. What is lent, and what lies in memory of its own, in regions that are gone through in stretches. The contracts of DivMod and Gcd on whole numbers, with the memory in which the answers lie. The contract of the reference's Sub. The contract of the reference's Mul. What the reference's divided holds on its way: its memory, and the plain facts on quotient and rest. The contract of the reference's divided. The contract of the reference's DivMod, of naturals. The contract of the reference's Int. The contract of the reference's DivMod, of numbers with signs. The contract of the reference's Gcd. The contracts of the reference's DivMod and Gcd on whole numbers. The contract of the reference's DivMod on whole numbers. WholeDivides: what its walk uses beside the contracts. The book of what was answered, in regions that are gone through in stretches. Regions as Inv4 has them, in which single operations are shown by hand. No function is named here. The contracts of the reference's Uint and Small. LimbsNumbers answers true, whatever number and list of limbs it is handed. WholeTops: what its walk uses beside the contracts. Structs that hold the document's own numbers and fractions, and single operations on them, over a frame that is not written out. WholeOrder answers true, whatever three numbers it is handed.
-/
import Derived.Test.YtjhhjefobbhdlaaWTpLawM50
import Derived.Deep.QuietTactic
import Derived.BigQuiet
import Derived.Deep.RegionWith
import Derived.Deep.RegionHeld3
import Derived.Deep.AppendLies
import Derived.Test.YtjhhjefobbhdlaaWG
import Derived.Deep.DeepCutAuto
import Derived.Test.YtjhhjefobbhdlaaWB
import Derived.Test.YtjhhjefobbhdlaaWrap
import Derived.Test.YtjhhjefobbhdlaaInv10
import Derived.Test.YtjhhjefobbhdlaaWF
import Derived.BigRegion
import Derived.Test.YtjhhjefobbhdlaaWH
import Derived.Test.YtjhhjefobbhdlaaInv4
import Derived.OpenShut
import Derived.Test.YtjhhjefobbhdlaaWT
namespace Go.Proofs.Ytjhhjefobbhdlaa
namespace Dm
open Go.RowKit
open Lm (hide lt_of_cell lt_of_heap)

/-- What a sign and a magnitude are worth. -/
def sg (ng : Bool) (x : Int) : Int := if ng then -x else x

/-- A number in its one form that is worth z. -/
def Wh (w : World) (ng : Bool) (ao : Option Addr) (cap : Nat) (rs : List Int) (z : Int) : Prop := Got w ao cap rs (z.natAbs : Int) ∧ ng = decide (z < 0)

theorem Wh.sl {w : World} {ng : Bool} {ao : Option Addr} {cap : Nat} {rs : List Int} {z : Int} (h : Wh w ng ao cap rs z) : Sl w (.slice ao rs.length cap) rs := h.1.sl

theorem Wh.below {w w' : World} {ng : Bool} {ao : Option Addr} {cap : Nat} {rs : List Int} {z : Int} (h : Wh w ng ao cap rs z) (hb : Below w.heap.size w w') : Wh w' ng ao cap rs z := ⟨h.1.below hb, h.2⟩

theorem Wh.worth {w : World} {ng : Bool} {ao : Option Addr} {cap : Nat} {rs : List Int} {z : Int} (h : Wh w ng ao cap rs z) : sg ng (Dm.val rs) = z := by
  rw [h.1.val, h.2, sg]
  by_cases hz : z < 0
  · simp [hz]; omega
  · simp [hz]; omega

theorem Wh.of {w : World} {ao : Option Addr} {cap : Nat} {rs : List Int} {x : Int} (ng : Bool) (h : Got w ao cap rs x) : Wh w (ng && decide (0 < rs.length)) ao cap rs (sg ng x) := by
  have h0 : 0 ≤ x := by rw [← h.val]; exact (val_bounds h.canon.1).1
  have hz := canon_zero h.canon
  rw [h.val] at hz
  have hl : rs = [] ↔ rs.length = 0 := List.length_eq_zero_iff.symm
  cases ng with
  | false =>
    refine ⟨?_, ?_⟩
    · have e : ((sg false x).natAbs : Int) = x := by simp [sg]; omega
      rw [e]; exact h
    · simp [sg]; omega
  | true =>
    refine ⟨?_, ?_⟩
    · have e : ((sg true x).natAbs : Int) = x := by simp [sg]; omega
      rw [e]; exact h
    · have e3 : (0 < rs.length) ↔ (sg true x < 0) := by
        simp only [sg, if_true]
        constructor
        · intro h1
          have : x ≠ 0 := fun h2 => by have := hl.1 (hz.1 h2); omega
          omega
        · intro h1
          have : rs.length ≠ 0 := fun h2 => by have := hz.2 (hl.2 h2); omega
          omega
      rw [Bool.true_and]
      exact decide_eq_decide.2 e3

/-- A block that holds a whole number. -/
def Box (w : World) (g : Nat) (ng : Bool) (v : Value) : Prop := w.heap[g]? = some (.cells #[.bool ng, v] 61 (0, 0))

theorem Box.below {w w' : World} {g : Nat} {ng : Bool} {v : Value} (h : Box w g ng v) (hb : Below w.heap.size w w') : Box w' g ng v := (hb.block g (lt_of_heap h)).trans h
theorem Box.facts {w : World} {g : Nat} {ng : Bool} {v : Value} (h : Box w g ng v) : w.cell? ⟨g, 0, none⟩ = some (.bool ng) ∧ w.cell? ⟨g, 1, none⟩ = some v ∧ w.frozen? ⟨g, 0, none⟩ = false ∧ w.frozen? ⟨g, 1, none⟩ = false :=
  ⟨by rw [cell_of_row _ _ _ _ _ (0, 0) h]; rfl, by rw [cell_of_row _ _ _ _ _ (0, 0) h]; rfl, frozen_of_row _ _ _ _ _ h, frozen_of_row _ _ _ _ _ h⟩

theorem Box.set {w : World} {g : Nat} {ng : Bool} {v : Value} (h : Box w g ng v) (b : Bool) (u : Value) : Box ((w.setCell ⟨g, 0, none⟩ (.bool b)).setCell ⟨g, 1, none⟩ u) g b u := by
  have h1 := heap_setCell_same w g 0 _ _ (.bool b) h
  have h2 := heap_setCell_same _ g 1 _ _ u h1
  exact h2

theorem Box.sl {w : World} {g : Nat} {ng : Bool} {ao : Option Addr} {n cap : Nat} (h : Box w g ng (.slice ao n cap)) (b : Bool) (u : Value) {v : Value} {zs : List Int} (hs : Sl w v zs) : Sl ((w.setCell ⟨g, 0, none⟩ (.bool b)).setCell ⟨g, 1, none⟩ u) v zs := by
  refine (hs.setCell h.facts.1 (fun z => by simp) _).setCell (u0 := .slice ao n cap) ?_ (fun z => by simp) _
  rw [World.cell?_setCell_other _ _ _ _ (by simp)]
  exact h.facts.2.1

theorem Box.wh {w : World} {g : Nat} {ng : Bool} {ao : Option Addr} {n cap : Nat} (h : Box w g ng (.slice ao n cap)) (b : Bool) (u : Value) {nz : Bool} {az : Option Addr} {cz : Nat} {rs : List Int} {z : Int} (hs : Wh w nz az cz rs z) : Wh ((w.setCell ⟨g, 0, none⟩ (.bool b)).setCell ⟨g, 1, none⟩ u) nz az cz rs z :=
  ⟨⟨h.sl b u hs.1.1, hs.1.2⟩, hs.2⟩

theorem below_set2 {B : Nat} {w w1 : World} {g : Nat} (hb : Below B w w1) (hg : B ≤ g) (b u : Value) : Below B w ((w1.setCell ⟨g, 0, none⟩ b).setCell ⟨g, 1, none⟩ u) := (hb.setCell hg _).setCell hg _

/-- The worlds behind an entry: blocks for what is handed in and for the answer. -/
theorem boxed (w : World) (ng : Bool) (v : Value) : Box (w.alloc (.cells #[.bool ng, v] 61)) w.heap.size ng v ∧ Below w.heap.size w (w.alloc (.cells #[.bool ng, v] 61)) ∧ (w.alloc (.cells #[.bool ng, v] 61)).heap.size = w.heap.size + 1 :=
  ⟨heap_alloc_new w _, (Below.refl _ _).alloc (Nat.le_refl _) _, by simp⟩

theorem boxed1 (w : World) (ng : Bool) (v : Value) : ∃ w0 : World, (w.alloc (.cells #[.bool ng, v] 61)).alloc (.cells #[.bool false, .slice none 0 0] 61) = w0 ∧ Box w0 w.heap.size ng v ∧ Box w0 (w.heap.size + 1) false (.slice none 0 0) ∧ Below w.heap.size w w0 ∧ w0.heap.size = w.heap.size + 2 := by
  have h1 := boxed w ng v
  have h2 := boxed (w.alloc (.cells #[.bool ng, v] 61)) false (.slice none 0 0)
  rw [h1.2.2] at h2
  refine ⟨_, rfl, h1.1.below (by rw [h1.2.2]; exact h2.2.1), h2.1, h1.2.1.trans (h2.2.1.mono (by omega)), h2.2.2⟩

theorem sg_neg (ng : Bool) (x : Int) : sg (!ng) x = - sg ng x := by cases ng <;> simp [sg]

theorem boxed0 (w : World) (ng : Bool) (v : Value) : ∃ w0 : World, w.alloc (.cells #[.bool ng, v] 61) = w0 ∧ Box w0 w.heap.size ng v ∧ Below w.heap.size w w0 ∧ w0.heap.size = w.heap.size + 1 :=
  ⟨_, rfl, (boxed w ng v).1, (boxed w ng v).2.1, (boxed w ng v).2.2⟩

theorem boxed2 (w : World) (nx : Bool) (vx : Value) (ny : Bool) (vy : Value) : ∃ w0 : World, (w.alloc (.cells #[.bool nx, vx] 61)).alloc (.cells #[.bool ny, vy] 61) = w0 ∧ Box w0 w.heap.size nx vx ∧ Box w0 (w.heap.size + 1) ny vy ∧ Below w.heap.size w w0 ∧ w0.heap.size = w.heap.size + 2 := by
  have h1 := boxed w nx vx
  have h2 := boxed (w.alloc (.cells #[.bool nx, vx] 61)) ny vy
  rw [h1.2.2] at h2
  refine ⟨_, rfl, h1.1.below (by rw [h1.2.2]; exact h2.2.1), h2.1, h1.2.1.trans (h2.2.1.mono (by omega)), h2.2.2⟩

theorem boxed3 (w : World) (nx : Bool) (vx : Value) (ny : Bool) (vy : Value) : ∃ w0 : World, ((w.alloc (.cells #[.bool nx, vx] 61)).alloc (.cells #[.bool ny, vy] 61)).alloc (.cells #[.bool false, .slice none 0 0] 61) = w0 ∧ Box w0 w.heap.size nx vx ∧ Box w0 (w.heap.size + 1) ny vy ∧ Box w0 (w.heap.size + 1 + 1) false (.slice none 0 0) ∧ Below w.heap.size w w0 ∧ w0.heap.size = w.heap.size + 3 := by
  obtain ⟨w2, e2, b1, b2, hb, hs⟩ := boxed2 w nx vx ny vy
  have h2 := boxed w2 false (.slice none 0 0)
  rw [e2]
  refine ⟨_, rfl, b1.below h2.2.1, b2.below h2.2.1, ?_, hb.trans (h2.2.1.mono (by omega)), by rw [h2.2.2, hs]⟩
  have h3 := h2.1
  rw [hs] at h3
  exact h3

theorem sg_add (ng : Bool) (x y : Int) : sg ng (x + y) = sg ng x + sg ng y := by cases ng <;> simp [sg] <;> omega
theorem sg_sub (ng : Bool) (x y : Int) : sg ng (x - y) = sg ng x + sg (!ng) y := by cases ng <;> simp [sg] <;> omega
theorem sg_sub' (ng : Bool) (x y : Int) : sg (!ng) (y - x) = sg ng x + sg (!ng) y := by cases ng <;> simp [sg] <;> omega
theorem sg_mul (n1 n2 : Bool) (x y : Int) : sg (n1 != n2) (x * y) = sg n1 x * sg n2 y := by cases n1 <;> cases n2 <;> simp [sg, Int.mul_neg, Int.neg_mul]


theorem Dl.open {B : Nat} {w : World} {v : Value} {x : Int} {n : Nat} (h : Dl B w v x n) : ∃ ao cap ds, v = .slice ao ds.length cap ∧ Sl w (.slice ao ds.length cap) ds ∧ Dm.val ds = x ∧ ds.length ≤ n := by
  obtain ⟨ds, ho, hv, hn⟩ := h
  obtain ⟨ao, cap, rfl, hs, _, _⟩ := ho.open
  exact ⟨ao, cap, ds, rfl, hs, hv, hn⟩

/-- A made number, whatever lies on top of its digits. -/
theorem made_w (w : World) (ng : Bool) (ao : Option Addr) (cap : Nat) (ds : List Int) (x : Int) (h : Sl w (.slice ao ds.length cap) ds) (hv : Dm.val ds = x) :
    Calls Try.prog 72 #[.bool ng, .slice ao ds.length cap] w fun e w' => ∃ ng' rs, e = .returned (.agg #[.bool ng', .slice ao rs.length cap]) ∧ Wh w' ng' ao cap rs (sg ng x) ∧ rs.length ≤ ds.length ∧ Below w.heap.size w w' := by
  refine (made_any w ng ao ds.length cap ds h).mono ?_
  rintro e w' ⟨rfl, hb⟩
  have hl := h.parts.2.2.2
  have ht := tl_le ds
  have e1 : (ds.take (tl ds)).length = tl ds := by rw [List.length_take]; omega
  have g : Got w' ao cap (ds.take (tl ds)) x := ⟨by rw [e1]; exact (h.take ht).below hb, canon_trim hl, by rw [val_take_tl, hv]⟩
  have g2 := Wh.of ng g
  rw [e1] at g2
  exact ⟨_, ds.take (tl ds), by rw [e1], g2, by omega, hb⟩

theorem Wh.abs {w : World} {ng : Bool} {ao : Option Addr} {cap : Nat} {rs : List Int} {z : Int} (h : Wh w ng ao cap rs z) : Got w ao cap rs (z.natAbs : Int) := h.1
theorem Wh.zero {w : World} {ng : Bool} {ao : Option Addr} {cap : Nat} {rs : List Int} {z : Int} (h : Wh w ng ao cap rs z) : z = 0 ↔ rs = [] := by
  have := canon_zero h.1.canon
  rw [h.1.val] at this
  rw [← this]
  omega
theorem Wh.len {w : World} {ng : Bool} {ao : Option Addr} {cap : Nat} {rs : List Int} {z : Int} (h : Wh w ng ao cap rs z) {m : Nat} (hz : (z.natAbs : Int) < pw m) : rs.length ≤ m := canon_len h.1.canon (by rw [h.1.val]; exact hz)

end Dm
end Go.Proofs.Ytjhhjefobbhdlaa

namespace Go.Proofs.Ytjhhjefobbhdlaa
namespace Dm
open Go.RowKit
open Lm (hide lt_of_cell lt_of_heap cmpI cmpI_lt cmpI_gt)

set_option maxRecDepth 20000 in
set_option maxHeartbeats 1000000 in
theorem nadd_same (w : World) (n1 : Bool) (a1 : Option Addr) (c1 : Nat) (xs : List Int) (x : Int) (hx : Got w a1 c1 xs x) (a2 : Option Addr) (c2 : Nat) (ys : List Int) (y : Int) (hy : Got w a2 c2 ys y) (m1 : xs.length ≤ 400000) (m2 : ys.length ≤ 400000) :
    Calls Try.prog 56 #[.agg #[.bool n1, .slice a1 xs.length c1], .agg #[.bool n1, .slice a2 ys.length c2]] w fun e w' => ∃ ng' ao cap rs, e = .returned (.agg #[.bool ng', .slice ao rs.length cap]) ∧ Wh w' ng' ao cap rs (sg n1 x + sg n1 y) ∧ rs.length ≤ xs.length + ys.length + 1 ∧ Below w.heap.size w w' := by
  obtain ⟨w0, e0, bx, by', br, hb0, hs0⟩ := boxed3 w n1 (.slice a1 xs.length c1) (n1) (.slice a2 ys.length c2)
  have E0 := hide e0
  have hx0 := hx.below hb0
  have hy0 := hy.below hb0
  have HB := hb0
  have ne1 : ¬ (w.heap.size = w.heap.size + 1 + 1) := by omega
  have ne2 : ¬ (w.heap.size + 1 + 1 = w.heap.size) := by omega
  clear e0 hs0
  cases n1 with
  | false =>
    go_enter Try.func56, Try.ntmps56
    go_wp2_with fail
    rw [E0.out]
    obtain ⟨bx1, bx2, bx3, bx4⟩ := bx.facts
    obtain ⟨by1, by2, by3, by4⟩ := by'.facts
    obtain ⟨br1, br2, br3, br4⟩ := br.facts
    go_region_held3 (fun w' => w'.cell? ⟨w.heap.size, 0, none⟩ = some (.bool false) ∧ w'.cell? ⟨w.heap.size, 1, none⟩ = some (.slice a1 xs.length c1) ∧ w'.cell? ⟨w.heap.size + 1, 0, none⟩ = some (.bool false) ∧ w'.cell? ⟨w.heap.size + 1, 1, none⟩ = some (.slice a2 ys.length c2)) (go_keep) (first
        | (go_at_call 72; have _hq := hb1'; refine (made_w _ _ p1 q1 d1 _ (s1.below (by repeat (first | exact Below.refl _ _ | refine Below.drew ?_))) e1).mono ?_; rintro e w2 ⟨ng2, r2, rfl, G2, l2, hb2⟩; have hb2' : Below w1.heap.size w1 w2 := (show Below w1.heap.size w1 _ by repeat (first | exact Below.refl _ _ | refine Below.drew ?_)).trans hb2; have HB := HB.trans (hb2'.mono HB.size); replace bx := bx.below hb2'; clear bx1 bx2 bx3 bx4; obtain ⟨bx1, bx2, bx3, bx4⟩ := bx.facts; replace by' := by'.below hb2'; clear by1 by2 by3 by4; obtain ⟨by1, by2, by3, by4⟩ := by'.facts; replace br := br.below hb2'; clear br1 br2 br3 br4; obtain ⟨br1, br2, br3, br4⟩ := br.facts)
        | (go_at_call 77; refine (plus_any _ _ _ _ xs (hx0.sl.below (by repeat (first | exact Below.refl _ _ | refine Below.drew ?_))) _ _ _ ys (hy0.sl.below (by repeat (first | exact Below.refl _ _ | refine Below.drew ?_))) (by omega) (by omega)).mono ?_; rintro e w1 ⟨v1, rfl, D1, hb1⟩; obtain ⟨p1, q1, d1, rfl, s1, e1, l1⟩ := D1.open; clear D1; have hb1' : Below w0.heap.size w0 w1 := (show Below w0.heap.size w0 _ by repeat (first | exact Below.refl _ _ | refine Below.drew ?_)).trans hb1; have HB := HB.trans (hb1'.mono HB.size); replace bx := bx.below hb1'; clear bx1 bx2 bx3 bx4; obtain ⟨bx1, bx2, bx3, bx4⟩ := bx.facts; replace by' := by'.below hb1'; clear by1 by2 by3 by4; obtain ⟨by1, by2, by3, by4⟩ := by'.facts; replace br := br.below hb1'; clear br1 br2 br3 br4; obtain ⟨br1, br2, br3, br4⟩ := br.facts))
    all_goals
      have X := hide (br.set ng2 (.slice p1 r2.length q1)).facts
      have Y := hide (br.wh ng2 (.slice p1 r2.length q1) G2)
      have Z := hide (below_set2 HB (show w.heap.size ≤ w.heap.size + 1 + 1 by omega) (.bool ng2) (.slice p1 r2.length q1))
      clear bx1 bx2 bx3 bx4 by1 by2 by3 by4
      go_wp2
      refine bodyPost_ret (v := .agg #[.bool ng2, .slice p1 r2.length q1]) ?_ rfl ⟨ng2, p1, q1, r2, rfl, by rw [← sg_add, ← hx.val, ← hy.val]; exact Y.out, by omega, Z.out⟩
      simp [results, Try.results56, go_sem, X.out.1, X.out.2.1]
  | true =>
    go_enter Try.func56, Try.ntmps56
    go_wp2_with fail
    rw [E0.out]
    obtain ⟨bx1, bx2, bx3, bx4⟩ := bx.facts
    obtain ⟨by1, by2, by3, by4⟩ := by'.facts
    obtain ⟨br1, br2, br3, br4⟩ := br.facts
    go_region_held3 (fun w' => w'.cell? ⟨w.heap.size, 0, none⟩ = some (.bool true) ∧ w'.cell? ⟨w.heap.size, 1, none⟩ = some (.slice a1 xs.length c1) ∧ w'.cell? ⟨w.heap.size + 1, 0, none⟩ = some (.bool true) ∧ w'.cell? ⟨w.heap.size + 1, 1, none⟩ = some (.slice a2 ys.length c2)) (go_keep) (first
        | (go_at_call 72; have _hq := hb1'; refine (made_w _ _ p1 q1 d1 _ (s1.below (by repeat (first | exact Below.refl _ _ | refine Below.drew ?_))) e1).mono ?_; rintro e w2 ⟨ng2, r2, rfl, G2, l2, hb2⟩; have hb2' : Below w1.heap.size w1 w2 := (show Below w1.heap.size w1 _ by repeat (first | exact Below.refl _ _ | refine Below.drew ?_)).trans hb2; have HB := HB.trans (hb2'.mono HB.size); replace bx := bx.below hb2'; clear bx1 bx2 bx3 bx4; obtain ⟨bx1, bx2, bx3, bx4⟩ := bx.facts; replace by' := by'.below hb2'; clear by1 by2 by3 by4; obtain ⟨by1, by2, by3, by4⟩ := by'.facts; replace br := br.below hb2'; clear br1 br2 br3 br4; obtain ⟨br1, br2, br3, br4⟩ := br.facts)
        | (go_at_call 77; refine (plus_any _ _ _ _ xs (hx0.sl.below (by repeat (first | exact Below.refl _ _ | refine Below.drew ?_))) _ _ _ ys (hy0.sl.below (by repeat (first | exact Below.refl _ _ | refine Below.drew ?_))) (by omega) (by omega)).mono ?_; rintro e w1 ⟨v1, rfl, D1, hb1⟩; obtain ⟨p1, q1, d1, rfl, s1, e1, l1⟩ := D1.open; clear D1; have hb1' : Below w0.heap.size w0 w1 := (show Below w0.heap.size w0 _ by repeat (first | exact Below.refl _ _ | refine Below.drew ?_)).trans hb1; have HB := HB.trans (hb1'.mono HB.size); replace bx := bx.below hb1'; clear bx1 bx2 bx3 bx4; obtain ⟨bx1, bx2, bx3, bx4⟩ := bx.facts; replace by' := by'.below hb1'; clear by1 by2 by3 by4; obtain ⟨by1, by2, by3, by4⟩ := by'.facts; replace br := br.below hb1'; clear br1 br2 br3 br4; obtain ⟨br1, br2, br3, br4⟩ := br.facts))
    all_goals
      have X := hide (br.set ng2 (.slice p1 r2.length q1)).facts
      have Y := hide (br.wh ng2 (.slice p1 r2.length q1) G2)
      have Z := hide (below_set2 HB (show w.heap.size ≤ w.heap.size + 1 + 1 by omega) (.bool ng2) (.slice p1 r2.length q1))
      clear bx1 bx2 bx3 bx4 by1 by2 by3 by4
      go_wp2
      refine bodyPost_ret (v := .agg #[.bool ng2, .slice p1 r2.length q1]) ?_ rfl ⟨ng2, p1, q1, r2, rfl, by rw [← sg_add, ← hx.val, ← hy.val]; exact Y.out, by omega, Z.out⟩
      simp [results, Try.results56, go_sem, X.out.1, X.out.2.1]

set_option maxRecDepth 20000 in
set_option maxHeartbeats 1000000 in
theorem nadd_ge (w : World) (n1 : Bool) (a1 : Option Addr) (c1 : Nat) (xs : List Int) (x : Int) (hx : Got w a1 c1 xs x) (a2 : Option Addr) (c2 : Nat) (ys : List Int) (y : Int) (hy : Got w a2 c2 ys y) (m1 : xs.length ≤ 400000) (m2 : ys.length ≤ 400000) (hle : y ≤ x) (h0 : 0 < x) :
    Calls Try.prog 56 #[.agg #[.bool n1, .slice a1 xs.length c1], .agg #[.bool (!n1), .slice a2 ys.length c2]] w fun e w' => ∃ ng' ao cap rs, e = .returned (.agg #[.bool ng', .slice ao rs.length cap]) ∧ Wh w' ng' ao cap rs (sg n1 x + sg (!n1) y) ∧ rs.length ≤ xs.length + ys.length + 1 ∧ Below w.heap.size w w' := by
  obtain ⟨w0, e0, bx, by', br, hb0, hs0⟩ := boxed3 w n1 (.slice a1 xs.length c1) (!n1) (.slice a2 ys.length c2)
  have E0 := hide e0
  have hx0 := hx.below hb0
  have hy0 := hy.below hb0
  have HB := hb0
  have ne1 : ¬ (w.heap.size = w.heap.size + 1 + 1) := by omega
  have ne2 : ¬ (w.heap.size + 1 + 1 = w.heap.size) := by omega
  clear e0 hs0
  have K := hide (fun w hx hy => size_any w n1 (!n1) a1 a2 c1 c2 xs ys x y hx hy)
  have hc : 0 ≤ cmpI x y := by
    rcases Int.lt_trichotomy x y with h | h | h
    · omega
    · rw [Lm.cmpI_eq h]; omega
    · rw [cmpI_gt h]; omega
  have hpos : 0 < xs.length := by
    apply Classical.byContradiction
    intro hn
    have := got_zero hx (by omega)
    omega
  have hlen : ys.length ≤ xs.length := by
    apply Classical.byContradiction
    intro hn
    have := canon_lt hx.canon hy.canon (by omega)
    rw [hx.val, hy.val] at this
    omega
  generalize cmpI x y = cv at K hc
  cases n1 with
  | false =>
    simp only [Bool.not_false] at E0 by' K ⊢
    go_enter Try.func56, Try.ntmps56
    go_wp2_with fail
    rw [E0.out]
    obtain ⟨bx1, bx2, bx3, bx4⟩ := bx.facts
    obtain ⟨by1, by2, by3, by4⟩ := by'.facts
    obtain ⟨br1, br2, br3, br4⟩ := br.facts
    refine (K.out _ hx0 hy0).mono ?_
    rintro e w9 ⟨rfl, hb9⟩
    replace HB := HB.trans (hb9.mono HB.size)
    replace hx0 := hx0.below hb9
    replace hy0 := hy0.below hb9
    replace bx := bx.below hb9
    replace by' := by'.below hb9
    replace br := br.below hb9
    clear bx1 bx2 bx3 bx4 by1 by2 by3 by4 br1 br2 br3 br4
    obtain ⟨bx1, bx2, bx3, bx4⟩ := bx.facts
    obtain ⟨by1, by2, by3, by4⟩ := by'.facts
    obtain ⟨br1, br2, br3, br4⟩ := br.facts
    go_wp2_with fail
    go_region_held3 (fun w' => w'.cell? ⟨w.heap.size, 0, none⟩ = some (.bool false) ∧ w'.cell? ⟨w.heap.size, 1, none⟩ = some (.slice a1 xs.length c1) ∧ w'.cell? ⟨w.heap.size + 1, 0, none⟩ = some (.bool true) ∧ w'.cell? ⟨w.heap.size + 1, 1, none⟩ = some (.slice a2 ys.length c2)) (go_keep) (first
        | (go_at_call 72; have _hq := hb1'; refine (made_w _ _ p1 q1 d1 _ (s1.below (by repeat (first | exact Below.refl _ _ | refine Below.drew ?_))) e1).mono ?_; rintro e w2 ⟨ng2, r2, rfl, G2, l2, hb2⟩; have hb2' : Below w1.heap.size w1 w2 := (show Below w1.heap.size w1 _ by repeat (first | exact Below.refl _ _ | refine Below.drew ?_)).trans hb2; have HB := HB.trans (hb2'.mono HB.size); replace bx := bx.below hb2'; clear bx1 bx2 bx3 bx4; obtain ⟨bx1, bx2, bx3, bx4⟩ := bx.facts; replace by' := by'.below hb2'; clear by1 by2 by3 by4; obtain ⟨by1, by2, by3, by4⟩ := by'.facts; replace br := br.below hb2'; clear br1 br2 br3 br4; obtain ⟨br1, br2, br3, br4⟩ := br.facts)
        | (go_at_call 78; refine (less_any _ _ _ _ xs (hx0.sl.below (by repeat (first | exact Below.refl _ _ | refine Below.drew ?_))) _ _ _ ys (hy0.sl.below (by repeat (first | exact Below.refl _ _ | refine Below.drew ?_))) (by omega) hlen (by rw [hx.val, hy.val]; exact hle) hpos).mono ?_; rintro e w1 ⟨v1, rfl, D1, hb1⟩; obtain ⟨p1, q1, d1, rfl, s1, e1, l1⟩ := D1.open; clear D1; have hb1' : Below w9.heap.size w9 w1 := (show Below w9.heap.size w9 _ by repeat (first | exact Below.refl _ _ | refine Below.drew ?_)).trans hb1; have HB := HB.trans (hb1'.mono HB.size); replace bx := bx.below hb1'; clear bx1 bx2 bx3 bx4; obtain ⟨bx1, bx2, bx3, bx4⟩ := bx.facts; replace by' := by'.below hb1'; clear by1 by2 by3 by4; obtain ⟨by1, by2, by3, by4⟩ := by'.facts; replace br := br.below hb1'; clear br1 br2 br3 br4; obtain ⟨br1, br2, br3, br4⟩ := br.facts))
    all_goals
      have X := hide (br.set ng2 (.slice p1 r2.length q1)).facts
      have Y := hide (br.wh ng2 (.slice p1 r2.length q1) G2)
      have Z := hide (below_set2 HB (show w.heap.size ≤ w.heap.size + 1 + 1 by omega) (.bool ng2) (.slice p1 r2.length q1))
      clear bx1 bx2 bx3 bx4 by1 by2 by3 by4
      go_wp2
      refine bodyPost_ret (v := .agg #[.bool ng2, .slice p1 r2.length q1]) ?_ rfl ⟨ng2, p1, q1, r2, rfl, by rw [show sg false x + sg true y = sg false (Dm.val xs - Dm.val ys) by rw [hx.val, hy.val]; simp [sg]; omega]; exact Y.out, by omega, Z.out⟩
      simp [results, Try.results56, go_sem, X.out.1, X.out.2.1]
  | true =>
    simp only [Bool.not_true] at E0 by' K ⊢
    go_enter Try.func56, Try.ntmps56
    go_wp2_with fail
    rw [E0.out]
    obtain ⟨bx1, bx2, bx3, bx4⟩ := bx.facts
    obtain ⟨by1, by2, by3, by4⟩ := by'.facts
    obtain ⟨br1, br2, br3, br4⟩ := br.facts
    refine (K.out _ hx0 hy0).mono ?_
    rintro e w9 ⟨rfl, hb9⟩
    replace HB := HB.trans (hb9.mono HB.size)
    replace hx0 := hx0.below hb9
    replace hy0 := hy0.below hb9
    replace bx := bx.below hb9
    replace by' := by'.below hb9
    replace br := br.below hb9
    clear bx1 bx2 bx3 bx4 by1 by2 by3 by4 br1 br2 br3 br4
    obtain ⟨bx1, bx2, bx3, bx4⟩ := bx.facts
    obtain ⟨by1, by2, by3, by4⟩ := by'.facts
    obtain ⟨br1, br2, br3, br4⟩ := br.facts
    go_wp2_with fail
    go_region_held3 (fun w' => w'.cell? ⟨w.heap.size, 0, none⟩ = some (.bool true) ∧ w'.cell? ⟨w.heap.size, 1, none⟩ = some (.slice a1 xs.length c1) ∧ w'.cell? ⟨w.heap.size + 1, 0, none⟩ = some (.bool false) ∧ w'.cell? ⟨w.heap.size + 1, 1, none⟩ = some (.slice a2 ys.length c2)) (go_keep) (first
        | (go_at_call 72; have _hq := hb1'; refine (made_w _ _ p1 q1 d1 _ (s1.below (by repeat (first | exact Below.refl _ _ | refine Below.drew ?_))) e1).mono ?_; rintro e w2 ⟨ng2, r2, rfl, G2, l2, hb2⟩; have hb2' : Below w1.heap.size w1 w2 := (show Below w1.heap.size w1 _ by repeat (first | exact Below.refl _ _ | refine Below.drew ?_)).trans hb2; have HB := HB.trans (hb2'.mono HB.size); replace bx := bx.below hb2'; clear bx1 bx2 bx3 bx4; obtain ⟨bx1, bx2, bx3, bx4⟩ := bx.facts; replace by' := by'.below hb2'; clear by1 by2 by3 by4; obtain ⟨by1, by2, by3, by4⟩ := by'.facts; replace br := br.below hb2'; clear br1 br2 br3 br4; obtain ⟨br1, br2, br3, br4⟩ := br.facts)
        | (go_at_call 78; refine (less_any _ _ _ _ xs (hx0.sl.below (by repeat (first | exact Below.refl _ _ | refine Below.drew ?_))) _ _ _ ys (hy0.sl.below (by repeat (first | exact Below.refl _ _ | refine Below.drew ?_))) (by omega) hlen (by rw [hx.val, hy.val]; exact hle) hpos).mono ?_; rintro e w1 ⟨v1, rfl, D1, hb1⟩; obtain ⟨p1, q1, d1, rfl, s1, e1, l1⟩ := D1.open; clear D1; have hb1' : Below w9.heap.size w9 w1 := (show Below w9.heap.size w9 _ by repeat (first | exact Below.refl _ _ | refine Below.drew ?_)).trans hb1; have HB := HB.trans (hb1'.mono HB.size); replace bx := bx.below hb1'; clear bx1 bx2 bx3 bx4; obtain ⟨bx1, bx2, bx3, bx4⟩ := bx.facts; replace by' := by'.below hb1'; clear by1 by2 by3 by4; obtain ⟨by1, by2, by3, by4⟩ := by'.facts; replace br := br.below hb1'; clear br1 br2 br3 br4; obtain ⟨br1, br2, br3, br4⟩ := br.facts))
    all_goals
      have X := hide (br.set ng2 (.slice p1 r2.length q1)).facts
      have Y := hide (br.wh ng2 (.slice p1 r2.length q1) G2)
      have Z := hide (below_set2 HB (show w.heap.size ≤ w.heap.size + 1 + 1 by omega) (.bool ng2) (.slice p1 r2.length q1))
      clear bx1 bx2 bx3 bx4 by1 by2 by3 by4
      go_wp2
      refine bodyPost_ret (v := .agg #[.bool ng2, .slice p1 r2.length q1]) ?_ rfl ⟨ng2, p1, q1, r2, rfl, by rw [show sg true x + sg false y = sg true (Dm.val xs - Dm.val ys) by rw [hx.val, hy.val]; simp [sg]; omega]; exact Y.out, by omega, Z.out⟩
      simp [results, Try.results56, go_sem, X.out.1, X.out.2.1]

set_option maxRecDepth 20000 in
set_option maxHeartbeats 1000000 in
theorem nadd_lt (w : World) (n1 : Bool) (a1 : Option Addr) (c1 : Nat) (xs : List Int) (x : Int) (hx : Got w a1 c1 xs x) (a2 : Option Addr) (c2 : Nat) (ys : List Int) (y : Int) (hy : Got w a2 c2 ys y) (m1 : xs.length ≤ 400000) (m2 : ys.length ≤ 400000) (hle : x < y) :
    Calls Try.prog 56 #[.agg #[.bool n1, .slice a1 xs.length c1], .agg #[.bool (!n1), .slice a2 ys.length c2]] w fun e w' => ∃ ng' ao cap rs, e = .returned (.agg #[.bool ng', .slice ao rs.length cap]) ∧ Wh w' ng' ao cap rs (sg n1 x + sg (!n1) y) ∧ rs.length ≤ xs.length + ys.length + 1 ∧ Below w.heap.size w w' := by
  obtain ⟨w0, e0, bx, by', br, hb0, hs0⟩ := boxed3 w n1 (.slice a1 xs.length c1) (!n1) (.slice a2 ys.length c2)
  have E0 := hide e0
  have hx0 := hx.below hb0
  have hy0 := hy.below hb0
  have HB := hb0
  have ne1 : ¬ (w.heap.size = w.heap.size + 1 + 1) := by omega
  have ne2 : ¬ (w.heap.size + 1 + 1 = w.heap.size) := by omega
  clear e0 hs0
  have K := hide (fun w hx hy => size_any w n1 (!n1) a1 a2 c1 c2 xs ys x y hx hy)
  have hc : ¬ 0 ≤ cmpI x y := by rw [cmpI_lt hle]; omega
  have hpos : 0 < ys.length := by
    apply Classical.byContradiction
    intro hn
    have h1 := got_zero hy (by omega)
    have h2 := (val_bounds hx.canon.1).1
    rw [hx.val] at h2
    omega
  have hlen : xs.length ≤ ys.length := by
    apply Classical.byContradiction
    intro hn
    have := canon_lt hy.canon hx.canon (by omega)
    rw [hx.val, hy.val] at this
    omega
  generalize cmpI x y = cv at K hc
  cases n1 with
  | false =>
    simp only [Bool.not_false] at E0 by' K ⊢
    go_enter Try.func56, Try.ntmps56
    go_wp2_with fail
    rw [E0.out]
    obtain ⟨bx1, bx2, bx3, bx4⟩ := bx.facts
    obtain ⟨by1, by2, by3, by4⟩ := by'.facts
    obtain ⟨br1, br2, br3, br4⟩ := br.facts
    refine (K.out _ hx0 hy0).mono ?_
    rintro e w9 ⟨rfl, hb9⟩
    replace HB := HB.trans (hb9.mono HB.size)
    replace hx0 := hx0.below hb9
    replace hy0 := hy0.below hb9
    replace bx := bx.below hb9
    replace by' := by'.below hb9
    replace br := br.below hb9
    clear bx1 bx2 bx3 bx4 by1 by2 by3 by4 br1 br2 br3 br4
    obtain ⟨bx1, bx2, bx3, bx4⟩ := bx.facts
    obtain ⟨by1, by2, by3, by4⟩ := by'.facts
    obtain ⟨br1, br2, br3, br4⟩ := br.facts
    go_wp2_with fail
    go_region_held3 (fun w' => w'.cell? ⟨w.heap.size, 0, none⟩ = some (.bool false) ∧ w'.cell? ⟨w.heap.size, 1, none⟩ = some (.slice a1 xs.length c1) ∧ w'.cell? ⟨w.heap.size + 1, 0, none⟩ = some (.bool true) ∧ w'.cell? ⟨w.heap.size + 1, 1, none⟩ = some (.slice a2 ys.length c2)) (go_keep) (first
        | (go_at_call 72; have _hq := hb1'; refine (made_w _ _ p1 q1 d1 _ (s1.below (by repeat (first | exact Below.refl _ _ | refine Below.drew ?_))) e1).mono ?_; rintro e w2 ⟨ng2, r2, rfl, G2, l2, hb2⟩; have hb2' : Below w1.heap.size w1 w2 := (show Below w1.heap.size w1 _ by repeat (first | exact Below.refl _ _ | refine Below.drew ?_)).trans hb2; have HB := HB.trans (hb2'.mono HB.size); replace bx := bx.below hb2'; clear bx1 bx2 bx3 bx4; obtain ⟨bx1, bx2, bx3, bx4⟩ := bx.facts; replace by' := by'.below hb2'; clear by1 by2 by3 by4; obtain ⟨by1, by2, by3, by4⟩ := by'.facts; replace br := br.below hb2'; clear br1 br2 br3 br4; obtain ⟨br1, br2, br3, br4⟩ := br.facts)
        | (go_at_call 78; refine (less_any _ _ _ _ ys (hy0.sl.below (by repeat (first | exact Below.refl _ _ | refine Below.drew ?_))) _ _ _ xs (hx0.sl.below (by repeat (first | exact Below.refl _ _ | refine Below.drew ?_))) (by omega) hlen (by rw [hx.val, hy.val]; omega) hpos).mono ?_; rintro e w1 ⟨v1, rfl, D1, hb1⟩; obtain ⟨p1, q1, d1, rfl, s1, e1, l1⟩ := D1.open; clear D1; have hb1' : Below w9.heap.size w9 w1 := (show Below w9.heap.size w9 _ by repeat (first | exact Below.refl _ _ | refine Below.drew ?_)).trans hb1; have HB := HB.trans (hb1'.mono HB.size); replace bx := bx.below hb1'; clear bx1 bx2 bx3 bx4; obtain ⟨bx1, bx2, bx3, bx4⟩ := bx.facts; replace by' := by'.below hb1'; clear by1 by2 by3 by4; obtain ⟨by1, by2, by3, by4⟩ := by'.facts; replace br := br.below hb1'; clear br1 br2 br3 br4; obtain ⟨br1, br2, br3, br4⟩ := br.facts))
    all_goals
      have X := hide (br.set ng2 (.slice p1 r2.length q1)).facts
      have Y := hide (br.wh ng2 (.slice p1 r2.length q1) G2)
      have Z := hide (below_set2 HB (show w.heap.size ≤ w.heap.size + 1 + 1 by omega) (.bool ng2) (.slice p1 r2.length q1))
      clear bx1 bx2 bx3 bx4 by1 by2 by3 by4
      go_wp2
      refine bodyPost_ret (v := .agg #[.bool ng2, .slice p1 r2.length q1]) ?_ rfl ⟨ng2, p1, q1, r2, rfl, by rw [show sg false x + sg true y = sg true (Dm.val ys - Dm.val xs) by rw [hx.val, hy.val]; simp [sg]; omega]; exact Y.out, by omega, Z.out⟩
      simp [results, Try.results56, go_sem, X.out.1, X.out.2.1]
  | true =>
    simp only [Bool.not_true] at E0 by' K ⊢
    go_enter Try.func56, Try.ntmps56
    go_wp2_with fail
    rw [E0.out]
    obtain ⟨bx1, bx2, bx3, bx4⟩ := bx.facts
    obtain ⟨by1, by2, by3, by4⟩ := by'.facts
    obtain ⟨br1, br2, br3, br4⟩ := br.facts
    refine (K.out _ hx0 hy0).mono ?_
    rintro e w9 ⟨rfl, hb9⟩
    replace HB := HB.trans (hb9.mono HB.size)
    replace hx0 := hx0.below hb9
    replace hy0 := hy0.below hb9
    replace bx := bx.below hb9
    replace by' := by'.below hb9
    replace br := br.below hb9
    clear bx1 bx2 bx3 bx4 by1 by2 by3 by4 br1 br2 br3 br4
    obtain ⟨bx1, bx2, bx3, bx4⟩ := bx.facts
    obtain ⟨by1, by2, by3, by4⟩ := by'.facts
    obtain ⟨br1, br2, br3, br4⟩ := br.facts
    go_wp2_with fail
    go_region_held3 (fun w' => w'.cell? ⟨w.heap.size, 0, none⟩ = some (.bool true) ∧ w'.cell? ⟨w.heap.size, 1, none⟩ = some (.slice a1 xs.length c1) ∧ w'.cell? ⟨w.heap.size + 1, 0, none⟩ = some (.bool false) ∧ w'.cell? ⟨w.heap.size + 1, 1, none⟩ = some (.slice a2 ys.length c2)) (go_keep) (first
        | (go_at_call 72; have _hq := hb1'; refine (made_w _ _ p1 q1 d1 _ (s1.below (by repeat (first | exact Below.refl _ _ | refine Below.drew ?_))) e1).mono ?_; rintro e w2 ⟨ng2, r2, rfl, G2, l2, hb2⟩; have hb2' : Below w1.heap.size w1 w2 := (show Below w1.heap.size w1 _ by repeat (first | exact Below.refl _ _ | refine Below.drew ?_)).trans hb2; have HB := HB.trans (hb2'.mono HB.size); replace bx := bx.below hb2'; clear bx1 bx2 bx3 bx4; obtain ⟨bx1, bx2, bx3, bx4⟩ := bx.facts; replace by' := by'.below hb2'; clear by1 by2 by3 by4; obtain ⟨by1, by2, by3, by4⟩ := by'.facts; replace br := br.below hb2'; clear br1 br2 br3 br4; obtain ⟨br1, br2, br3, br4⟩ := br.facts)
        | (go_at_call 78; refine (less_any _ _ _ _ ys (hy0.sl.below (by repeat (first | exact Below.refl _ _ | refine Below.drew ?_))) _ _ _ xs (hx0.sl.below (by repeat (first | exact Below.refl _ _ | refine Below.drew ?_))) (by omega) hlen (by rw [hx.val, hy.val]; omega) hpos).mono ?_; rintro e w1 ⟨v1, rfl, D1, hb1⟩; obtain ⟨p1, q1, d1, rfl, s1, e1, l1⟩ := D1.open; clear D1; have hb1' : Below w9.heap.size w9 w1 := (show Below w9.heap.size w9 _ by repeat (first | exact Below.refl _ _ | refine Below.drew ?_)).trans hb1; have HB := HB.trans (hb1'.mono HB.size); replace bx := bx.below hb1'; clear bx1 bx2 bx3 bx4; obtain ⟨bx1, bx2, bx3, bx4⟩ := bx.facts; replace by' := by'.below hb1'; clear by1 by2 by3 by4; obtain ⟨by1, by2, by3, by4⟩ := by'.facts; replace br := br.below hb1'; clear br1 br2 br3 br4; obtain ⟨br1, br2, br3, br4⟩ := br.facts))
    all_goals
      have X := hide (br.set ng2 (.slice p1 r2.length q1)).facts
      have Y := hide (br.wh ng2 (.slice p1 r2.length q1) G2)
      have Z := hide (below_set2 HB (show w.heap.size ≤ w.heap.size + 1 + 1 by omega) (.bool ng2) (.slice p1 r2.length q1))
      clear bx1 bx2 bx3 bx4 by1 by2 by3 by4
      go_wp2
      refine bodyPost_ret (v := .agg #[.bool ng2, .slice p1 r2.length q1]) ?_ rfl ⟨ng2, p1, q1, r2, rfl, by rw [show sg true x + sg false y = sg false (Dm.val ys - Dm.val xs) by rw [hx.val, hy.val]; simp [sg]; omega]; exact Y.out, by omega, Z.out⟩
      simp [results, Try.results56, go_sem, X.out.1, X.out.2.1]

theorem nadd_g (w : World) (n1 : Bool) (a1 : Option Addr) (c1 : Nat) (xs : List Int) (x : Int) (hx : Wh w n1 a1 c1 xs x) (n2 : Bool) (a2 : Option Addr) (c2 : Nat) (ys : List Int) (y : Int) (hy : Wh w n2 a2 c2 ys y) (m1 : xs.length ≤ 400000) (m2 : ys.length ≤ 400000) :
    Calls Try.prog 56 #[.agg #[.bool n1, .slice a1 xs.length c1], .agg #[.bool n2, .slice a2 ys.length c2]] w fun e w' => ∃ ng' ao cap rs, e = .returned (.agg #[.bool ng', .slice ao rs.length cap]) ∧ Wh w' ng' ao cap rs (x + y) ∧ rs.length ≤ xs.length + ys.length + 1 ∧ Below w.heap.size w w' := by
  have wx := hx.worth
  have wy := hy.worth
  rw [hx.1.val] at wx
  rw [hy.1.val] at wy
  rw [show x + y = sg n1 (x.natAbs : Int) + sg n2 (y.natAbs : Int) by rw [wx, wy]]
  by_cases hn : n1 = n2
  · subst hn
    exact nadd_same w n1 a1 c1 xs _ hx.1 a2 c2 ys _ hy.1 m1 m2
  · have hn2 : n2 = !n1 := by cases n1 <;> cases n2 <;> simp_all
    have s1 := hx.2
    have s2 := hy.2
    subst hn2
    by_cases hle : (y.natAbs : Int) ≤ (x.natAbs : Int)
    · refine nadd_ge w n1 a1 c1 xs _ hx.1 a2 c2 ys _ hy.1 m1 m2 hle ?_
      cases n1
      · have : y < 0 := by simpa using s2.symm
        omega
      · have : x < 0 := by simpa using s1.symm
        omega
    · exact nadd_lt w n1 a1 c1 xs _ hx.1 a2 c2 ys _ hy.1 m1 m2 (by omega)

end Dm
end Go.Proofs.Ytjhhjefobbhdlaa

namespace Go.Proofs.Ytjhhjefobbhdlaa
namespace Dm
open Go.RowKit
open Lm (hide lt_of_cell lt_of_heap cmpI cmpI_lt cmpI_gt)

/-- A copy reads as what was copied. -/
theorem copied {w : World} {B g n cap : Nat} {zs : List Int} (h : w.ownsRow B 3 1 (.slice (some ⟨g, 0, none⟩) n cap) n ([] ++ zs.map (Value.int .i64))) (hz : Limb zs) : Sl w (.slice (some ⟨g, 0, none⟩) zs.length cap) zs := by
  have hn : zs.length = n := by simpa using h.1
  subst hn
  rw [List.nil_append] at h
  exact (ow_of_row h hz).sl

set_option maxRecDepth 20000 in
set_option maxHeartbeats 1000000 in
theorem minus_some (w : World) (ng : Bool) (a1 : Option Addr) (c1 : Nat) (xs : List Int) (x : Int) (hx : Got w a1 c1 xs x) (m1 : xs.length ≤ 1000000) (h0 : 0 < xs.length) :
    Calls Try.prog 58 #[.agg #[.bool ng, .slice a1 xs.length c1]] w fun e w' => ∃ ng' ao cap rs, e = .returned (.agg #[.bool ng', .slice ao rs.length cap]) ∧ Wh w' ng' ao cap rs (sg (!ng) x) ∧ rs.length ≤ xs.length ∧ Below w.heap.size w w' := by
  obtain ⟨b, off, rfl, _⟩ := hx.sl.cells h0
  obtain ⟨w0, e0, bx, br, hb0, hs0⟩ := boxed1 w ng (.slice (some ⟨b, off, none⟩) xs.length c1)
  have E0 := hide e0
  obtain ⟨i0, hi, hz0, hz1, hz2⟩ := info_parts info64
  obtain ⟨_, p1, p2, p3⟩ := hx.sl.parts
  have P3 := hide p3
  have hx0 := hx.below hb0
  have HB := hb0
  clear e0 hs0 p3
  go_enter Try.func58, Try.ntmps58
  go_wp2_with fail
  rw [E0.out]
  obtain ⟨bx1, bx2, bx3, bx4⟩ := bx.facts
  obtain ⟨br1, br2, br3, br4⟩ := br.facts
  go_region_held3 (fun w' => w'.cell? ⟨w.heap.size, 0, none⟩ = some (.bool ng) ∧ w'.cell? ⟨w.heap.size, 1, none⟩ = some (.slice (some ⟨b, off, none⟩) xs.length c1)) (go_keep) (first
    | (go_at_call 72; refine (made_w _ _ _ _ xs _ (s1.below (by repeat (first | exact Below.refl _ _ | refine Below.drew ?_))) hx.val).mono ?_; rintro e w2 ⟨ng2, r2, rfl, G2, l2, hb2⟩; have hb2' : Below w1.heap.size w1 w2 := (show Below w1.heap.size w1 _ by repeat (first | exact Below.refl _ _ | refine Below.drew ?_)).trans hb2; have HB := HB.trans (hb2'.mono HB.size); replace bx := bx.below hb2'; clear bx1 bx2 bx3 bx4; obtain ⟨bx1, bx2, bx3, bx4⟩ := bx.facts; replace br := br.below hb2'; clear br1 br2 br3 br4; obtain ⟨br1, br2, br3, br4⟩ := br.facts)
    | ((refine step_append_lies _ (by rfl) _ _ _ (by rfl) w0.heap.size 3 i0 _ 1 8 Try.underlying59 hi hz0 hz1 hz2 rfl (by omega) (.slice none 0 0) 0 [] (by rfl) (World.ownsRow_nil _ _ _ _) ⟨b, off, none⟩ xs.length c1 (xs.map (Value.int .i64)) (by rfl) (by simp) (Sl.copy (hx0.sl.below (by repeat (first | exact Below.refl _ _ | refine Below.drew ?_)))) (one_cells xs) (by omega) (by unfold maxLen; omega) (by omega) (by simp) w0.heap.size (by simp) ?_; intro g1 q1 w1 hown hgrow hat hlt; have hb1' : Below w0.heap.size w0 w1 := (show Below w0.heap.size w0 _ by repeat (first | exact Below.refl _ _ | refine Below.drew ?_)).grown hgrow (by simp) (by intro k hk; simp [Value.ownBlock] at hk); have HB := HB.trans (hb1'.mono HB.size); have s1 := copied hown P3.out; replace bx := bx.below hb1'; clear bx1 bx2 bx3 bx4; obtain ⟨bx1, bx2, bx3, bx4⟩ := bx.facts; replace br := br.below hb1'; clear br1 br2 br3 br4; obtain ⟨br1, br2, br3, br4⟩ := br.facts)))
  all_goals
    have X := hide (br.set ng2 (.slice (some ⟨g1, 0, none⟩) r2.length q1)).facts
    have Y := hide (br.wh ng2 (.slice (some ⟨g1, 0, none⟩) r2.length q1) G2)
    have Z := hide (below_set2 HB (show w.heap.size ≤ w.heap.size + 1 by omega) (.bool ng2) (.slice (some ⟨g1, 0, none⟩) r2.length q1))
    clear bx1 bx2 bx3 bx4
    go_wp2
    refine bodyPost_ret (v := .agg #[.bool ng2, .slice (some ⟨g1, 0, none⟩) r2.length q1]) ?_ rfl ⟨ng2, (some ⟨g1, 0, none⟩), q1, r2, rfl, Y.out, by omega, Z.out⟩
    simp [results, Try.results58, go_sem, X.out.1, X.out.2.1]

theorem sl_nil (w : World) : Sl w (.slice none ([] : List Int).length 0) [] := ⟨none, 0, rfl, Nat.le_refl _, by simp [maxLen], limb_nil, .inl rfl⟩

set_option maxRecDepth 20000 in
set_option maxHeartbeats 1000000 in
theorem minus_nonea (w : World) (ng : Bool) (c1 : Nat) (_hc : c1 ≤ 9223372036854775807) :
    Calls Try.prog 58 #[.agg #[.bool ng, .slice none 0 c1]] w fun e w' => ∃ ng' ao cap rs, e = .returned (.agg #[.bool ng', .slice ao rs.length cap]) ∧ Wh w' ng' ao cap rs (sg (!ng) 0) ∧ rs.length ≤ 0 ∧ Below w.heap.size w w' := by
  obtain ⟨w0, e0, bx, br, hb0, hs0⟩ := boxed1 w ng (.slice none 0 c1)
  have E0 := hide e0
  have HB := hb0
  clear e0 hs0
  go_enter Try.func58, Try.ntmps58
  go_wp2_with fail
  rw [E0.out]
  obtain ⟨bx1, bx2, bx3, bx4⟩ := bx.facts
  obtain ⟨br1, br2, br3, br4⟩ := br.facts
  go_region_held3 (fun w' => w'.cell? ⟨w.heap.size, 0, none⟩ = some (.bool ng) ∧ w'.cell? ⟨w.heap.size, 1, none⟩ = some (.slice none 0 c1)) (go_keep) (first
    | (go_at_call 72; refine (made_w _ _ none 0 [] 0 (sl_nil _) rfl).mono ?_; rintro e w2 ⟨ng2, r2, rfl, G2, l2, hb2⟩; have hb2' : Below w0.heap.size w0 w2 := (show Below w0.heap.size w0 _ by repeat (first | exact Below.refl _ _ | refine Below.drew ?_)).trans hb2; have HB := HB.trans (hb2'.mono HB.size); replace bx := bx.below hb2'; clear bx1 bx2 bx3 bx4; obtain ⟨bx1, bx2, bx3, bx4⟩ := bx.facts; replace br := br.below hb2'; clear br1 br2 br3 br4; obtain ⟨br1, br2, br3, br4⟩ := br.facts))
  all_goals
    have X := hide (br.set ng2 (.slice none r2.length 0)).facts
    have Y := hide (br.wh ng2 (.slice none r2.length 0) G2)
    have Z := hide (below_set2 HB (show w.heap.size ≤ w.heap.size + 1 by omega) (.bool ng2) (.slice none r2.length 0))
    clear bx1 bx2 bx3 bx4
    go_wp2
    refine bodyPost_ret (v := .agg #[.bool ng2, .slice none r2.length 0]) ?_ rfl ⟨ng2, none, 0, r2, rfl, Y.out, by simpa using l2, Z.out⟩
    simp [results, Try.results58, go_sem, X.out.1, X.out.2.1]

set_option maxRecDepth 20000 in
set_option maxHeartbeats 1000000 in
theorem minus_noneb (w : World) (ng : Bool) (ad : Addr) (c1 : Nat) (_hc : c1 ≤ 9223372036854775807) :
    Calls Try.prog 58 #[.agg #[.bool ng, .slice (some ad) 0 c1]] w fun e w' => ∃ ng' ao cap rs, e = .returned (.agg #[.bool ng', .slice ao rs.length cap]) ∧ Wh w' ng' ao cap rs (sg (!ng) 0) ∧ rs.length ≤ 0 ∧ Below w.heap.size w w' := by
  obtain ⟨w0, e0, bx, br, hb0, hs0⟩ := boxed1 w ng (.slice (some ad) 0 c1)
  have E0 := hide e0
  have HB := hb0
  clear e0 hs0
  go_enter Try.func58, Try.ntmps58
  go_wp2_with fail
  rw [E0.out]
  obtain ⟨bx1, bx2, bx3, bx4⟩ := bx.facts
  obtain ⟨br1, br2, br3, br4⟩ := br.facts
  go_region_held3 (fun w' => w'.cell? ⟨w.heap.size, 0, none⟩ = some (.bool ng) ∧ w'.cell? ⟨w.heap.size, 1, none⟩ = some (.slice (some ad) 0 c1)) (go_keep) (first
    | (go_at_call 72; refine (made_w _ _ none 0 [] 0 (sl_nil _) rfl).mono ?_; rintro e w2 ⟨ng2, r2, rfl, G2, l2, hb2⟩; have hb2' : Below w0.heap.size w0 w2 := (show Below w0.heap.size w0 _ by repeat (first | exact Below.refl _ _ | refine Below.drew ?_)).trans hb2; have HB := HB.trans (hb2'.mono HB.size); replace bx := bx.below hb2'; clear bx1 bx2 bx3 bx4; obtain ⟨bx1, bx2, bx3, bx4⟩ := bx.facts; replace br := br.below hb2'; clear br1 br2 br3 br4; obtain ⟨br1, br2, br3, br4⟩ := br.facts))
  all_goals
    have X := hide (br.set ng2 (.slice none r2.length 0)).facts
    have Y := hide (br.wh ng2 (.slice none r2.length 0) G2)
    have Z := hide (below_set2 HB (show w.heap.size ≤ w.heap.size + 1 by omega) (.bool ng2) (.slice none r2.length 0))
    clear bx1 bx2 bx3 bx4
    go_wp2
    refine bodyPost_ret (v := .agg #[.bool ng2, .slice none r2.length 0]) ?_ rfl ⟨ng2, none, 0, r2, rfl, Y.out, by simpa using l2, Z.out⟩
    simp [results, Try.results58, go_sem, X.out.1, X.out.2.1]

theorem minus_got (w : World) (ng : Bool) (a1 : Option Addr) (c1 : Nat) (xs : List Int) (x : Int) (hx : Got w a1 c1 xs x) (m1 : xs.length ≤ 1000000) :
    Calls Try.prog 58 #[.agg #[.bool ng, .slice a1 xs.length c1]] w fun e w' => ∃ ng' ao cap rs, e = .returned (.agg #[.bool ng', .slice ao rs.length cap]) ∧ Wh w' ng' ao cap rs (sg (!ng) x) ∧ rs.length ≤ xs.length ∧ Below w.heap.size w w' := by
  by_cases h0 : 0 < xs.length
  · exact minus_some w ng a1 c1 xs x hx m1 h0
  · have e : xs = [] := List.eq_nil_of_length_eq_zero (by omega)
    have hx0 : x = 0 := by rw [← hx.val, e]; rfl
    have hc := hx.sl.parts.2.2.1
    rw [hx0, e]
    cases a1 with
    | none => exact minus_nonea w ng c1 hc
    | some ad => exact minus_noneb w ng ad c1 hc

theorem minus_g (w : World) (n1 : Bool) (a1 : Option Addr) (c1 : Nat) (xs : List Int) (x : Int) (hx : Wh w n1 a1 c1 xs x) (m1 : xs.length ≤ 1000000) :
    Calls Try.prog 58 #[.agg #[.bool n1, .slice a1 xs.length c1]] w fun e w' => ∃ ng' ao cap rs, e = .returned (.agg #[.bool ng', .slice ao rs.length cap]) ∧ Wh w' ng' ao cap rs (-x) ∧ rs.length ≤ xs.length ∧ Below w.heap.size w w' := by
  have wx := hx.worth
  rw [hx.1.val] at wx
  rw [show -x = sg (!n1) (x.natAbs : Int) by rw [sg_neg, wx]]
  exact minus_got w n1 a1 c1 xs _ hx.1 m1

end Dm
end Go.Proofs.Ytjhhjefobbhdlaa

namespace Go.Proofs.Ytjhhjefobbhdlaa
namespace Dm
open Go.RowKit
open Lm (hide lt_of_cell lt_of_heap)

theorem sg_eq (ng : Bool) (x : Int) : sg ng x = Lm.sg ng x := by cases ng <;> simp [sg, Lm.sg]

theorem Wh.nats {w : World} {ao : Option Addr} {cap : Nat} {rs : List Int} {x : Int} (h : Got w ao cap rs x) : Wh w false ao cap rs x := by
  have := Wh.of false h
  simpa [sg] using this

theorem box_past {w : World} {g : Nat} {ng : Bool} {v : Value} (h : Box w g ng v) {k : Nat} (hne : g ≠ k) (b u : Value) : Box ((w.setCell ⟨k, 0, none⟩ b).setCell ⟨k, 1, none⟩ u) g ng v := by
  unfold Box
  rw [heap_setCell_other _ ⟨k, 1, none⟩ g _ hne, heap_setCell_other _ ⟨k, 0, none⟩ g _ hne]
  exact h

set_option maxRecDepth 20000 in
set_option maxHeartbeats 1000000 in
theorem nof_g (w : World) (ng : Bool) (a1 : Option Addr) (n1 c1 : Nat) (xs : List Int) (hx : Lm.Sl w (.slice a1 n1 c1) xs) (m1 : xs.length ≤ 100000) :
    Calls Try.prog 44 #[.agg #[.bool ng, .slice a1 n1 c1]] w fun e w' => ∃ ng' ao cap rs, e = .returned (.agg #[.bool ng', .slice ao rs.length cap]) ∧ Wh w' ng' ao cap rs (Lm.sg ng (Lm.val xs)) ∧ rs.length ≤ 3 * xs.length ∧ Below w.heap.size w w' := by
  obtain ⟨w1, e1, bx, hb1, hs1⟩ := Lm.boxed0 w ng (.slice a1 n1 c1)
  obtain ⟨w2, e2, br, hb2, hs2⟩ := boxed0 w1 false (.slice none 0 0)
  have E1 := hide e1
  have E2 := hide e2
  have HB := hb1.trans (hb2.mono hb1.size)
  replace bx := bx.below hb2
  rw [hs1] at br
  have hx2 := hx.below HB
  have HS : w2.heap.size = w.heap.size + 2 := by omega
  rw [← sg_eq]
  clear e1 e2 hb1 hb2 hs1 hs2
  cases ng with
  | false =>
    go_enter Try.func44, Try.ntmps44
    go_upto_region 1 with fail
    rw [E1.out, E2.out]
    obtain ⟨bx1, bx2, bx3, bx4⟩ := bx.facts
    go_wp2_with fail
    refine (fromLimbs_any _ _ _ _ xs hx2 (by omega)).mono ?_
    rintro e w3 ⟨p3, q3, D3, rfl, G3, d3, hb3⟩
    obtain ⟨w4, e4, bn, hb4, hs4⟩ := boxed0 w3 false (.slice p3 D3.length q3)
    have E4 := hide e4
    have z3 := hb3.size
    replace HB := (HB.trans (hb3.mono HB.size)).trans (hb4.mono (Nat.le_trans HB.size z3))
    replace bx := (bx.below hb3).below hb4
    replace br := (br.below hb3).below hb4
    replace G3 := G3.below hb4
    clear e4 hb3 hb4 bx1 bx2 bx3 bx4
    go_upto_region 2 with fail
    rw [E4.out]
    obtain ⟨bx1, bx2, bx3, bx4⟩ := bx.facts
    obtain ⟨br1, br2, br3, br4⟩ := br.facts
    obtain ⟨bn1, bn2, bn3, bn4⟩ := bn.facts
    have F := hide (br.set false (.slice p3 D3.length q3)).facts
    have Y := hide (br.wh false (.slice p3 D3.length q3) (Wh.nats G3))
    have Z := hide (below_set2 HB (show w.heap.size ≤ w.heap.size + 1 by omega) (.bool false) (.slice p3 D3.length q3))
    go_wp2
    refine bodyPost_ret (v := .agg #[.bool false, .slice p3 D3.length q3]) ?_ rfl ⟨false, p3, q3, D3, rfl, Y.out, by omega, Z.out⟩
    simp [results, Try.results44, go_sem, F.out.1, F.out.2.1]
  | true =>
    go_enter Try.func44, Try.ntmps44
    go_upto_region 1 with fail
    rw [E1.out, E2.out]
    obtain ⟨bx1, bx2, bx3, bx4⟩ := bx.facts
    go_wp2_with fail
    refine (fromLimbs_any _ _ _ _ xs hx2 (by omega)).mono ?_
    rintro e w3 ⟨p3, q3, D3, rfl, G3, d3, hb3⟩
    obtain ⟨w4, e4, bn, hb4, hs4⟩ := boxed0 w3 false (.slice p3 D3.length q3)
    have E4 := hide e4
    have z3 := hb3.size
    replace HB := (HB.trans (hb3.mono HB.size)).trans (hb4.mono (Nat.le_trans HB.size z3))
    replace bx := (bx.below hb3).below hb4
    replace br := (br.below hb3).below hb4
    replace G3 := G3.below hb4
    clear e4 hb3 hb4 bx1 bx2 bx3 bx4
    go_upto_region 2 with fail
    rw [E4.out]
    obtain ⟨bx1, bx2, bx3, bx4⟩ := bx.facts
    obtain ⟨bn1, bn2, bn3, bn4⟩ := bn.facts
    go_wp2_with fail
    refine (minus_got _ _ _ _ D3 _ G3 (by omega)).mono ?_
    rintro e w5 ⟨n5, p5, q5, D5, rfl, G5, d5, hb5⟩
    replace HB := HB.trans (hb5.mono HB.size)
    replace br := br.below hb5
    clear bx1 bx2 bx3 bx4 bn1 bn2 bn3 bn4 hb5
    obtain ⟨br1, br2, br3, br4⟩ := br.facts
    have F := hide (br.set n5 (.slice p5 D5.length q5)).facts
    have Y := hide (br.wh n5 (.slice p5 D5.length q5) G5)
    have Z := hide (below_set2 HB (show w.heap.size ≤ w.heap.size + 1 by omega) (.bool n5) (.slice p5 D5.length q5))
    go_wp2
    refine bodyPost_ret (v := .agg #[.bool n5, .slice p5 D5.length q5]) ?_ rfl ⟨n5, p5, q5, D5, rfl, Y.out, by omega, Z.out⟩
    simp [results, Try.results44, go_sem, F.out.1, F.out.2.1]

theorem nof_z (w : World) (ng : Bool) (a1 : Option Addr) (n1 c1 : Nat) (xs : List Int) (x : Int) (hx : Lm.Ag w ng a1 n1 c1 xs x) (m1 : xs.length ≤ 100000) :
    Calls Try.prog 44 #[.agg #[.bool ng, .slice a1 n1 c1]] w fun e w' => ∃ ng' ao cap rs, e = .returned (.agg #[.bool ng', .slice ao rs.length cap]) ∧ Wh w' ng' ao cap rs x ∧ rs.length ≤ 3 * xs.length ∧ Below w.heap.size w w' := by
  have h := nof_g w ng a1 n1 c1 xs hx.sl m1
  rw [hx.worth] at h
  exact h

/-- An answer that is a whole number in memory of its own. -/
structure WFr (B T : Nat) (w : World) (ng : Bool) (ao : Option Addr) (cap : Nat) (rs : List Int) (z : Int) : Prop where
  fr : Lm.Fr B T w ao cap rs (z.natAbs : Int)
  sgn : ng = decide (z < 0)

theorem WFr.wh {B T : Nat} {w : World} {ng : Bool} {ao : Option Addr} {cap : Nat} {rs : List Int} {z : Int} (h : WFr B T w ng ao cap rs z) : Lm.Wh w ng ao cap rs z := ⟨h.fr.got, h.sgn⟩
theorem WFr.below {B T : Nat} {w w' : World} {ng : Bool} {ao : Option Addr} {cap : Nat} {rs : List Int} {z : Int} (h : WFr B T w ng ao cap rs z) (hb : Below w.heap.size w w') : WFr B T w' ng ao cap rs z := ⟨h.fr.below hb, h.sgn⟩
theorem WFr.kept {B T : Nat} {w w' : World} {ng : Bool} {ao : Option Addr} {cap : Nat} {rs : List Int} {z : Int} (h : WFr B T w ng ao cap rs z) (hk : ∀ g, g < w.heap.size → B ≤ g → g < T → w'.heap[g]? = w.heap[g]?) : WFr B T w' ng ao cap rs z := ⟨h.fr.kept hk, h.sgn⟩
theorem WFr.touch {B T L : Nat} {w w' : World} {ng : Bool} {ao : Option Addr} {cap : Nat} {rs : List Int} {z : Int} (h : WFr B T w ng ao cap rs z) (t : Lm.Touch w w' L) (hL : L < B ∨ T ≤ L) : WFr B T w' ng ao cap rs z := ⟨h.fr.touch t hL, h.sgn⟩
theorem WFr.kp {B T p : Nat} {bs : List Nat} {w w' : World} {ng : Bool} {ao : Option Addr} {cap : Nat} {rs : List Int} {z : Int} (h : WFr B T w ng ao cap rs z) (k : Lm.Kp w w' p bs) (hp : p < B ∨ T ≤ p) (hb : ∀ j, j ∈ bs → j < B ∨ T ≤ j) : WFr B T w' ng ao cap rs z := ⟨h.fr.kp k hp hb, h.sgn⟩
theorem WFr.wide {B B' T T' : Nat} {w : World} {ng : Bool} {ao : Option Addr} {cap : Nat} {rs : List Int} {z : Int} (h : WFr B T w ng ao cap rs z) (hB : B' ≤ B) (hT : T ≤ T') : WFr B' T' w ng ao cap rs z :=
  ⟨⟨h.fr.ow.mono hB, h.fr.canon, h.fr.val, fun h0 g off e => by have := h.fr.lies h0 g off e; omega⟩, h.sgn⟩

theorem set2_kept {w : World} {k : Nat} (b u : Value) {g : Nat} (h : g ≠ k) : ((w.setCell ⟨k, 0, none⟩ b).setCell ⟨k, 1, none⟩ u).heap[g]? = w.heap[g]? := by
  rw [heap_setCell_other _ ⟨k, 1, none⟩ g _ h, heap_setCell_other _ ⟨k, 0, none⟩ g _ h]

set_option maxRecDepth 20000 in
set_option maxHeartbeats 1000000 in
theorem told_g (w : World) (ng : Bool) (ao : Option Addr) (cap : Nat) (rs : List Int) (z : Int) (h : Wh w ng ao cap rs z) (M : Nat) (hz : (z.natAbs : Int) < Lm.pw M) (hM : M ≤ 1000000) (hl : rs.length ≤ 1000000) :
    Calls Try.prog 54 #[.agg #[.bool ng, .slice ao rs.length cap]] w fun e w' => ∃ bo dap ls, e = .returned (.agg #[.bool ng, .slice bo ls.length dap]) ∧ WFr w.heap.size w'.heap.size w' ng bo dap ls z ∧ ls.length ≤ M ∧ Below w.heap.size w w' := by
  obtain ⟨w1, e1, bx, hb1, hs1⟩ := boxed0 w ng (.slice ao rs.length cap)
  obtain ⟨w2, e2, br, hb2, hs2⟩ := Lm.boxed0 w1 false (.slice none 0 0)
  have E1 := hide e1
  have E2 := hide e2
  have HB := hb1.trans (hb2.mono hb1.size)
  replace bx := bx.below hb2
  rw [hs1] at br
  have h2 := h.below HB
  have HS : w2.heap.size = w.heap.size + 2 := by omega
  have HSG := hide h.2
  have HZ := hide hz
  have ne1 : ¬ (w.heap.size = w.heap.size + 1) := by omega
  have ne2 : ¬ (w.heap.size + 1 = w.heap.size) := by omega
  clear e1 e2 hb1 hb2 hs1 hs2 hz
  go_enter Try.func54, Try.ntmps54
  go_upto_region 1 with fail
  rw [E1.out, E2.out]
  obtain ⟨bx1, bx2, bx3, bx4⟩ := bx.facts
  obtain ⟨br1, br2, br3, br4⟩ := br.facts
  go_region_held3 (fun w' => w'.cell? ⟨w.heap.size, 0, none⟩ = some (.bool ng) ∧ w'.cell? ⟨w.heap.size, 1, none⟩ = some (.slice ao rs.length cap)) (go_keep) (first
    | (go_at_call 76; refine (limbs_any _ _ _ _ rs _ (h2.1.below (by repeat (first | exact Below.refl _ _ | refine Below.drew ?_))) M HZ.out hM hl).mono ?_; rintro e w1' ⟨v1, rfl, I1, hb1⟩; have hb1' : Below w2.heap.size w2 w1' := (show Below w2.heap.size w2 _ by repeat (first | exact Below.refl _ _ | refine Below.drew ?_)).trans hb1; obtain ⟨p1, q1, r1, rfl, F1⟩ := I1.fr; clear I1; replace bx := bx.below hb1'; clear bx1 bx2 bx3 bx4; obtain ⟨bx1, bx2, bx3, bx4⟩ := bx.facts; replace br := br.below hb1'; clear br1 br2 br3 br4; obtain ⟨br1, br2, br3, br4⟩ := br.facts))
  all_goals
    have HB2 := HB.trans (hb1'.mono HB.size)
    have F := hide (br.set ng (.slice p1 r1.length q1)).facts
    have hkk := lt_of_heap br
    have Y := hide (show WFr w2.heap.size w1'.heap.size _ ng p1 q1 r1 z from (WFr.kept (w := w1') ⟨F1, HSG.out⟩ (fun g _ hg _ => set2_kept (.bool ng) (.slice p1 r1.length q1) (show g ≠ w.heap.size + 1 by omega))))
    have Z := hide (below_set2 HB2 (show w.heap.size ≤ w.heap.size + 1 by omega) (.bool ng) (.slice p1 r1.length q1))
    have LL := hide (Lm.canon_len F1.canon (m := M) (by rw [F1.val]; exact HZ.out))
    clear bx1 bx2 bx3 bx4
    go_wp2
    refine bodyPost_ret (v := .agg #[.bool ng, .slice p1 r1.length q1]) ?_ rfl ⟨p1, q1, r1, rfl, Y.out.wide (by omega) (by simp [World.setCell]), LL.out, Z.out⟩
    simp [results, Try.results54, go_sem, F.out.1, F.out.2.1]

end Dm
end Go.Proofs.Ytjhhjefobbhdlaa

namespace Go.Proofs.Ytjhhjefobbhdlaa
namespace Lm
open Go.RowKit

/-- The cells of a row. -/
theorem owns_cell {w : World} {B e n : Nat} {a : Option Addr} {c : Nat} {xs : List Value} (h : w.ownsRow B e 1 (.slice a n c) n xs) {i : Nat} (hi : i < n) : ∃ g u, a = some ⟨g, 0, none⟩ ∧ xs[i]? = some u ∧ w.cell? ⟨g, i, none⟩ = some u := by
  have hl := h.1
  rcases h.2 with ⟨e, rfl⟩ | ⟨g, cap, cur, e, _, hh, h1, h2, hs, ht⟩
  · omega
  · simp only [Value.slice.injEq] at e
    obtain ⟨rfl, _, rfl⟩ := e
    have hx : xs[i]? = some (xs[i]'(by omega)) := List.getElem?_eq_getElem (by omega)
    refine ⟨g, _, rfl, hx, ?_⟩
    rw [cell_of_row w g i cur _ (0, 0) hh, ← Array.getElem?_toList, ← hx, ← ht, List.getElem?_take, if_pos (by omega)]

set_option maxRecDepth 20000 in
set_option maxHeartbeats 1000000 in
theorem done_any (w : World) (p Q : Nat) (bs : List Nat) (rv : List Value) (lv mv : Value) (hk : Bk w p Q bs rv rv.length lv mv) (_hr : rv.length ≤ 1000) :
    Calls Try.prog 33 #[.pointer (some ⟨p, 0, none⟩)] w fun e w' => e = .returned (.bool true) ∧ Below w.heap.size w w' := by
  obtain ⟨al, cl, rfl, al1, al2⟩ := owns_shape hk.lists
  obtain ⟨am, cm, rfl, am1, am2⟩ := owns_shape hk.marks
  go_enter Try.func33, Try.ntmps33
  go_wp2
  go_loopw [3] (fun iv wr => ∃ i : Nat, i ≤ rv.length ∧ iv = .int .i64 i ∧ Below w.heap.size w wr) (fun iv _ => rv.length - (intOf iv).toNat)
  case atStart => exact ⟨0, Nat.zero_le _, rfl, Below.refl _ _⟩
  case round =>
    obtain ⟨i, hi, rfl, hbel⟩ := hrel
    obtain ⟨k0, k1, k2, k3⟩ := (hk.below hbel).facts
    by_cases hlt : i < rv.length
    · have dI : (i : Int) < (rv.length : Int) := by omega
      have HBL := hide hbel
      clear hbel
      go_wp2
      clear k0 k1 k2 k3
      obtain ⟨g1, u, rfl, hu, hc1⟩ := owns_cell hk.lists hlt
      obtain ⟨g2, u2, rfl, hu2, hc2⟩ := owns_cell hk.marks hlt
      rw [bmks_get hlt] at hu2
      simp only [Option.some.injEq] at hu2
      subst hu2
      obtain ⟨ao, n, cap, rfl, n1, n2, n3, n4⟩ := hk.rooms i u hu
      have C1 := hide hc1
      have C2 := hide hc2
      have N4 := hide n4
      clear hc1 hc2 n4 hu
      go_loopw [4] (fun kv wr => ∃ k : Nat, k ≤ n ∧ kv = .int .i64 k ∧ Below w.heap.size w wr) (fun kv _ => n - (intOf kv).toNat)
      case atStart => exact ⟨0, Nat.zero_le _, rfl, HBL.out⟩
      case round =>
        clear HBL
        obtain ⟨k, hkn, rfl, hbel⟩ := hrel
        obtain ⟨k0, k1, k2, k3⟩ := (hk.below hbel).facts
        have c1 := (hbel.cell (p := ⟨g1, i, none⟩) (lt_of_cell C1.out)).trans C1.out
        have c2 := (hbel.cell (p := ⟨g2, i, none⟩) (lt_of_cell C2.out)).trans C2.out
        by_cases hlt2 : k < n
        · have dK : (k : Int) < (n : Int) := by omega
          rcases N4.out with h0 | ⟨g, off, rfl, _, _, _, hc⟩
          · omega
          have c3 := (hbel.cell (p := ⟨g, off + k, none⟩) (lt_of_cell (hc k hlt2))).trans (hc k hlt2)
          clear hc N4
          simp only [bmk] at c2 c3
          go_wp2
          go_quiet (fail)
          go_wp2
          go_roundw
          case rel => exact ⟨k + 1, by omega, by go_num, below_drewN hbel _⟩
          case measure => simp [intOf]; omega
        · have dK : ¬ (k : Int) < (n : Int) := by omega
          go_wp2
          go_roundw
          case rel => exact ⟨i + 1, by omega, by go_num, hbel⟩
          case measure => simp [intOf]; omega
    · have dI : ¬ (i : Int) < (rv.length : Int) := by omega
      go_wp2
      go_ret
      exact ⟨rfl, hbel⟩

theorem done_b (w : World) (p Q n : Nat) (bs : List Nat) (hb : Bs w p Q bs n) (hn : n ≤ 1000) :
    Calls Try.prog 33 #[.pointer (some ⟨p, 0, none⟩)] w fun e w' => e = .returned (.bool true) ∧ Below w.heap.size w w' := by
  obtain ⟨rv, lv, mv, rfl, hk⟩ := hb
  exact done_any w p Q bs rv lv mv hk hn

end Lm
end Go.Proofs.Ytjhhjefobbhdlaa

namespace Go.Proofs.Ytjhhjefobbhdlaa
namespace Lm
open Go.RowKit

theorem Sl.lt {w : World} {a : Option Addr} {n c : Nat} {zs : List Int} (h : Sl w (.slice a n c) zs) (h0 : 0 < zs.length) (b off : Nat) (e : a = some ⟨b, off, none⟩) : b < w.heap.size := by
  obtain ⟨b', off', e', hc⟩ := h.cells h0
  rw [e] at e'
  simp only [Option.some.injEq, Addr.mk.injEq, and_true] at e'
  have := lt_of_cell (hc 0 h0)
  omega

/-- Two lenders, side by side, new. -/
theorem lenders (w : World) (o : Obj) (ho : o = .cells #[.slice none 0 0, .int .i64 0] 28) :
    ((w.alloc o).alloc o).heap[w.heap.size]? = some (.cells #[.slice none 0 0, .int .i64 0] 28 (0, 0)) ∧ ((w.alloc o).alloc o).heap[w.heap.size + 1]? = some (.cells #[.slice none 0 0, .int .i64 0] 28 (0, 0)) ∧ Below w.heap.size w ((w.alloc o).alloc o) ∧ ((w.alloc o).alloc o).heap.size = w.heap.size + 2 := by
  subst ho
  refine ⟨?_, ?_, ((Below.refl _ _).alloc (Nat.le_refl _) _).alloc (by simp) _, by simp⟩
  · rw [Below.heap_alloc _ _ _ (by simp)]
    exact heap_alloc_new w _
  · have := heap_alloc_new (w.alloc (.cells #[.slice none 0 0, .int .i64 0] 28)) (.cells #[.slice none 0 0, .int .i64 0] 28)
    rwa [World.size_alloc] at this

theorem LendS.lt {w : World} {L g : Nat} {xs : List Int} (h : LendS w L g xs) : g < w.heap.size := by
  obtain ⟨_, cur, hh, _⟩ := h
  exact lt_of_heap hh

/-- A new book in a new block. -/
theorem book_new (w : World) : (w.alloc (.cells #[.slice none 0 0, .slice none 0 0] 40)).heap[w.heap.size]? = some (.cells #[.slice none 0 0, .slice none 0 0] 40 (0, 0)) ∧ Below w.heap.size w (w.alloc (.cells #[.slice none 0 0, .slice none 0 0] 40)) ∧ (w.alloc (.cells #[.slice none 0 0, .slice none 0 0] 40)).heap.size = w.heap.size + 1 :=
  ⟨heap_alloc_new w _, (Below.refl _ _).alloc (Nat.le_refl _) _, by simp⟩

end Lm
end Go.Proofs.Ytjhhjefobbhdlaa

namespace Go.Proofs.Ytjhhjefobbhdlaa
namespace Lm
open Go.RowKit

/-- n is how many limbs x has in its one form. -/
def IsLen (x : Int) (n : Nat) : Prop := ∃ rs, Canon rs ∧ val rs = x ∧ rs.length = n
theorem isLen_one {x : Int} {m n : Nat} (h : IsLen x m) (h' : IsLen x n) : m = n := by
  obtain ⟨rs, c, v, rfl⟩ := h
  obtain ⟨ss, c', v', rfl⟩ := h'
  rw [canon_one c c' (by rw [v, v'])]
theorem isLen_bits {x : Int} {k n : Nat} (h : IsLen x n) (hb : IsBits x k) : (k + 31) / 32 = n := by
  obtain ⟨rs, c, v, rfl⟩ := h
  have hu := (val_bounds c.1).2
  rw [v, pw_p2] at hu
  by_cases h0 : rs.length = 0
  · have e : rs = [] := List.eq_nil_of_length_eq_zero h0
    subst e
    have : x = 0 := by rw [← v]; rfl
    subst this
    rw [isBits_zero hb]
    rfl
  · have hlow : pw (rs.length - 1) ≤ x := by
      apply Classical.byContradiction
      intro hn
      have := canon_len c (m := rs.length - 1) (by rw [v]; omega)
      omega
    rw [pw_p2] at hlow
    have h1 : 32 * (rs.length - 1) < k := by
      apply Classical.byContradiction
      intro hn
      have := p2_mono (m := k) (n := 32 * (rs.length - 1)) (by omega)
      have := hb.1
      omega
    have h2 : k ≤ 32 * rs.length := by
      rcases hb.2 with h | h
      · omega
      · apply Classical.byContradiction
        intro hn
        have := p2_mono (m := 32 * rs.length) (n := k - 1) (by omega)
        omega
    omega

set_option maxRecDepth 20000 in
set_option maxHeartbeats 400000 in
theorem wlimbs_any (w : World) (ng : Bool) (ao : Option Addr) (n cap : Nat) (zs : List Int) (h : Sl w (.slice ao n cap) zs) (hz : zs.length ≤ 1000000) (m : Nat) (hm : IsLen (val zs) m) :
    Calls Try.prog 14 #[.agg #[.bool ng, .slice ao n cap]] w fun e w' => e = .returned (.int .i64 m) ∧ Below w.heap.size w w' := by
  obtain ⟨w0, e0, bx, hb0, hs0⟩ := boxed0 w ng (.slice ao n cap)
  have E0 := hide e0
  have h0 := h.below hb0
  have hu := (val_bounds h.parts.2.2.2).2
  clear e0 hs0
  go_enter Try.func14, Try.ntmps14
  go_wp2_with fail
  rw [E0.out]
  obtain ⟨c0, c1, f0, f1⟩ := bx.facts
  refine (bits_any _ _ _ _ zs h0 hz).mono ?_
  rintro e w1 ⟨l, rfl, t, rfl⟩
  have hl := isLen_bits hm t
  have hle : l ≤ 32000000 := by
    rcases t.2 with h | h
    · omega
    · apply Classical.byContradiction
      intro hn
      rw [pw_p2] at hu
      have := p2_mono (m := 32 * zs.length) (n := l - 1) (by omega)
      omega
  have HL := hide hl
  clear t hl hm hu
  go_wp2
  go_ret
  have hl := HL.out
  exact ⟨ret_i64 (by omega), hb0⟩

end Lm
end Go.Proofs.Ytjhhjefobbhdlaa

namespace Go.Proofs.Ytjhhjefobbhdlaa
namespace Lm
open Go Go.RowKit
open Dm (WFr)

theorem Ag.ru {w w' : World} {ng : Bool} {ao : Option Addr} {n cap : Nat} {xs : List Int} {z : Int} (h : Ag w ng ao n cap xs z) (hr : Ru w w') : Ag w' ng ao n cap xs z := ⟨h.sl.ru hr, h.worth⟩
theorem Got.ru {w w' : World} {ao : Option Addr} {cap : Nat} {rs : List Int} {x : Int} (h : Got w ao cap rs x) (hr : Ru w w') : Got w' ao cap rs x := ⟨h.1.ru hr, h.2⟩
theorem Wh.ru {w w' : World} {ng : Bool} {ao : Option Addr} {cap : Nat} {rs : List Int} {z : Int} (h : Wh w ng ao cap rs z) (hr : Ru w w') : Wh w' ng ao cap rs z := ⟨Got.ru h.1 hr, h.2⟩
theorem Ow.ru {B : Nat} {w w' : World} {v : Value} {zs : List Int} (h : Ow B w v zs) (hr : Ru w w') : Ow B w' v zs := by
  obtain ⟨ao, cap, rfl, h1, h2, h3, h4⟩ := h
  refine ⟨ao, cap, rfl, h1, h2, h3, ?_⟩
  rcases h4 with h4 | ⟨g, off, cur, rfl, hB, hh, r⟩
  · exact .inl h4
  · exact .inr ⟨g, off, cur, rfl, hB, hr.rows g cur hh, r⟩
theorem Fr.ru {B T : Nat} {w w' : World} {ao : Option Addr} {cap : Nat} {rs : List Int} {x : Int} (h : Fr B T w ao cap rs x) (hr : Ru w w') : Fr B T w' ao cap rs x := ⟨h.ow.ru hr, h.canon, h.val, h.lies⟩
theorem _root_.Go.Proofs.Ytjhhjefobbhdlaa.Dm.WFr.ru {B T : Nat} {w w' : World} {ng : Bool} {ao : Option Addr} {cap : Nat} {rs : List Int} {z : Int} (h : WFr B T w ng ao cap rs z) (hr : Ru w w') : WFr B T w' ng ao cap rs z := ⟨h.fr.ru hr, h.sgn⟩
theorem _root_.Go.Proofs.Ytjhhjefobbhdlaa.Dm.WFr.rl {B T : Nat} {w w' : World} {ng : Bool} {ao : Option Addr} {cap : Nat} {rs : List Int} {z : Int} (h : WFr B T w ng ao cap rs z) (hr : Rl w w') : WFr B T w' ng ao cap rs z := h.ru (Ru.of_rl hr)

theorem Eqs.mono5 (x : Value) : Mono5 (Eqs x) := fun _ _ _ _ h => h
theorem True.mono5 : Mono5 (fun _ _ => True) := fun _ _ _ _ h => h
theorem IsW.mono5 (z : Int) (L : Nat) : Mono5 (IsW z L) := fun _ _ _ hb ⟨ng, ao, n, cap, xs, e, h, l⟩ => ⟨ng, ao, n, cap, xs, e, h.ru hb, l⟩
theorem OutW.mono5 (z : Int) (L : Nat) : Mono5 (OutW z L) := fun _ _ _ hb ⟨ng, ao, cap, rs, e, h, l⟩ => ⟨ng, ao, cap, rs, e, h.ru hb, l⟩
theorem IsL.mono5 (x : Int) (L : Nat) : Mono5 (IsL x L) := fun _ _ _ hr ⟨ao, n, cap, xs, e, h, v, l⟩ => ⟨ao, n, cap, xs, e, h.ru hr, v, l⟩
theorem OutL.mono5 (x : Int) (L : Nat) : Mono5 (OutL x L) := fun _ _ _ hr ⟨ao, cap, rs, e, h, l⟩ => ⟨ao, cap, rs, e, h.ru hr, l⟩
theorem IsR.mono5 (p q : Int) (L : Nat) : Mono5 (IsR p q L) := fun _ _ _ hr ⟨ng, ao, n, cap, xs, bo, m, dap, ys, e, h1, h2, h3, l1, l2⟩ => ⟨ng, ao, n, cap, xs, bo, m, dap, ys, e, h1.ru hr, h2.ru hr, h3, l1, l2⟩
theorem OutR.mono5 (p q : Int) (L : Nat) : Mono5 (OutR p q L) := fun _ _ _ hr ⟨ng, ao, cap, rs, bo, dap, ss, e, h1, h2, l1, l2⟩ => ⟨ng, ao, cap, rs, bo, dap, ss, e, h1.ru hr, h2.ru hr, l1, l2⟩
theorem Tup2.mono5 {p q : Says} (hp : Mono5 p) (hq : Mono5 q) : Mono5 (Tup2 p q) := fun _ _ _ hr ⟨x, y, e, h1, h2⟩ => ⟨x, y, e, hp _ _ _ hr h1, hq _ _ _ hr h2⟩
theorem Tup3.mono5 {p q r : Says} (hp : Mono5 p) (hq : Mono5 q) (hr : Mono5 r) : Mono5 (Tup3 p q r) := fun _ _ _ h ⟨x, y, z, e, h1, h2, h3⟩ => ⟨x, y, z, e, hp _ _ _ h h1, hq _ _ _ h h2, hr _ _ _ h h3⟩

/-- A whole number in memory that was made between two sizes. -/
def OwnWI (z : Int) (L : Nat) : SaysI := fun B T v w => ∃ ng ao cap rs, v = .agg #[.bool ng, .slice ao rs.length cap] ∧ WFr B T w ng ao cap rs z ∧ rs.length ≤ L
theorem OwnWI.mono6 (z : Int) (L : Nat) : Mono6 (OwnWI z L) := fun _ _ _ _ _ hr ⟨ng, ao, cap, rs, e, h, l⟩ => ⟨ng, ao, cap, rs, e, h.ru hr, l⟩
theorem OwnWI.out {z : Int} {L B T : Nat} {v : Value} {w : World} : OwnWI z L B T v w → OutW z L v w := fun ⟨ng, ao, cap, rs, e, h, l⟩ => ⟨ng, ao, cap, rs, e, h.wh, l⟩
/-- The same, from block K on. -/
def FrW (K : Nat) (z : Int) (L : Nat) : Says := fun v w => ∃ ng ao cap rs B T, v = .agg #[.bool ng, .slice ao rs.length cap] ∧ WFr B T w ng ao cap rs z ∧ K ≤ B ∧ T ≤ w.heap.size ∧ rs.length ≤ L
theorem FrW.mono5 (K : Nat) (z : Int) (L : Nat) : Mono5 (FrW K z L) := fun _ _ _ hr ⟨ng, ao, cap, rs, B, T, e, h, h1, h2, l⟩ => ⟨ng, ao, cap, rs, B, T, e, h.ru hr, h1, Nat.le_trans h2 hr.size, l⟩
theorem FrW.mono4 (K : Nat) (z : Int) (L : Nat) : Mono4 (FrW K z L) := fun v w w' hr h => FrW.mono5 K z L v w w' (Ru.of_rl hr) h
theorem FrW.out {z : Int} {L K : Nat} {v : Value} {w : World} : FrW K z L v w → OutW z L v w := fun ⟨ng, ao, cap, rs, _, _, e, h, _, _, l⟩ => ⟨ng, ao, cap, rs, e, h.wh, l⟩
theorem FrW.cs {z : Int} {L K : Nat} (v : Value) (w : World) (h : FrW K z L v w) : ∃ cs, W2.Cs v cs := OutW.cs v w h.out

section
variable {P : Program} {o : Oper} {a : Act} {w : World} {Ds : List (Option Nat)} {Rs : List (Nat × Nat × (Value → Value → Prop))} {i : Nat}
theorem d6 {p : Says} (h : (Rs.all fun r => r.1 != i) = true) (hd : Does P o a.eval w fun v w' => Below w.heap.size w w' ∧ p v w') : Does P o a.eval w fun v w' => Below w.heap.size w w' ∧ p v w' ∧ TrI w.heap.size w'.heap.size v w' ∧ Rel Ds Rs i a v :=
  hd.mono fun v _ ⟨hb, hp⟩ => ⟨hb, hp, trivial, Rel.none h a v⟩
theorem d6q {p : Says} {q : SaysI} (hpq : ∀ B T v w, q B T v w → p v w) (h : (Rs.all fun r => r.1 != i) = true) (hd : Does P o a.eval w fun v w' => Below w.heap.size w w' ∧ q w.heap.size w'.heap.size v w') : Does P o a.eval w fun v w' => Below w.heap.size w w' ∧ p v w' ∧ q w.heap.size w'.heap.size v w' ∧ Rel Ds Rs i a v :=
  hd.mono fun v _ ⟨hb, hp⟩ => ⟨hb, hpq _ _ _ _ hp, hp, Rel.none h a v⟩
theorem ownf {z : Int} {L K : Nat} (hK : K ≤ w.heap.size) (hd : Does P o a.eval w fun v w' => Below w.heap.size w w' ∧ OwnWI z L w.heap.size w'.heap.size v w') : Does P o a.eval w fun v w' => Below w.heap.size w w' ∧ FrW K z L v w' :=
  hd.mono fun _ _ ⟨hb, ng, ao, cap, rs, e, h, l⟩ => ⟨hb, ng, ao, cap, rs, _, _, e, h, hK, Nat.le_refl _, l⟩
end
theorem nxt {Xt : List Xb} {i : Nat} (h : ((Xt.map (·.i)).all fun j => j != i) = true) : ∀ q ∈ Xt, q.i ≠ i := fun q hq e => by
  have := List.all_eq_true.1 h q.i (List.mem_map.2 ⟨q, hq, rfl⟩)
  simp [e] at this
theorem xok_nil {bx : List Bx} {w0 : World} : XOk bx [] w0 := by
  constructor <;> (intro q hq; cases hq)
theorem xok_one {bx : List Bx} {w0 : World} {i m : Nat} {S : Says} (hm : m < w0.heap.size) (hb : ∀ b ∈ bx, b.ia = none → b.g0 ≠ m) (hp : ∀ v w w', w'.heap[m]? = w.heap[m]? → Ru w w' → S v w → S v w') : XOk bx [⟨i, m, S⟩] w0 := by
  refine ⟨?_, ?_, ?_, ?_, ?_⟩
  all_goals intro q hq; simp only [List.mem_singleton] at hq; subst hq
  · exact hm
  · exact hb
  · intro q hq _; simp only [List.mem_singleton] at hq; exact hq.symm
  · intro q hq _; simp only [List.mem_singleton] at hq; exact hq.symm
  · exact hp
/-- A block that is none of those that are written. -/
def NeX : List Xb → Nat → Prop
  | [], _ => True
  | b :: bx, g => b.m ≠ g ∧ NeX bx g
theorem NeX.all : ∀ {bx : List Xb} {g : Nat}, NeX bx g → ∀ b ∈ bx, b.m ≠ g
  | [], _, _ => fun c hc => by cases hc
  | b :: bx, g, h => fun c hc => by
    rcases List.mem_cons.1 hc with rfl | hc
    · exact h.1
    · exact NeX.all h.2 c hc
def UpX (B : Nat) : List Xb → Prop
  | [] => True
  | b :: bx => B ≤ b.m ∧ UpX B bx
theorem UpX.all {B : Nat} : ∀ {bx : List Xb}, UpX B bx → ∀ b ∈ bx, B ≤ b.m
  | [], _ => fun c hc => by cases hc
  | b :: bx, h => fun c hc => by
    rcases List.mem_cons.1 hc with rfl | hc
    · exact h.1
    · exact UpX.all h.2 c hc
theorem BoxV.keep5 {τ : BoxTy} {bx : List Bx} {Xt : List Xb} {w w' : World} {g : Nat} {v : Value} (h : BoxV τ w g v) (hb : But5 bx Xt w w') (hn : NeOld bx g) (hx : NeX Xt g) : BoxV τ w' g v := by
  obtain ⟨cs, hc, h⟩ := h
  exact ⟨cs, hc, (hb.keep g (lt_of_heap h) hn.all hx.all).trans h⟩
theorem But5.to {bx : List Bx} {w w' : World} (h : But5 bx [] w w') : But bx w w' := ⟨h.os, h.tape, h.output, h.size, fun m hm hb => h.keep m hm hb (fun q hq => by cases hq)⟩

def NoOld : List Bx → Prop
  | [] => True
  | b :: bx => (b.ia = none → False) ∧ NoOld bx
theorem NoOld.all : ∀ {bx : List Bx}, NoOld bx → ∀ b ∈ bx, b.ia = none → False
  | [], _ => fun c hc => by cases hc
  | b :: bx, h => fun c hc => by
    rcases List.mem_cons.1 hc with rfl | hc
    · exact h.1
    · exact NoOld.all h.2 c hc
theorem But5.touch1 {bx : List Bx} {i m : Nat} {S : Says} {w w' : World} (h : But5 bx [⟨i, m, S⟩] w w') (hn : NoOld bx) : Touch w w' m :=
  ⟨h.os, h.tape, h.output, h.size, fun k hk hne => h.keep k hk (fun b hb hi => (hn.all b hb hi).elim) (fun q hq => by simp only [List.mem_singleton] at hq; subst hq; exact fun e => hne e.symm)⟩

/-- A lender, as it is made. -/
def LendN (w : World) (L : Nat) : Prop := w.heap[L]? = some (.cells #[.slice none 0 0, .int .i64 0] 28 (0, 0))
theorem LendN.lt {w : World} {L : Nat} (h : LendN w L) : L < w.heap.size := lt_of_heap h
theorem LendN.below {w w' : World} {L : Nat} (h : LendN w L) (hb : Below w.heap.size w w') : LendN w' L := (hb.block L (lt_of_heap h)).trans h
/-- A slice that a lender lent. -/
def LentS (L K : Nat) (xs : List Int) : Says := fun v w => ∃ g, v = .slice (some ⟨g, 5, none⟩) xs.length (xs.length + 5) ∧ LendS w L g xs ∧ K ≤ g ∧ g < w.heap.size
theorem LentS.pres {L K : Nat} {xs : List Int} (v : Value) (w w' : World) (h : w'.heap[L]? = w.heap[L]?) (hr : Ru w w') : LentS L K xs v w → LentS L K xs v w' := fun ⟨g, e, ⟨h1, cur, h2, h3⟩, h4, h5⟩ => ⟨g, e, ⟨h.trans h1, cur, hr.rows g cur h2, h3⟩, h4, Nat.lt_of_lt_of_le h5 hr.size⟩
theorem LendS.lts {w : World} {L g : Nat} {xs : List Int} (h : LendS w L g xs) : L < w.heap.size ∧ g < w.heap.size := by
  obtain ⟨h1, cur, h2, _⟩ := h
  exact ⟨lt_of_heap h1, lt_of_heap h2⟩
theorem LendS.ne {w : World} {L g : Nat} {xs : List Int} (h : LendS w L g xs) : L ≠ g := by
  obtain ⟨h1, cur, h2, _⟩ := h
  intro e
  subst e
  rw [h1] at h2
  simp at h2
theorem lend_ne {w : World} {L g M : Nat} {xs : List Int} (h : LendS w L g xs) (h' : LendN w M) : L ≠ M ∧ g ≠ M := by
  obtain ⟨h1, cur, h2, _⟩ := h
  unfold LendN at h'
  constructor
  · intro e
    subst e
    rw [h1] at h'
    simp at h'
  · intro e
    subst e
    rw [h2] at h'
    simp at h'
theorem boxw_ne {w : World} {L g : Nat} {xs : List Int} {k : Nat} {v : Value} (h : LendS w L g xs) (b : BoxV W2 w k v) : k ≠ g ∧ k ≠ L := by
  obtain ⟨h1, cur, h2, _⟩ := h
  obtain ⟨cs, _, b⟩ := b
  constructor
  · intro e
    subst e
    rw [b] at h2
    simp [W2] at h2
  · intro e
    subst e
    rw [b] at h1
    simp [W2] at h1
theorem lendn_ne {w : World} {L : Nat} {k : Nat} {v : Value} (h : LendN w L) (b : BoxV W2 w k v) : k ≠ L := by
  obtain ⟨cs, _, b⟩ := b
  intro e
  subst e
  unfold LendN at h
  rw [b] at h
  simp [W2] at h

section
variable {dst : Option Tmp} {ty : TypeId} {pos : String} {after : Array Edge} {guard : Option (Nat × Bool)} {a : Act} {w : World} {ats : Array TypeId} {i j : Nat} {x y z u : Int} {L L1 L2 : Nat}
theorem op_lendn : Does Try.prog { dst, op := .alloc 28, type := ty, pos, after, guard } a.eval w fun v w' => v = .pointer (some ⟨w.heap.size, 0, none⟩) ∧ LendN w' w.heap.size ∧ Below w.heap.size w w' := by
  have e : (execOp a.eval { dst, op := .alloc 28, type := ty, pos, after, guard }).run Try.prog w = .ok (.value (.pointer (some ⟨w.heap.size, 0, none⟩))) (w.alloc (.cells #[.slice none 0 0, .int .i64 0] 28)) := by
    simp only [execOp]
    go_simp
  refine ⟨?_⟩
  unfold Turns
  rw [e]
  exact ⟨rfl, heap_alloc_new _ _, (Below.refl _ _).alloc (Nat.le_refl _) _⟩
theorem op_eqlbs {b : Bool} (h1 : a.eval (.tmp i) = .bool b) (h2 : a.eval (.tmp j) = .bool b) :
    Does Try.prog { dst, op := .binOp .eql 4 (.tmp i) (.tmp j) 4, type := ty, pos, after, guard } a.eval w fun v' w' => Below w.heap.size w w' ∧ Eqs (.bool true) v' w' := by
  have := op_eqlb (dst := dst) (ty := ty) (pos := pos) (after := after) (guard := guard) (w := w) h1 h2
  rwa [beq_self_eq_true] at this
theorem has_lend : Has Try.prog 9 := by unfold Has; kernel_rfl
theorem op_lend {gL K : Nat} {ax : Option Addr} {mx cx : Nat} {xs : List Int} {Ds : List (Option Nat)} {Rs : List (Nat × Nat × (Value → Value → Prop))} {k : Nat} (hrl : (Rs.all fun r => r.1 != k) = true) (hp : a.eval (.tmp i) = .pointer (some ⟨gL, 0, none⟩)) (hs : a.eval (.tmp j) = .slice ax mx cx) (hL : LendN w gL) (hx : Sl w (.slice ax mx cx) xs) (hm : xs.length ≤ 100000) (hne : 0 < xs.length → ∀ b off, ax = some ⟨b, off, none⟩ → b ≠ gL) (hK : K ≤ w.heap.size) :
    Does Try.prog { dst, op := .call { callee := .value (.func 9), args := #[.tmp i, .tmp j], argTypes := ats }, type := ty, pos, after, guard } a.eval w fun v w' => Touch w w' gL ∧ Ru w w' ∧ IsL (val xs) xs.length v w' ∧ TrI w.heap.size w'.heap.size v w' ∧ Rel Ds Rs k a v ∧ LentS gL K xs v w' := by
  refine does_call has_lend _ (by simp only [List.map_toArray, List.map_cons, List.map_nil, hp, hs]) ((lend_any w gL _ _ ax mx cx xs hL hx hm hne).mono ?_)
  rintro e w' ⟨rfl, h1, h2⟩
  have hru : Ru w w' := Ru.of_touch h2 hL (by decide) (by
    intro i z
    match i with
    | 0 => simp
    | 1 => simp
    | i + 2 => simp)
  exact ⟨_, rfl, h2, hru, ⟨_, _, _, _, rfl, h1.sl (by omega), rfl, Nat.le_refl _⟩, trivial, Rel.none hrl _ _, _, rfl, h1, hK, h1.lts.2⟩
theorem has_back : Has Try.prog 15 := by unfold Has; kernel_rfl
theorem op_back {gL g : Nat} {ax : Option Addr} {mx cx : Nat} {xs : List Int} (hp : a.eval (.tmp i) = .pointer (some ⟨gL, 0, none⟩)) (hs : a.eval (.tmp j) = .slice ax mx cx) (hL : LendS w gL g xs) (hx : Sl w (.slice ax mx cx) xs) (hm : xs.length ≤ 100000) (hne : 0 < xs.length → ∀ b off, ax = some ⟨b, off, none⟩ → b ≠ g) :
    Does Try.prog { dst, op := .call { callee := .value (.func 15), args := #[.tmp i, .tmp j], argTypes := ats }, type := ty, pos, after, guard } a.eval w fun v w' => v = .bool true ∧ Touch w w' g := by
  refine does_call has_back _ (by simp only [List.map_toArray, List.map_cons, List.map_nil, hp, hs]) ((back_any w gL g ax mx cx xs hL hL.ne hx hm hne).mono ?_)
  rintro e w' ⟨rfl, h2⟩
  exact ⟨_, rfl, rfl, h2⟩
theorem op_bWl {b : Bool} {Ds : List (Option Nat)} {k jj : Nat} {d : Nat} (hd : Ds.getD jj none = some d) (h1 : a.eval (.tmp i) = .bool b) (h2 : IsL x L (a.eval (.tmp d)) w) : Does Try.prog { dst, op := .build 24 #[(0, .tmp i), (1, .tmp d)], type := ty, pos, after, guard } a.eval w fun v' w' => Below w.heap.size w w' ∧ IsW (sg b x) L v' w' ∧ TrI w.heap.size w'.heap.size v' w' ∧ Rel Ds [(k, jj, fun v u => u = .agg #[.bool b, v])] k a v' := by
  obtain ⟨ao, n, cap, xs, e, hs, hv, hl⟩ := h2
  refine (op_bW2 h1 e).mono fun v' w' ⟨hb, he⟩ => ⟨hb, ⟨b, ao, n, cap, xs, he, ⟨hs.below hb, by rw [hv]⟩, hl⟩, trivial, fun r hr _ => ?_⟩
  simp only [List.mem_singleton] at hr
  subst hr
  show v' = .agg #[.bool b, rd Ds a jj]
  unfold rd
  rw [hd]
  simp only
  rw [e]
  exact he
theorem ownw_of {w' : World} {ng' : Bool} {ao : Option Addr} {cap : Nat} {rs : List Int} (G : Wh w' ng' ao cap rs z) (l : rs.length ≤ L) (o : Li w.heap.size w'.heap.size w' ao cap rs) : OwnWI z L w.heap.size w'.heap.size (.agg #[.bool ng', .slice ao rs.length cap]) w' := ⟨_, _, _, _, rfl, ⟨o.fr G.1, G.2⟩, l⟩
theorem op_wtrimO (hx : IsW x L1 (a.eval (.tmp i)) w) (h1 : L1 ≤ 400000) :
    Does Try.prog { dst, op := .call { callee := .value (.func 12), args := #[.tmp i], argTypes := ats }, type := ty, pos, after, guard } a.eval w fun v w' => Below w.heap.size w w' ∧ OwnWI x L1 w.heap.size w'.heap.size v w' := by
  obtain ⟨n1, a1, m1, c1, xs, e1, A1, l1⟩ := hx
  refine does_call has_wtrim _ (by simp only [List.map_toArray, List.map_cons, List.map_nil, e1]) ((wtrim_o _ n1 _ _ _ _ A1.sl (by omega)).mono ?_)
  rintro e w' ⟨ng, ao, cap, rs, rfl, G, l, o, hb⟩
  rw [A1.worth] at G
  exact ⟨_, rfl, hb, ownw_of G (by omega) o⟩
theorem op_negO (hx : IsW x L1 (a.eval (.tmp i)) w) (h1 : L1 ≤ 400000) :
    Does Try.prog { dst, op := .call { callee := .value (.func 29), args := #[.tmp i], argTypes := ats }, type := ty, pos, after, guard } a.eval w fun v w' => Below w.heap.size w w' ∧ OwnWI (-x) L1 w.heap.size w'.heap.size v w' := by
  obtain ⟨n1, a1, m1, c1, xs, e1, A1, l1⟩ := hx
  refine does_call has_neg _ (by simp only [List.map_toArray, List.map_cons, List.map_nil, e1]) ((wneg_o _ n1 _ _ _ _ A1.sl (by omega)).mono ?_)
  rintro e w' ⟨ng, ao, cap, rs, rfl, G, l, o, hb⟩
  rw [A1.worth] at G
  exact ⟨_, rfl, hb, ownw_of G (by omega) o⟩
theorem op_oft {v : Int} (h : a.eval (.tmp i) = .int .i64 v) (h1 : -9223372036854775808 ≤ v) (h2 : v ≤ 9223372036854775807) :
    Does Try.prog { dst, op := .call { callee := .value (.func 20), args := #[.tmp i], argTypes := ats }, type := ty, pos, after, guard } a.eval w fun v' w' => Below w.heap.size w w' ∧ OutW v 2 v' w' := by
  refine does_call has_of _ (by simp only [List.map_toArray, List.map_cons, List.map_nil, h]) ((wof_g _ v h1 h2).mono ?_)
  rintro e w' ⟨ng, ao, cap, rs, rfl, G, l, hb⟩
  exact ⟨_, rfl, hb, _, _, _, _, rfl, G, by omega⟩
theorem op_lsmallt {v : Int} (h : a.eval (.tmp i) = .int .i64 v) (h1 : -9223372036854775808 ≤ v) (h2 : v ≤ 9223372036854775807) :
    Does Try.prog { dst, op := .call { callee := .value (.func 21), args := #[.tmp i], argTypes := ats }, type := ty, pos, after, guard } a.eval w fun v' w' => Below w.heap.size w w' ∧ OutW v 2 v' w' := by
  refine does_call has_lsmall _ (by simp only [List.map_toArray, List.map_cons, List.map_nil, h]) ((lsmall_g _ v h1 h2).mono ?_)
  rintro e w' ⟨ng, ao, cap, rs, rfl, G, l, hb⟩
  exact ⟨_, rfl, hb, _, _, _, _, rfl, G, by omega⟩
theorem has_wlimbs : Has Try.prog 14 := by unfold Has; kernel_rfl
theorem op_wlimbs {m : Nat} (hx : IsW z L1 (a.eval (.tmp i)) w) (h1 : L1 ≤ 400000) (hm : IsLen (z.natAbs : Int) m) :
    Does Try.prog { dst, op := .call { callee := .value (.func 14), args := #[.tmp i], argTypes := ats }, type := ty, pos, after, guard } a.eval w fun v' w' => Below w.heap.size w w' ∧ Eqs (.int .i64 m) v' w' := by
  obtain ⟨n1, a1, m1, c1, xs, e1, A1, l1⟩ := hx
  have hv := (val_bounds A1.sl.parts.2.2.2).1
  have e2 : (z.natAbs : Int) = val xs := by
    rw [← A1.worth]
    cases n1 <;> simp [sg] <;> omega
  rw [e2] at hm
  refine does_call has_wlimbs _ (by simp only [List.map_toArray, List.map_cons, List.map_nil, e1]) ((wlimbs_any _ n1 _ _ _ _ A1.sl (by omega) m hm).mono ?_)
  rintro e w' ⟨rfl, hb⟩
  exact ⟨_, rfl, hb, rfl⟩
end
section
variable {dst : Option Tmp} {ty : TypeId} {pos : String} {after : Array Edge} {guard : Option (Nat × Bool)} {a : Act} {w : World} {ats : Array TypeId} {i j : Nat} {x y : Int} {L1 L2 : Nat}
theorem op_addO (hx : IsW x L1 (a.eval (.tmp i)) w) (hy : IsW y L2 (a.eval (.tmp j)) w) (h1 : L1 ≤ 400000) (h2 : L2 ≤ 400000) :
    Does Try.prog { dst, op := .call { callee := .value (.func 26), args := #[.tmp i, .tmp j], argTypes := ats }, type := ty, pos, after, guard } a.eval w fun v w' => Below w.heap.size w w' ∧ OwnWI (x + y) (L1 + L2 + 1) w.heap.size w'.heap.size v w' := by
  obtain ⟨n1, a1, m1, c1, xs, e1, A1, l1⟩ := hx
  obtain ⟨n2, a2, m2, c2, ys, e2, A2, l2⟩ := hy
  refine does_call has_add _ (by simp only [List.map_toArray, List.map_cons, List.map_nil, e1, e2]) ((wadd_o _ n1 _ _ _ _ A1.sl n2 _ _ _ _ A2.sl (by omega) (by omega)).mono ?_)
  rintro e w' ⟨ng, ao, cap, rs, rfl, G, l, o, hb⟩
  rw [A1.worth, A2.worth] at G
  exact ⟨_, rfl, hb, ownw_of G (by omega) o⟩
theorem op_subO (hx : IsW x L1 (a.eval (.tmp i)) w) (hy : IsW y L2 (a.eval (.tmp j)) w) (h1 : L1 ≤ 400000) (h2 : L2 ≤ 400000) :
    Does Try.prog { dst, op := .call { callee := .value (.func 27), args := #[.tmp i, .tmp j], argTypes := ats }, type := ty, pos, after, guard } a.eval w fun v w' => Below w.heap.size w w' ∧ OwnWI (x - y) (L1 + L2 + 1) w.heap.size w'.heap.size v w' := by
  obtain ⟨n1, a1, m1, c1, xs, e1, A1, l1⟩ := hx
  obtain ⟨n2, a2, m2, c2, ys, e2, A2, l2⟩ := hy
  refine does_call has_sub _ (by simp only [List.map_toArray, List.map_cons, List.map_nil, e1, e2]) ((wsub_o _ n1 _ _ _ _ A1.sl n2 _ _ _ _ A2.sl (by omega) (by omega)).mono ?_)
  rintro e w' ⟨ng, ao, cap, rs, rfl, G, l, o, hb⟩
  rw [A1.worth, A2.worth] at G
  exact ⟨_, rfl, hb, ownw_of G (by omega) o⟩
theorem op_mulO (hx : IsW x L1 (a.eval (.tmp i)) w) (hy : IsW y L2 (a.eval (.tmp j)) w) (h1 : L1 ≤ 400000) (h2 : L2 ≤ 400000) :
    Does Try.prog { dst, op := .call { callee := .value (.func 28), args := #[.tmp i, .tmp j], argTypes := ats }, type := ty, pos, after, guard } a.eval w fun v w' => Below w.heap.size w w' ∧ OwnWI (x * y) (L1 + L2) w.heap.size w'.heap.size v w' := by
  obtain ⟨n1, a1, m1, c1, xs, e1, A1, l1⟩ := hx
  obtain ⟨n2, a2, m2, c2, ys, e2, A2, l2⟩ := hy
  refine does_call has_mul _ (by simp only [List.map_toArray, List.map_cons, List.map_nil, e1, e2]) ((wmul_o _ n1 _ _ _ _ A1.sl n2 _ _ _ _ A2.sl (by omega) (by omega)).mono ?_)
  rintro e w' ⟨ng, ao, cap, rs, rfl, G, l, o, hb⟩
  rw [A1.worth, A2.worth] at G
  exact ⟨_, rfl, hb, ownw_of G (by omega) o⟩
end
theorem isLen_ex {ng : Bool} {ao : Option Addr} {n c : Nat} {w : World} {xs : List Int} {z : Int} (h : Ag w ng ao n c xs z) : ∃ m, IsLen (z.natAbs : Int) m := by
  have hv := (val_bounds h.sl.parts.2.2.2).1
  refine ⟨_, xs.take (tl xs), canon_trim h.sl.parts.2.2.2, ?_, rfl⟩
  rw [val_take_tl, ← h.worth]
  cases ng <;> simp [sg] <;> omega
end Lm
end Go.Proofs.Ytjhhjefobbhdlaa

namespace Go.Proofs.Ytjhhjefobbhdlaa
namespace Lm
open Go.RowKit

set_option maxRecDepth 20000 in
set_option maxHeartbeats 1000000 in
theorem wdivmod_poso (w : World) (a1 : Option Addr) (n1 c1 : Nat) (xs : List Int) (hx : Sl w (.slice a1 n1 c1) xs) (ny : Bool) (a2 : Option Addr) (n2 c2 : Nat) (ys : List Int) (hy : Sl w (.slice a2 n2 c2) ys) (hm1 : xs.length ≤ 400000) (hm2 : ys.length ≤ 400000) (h0 : val ys ≠ 0) :
    Calls Try.prog 40 #[.agg #[.bool false, .slice a1 n1 c1], .agg #[.bool ny, .slice a2 n2 c2]] w fun e w' => ∃ nq aq cq qs nr ar cr rs B1 T1 B2 T2, e = .returned (.tuple #[.agg #[.bool nq, .slice aq qs.length cq], .agg #[.bool nr, .slice ar rs.length cr], .bool true]) ∧ Wh w' nq aq cq qs (sg false (val xs) / sg ny (val ys)) ∧ Wh w' nr ar cr rs (sg false (val xs) % sg ny (val ys)) ∧ qs.length ≤ xs.length + 4 ∧ rs.length ≤ ys.length ∧ Li B1 T1 w' aq cq qs ∧ Li B2 T2 w' ar cr rs ∧ (w.heap.size ≤ B1 ∧ T1 ≤ w'.heap.size ∧ w.heap.size ≤ B2 ∧ T2 ≤ w'.heap.size ∧ ∀ j, B1 ≤ j → j < T1 → j < B2 ∨ T2 ≤ j) ∧ Below w.heap.size w w' := by
  obtain ⟨w0, e0, bx, by', bq, br, hb0, hs0⟩ := boxed4 w false (.slice a1 n1 c1) ny (.slice a2 n2 c2)
  have E0 := hide e0
  have hx0 := hx.below hb0
  have hy0 := hy.below hb0
  have HS0 := hide hs0
  clear e0 hs0
  have PY : Hid (0 < val ys) := by have := (val_bounds hy.parts.2.2.2).1; show _ < _; omega
  have LY := hide hy.parts.2.2.2
  have H0 := hide h0
  clear h0
  go_enter Try.func40, Try.ntmps40
  go_wp2_with fail
  rw [E0.out]
  refine (divmod_o _ _ _ _ _ _ _ xs ys hx0 hy0 (by omega) H0.out).mono ?_
  rintro e w1 ⟨p1, q1, r1, p2, q2, r2, B1, T1, B2, T2, rfl, G1, G2, l1, l2, o1, o2, oo, hb1⟩
  have HB : Below w0.heap.size w0 w1 := hb1
  obtain ⟨xa, xb, xc, xd⟩ := (bx.below HB).facts
  obtain ⟨ya, yb, yc, yd⟩ := (by'.below HB).facts
  go_wp2_with fail
  refine (signed_g _ _ _ _ r1 _ G1 (by omega)).mono ?_
  rintro e w7 ⟨ng7, rfl, G7, hb7⟩
  replace HB := HB.trans (hb7.mono HB.size)
  have G2' := G2.below hb7
  clear xa xb xc xd ya yb yc yd
  obtain ⟨xa, xb, xc, xd⟩ := (bx.below HB).facts
  obtain ⟨ya, yb, yc, yd⟩ := (by'.below HB).facts
  go_wp2_with fail
  refine (signed_g _ _ _ _ r2 _ G2' (by omega)).mono ?_
  rintro e w8 ⟨ng8, rfl, G8, hb8⟩
  replace HB := HB.trans (hb8.mono HB.size)
  replace G7 := G7.below hb8
  clear xa xb xc xd ya yb yc yd
  have bq8 := bq.below HB
  have br8 := br.below HB
  obtain ⟨qa, qb, qc, qd⟩ := bq8.facts
  obtain ⟨ra, rb, rc, rd⟩ := br8.facts
  have VQ : Hid (sg ny (val xs / val ys) = sg false (val xs) / sg ny (val ys) ∧ sg false (val xs % val ys) = sg false (val xs) % sg ny (val ys)) := by have h := wdiv_pos ny (val xs) (val ys); rwa [show (false != ny) = ny by cases ny <;> rfl] at h
  have Y1 := hide ((br8.other (show w.heap.size + 1 + 1 + 1 ≠ w.heap.size + 1 + 1 by omega) (.bool ng7) (.slice p1 r1.length q1)).wh ng8 (.slice p2 r2.length q2) (bq8.wh ng7 (.slice p1 r1.length q1) G7))
  have Y2 := hide ((br8.other (show w.heap.size + 1 + 1 + 1 ≠ w.heap.size + 1 + 1 by omega) (.bool ng7) (.slice p1 r1.length q1)).wh ng8 (.slice p2 r2.length q2) (bq8.wh ng7 (.slice p1 r1.length q1) G8))
  have F := hide (box_two (nq := ng7) (vq := .slice p1 r1.length q1) (nr := ng8) (vr := .slice p2 r2.length q2) bq8 br8 (by omega))
  have Z := hide (hb0.trans (HB.mono hb0.size))
  have Z2 := hide (below_set2 (below_set2 Z.out (show w.heap.size ≤ w.heap.size + 1 + 1 by omega) (.bool ng7) (.slice p1 r1.length q1)) (show w.heap.size ≤ w.heap.size + 1 + 1 + 1 by omega) (.bool ng8) (.slice p2 r2.length q2))
  have hs9 := HS0.out
  have s_hb1 := hb1.size
  have s_hb7 := hb7.size
  have s_hb8 := hb8.size
  obtain ⟨oo1, oo2, oo3, oo4, oo5⟩ := oo
  have O1 := hide ((((o1.below hb7).below hb8).set2 (w.heap.size + 1 + 1) (by omega) (.bool ng7) (.slice p1 r1.length q1)).set2 (w.heap.size + 1 + 1 + 1) (by omega) (.bool ng8) (.slice p2 r2.length q2))
  have O2 := hide ((((o2.below hb7).below hb8).set2 (w.heap.size + 1 + 1) (by omega) (.bool ng7) (.slice p1 r1.length q1)).set2 (w.heap.size + 1 + 1 + 1) (by omega) (.bool ng8) (.slice p2 r2.length q2))
  have hsz : ((((w8.setCell ⟨w.heap.size + 1 + 1, 0, none⟩ (.bool ng7)).setCell ⟨w.heap.size + 1 + 1, 1, none⟩ (.slice p1 r1.length q1)).setCell ⟨w.heap.size + 1 + 1 + 1, 0, none⟩ (.bool ng8)).setCell ⟨w.heap.size + 1 + 1 + 1, 1, none⟩ (.slice p2 r2.length q2)).heap.size = w8.heap.size := by simp [World.setCell]
  have OO : Hid (B1 ≥ w.heap.size ∧ T1 ≤ w8.heap.size ∧ B2 ≥ w.heap.size ∧ T2 ≤ w8.heap.size ∧ ∀ j, B1 ≤ j → j < T1 → j < B2 ∨ T2 ≤ j) := ⟨by omega, by omega, by omega, by omega, oo5⟩
  rw [← hsz] at OO
  clear hsz
  go_wp2
  refine bodyPost_ret (v := .tuple #[.agg #[.bool ng7, .slice p1 r1.length q1], .agg #[.bool ng8, .slice p2 r2.length q2], .bool true]) ?_ rfl ⟨ng7, p1, q1, r1, ng8, p2, q2, r2, B1, T1, B2, T2, rfl, by rw [← VQ.out.1]; exact Y1.out, by rw [← VQ.out.2]; exact Y2.out, by omega, by omega, O1.out, O2.out, OO.out, Z2.out⟩
  simp [results, Try.results40, go_sem, F.out.1.facts.1, F.out.1.facts.2.1, F.out.2.facts.1, F.out.2.facts.2.1]

set_option maxRecDepth 20000 in
set_option maxHeartbeats 1000000 in
theorem wdivmod_eveno (w : World) (a1 : Option Addr) (n1 c1 : Nat) (xs : List Int) (hx : Sl w (.slice a1 n1 c1) xs) (ny : Bool) (a2 : Option Addr) (n2 c2 : Nat) (ys : List Int) (hy : Sl w (.slice a2 n2 c2) ys) (hm1 : xs.length ≤ 400000) (_hm2 : ys.length ≤ 400000) (h0 : val ys ≠ 0) (hev : val xs % val ys = 0) :
    Calls Try.prog 40 #[.agg #[.bool true, .slice a1 n1 c1], .agg #[.bool ny, .slice a2 n2 c2]] w fun e w' => ∃ nq aq cq qs nr ar cr rs B1 T1 B2 T2, e = .returned (.tuple #[.agg #[.bool nq, .slice aq qs.length cq], .agg #[.bool nr, .slice ar rs.length cr], .bool true]) ∧ Wh w' nq aq cq qs (sg true (val xs) / sg ny (val ys)) ∧ Wh w' nr ar cr rs (sg true (val xs) % sg ny (val ys)) ∧ qs.length ≤ xs.length + 4 ∧ rs.length ≤ ys.length ∧ Li B1 T1 w' aq cq qs ∧ Li B2 T2 w' ar cr rs ∧ (w.heap.size ≤ B1 ∧ T1 ≤ w'.heap.size ∧ w.heap.size ≤ B2 ∧ T2 ≤ w'.heap.size ∧ ∀ j, B1 ≤ j → j < T1 → j < B2 ∨ T2 ≤ j) ∧ Below w.heap.size w w' := by
  obtain ⟨w0, e0, bx, by', bq, br, hb0, hs0⟩ := boxed4 w true (.slice a1 n1 c1) ny (.slice a2 n2 c2)
  have E0 := hide e0
  have hx0 := hx.below hb0
  have hy0 := hy.below hb0
  have HS0 := hide hs0
  clear e0 hs0
  have PY : Hid (0 < val ys) := by have := (val_bounds hy.parts.2.2.2).1; show _ < _; omega
  have LY := hide hy.parts.2.2.2
  have H0 := hide h0
  have HE := hide hev
  clear hev
  clear h0
  go_enter Try.func40, Try.ntmps40
  go_wp2_with fail
  rw [E0.out]
  refine (divmod_o _ _ _ _ _ _ _ xs ys hx0 hy0 (by omega) H0.out).mono ?_
  rintro e w1 ⟨p1, q1, r1, p2, q2, r2, B1, T1, B2, T2, rfl, G1, G2, l1, l2, o1, o2, oo, hb1⟩
  have HB : Below w0.heap.size w0 w1 := hb1
  have hr2 : ¬ 0 < (r2.length : Int) := by
    have h9 : r2 = [] := (canon_zero G2.canon).1 (by rw [G2.val]; exact HE.out)
    rw [h9]; simp
  obtain ⟨xa, xb, xc, xd⟩ := (bx.below HB).facts
  obtain ⟨ya, yb, yc, yd⟩ := (by'.below HB).facts
  go_wp2_with fail
  refine (signed_g _ _ _ _ r1 _ G1 (by omega)).mono ?_
  rintro e w7 ⟨ng7, rfl, G7, hb7⟩
  replace HB := HB.trans (hb7.mono HB.size)
  have G2' := G2.below hb7
  clear xa xb xc xd ya yb yc yd
  obtain ⟨xa, xb, xc, xd⟩ := (bx.below HB).facts
  obtain ⟨ya, yb, yc, yd⟩ := (by'.below HB).facts
  go_wp2_with fail
  refine (signed_g _ _ _ _ r2 _ G2' (by omega)).mono ?_
  rintro e w8 ⟨ng8, rfl, G8, hb8⟩
  replace HB := HB.trans (hb8.mono HB.size)
  replace G7 := G7.below hb8
  clear xa xb xc xd ya yb yc yd
  have bq8 := bq.below HB
  have br8 := br.below HB
  obtain ⟨qa, qb, qc, qd⟩ := bq8.facts
  obtain ⟨ra, rb, rc, rd⟩ := br8.facts
  have VQ : Hid (sg (!ny) (val xs / val ys) = sg true (val xs) / sg ny (val ys) ∧ sg false (val xs % val ys) = sg true (val xs) % sg ny (val ys)) := by have h := wdiv_even true ny PY.out HE.out; rwa [show (true != ny) = !ny by cases ny <;> rfl] at h
  have Y1 := hide ((br8.other (show w.heap.size + 1 + 1 + 1 ≠ w.heap.size + 1 + 1 by omega) (.bool ng7) (.slice p1 r1.length q1)).wh ng8 (.slice p2 r2.length q2) (bq8.wh ng7 (.slice p1 r1.length q1) G7))
  have Y2 := hide ((br8.other (show w.heap.size + 1 + 1 + 1 ≠ w.heap.size + 1 + 1 by omega) (.bool ng7) (.slice p1 r1.length q1)).wh ng8 (.slice p2 r2.length q2) (bq8.wh ng7 (.slice p1 r1.length q1) G8))
  have F := hide (box_two (nq := ng7) (vq := .slice p1 r1.length q1) (nr := ng8) (vr := .slice p2 r2.length q2) bq8 br8 (by omega))
  have Z := hide (hb0.trans (HB.mono hb0.size))
  have Z2 := hide (below_set2 (below_set2 Z.out (show w.heap.size ≤ w.heap.size + 1 + 1 by omega) (.bool ng7) (.slice p1 r1.length q1)) (show w.heap.size ≤ w.heap.size + 1 + 1 + 1 by omega) (.bool ng8) (.slice p2 r2.length q2))
  have hs9 := HS0.out
  have s_hb1 := hb1.size
  have s_hb7 := hb7.size
  have s_hb8 := hb8.size
  obtain ⟨oo1, oo2, oo3, oo4, oo5⟩ := oo
  have O1 := hide ((((o1.below hb7).below hb8).set2 (w.heap.size + 1 + 1) (by omega) (.bool ng7) (.slice p1 r1.length q1)).set2 (w.heap.size + 1 + 1 + 1) (by omega) (.bool ng8) (.slice p2 r2.length q2))
  have O2 := hide ((((o2.below hb7).below hb8).set2 (w.heap.size + 1 + 1) (by omega) (.bool ng7) (.slice p1 r1.length q1)).set2 (w.heap.size + 1 + 1 + 1) (by omega) (.bool ng8) (.slice p2 r2.length q2))
  have hsz : ((((w8.setCell ⟨w.heap.size + 1 + 1, 0, none⟩ (.bool ng7)).setCell ⟨w.heap.size + 1 + 1, 1, none⟩ (.slice p1 r1.length q1)).setCell ⟨w.heap.size + 1 + 1 + 1, 0, none⟩ (.bool ng8)).setCell ⟨w.heap.size + 1 + 1 + 1, 1, none⟩ (.slice p2 r2.length q2)).heap.size = w8.heap.size := by simp [World.setCell]
  have OO : Hid (B1 ≥ w.heap.size ∧ T1 ≤ w8.heap.size ∧ B2 ≥ w.heap.size ∧ T2 ≤ w8.heap.size ∧ ∀ j, B1 ≤ j → j < T1 → j < B2 ∨ T2 ≤ j) := ⟨by omega, by omega, by omega, by omega, oo5⟩
  rw [← hsz] at OO
  clear hsz
  go_wp2
  refine bodyPost_ret (v := .tuple #[.agg #[.bool ng7, .slice p1 r1.length q1], .agg #[.bool ng8, .slice p2 r2.length q2], .bool true]) ?_ rfl ⟨ng7, p1, q1, r1, ng8, p2, q2, r2, B1, T1, B2, T2, rfl, by rw [← VQ.out.1]; exact Y1.out, by rw [← VQ.out.2]; exact Y2.out, by omega, by omega, O1.out, O2.out, OO.out, Z2.out⟩
  simp [results, Try.results40, go_sem, F.out.1.facts.1, F.out.1.facts.2.1, F.out.2.facts.1, F.out.2.facts.2.1]

set_option maxRecDepth 20000 in
set_option maxHeartbeats 1000000 in
theorem wdivmod_oddo (w : World) (a1 : Option Addr) (n1 c1 : Nat) (xs : List Int) (hx : Sl w (.slice a1 n1 c1) xs) (ny : Bool) (a2 : Option Addr) (n2 c2 : Nat) (ys : List Int) (hy : Sl w (.slice a2 n2 c2) ys) (hm1 : xs.length ≤ 400000) (hm2 : ys.length ≤ 400000) (h0 : val ys ≠ 0) (hod : val xs % val ys ≠ 0) :
    Calls Try.prog 40 #[.agg #[.bool true, .slice a1 n1 c1], .agg #[.bool ny, .slice a2 n2 c2]] w fun e w' => ∃ nq aq cq qs nr ar cr rs B1 T1 B2 T2, e = .returned (.tuple #[.agg #[.bool nq, .slice aq qs.length cq], .agg #[.bool nr, .slice ar rs.length cr], .bool true]) ∧ Wh w' nq aq cq qs (sg true (val xs) / sg ny (val ys)) ∧ Wh w' nr ar cr rs (sg true (val xs) % sg ny (val ys)) ∧ qs.length ≤ xs.length + 4 ∧ rs.length ≤ ys.length ∧ Li B1 T1 w' aq cq qs ∧ Li B2 T2 w' ar cr rs ∧ (w.heap.size ≤ B1 ∧ T1 ≤ w'.heap.size ∧ w.heap.size ≤ B2 ∧ T2 ≤ w'.heap.size ∧ ∀ j, B1 ≤ j → j < T1 → j < B2 ∨ T2 ≤ j) ∧ Below w.heap.size w w' := by
  obtain ⟨w0, e0, bx, by', bq, br, hb0, hs0⟩ := boxed4 w true (.slice a1 n1 c1) ny (.slice a2 n2 c2)
  have E0 := hide e0
  have hx0 := hx.below hb0
  have hy0 := hy.below hb0
  have HS0 := hide hs0
  clear e0 hs0
  have PY : Hid (0 < val ys) := by have := (val_bounds hy.parts.2.2.2).1; show _ < _; omega
  have LY := hide hy.parts.2.2.2
  have H0 := hide h0
  have HE := hide hod
  clear hod
  clear h0
  go_enter Try.func40, Try.ntmps40
  go_wp2_with fail
  rw [E0.out]
  refine (divmod_o _ _ _ _ _ _ _ xs ys hx0 hy0 (by omega) H0.out).mono ?_
  rintro e w1 ⟨p1, q1, r1, p2, q2, r2, B1, T1, B2, T2, rfl, G1, G2, l1, l2, o1, o2, oo, hb1⟩
  have HB : Below w0.heap.size w0 w1 := hb1
  have hr2 : 0 < (r2.length : Int) := by
    have h9 : r2 ≠ [] := fun e => HE.out (by rw [← G2.val]; exact (canon_zero G2.canon).2 e)
    have h8 : r2.length ≠ 0 := fun e => h9 (List.eq_nil_of_length_eq_zero e)
    omega
  obtain ⟨xa, xb, xc, xd⟩ := (bx.below HB).facts
  go_wp2_with fail
  refine (small_any _ 1 (by omega) (by omega)).mono ?_
  rintro e w3 ⟨v3, rfl, hi3, hb3⟩
  obtain ⟨p3, q3, r3, rfl, G3, l3⟩ := got_small hi3 (by omega)
  clear hi3
  replace HB := HB.trans (hb3.mono HB.size)
  replace G1 := G1.below hb3
  replace G2 := G2.below hb3
  go_wp2_with fail
  refine (add_o _ _ _ _ _ _ _ r1 r3 G1.sl G3.sl (by omega) (by omega)).mono ?_
  rintro e w4 ⟨p4, q4, r4, rfl, G4, l4, o4, hb4⟩
  replace HB := HB.trans (hb4.mono HB.size)
  replace G2 := G2.below hb4
  rw [G1.val, G3.val] at G4
  have hy4 := hy0.below HB
  obtain ⟨ya, yb, yc, yd⟩ := (by'.below HB).facts
  go_wp2_with fail
  refine (sub_o _ _ _ _ _ _ _ ys r2 hy4 G2.sl (by omega) (by rw [G2.val]; exact Int.le_of_lt (Int.emod_lt_of_pos _ PY.out))).mono ?_
  rintro e w5 ⟨p5, q5, r5, rfl, G5, l5, o5, hb5⟩
  replace HB := HB.trans (hb5.mono HB.size)
  replace G4 := G4.below hb5
  rw [G2.val] at G5
  clear xa xb xc xd ya yb yc yd G1 G2 G3 hy4
  obtain ⟨xa, xb, xc, xd⟩ := (bx.below HB).facts
  obtain ⟨ya, yb, yc, yd⟩ := (by'.below HB).facts
  go_wp2_with fail
  refine (signed_g _ _ _ _ r4 _ G4 (by omega)).mono ?_
  rintro e w7 ⟨ng7, rfl, G7, hb7⟩
  replace HB := HB.trans (hb7.mono HB.size)
  have G2' := G5.below hb7
  clear xa xb xc xd ya yb yc yd
  obtain ⟨xa, xb, xc, xd⟩ := (bx.below HB).facts
  obtain ⟨ya, yb, yc, yd⟩ := (by'.below HB).facts
  go_wp2_with fail
  refine (signed_g _ _ _ _ r5 _ G2' (by omega)).mono ?_
  rintro e w8 ⟨ng8, rfl, G8, hb8⟩
  replace HB := HB.trans (hb8.mono HB.size)
  replace G7 := G7.below hb8
  clear xa xb xc xd ya yb yc yd
  have bq8 := bq.below HB
  have br8 := br.below HB
  obtain ⟨qa, qb, qc, qd⟩ := bq8.facts
  obtain ⟨ra, rb, rc, rd⟩ := br8.facts
  have VQ : Hid (sg (!ny) (val xs / val ys + 1) = sg true (val xs) / sg ny (val ys) ∧ sg false (val ys - val xs % val ys) = sg true (val xs) % sg ny (val ys)) := by have h := wdiv_odd ny PY.out HE.out; rwa [show (true != ny) = !ny by cases ny <;> rfl] at h
  have Y1 := hide ((br8.other (show w.heap.size + 1 + 1 + 1 ≠ w.heap.size + 1 + 1 by omega) (.bool ng7) (.slice p4 r4.length q4)).wh ng8 (.slice p5 r5.length q5) (bq8.wh ng7 (.slice p4 r4.length q4) G7))
  have Y2 := hide ((br8.other (show w.heap.size + 1 + 1 + 1 ≠ w.heap.size + 1 + 1 by omega) (.bool ng7) (.slice p4 r4.length q4)).wh ng8 (.slice p5 r5.length q5) (bq8.wh ng7 (.slice p4 r4.length q4) G8))
  have F := hide (box_two (nq := ng7) (vq := .slice p4 r4.length q4) (nr := ng8) (vr := .slice p5 r5.length q5) bq8 br8 (by omega))
  have Z := hide (hb0.trans (HB.mono hb0.size))
  have Z2 := hide (below_set2 (below_set2 Z.out (show w.heap.size ≤ w.heap.size + 1 + 1 by omega) (.bool ng7) (.slice p4 r4.length q4)) (show w.heap.size ≤ w.heap.size + 1 + 1 + 1 by omega) (.bool ng8) (.slice p5 r5.length q5))
  have hs9 := HS0.out
  have s_hb1 := hb1.size
  have s_hb7 := hb7.size
  have s_hb8 := hb8.size
  have s_hb3 := hb3.size
  have s_hb4 := hb4.size
  have s_hb5 := hb5.size
  have O1 := hide (((((o4.below hb5).below hb7).below hb8).set2 (w.heap.size + 1 + 1) (by omega) (.bool ng7) (.slice p4 r4.length q4)).set2 (w.heap.size + 1 + 1 + 1) (by omega) (.bool ng8) (.slice p5 r5.length q5))
  have O2 := hide ((((o5.below hb7).below hb8).set2 (w.heap.size + 1 + 1) (by omega) (.bool ng7) (.slice p4 r4.length q4)).set2 (w.heap.size + 1 + 1 + 1) (by omega) (.bool ng8) (.slice p5 r5.length q5))
  have hsz : ((((w8.setCell ⟨w.heap.size + 1 + 1, 0, none⟩ (.bool ng7)).setCell ⟨w.heap.size + 1 + 1, 1, none⟩ (.slice p4 r4.length q4)).setCell ⟨w.heap.size + 1 + 1 + 1, 0, none⟩ (.bool ng8)).setCell ⟨w.heap.size + 1 + 1 + 1, 1, none⟩ (.slice p5 r5.length q5)).heap.size = w8.heap.size := by simp [World.setCell]
  have OO : Hid (w3.heap.size ≥ w.heap.size ∧ w4.heap.size ≤ w8.heap.size ∧ w4.heap.size ≥ w.heap.size ∧ w5.heap.size ≤ w8.heap.size ∧ ∀ j, w3.heap.size ≤ j → j < w4.heap.size → j < w4.heap.size ∨ w5.heap.size ≤ j) := ⟨by omega, by omega, by omega, by omega, fun j h1 h2 => by omega⟩
  rw [← hsz] at OO
  clear hsz
  go_wp2
  refine bodyPost_ret (v := .tuple #[.agg #[.bool ng7, .slice p4 r4.length q4], .agg #[.bool ng8, .slice p5 r5.length q5], .bool true]) ?_ rfl ⟨ng7, p4, q4, r4, ng8, p5, q5, r5, w3.heap.size, w4.heap.size, w4.heap.size, w5.heap.size, rfl, by rw [← VQ.out.1]; exact Y1.out, by rw [← VQ.out.2]; exact Y2.out, by omega, by omega, O1.out, O2.out, OO.out, Z2.out⟩
  simp [results, Try.results40, go_sem, F.out.1.facts.1, F.out.1.facts.2.1, F.out.2.facts.1, F.out.2.facts.2.1]

theorem wdivmod_o (w : World) (nx : Bool) (a1 : Option Addr) (n1 c1 : Nat) (xs : List Int) (hx : Sl w (.slice a1 n1 c1) xs) (ny : Bool) (a2 : Option Addr) (n2 c2 : Nat) (ys : List Int) (hy : Sl w (.slice a2 n2 c2) ys) (hm1 : xs.length ≤ 400000) (hm2 : ys.length ≤ 400000) (h0 : val ys ≠ 0) :
    Calls Try.prog 40 #[.agg #[.bool nx, .slice a1 n1 c1], .agg #[.bool ny, .slice a2 n2 c2]] w fun e w' => ∃ nq aq cq qs nr ar cr rs B1 T1 B2 T2, e = .returned (.tuple #[.agg #[.bool nq, .slice aq qs.length cq], .agg #[.bool nr, .slice ar rs.length cr], .bool true]) ∧ Wh w' nq aq cq qs (sg nx (val xs) / sg ny (val ys)) ∧ Wh w' nr ar cr rs (sg nx (val xs) % sg ny (val ys)) ∧ qs.length ≤ xs.length + 4 ∧ rs.length ≤ ys.length ∧ Li B1 T1 w' aq cq qs ∧ Li B2 T2 w' ar cr rs ∧ (w.heap.size ≤ B1 ∧ T1 ≤ w'.heap.size ∧ w.heap.size ≤ B2 ∧ T2 ≤ w'.heap.size ∧ ∀ j, B1 ≤ j → j < T1 → j < B2 ∨ T2 ≤ j) ∧ Below w.heap.size w w' := by
  cases nx with
  | false => exact wdivmod_poso w a1 n1 c1 xs hx ny a2 n2 c2 ys hy hm1 hm2 h0
  | true =>
    by_cases he : val xs % val ys = 0
    · exact wdivmod_eveno w a1 n1 c1 xs hx ny a2 n2 c2 ys hy hm1 hm2 h0 he
    · exact wdivmod_oddo w a1 n1 c1 xs hx ny a2 n2 c2 ys hy hm1 hm2 h0 he

theorem gcd_o (w : World) (a1 a2 : Option Addr) (n1 n2 c1 c2 : Nat) (xs ys : List Int) (hx : Sl w (.slice a1 n1 c1) xs) (hy : Sl w (.slice a2 n2 c2) ys) (hm1 : xs.length ≤ 400000) (hm2 : ys.length ≤ 400000) :
    Calls Try.prog 68 #[.slice a1 n1 c1, .slice a2 n2 c2] w fun e w' => ∃ ao cap rs, e = .returned (.slice ao rs.length cap) ∧ Got w' ao cap rs (Int.gcd (val xs) (val ys)) ∧ rs.length ≤ xs.length + ys.length + 1 ∧ Li w.heap.size w'.heap.size w' ao cap rs ∧ Below w.heap.size w w' := by
  refine (gcd_any w a1 a2 n1 n2 c1 c2 xs ys hx hy hm1 hm2).mono ?_
  rintro e w' ⟨v, rfl, hi, hb⟩
  obtain ⟨ao, cap, rs, rfl, hg⟩ := hi.fr
  refine ⟨ao, cap, rs, rfl, hg.got, canon_len hg.canon ?_, hg.li, hb⟩
  rw [hg.val]
  have b1 := val_bounds hx.parts.2.2.2
  have b2 := val_bounds hy.parts.2.2.2
  have h1 := gcd_small b1.1 b2.1
  have m1 := pw_mono (m := xs.length) (n := xs.length + ys.length) (by omega)
  have m2 := pw_mono (m := ys.length) (n := xs.length + ys.length) (by omega)
  rw [pw]
  have := pw_pos (xs.length + ys.length)
  omega

set_option maxRecDepth 20000 in
set_option maxHeartbeats 1000000 in
theorem wgcd_o (w : World) (nx : Bool) (a1 : Option Addr) (n1 c1 : Nat) (xs : List Int) (hx : Sl w (.slice a1 n1 c1) xs) (ny : Bool) (a2 : Option Addr) (n2 c2 : Nat) (ys : List Int) (hy : Sl w (.slice a2 n2 c2) ys) (hm1 : xs.length ≤ 400000) (hm2 : ys.length ≤ 400000) :
    Calls Try.prog 42 #[.agg #[.bool nx, .slice a1 n1 c1], .agg #[.bool ny, .slice a2 n2 c2]] w fun e w' => ∃ ng' ao cap rs, e = .returned (.agg #[.bool ng', .slice ao rs.length cap]) ∧ Wh w' ng' ao cap rs (((Int.gcd (sg nx (val xs)) (sg ny (val ys)) : Nat) : Int)) ∧ rs.length ≤ xs.length + ys.length + 1 ∧ Li w.heap.size w'.heap.size w' ao cap rs ∧ Below w.heap.size w w' := by
  obtain ⟨w0, e0, bx, by', br, hb0, hs0⟩ := boxed3 w nx (.slice a1 n1 c1) ny (.slice a2 n2 c2)
  have E0 := hide e0
  have hx0 := hx.below hb0
  have hy0 := hy.below hb0
  have HS0 := hide hs0
  clear e0 hs0
  go_enter Try.func42, Try.ntmps42
  go_wp2_with fail
  rw [E0.out]
  obtain ⟨ca, cb, cc, cd⟩ := bx.facts
  obtain ⟨ea, eb, ec, ed⟩ := by'.facts
  obtain ⟨da, db, dc, dd⟩ := br.facts
  refine (gcd_o _ _ _ _ _ _ _ xs ys hx0 hy0 (by omega) (by omega)).mono ?_
  rintro e w1 ⟨p1, q1, r1, rfl, G1, l1, o1, hb1⟩
  go_wp2_with fail
  refine (signed_g _ false _ _ r1 _ G1 (by omega)).mono ?_
  rintro e w2 ⟨ng2, rfl, G2, hb2⟩
  have br2 := (br.below hb1).below hb2
  obtain ⟨ka, kb, kc, kd⟩ := br2.facts
  have SGF : Hid (sg false ((Int.gcd (val xs) (val ys) : Nat) : Int) = ((Int.gcd (sg nx (val xs)) (sg ny (val ys)) : Nat) : Int)) := by show _ = _; rw [gcd_sg]; rfl
  have X := hide (br2.set ng2 (.slice p1 r1.length q1)).facts
  have Y := hide (br2.wh ng2 (.slice p1 r1.length q1) G2)
  have Z := hide (below_set2 (hb0.trans ((hb1.trans (hb2.mono hb1.size)).mono hb0.size)) (Nat.le_add_right _ 2) (.bool ng2) (.slice p1 r1.length q1))
  skip
  have hs9 := HS0.out
  have s_1 := hb1.size
  have s_2 := hb2.size
  have O1 := hide ((o1.below hb2).set2 (w.heap.size + 1 + 1) (by omega) (.bool ng2) (.slice p1 r1.length q1))
  have O2 := hide (show Li w.heap.size _ _ p1 q1 r1 from ⟨O1.out.ow.mono (by omega), fun h0 g off e => by have := O1.out.lies h0 g off e; exact ⟨by omega, Nat.lt_of_lt_of_le this.2 (show w1.heap.size ≤ ((w2.setCell ⟨w.heap.size + 1 + 1, 0, none⟩ (.bool ng2)).setCell ⟨w.heap.size + 1 + 1, 1, none⟩ (.slice p1 r1.length q1)).heap.size by simp [World.setCell]; exact s_2)⟩⟩)
  clear O1
  go_wp2
  refine bodyPost_ret (v := .agg #[.bool ng2, .slice p1 r1.length q1]) ?_ rfl ⟨ng2, p1, q1, r1, rfl, by rw [← SGF.out]; exact Y.out, by omega, O2.out, Z.out⟩
  simp [results, Try.results42, go_sem, X.out.1, X.out.2.1]

end Lm
end Go.Proofs.Ytjhhjefobbhdlaa

namespace Go.Proofs.Ytjhhjefobbhdlaa
namespace Dm
open Go.RowKit
open Lm (hide lt_of_cell lt_of_heap cmpI cmpI_lt cmpI_gt)

theorem Wh.via {w0 w1 w2 : World} {ng : Bool} {ao : Option Addr} {cap : Nat} {rs : List Int} {z : Int} (h : Wh w0 ng ao cap rs z) (h1 : Below w0.heap.size w0 w1) (h2 : Below w1.heap.size w1 w2) : Wh w2 ng ao cap rs z := (h.below h1).below h2

set_option maxRecDepth 20000 in
set_option maxHeartbeats 1000000 in
theorem nsub_g (w : World) (n1 : Bool) (a1 : Option Addr) (c1 : Nat) (xs : List Int) (x : Int) (hx : Wh w n1 a1 c1 xs x) (n2 : Bool) (a2 : Option Addr) (c2 : Nat) (ys : List Int) (y : Int) (hy : Wh w n2 a2 c2 ys y) (m1 : xs.length ≤ 400000) (m2 : ys.length ≤ 400000) :
    Calls Try.prog 45 #[.agg #[.bool n1, .slice a1 xs.length c1], .agg #[.bool n2, .slice a2 ys.length c2]] w fun e w' => ∃ ng' ao cap rs, e = .returned (.agg #[.bool ng', .slice ao rs.length cap]) ∧ Wh w' ng' ao cap rs (x - y) ∧ rs.length ≤ xs.length + ys.length + 1 ∧ Below w.heap.size w w' := by
  obtain ⟨w0, e0, bx, by', br, hb0, hs0⟩ := boxed3 w n1 (.slice a1 xs.length c1) n2 (.slice a2 ys.length c2)
  have E0 := hide e0
  have hx0 := hx.below hb0
  have hy0 := hy.below hb0
  have HB := hb0
  have ne1 : ¬ (w.heap.size = w.heap.size + 1 + 1) := by omega
  have ne2 : ¬ (w.heap.size + 1 + 1 = w.heap.size) := by omega
  clear e0 hs0
  go_enter Try.func45, Try.ntmps45
  go_wp2_with fail
  rw [E0.out]
  obtain ⟨bx1, bx2, bx3, bx4⟩ := bx.facts
  obtain ⟨by1, by2, by3, by4⟩ := by'.facts
  obtain ⟨br1, br2, br3, br4⟩ := br.facts
  go_region_held3 (fun w' => w'.cell? ⟨w.heap.size, 0, none⟩ = some (.bool n1) ∧ w'.cell? ⟨w.heap.size, 1, none⟩ = some (.slice a1 xs.length c1) ∧ w'.cell? ⟨w.heap.size + 1, 0, none⟩ = some (.bool n2) ∧ w'.cell? ⟨w.heap.size + 1, 1, none⟩ = some (.slice a2 ys.length c2)) (go_keep) (first
    | (go_at_call 56; have _hq := hb1'; refine (nadd_g _ _ _ _ xs _ (hx0.via hb1' (by repeat (first | exact Below.refl _ _ | refine Below.drew ?_))) _ _ _ r1 _ (G1.below (by repeat (first | exact Below.refl _ _ | refine Below.drew ?_))) (by omega) (by omega)).mono ?_; rintro e w2 ⟨ng2, p2, q2, r2, rfl, G2, l2, hb2⟩; have hb2' : Below w1.heap.size w1 w2 := (show Below w1.heap.size w1 _ by repeat (first | exact Below.refl _ _ | refine Below.drew ?_)).trans hb2; have HB := HB.trans (hb2'.mono HB.size); replace bx := bx.below hb2'; clear bx1 bx2 bx3 bx4; obtain ⟨bx1, bx2, bx3, bx4⟩ := bx.facts; replace by' := by'.below hb2'; clear by1 by2 by3 by4; obtain ⟨by1, by2, by3, by4⟩ := by'.facts; replace br := br.below hb2'; clear br1 br2 br3 br4; obtain ⟨br1, br2, br3, br4⟩ := br.facts)
    | (go_at_call 58; refine (minus_g _ _ _ _ ys _ (hy0.below (by repeat (first | exact Below.refl _ _ | refine Below.drew ?_))) (by omega)).mono ?_; rintro e w1 ⟨ng1, p1, q1, r1, rfl, G1, l1, hb1⟩; have hb1' : Below w0.heap.size w0 w1 := (show Below w0.heap.size w0 _ by repeat (first | exact Below.refl _ _ | refine Below.drew ?_)).trans hb1; have HB := HB.trans (hb1'.mono HB.size); replace bx := bx.below hb1'; clear bx1 bx2 bx3 bx4; obtain ⟨bx1, bx2, bx3, bx4⟩ := bx.facts; replace by' := by'.below hb1'; clear by1 by2 by3 by4; obtain ⟨by1, by2, by3, by4⟩ := by'.facts; replace br := br.below hb1'; clear br1 br2 br3 br4; obtain ⟨br1, br2, br3, br4⟩ := br.facts))
  all_goals
    have X := hide (br.set ng2 (.slice p2 r2.length q2)).facts
    have Y := hide (br.wh ng2 (.slice p2 r2.length q2) G2)
    have Z := hide (below_set2 HB (show w.heap.size ≤ w.heap.size + 1 + 1 by omega) (.bool ng2) (.slice p2 r2.length q2))
    clear bx1 bx2 bx3 bx4 by1 by2 by3 by4
    go_wp2
    refine bodyPost_ret (v := .agg #[.bool ng2, .slice p2 r2.length q2]) ?_ rfl ⟨ng2, p2, q2, r2, rfl, by rw [show x - y = x + -y by omega]; exact Y.out, by omega, Z.out⟩
    simp [results, Try.results45, go_sem, X.out.1, X.out.2.1]

end Dm
end Go.Proofs.Ytjhhjefobbhdlaa

namespace Go.Proofs.Ytjhhjefobbhdlaa
namespace Dm
open Go.RowKit
open Lm (hide lt_of_cell lt_of_heap)

theorem val_set : ∀ (L : List Int) (i : Nat) (x : Int), i < L.length → val (L.set i x) = val L + pw i * (x - L.getD i 0)
  | [], i, x, h => by simp at h
  | z :: zs, 0, x, _ => by simp [val, pw]; omega
  | z :: zs, i + 1, x, h => by
    have ih := val_set zs i x (by simpa using h)
    rw [List.set_cons_succ, val, ih, val, List.getD_cons_succ, pw, Int.mul_add, ← Int.mul_assoc]
    omega

theorem digit_le : ∀ (L : List Int) (i : Nat), (∀ z ∈ L, 0 ≤ z) → pw i * L.getD i 0 ≤ val L
  | [], i, _ => by simp [val]
  | z :: zs, 0, h => by
    have h1 : 0 ≤ val zs := by
      have : ∀ l : List Int, (∀ z ∈ l, 0 ≤ z) → 0 ≤ val l := by
        intro l
        induction l with
        | nil => intro _; simp [val]
        | cons a l ih =>
          intro hl
          have := ih (fun z hz => hl z (List.mem_cons_of_mem _ hz))
          have := hl a (List.mem_cons_self ..)
          rw [val]
          omega
      exact this zs (fun y hy => h y (List.mem_cons_of_mem _ hy))
    simp [val, pw]
    omega
  | z :: zs, i + 1, h => by
    have ih := digit_le zs i (fun y hy => h y (List.mem_cons_of_mem _ hy))
    have := h z (List.mem_cons_self ..)
    rw [List.getD_cons_succ, val, pw, Int.mul_assoc]
    omega

theorem limb_set {L : List Int} (h : Limb L) (i : Nat) (x : Int) (hx : 0 ≤ x ∧ x < 10000) : Limb (L.set i x) := by
  intro z hz
  rcases List.mem_or_eq_of_mem_set hz with h1 | h1
  · exact h z h1
  · rw [h1]; exact hx

theorem nonneg_set {L : List Int} (h : Limb L) (i : Nat) (x : Int) (hx : 0 ≤ x) : ∀ z ∈ L.set i x, 0 ≤ z := by
  intro z hz
  rcases List.mem_or_eq_of_mem_set hz with h1 | h1
  · exact (h z h1).1
  · rw [h1]; exact hx

theorem mul_99 {a b : Int} (ha : 0 ≤ a ∧ a < 10000) (hb : 0 ≤ b ∧ b < 10000) : 0 ≤ a * b ∧ a * b ≤ 99980001 := by
  refine ⟨Int.mul_nonneg ha.1 hb.1, ?_⟩
  have h1 : a * b ≤ 9999 * b := Int.mul_le_mul_of_nonneg_right (by omega) hb.1
  omega

/-- A round of the inner loop. -/
theorem mul_in {B M : List Int} {k j : Nat} {P a b c t s : Int} (hl : k + j < M.length) (ht : M.getD (k + j) 0 = t) (hb : B.getD j 0 = b) (hs : s = c + t + a * b) (h : val M + pw (k + j) * c = P + pw k * (a * vf B j)) :
    val (M.set (k + j) (s % 10000)) + pw (k + (j + 1)) * (s / 10000) = P + pw k * (a * vf B (j + 1)) := by
  rw [val_set M _ _ hl, ht, vf, hb, ← Nat.add_assoc, pw]
  have e : s = s % 10000 + 10000 * (s / 10000) := by omega
  have e2 : pw (k + j) * (s % 10000 - t) + 10000 * pw (k + j) * (s / 10000) = pw (k + j) * (s - t) := by
    rw [Int.mul_comm 10000 (pw (k + j)), Int.mul_assoc, ← Int.mul_add]
    congr 1
    omega
  have e3 : pw (k + j) * (s - t) = pw (k + j) * c + pw (k + j) * (a * b) := by rw [← Int.mul_add]; congr 1; omega
  have e4 : pw k * (a * (vf B j + pw j * b)) = pw k * (a * vf B j) + pw (k + j) * (a * b) := by
    rw [pw_add, Int.mul_add, Int.mul_add, Int.mul_assoc (pw k) (pw j), ← Int.mul_assoc a (pw j), Int.mul_comm a (pw j), Int.mul_assoc (pw j) a]
  rw [Int.add_assoc, e2, e3, e4]
  omega

/-- The end of an outer round: the carry is laid on top. -/
theorem mul_out {A B M : List Int} {k : Nat} {a c t : Int} (hA : Limb A) (hB : Limb B) (hM : Limb M) (hk : k < A.length) (hl : k + B.length < M.length) (ht : M.getD (k + B.length) 0 = t) (ha : A.getD k 0 = a) (hc : 0 ≤ c) (h : val M + pw (k + B.length) * c = vf A k * val B + pw k * (a * vf B B.length)) :
    val (M.set (k + B.length) (t + c)) = vf A (k + 1) * val B ∧ Limb (M.set (k + B.length) (t + c)) := by
  have h0 : 0 ≤ t := by rw [← ht]; exact (limb_getD hM _).1
  have e1 : val (M.set (k + B.length) (t + c)) = vf A (k + 1) * val B := by
    rw [val_set M _ _ hl, ht, vf, ha, Int.add_mul, show t + c - t = c by omega, h, vf_all B _ (Nat.le_refl _), Int.mul_assoc]
  refine ⟨e1, limb_set hM _ _ ⟨by omega, ?_⟩⟩
  have h1 := digit_le _ (k + B.length) (nonneg_set hM (k + B.length) (t + c) (by omega))
  have h2 : (M.set (k + B.length) (t + c)).getD (k + B.length) 0 = t + c := by
    rw [List.getD_eq_getElem?_getD, List.getElem?_set_self hl]; rfl
  rw [h2, e1] at h1
  have h3 := val_bounds hB
  have h4 := val_bounds (limb_take hA (k + 1))
  rw [← vf_take, List.length_take, Nat.min_eq_left (by omega)] at h4
  have h5 : vf A (k + 1) * val B ≤ (pw (k + 1) - 1) * val B := Int.mul_le_mul_of_nonneg_right (by omega) h3.1
  have h6 : (pw (k + 1) - 1) * val B ≤ (pw (k + 1) - 1) * (pw B.length - 1) := Int.mul_le_mul_of_nonneg_left (by omega) (by have := pw_pos (k + 1); omega)
  have h7 : (pw (k + 1) - 1) * (pw B.length - 1) < pw (k + 1) * pw B.length := by
    have := pw_pos (k + 1)
    have := pw_pos B.length
    rw [Int.sub_mul, Int.mul_sub]
    omega
  have h8 : pw (k + 1) * pw B.length = pw (k + B.length) * 10000 := by rw [← pw_add, show k + 1 + B.length = (k + B.length) + 1 by omega, pw, Int.mul_comm]
  apply Classical.byContradiction
  intro hn
  have h9 : pw (k + B.length) * 10000 ≤ pw (k + B.length) * (t + c) := Int.mul_le_mul_of_nonneg_left (by omega) (by have := pw_pos (k + B.length); omega)
  omega

theorem Box.wr {w w' : World} {g g' : Nat} {cur : Array Value} {e : TypeId} {ng : Bool} {v : Value} (h : Box w g ng v) (hw : Wr w w' g' cur e) (hne : g ≠ g') : Box w' g ng v := (hw.other g hne).trans h

set_option maxRecDepth 20000 in
set_option maxHeartbeats 1000000 in
theorem nmul_got (w : World) (n1 : Bool) (a1 : Option Addr) (c1 : Nat) (A : List Int) (x : Int) (hx : Got w a1 c1 A x) (n2 : Bool) (a2 : Option Addr) (c2 : Nat) (B : List Int) (y : Int) (hy : Got w a2 c2 B y) (m1 : A.length ≤ 400000) (m2 : B.length ≤ 400000) :
    Calls Try.prog 57 #[.agg #[.bool n1, .slice a1 A.length c1], .agg #[.bool n2, .slice a2 B.length c2]] w fun e w' => ∃ ng' ao cap rs, e = .returned (.agg #[.bool ng', .slice ao rs.length cap]) ∧ Wh w' ng' ao cap rs (sg (n1 != n2) (x * y)) ∧ rs.length ≤ A.length + B.length + 1 ∧ Below w.heap.size w w' := by
  obtain ⟨w0, e0, bx, by', br, hb0, hs0⟩ := boxed3 w n1 (.slice a1 A.length c1) n2 (.slice a2 B.length c2)
  obtain ⟨i0, hi, hz0, hz1, hz2⟩ := info_parts info64
  have E0 := hide e0
  have hx0 := hx.below hb0
  have hy0 := hy.below hb0
  obtain ⟨_, p1, p2, p3⟩ := hx.sl.parts
  obtain ⟨_, q1, q2, q3⟩ := hy.sl.parts
  have P3 := hide p3
  have Q3 := hide q3
  have HS := hide hs0
  clear p3 q3 e0 hs0
  go_enter Try.func57, Try.ntmps57
  go_wp2_with (refine wpList_make_full _ rfl (.tmp 16) (.tmp 16) 59 rfl w0.heap.size 3 i0 (.int .i64 0) 1 Try.underlying59 hi hz0 hz1 .i64 .i64 _ _ (A.length + B.length + 1) rfl rfl (by omega) (by omega) (by rw [hz2]; omega) (by unfold maxLen; omega) (by rw [E0.out]; exact Nat.le_refl _) ?hK)
  case hK =>
    intro w1 hown hgrow
    rw [E0.out] at hgrow
    generalize hgg : w.heap.size + 1 + 1 + 1 = g at hown ⊢
    obtain ⟨hgB, cur, hh, hcs, hat⟩ := block_of_made hown
    have hb1 : Below w0.heap.size w0 w1 := (Below.refl _ _).grown hgrow (Nat.le_refl _) (by simp)
    have HB1 := hb0.trans (hb1.mono hb0.size)
    have hs0 := HS.out
    replace bx := bx.below hb1
    replace by' := by'.below hb1
    replace br := br.below hb1
    have n1g : w.heap.size ≠ g := by omega
    have n2g : w.heap.size + 1 ≠ g := by omega
    have n3g : w.heap.size + 1 + 1 ≠ g := by omega
    have NG := hide (And.intro n1g (And.intro n2g n3g))
    have HX := hide hx0
    have HY := hide hy0
    have BX := hide bx
    have BY := hide by'
    have BR := hide br
    have HH := hide hh
    have HC := hide hcs
    have HAT := hide hat
    have HG := hide hgB
    clear hown hgrow hh hcs hat hgB hgg bx by' br hx0 hy0 n1g n2g n3g E0 hs0
    go_wp2
    go_loopw [6] (fun iv wr => ∃ (k : Nat) (M : List Int) (cur' : Array Value), k ≤ A.length ∧ iv = .int .i64 k ∧ M.length = A.length + B.length + 1 ∧ Limb M ∧ val M = vf A k * val B ∧ Wr w1 wr g cur' 3 ∧ cur'.size = A.length + B.length + 1 ∧ At cur' .i64 0 M) (fun iv _ => A.length - (intOf iv).toNat)
    case atStart => exact ⟨0, List.replicate (A.length + B.length + 1) 0, cur, Nat.zero_le _, rfl, by simp, limb_zeros _, by rw [val_zeros]; simp [vf], Wr.refl HH.out, HC.out, HAT.out⟩
    case round =>
      obtain ⟨k, M, cur', hk, rfl, hml, hm, hv, hwr, hcs', hat'⟩ := hrel
      obtain ⟨bx1, bx2, bx3, bx4⟩ := (BX.out.wr hwr NG.out.1).facts
      obtain ⟨by1, by2, by3, by4⟩ := (BY.out.wr hwr NG.out.2.1).facts
      by_cases hlt : k < A.length
      · have dA : (k : Int) < (A.length : Int) := by omega
        obtain ⟨a, hak⟩ : ∃ a, A.getD k 0 = a := ⟨_, rfl⟩
        have HI : Hid (M.length = A.length + B.length + 1 ∧ Limb M ∧ val M + pw (k + 0) * 0 = vf A k * val B + pw k * (a * vf B 0) ∧ Wr w1 wr g cur' 3 ∧ cur'.size = A.length + B.length + 1 ∧ At cur' .i64 0 M) := ⟨hml, hm, by rw [hv]; simp [vf], hwr, hcs', hat'⟩
        have HK := hide hak
        clear hml hm hv hwr hcs' hat' hak
        go_wp2
        clear bx1 bx2 bx3 bx4 by1 by2 by3 by4
        go_loopw [7, 8] (fun cv jv wr => ∃ (j : Nat) (c : Int) (M : List Int) (cur' : Array Value), j ≤ B.length ∧ jv = .int .i64 j ∧ cv = .int .i64 c ∧ (0 ≤ c ∧ c < 10000) ∧ M.length = A.length + B.length + 1 ∧ Limb M ∧ val M + pw (k + j) * c = vf A k * val B + pw k * (a * vf B j) ∧ Wr w1 wr g cur' 3 ∧ cur'.size = A.length + B.length + 1 ∧ At cur' .i64 0 M) (fun _ jv _ => B.length - (intOf jv).toNat)
        case atStart => exact ⟨0, 0, M, cur', Nat.zero_le _, rfl, rfl, by omega, HI.out.1, HI.out.2.1, HI.out.2.2.1, HI.out.2.2.2.1, HI.out.2.2.2.2.1, HI.out.2.2.2.2.2⟩
        case round =>
          clear HI
          obtain ⟨j, c, M, cur', hj, rfl, rfl, hc, hml, hm, hv, hwr, hcs', hat'⟩ := hrel
          have bx' := BX.out.wr hwr NG.out.1
          have by'' := BY.out.wr hwr NG.out.2.1
          obtain ⟨bx1, bx2, bx3, bx4⟩ := bx'.facts
          obtain ⟨by1, by2, by3, by4⟩ := by''.facts
          have sA := hwr.sl HG.out hb1 rfl HX.out.sl
          have sB := hwr.sl HG.out hb1 rfl HY.out.sl
          obtain ⟨b1, off1, rfl, hca⟩ := sA.cells (by omega)
          have ca := hca k hlt
          have ba := limb_getD P3.out k
          rw [HK.out] at ca ba
          have hm0 := hide hml
          by_cases hltB : j < B.length
          · have dB : (j : Int) < (B.length : Int) := by omega
            obtain ⟨b2, off2, rfl, hcb⟩ := sB.cells (by omega)
            have cb := hcb j hltB
            have bb := limb_getD Q3.out j
            obtain ⟨b, hbk⟩ : ∃ b, B.getD j 0 = b := ⟨_, rfl⟩
            rw [hbk] at cb bb
            have cm := hat'.cell hwr.here (k + j) (by omega)
            rw [Nat.zero_add] at cm
            have bm := limb_getD hm (k + j)
            obtain ⟨t, htk⟩ : ∃ t, M.getD (k + j) 0 = t := ⟨_, rfl⟩
            rw [htk] at cm bm
            have fm := hwr.free (k + j)
            have hab := mul_99 ba bb
            have dM : (k : Int) + (j : Int) < (A.length : Int) + (B.length : Int) + 1 := by omega
            have HV' := hide (mul_in (a := a) (by omega) htk hbk rfl hv)
            have HL' := hide (limb_set hm (k + j) ((c + t + a * b) % 10000) (by omega))
            have HT' := hide (hat'.set (k + j) ((c + t + a * b) % 10000))
            have HW' := hide hwr
            have HCS := hide hcs'
            clear sA sB hca hcb hbk htk hml hm hv hwr hcs' hat' bx' by''
            go_wp2
            go_quiet (fail)
            replace cm : (wr.drewN nq).cell? ⟨g, k + j, none⟩ = some (.int .i64 t) := cm
            replace fm : (wr.drewN nq).frozen? ⟨g, k + j, none⟩ = false := fm
            have HW2 := hide ((HW'.out.drewN nq).set (k + j) (.int .i64 ((c + t + a * b) % 10000)))
            clear HW' ca cb bx1 bx2 bx3 bx4 by1 by2 by3 by4
            generalize wr.drewN nq = wr2 at cm fm HW2 ⊢
            go_wp2
            go_roundw
            case rel => exact ⟨j + 1, (c + t + a * b) / 10000, M.set (k + j) ((c + t + a * b) % 10000), _, by omega, by go_num, rfl, by omega, by rw [List.length_set]; exact hm0.out, HL'.out, HV'.out, HW2.out, by rw [Array.size_setIfInBounds]; exact HCS.out, by simpa using HT'.out⟩
            case measure => simp [intOf]; omega
          · have hjB : j = B.length := by omega
            subst hjB
            have dB : ¬ (B.length : Int) < (B.length : Int) := by omega
            have cm := hat'.cell hwr.here (k + B.length) (by omega)
            rw [Nat.zero_add] at cm
            have bm := limb_getD hm (k + B.length)
            obtain ⟨t, htk⟩ : ∃ t, M.getD (k + B.length) 0 = t := ⟨_, rfl⟩
            rw [htk] at cm bm
            have fm := hwr.free (k + B.length)
            have dM : (k : Int) + (B.length : Int) < (A.length : Int) + (B.length : Int) + 1 := by omega
            have HO := hide (mul_out P3.out Q3.out hm hlt (by omega) htk HK.out hc.1 hv)
            have HT' := hide (hat'.set (k + B.length) (t + c))
            have HW' := hide (hwr.set (k + B.length) (.int .i64 (t + c)))
            have HCS := hide hcs'
            have wr1 : IntKind.i64.wrap ((k : Int) + (B.length : Int)) = (k : Int) + (B.length : Int) := by rw [IntKind.wrap_i64]; omega
            have wr2 : IntKind.i64.wrap (t + c) = t + c := by rw [IntKind.wrap_i64]; omega
            have wr3 : (0 : Int) ≤ (k : Int) + (B.length : Int) := by omega
            have wr4 : ((k : Int) + (B.length : Int)).toNat = k + B.length := by omega
            clear sA sB hca htk hml hm hv hwr hcs' hat' bx' by'' ca
            go_wp2
            go_region
            have HW2 := hide HW'.out.drew
            clear HW' bx1 bx2 bx3 bx4 by1 by2 by3 by4 cm fm
            generalize (wr.setCell ⟨g, k + B.length, none⟩ (.int .i64 (t + c))).drew = wr9 at HW2 ⊢
            go_wp2
            go_roundw
            case rel => exact ⟨k + 1, M.set (k + B.length) (t + c), _, by omega, by go_num, by rw [List.length_set]; exact hm0.out, HO.out.2, HO.out.1, HW2.out, by rw [Array.size_setIfInBounds]; exact HCS.out, by simpa using HT'.out⟩
            case measure => simp [intOf]; omega
      · have hkA : k = A.length := by omega
        subst hkA
        have dA : ¬ (A.length : Int) < (A.length : Int) := by omega
        have hvv : val M = x * y := by rw [hv, vf_all A _ (Nat.le_refl _), HX.out.val, HY.out.val]
        have sM : Sl wr (.slice (some ⟨g, 0, none⟩) (A.length + B.length + 1) (A.length + B.length + 1)) M := (show Ow g wr _ M from ⟨_, _, by rw [hml], by omega, by unfold maxLen; omega, hm, .inr ⟨g, 0, cur', rfl, Nat.le_refl _, hwr.here, by omega, hat'⟩⟩).sl
        have br := BR.out.wr hwr NG.out.2.2
        have HB := HB1.trans ((hwr.below HG.out).mono hb0.size)
        rw [← hml] at sM
        have SM := hide sM
        have HVV := hide hvv
        have HML := hide hml
        clear hml hm hv hwr hcs' hat' hvv sM
        go_wp2_with fail
        rw [← HML.out]
        refine (made_w _ _ _ _ M _ SM.out HVV.out).mono ?_
        rintro e w2 ⟨ng2, r2, rfl, G2, l2, hb2⟩
        rw [HML.out] at l2
        replace HB := HB.trans (hb2.mono HB.size)
        replace br := br.below hb2
        obtain ⟨br1, br2, br3, br4⟩ := br.facts
        have X := hide (br.set ng2 (.slice (some ⟨g, 0, none⟩) r2.length M.length)).facts
        have Y := hide (br.wh ng2 (.slice (some ⟨g, 0, none⟩) r2.length M.length) G2)
        have Z := hide (below_set2 HB (show w.heap.size ≤ w.heap.size + 1 + 1 by omega) (.bool ng2) (.slice (some ⟨g, 0, none⟩) r2.length M.length))
        clear bx1 bx2 bx3 bx4 by1 by2 by3 by4
        go_wp2
        refine bodyPost_ret (v := .agg #[.bool ng2, .slice (some ⟨g, 0, none⟩) r2.length M.length]) ?_ rfl ⟨ng2, (some ⟨g, 0, none⟩), M.length, r2, rfl, by first | exact Y.out | (rw [bne]; exact Y.out), l2, Z.out⟩
        simp [results, Try.results57, go_sem, X.out.1, X.out.2.1]

theorem nmul_g (w : World) (n1 : Bool) (a1 : Option Addr) (c1 : Nat) (xs : List Int) (x : Int) (hx : Wh w n1 a1 c1 xs x) (n2 : Bool) (a2 : Option Addr) (c2 : Nat) (ys : List Int) (y : Int) (hy : Wh w n2 a2 c2 ys y) (m1 : xs.length ≤ 400000) (m2 : ys.length ≤ 400000) :
    Calls Try.prog 57 #[.agg #[.bool n1, .slice a1 xs.length c1], .agg #[.bool n2, .slice a2 ys.length c2]] w fun e w' => ∃ ng' ao cap rs, e = .returned (.agg #[.bool ng', .slice ao rs.length cap]) ∧ Wh w' ng' ao cap rs (x * y) ∧ rs.length ≤ xs.length + ys.length + 1 ∧ Below w.heap.size w w' := by
  have wx := hx.worth
  have wy := hy.worth
  rw [hx.1.val] at wx
  rw [hy.1.val] at wy
  rw [show x * y = sg (n1 != n2) ((x.natAbs : Int) * (y.natAbs : Int)) by rw [sg_mul, wx, wy]]
  exact nmul_got w n1 a1 c1 xs _ hx.1 n2 a2 c2 ys _ hy.1 m1 m2

end Dm
end Go.Proofs.Ytjhhjefobbhdlaa

namespace Go.Proofs.Ytjhhjefobbhdlaa
namespace Dm
open Go.RowKit
open Lm (hide lt_of_cell lt_of_heap cmpI cmpI_lt cmpI_gt)

theorem Is.far {B : Nat} {w : World} {v : Value} {x : Int} (h : Is B w v x) : ∃ ao cap rs, v = .slice ao rs.length cap ∧ Got w ao cap rs x ∧ (0 < rs.length → ∀ b off, ao = some ⟨b, off, none⟩ → B ≤ b) := by
  obtain ⟨rs, ho, hc, hv⟩ := h
  have hs := ho.sl
  obtain ⟨ao, cap, rfl, h1, h2, h3, h4⟩ := ho
  refine ⟨ao, cap, rs, rfl, ⟨hs, hc, hv⟩, ?_⟩
  intro h0 b off e
  rcases h4 with h4 | ⟨g', off', cur, e', hB, hh, _⟩
  · omega
  · rw [e'] at e
    simp only [Option.some.injEq, Addr.mk.injEq, and_true] at e
    omega

/-- A natural, as a number with a sign. -/
theorem Wh.natu {w : World} {ao : Option Addr} {cap : Nat} {rs : List Int} {x : Int} (h : Got w ao cap rs x) : Wh w false ao cap rs x := by
  have := Wh.of false h
  simpa [sg] using this

theorem cmpI_le0 {x y : Int} : cmpI x y ≤ 0 ↔ x ≤ y := by
  rcases Int.lt_trichotomy x y with h | h | h
  · rw [cmpI_lt h]; omega
  · subst h; simp [Lm.cmpI]
  · rw [cmpI_gt h]; omega

/-- One cell. -/
def Cl (w : World) (b i : Nat) (v : Value) : Prop := w.cell? ⟨b, i, none⟩ = some v
theorem Cl.below {w w' : World} {b i : Nat} {v : Value} (h : Cl w b i v) (hb : Below w.heap.size w w') : Cl w' b i v := (hb.cell (p := ⟨b, i, none⟩) (lt_of_cell h)).trans h
theorem Cl.facts {w : World} {b i : Nat} {v : Value} (h : Cl w b i v) : w.cell? ⟨b, i, none⟩ = some v ∧ True ∧ True ∧ True := ⟨h, trivial, trivial, trivial⟩

theorem Sl.other {w w' : World} {g n c : Nat} {a : Option Addr} {zs : List Int} (h : Sl w (.slice a n c) zs) (hne : 0 < zs.length → ∀ b off, a = some ⟨b, off, none⟩ → b ≠ g) (ho : ∀ k, k ≠ g → w'.heap[k]? = w.heap[k]?) : Sl w' (.slice a n c) zs := by
  obtain ⟨ao', cap', hv, h1, h2, h3, h4⟩ := h
  obtain ⟨rfl, rfl, rfl⟩ := (Value.slice.injEq .. ▸ hv)
  refine ⟨_, _, rfl, h1, h2, h3, ?_⟩
  rcases h4 with h4 | ⟨b, off, rfl, hc⟩
  · exact .inl h4
  · by_cases h0 : 0 < zs.length
    · refine .inr ⟨b, off, rfl, fun i hi => ?_⟩
      rw [World.cell?_of_block (w := w) (ho b (hne h0 b off rfl))]
      exact hc i hi
    · exact .inl (List.eq_nil_of_length_eq_zero (by omega))

/-- Where divided stands: the dividend at its block, two blocks for the answers, the quotient's digits at g, the divisor at gy, what is left at gr. -/
structure Dv (w wr : World) (na : Bool) (va : Value) (g gy gr n : Nat) (Dl : List Int) (pY : Option Addr) (qY : Nat) (Y : List Int) (y : Int) (nR : Bool) (pR : Option Addr) (qR : Nat) (R : List Int) (r : Int) : Prop where
  hb : Below w.heap.size w wr
  ba : Box wr w.heap.size na va
  b4 : Box wr (w.heap.size + 1 + 1) false (.slice none 0 0)
  b5 : Box wr (w.heap.size + 1 + 1 + 1) false (.slice none 0 0)
  bY : Box wr gy false (.slice pY Y.length qY)
  bR : Box wr gr nR (.slice pR R.length qR)
  d : ∃ cur, wr.heap[g]? = some (.cells cur 3 (0, 0)) ∧ cur.size = n ∧ At cur .i64 0 Dl
  dl : Dl.length = n ∧ Limb Dl
  hY : Wh wr false pY qY Y y
  hR : Wh wr nR pR qR R r
  lt : w.heap.size + 4 ≤ g ∧ g < gy ∧ gy < gr
  farY : ∀ b off, pY = some ⟨b, off, none⟩ → g < b

section
variable {w wr wr' : World} {na : Bool} {va : Value} {g gy gr n : Nat} {Dl : List Int} {pY : Option Addr} {qY : Nat} {Y : List Int} {y : Int} {nR : Bool} {pR : Option Addr} {qR : Nat} {R : List Int} {r : Int}
theorem Dv.below (h : Dv w wr na va g gy gr n Dl pY qY Y y nR pR qR R r) (hb : Below wr.heap.size wr wr') : Dv w wr' na va g gy gr n Dl pY qY Y y nR pR qR R r := by
  obtain ⟨cur, hh, r1⟩ := h.d
  exact ⟨h.hb.trans (hb.mono h.hb.size), h.ba.below hb, h.b4.below hb, h.b5.below hb, h.bY.below hb, h.bR.below hb, ⟨cur, (hb.block g (lt_of_heap hh)).trans hh, r1⟩, h.dl, h.hY.below hb, h.hR.below hb, h.lt, h.farY⟩

theorem box_other {w : World} {g k : Nat} {ng : Bool} {v : Value} (h : Box w k ng v) (hne : k ≠ g) (b u : Value) : Box ((w.setCell ⟨g, 0, none⟩ b).setCell ⟨g, 1, none⟩ u) k ng v := by
  unfold Box
  rw [heap_setCell_other _ ⟨g, 1, none⟩ k _ hne, heap_setCell_other _ ⟨g, 0, none⟩ k _ hne]
  exact h

/-- What is left is written anew. -/
theorem Dv.setR (h : Dv w wr na va g gy gr n Dl pY qY Y y nR pR qR R r) {n2 : Bool} {p2 : Option Addr} {q2 : Nat} {R2 : List Int} {r2 : Int} (h2 : Wh wr n2 p2 q2 R2 r2) :
    Dv w ((wr.setCell ⟨gr, 0, none⟩ (.bool n2)).setCell ⟨gr, 1, none⟩ (.slice p2 R2.length q2)) na va g gy gr n Dl pY qY Y y n2 p2 q2 R2 r2 := by
  obtain ⟨cur, hh, r1⟩ := h.d
  have l := h.lt
  refine ⟨below_set2 h.hb (by omega) _ _, box_other h.ba (by omega) _ _, box_other h.b4 (by omega) _ _, box_other h.b5 (by omega) _ _, box_other h.bY (by omega) _ _, h.bR.set _ _, ⟨cur, ?_, r1⟩, h.dl, h.bR.wh _ _ h.hY, h.bR.wh _ _ h2, h.lt, h.farY⟩
  rw [heap_setCell_other _ ⟨gr, 1, none⟩ g _ (by simp; omega), heap_setCell_other _ ⟨gr, 0, none⟩ g _ (by simp; omega)]
  exact hh

/-- A digit of the quotient is written. -/
theorem Dv.setD (h : Dv w wr na va g gy gr n Dl pY qY Y y nR pR qR R r) (i : Nat) (q : Int) (hq : 0 ≤ q ∧ q < 10000) (hfar : 0 < R.length → ∀ b off, pR = some ⟨b, off, none⟩ → b ≠ g) :
    Dv w (wr.setCell ⟨g, i, none⟩ (.int .i64 q)) na va g gy gr n (Dl.set i q) pY qY Y y nR pR qR R r := by
  obtain ⟨cur, hh, hs, ha⟩ := h.d
  have l := h.lt
  have ho : ∀ k, k ≠ g → (wr.setCell ⟨g, i, none⟩ (.int .i64 q)).heap[k]? = wr.heap[k]? := fun k hk => heap_setCell_other wr ⟨g, i, none⟩ k _ hk
  have hset := ha.set i q
  rw [Nat.zero_add] at hset
  refine ⟨h.hb.setCell (show w.heap.size ≤ g by omega) _, (ho _ (by omega)).trans h.ba, (ho _ (by omega)).trans h.b4, (ho _ (by omega)).trans h.b5, (ho _ (by omega)).trans h.bY, (ho _ (by omega)).trans h.bR, ⟨_, heap_setCell_same wr g i cur _ _ hh, by rw [Array.size_setIfInBounds]; exact hs, hset⟩, ⟨by rw [List.length_set]; exact h.dl.1, limb_set h.dl.2 _ _ hq⟩, ?_, ?_, h.lt, h.farY⟩
  · exact ⟨⟨h.hY.1.1.other (fun _ b off e => by have := h.farY b off e; omega) ho, h.hY.1.2⟩, h.hY.2⟩
  · exact ⟨⟨h.hR.1.1.other hfar ho, h.hR.1.2⟩, h.hR.2⟩

theorem Dv.cell (h : Dv w wr na va g gy gr n Dl pY qY Y y nR pR qR R r) (i : Nat) (hi : i < n) : wr.cell? ⟨g, i, none⟩ = some (.int .i64 (Dl.getD i 0)) ∧ wr.frozen? ⟨g, i, none⟩ = false := by
  obtain ⟨cur, hh, hs, ha⟩ := h.d
  have := ha.cell hh i (by rw [h.dl.1]; exact hi)
  rw [Nat.zero_add] at this
  exact ⟨this, frozen_of_row wr g i cur _ hh⟩

theorem Dv.sl (h : Dv w wr na va g gy gr n Dl pY qY Y y nR pR qR R r) (hn : n ≤ 1000000) : Sl wr (.slice (some ⟨g, 0, none⟩) n n) Dl := by
  obtain ⟨cur, hh, hs, ha⟩ := h.d
  exact (show Ow g wr _ Dl from ⟨_, n, by rw [h.dl.1], by rw [h.dl.1]; omega, by unfold maxLen; omega, h.dl.2, .inr ⟨g, 0, cur, rfl, Nat.le_refl _, hh, by omega, ha⟩⟩).sl
end

/-- The numbers of a round. -/
theorem div_round {A Dl : List Int} {k : Nat} {y r a q : Int} (hk : k < A.length) (hd : k < Dl.length) (ha : A.getD k 0 = a) (h : val (A.drop (k + 1)) = y * val (Dl.drop (k + 1)) + r) : val (A.drop k) = y * val ((Dl.set k q).drop k) + (r * 10000 + a - (y * q + 0)) := by
  rw [drop_getD A k hk, ha, val, h]
  have e : (Dl.set k q).drop k = q :: Dl.drop (k + 1) := by
    rw [drop_getD _ k (by rw [List.length_set]; exact hd), List.drop_set_of_lt (by omega)]
    congr 1
    rw [List.getD_eq_getElem?_getD, List.getElem?_set_self hd]
    rfl
  rw [e, val, Int.mul_add, Int.mul_add, ← Int.mul_assoc, ← Int.mul_assoc, Int.mul_comm 10000 y]
  omega

theorem div_start {A : List Int} (hA : Limb A) {m : Nat} {y : Int} (hy : pw m ≤ y) {sk : Nat} (hs : A.length - sk ≤ m) : 0 ≤ val (A.drop sk) ∧ val (A.drop sk) < y := by
  have h1 := val_bounds (limb_drop hA sk)
  have h2 := pw_mono (m := (A.drop sk).length) (n := m) (by rw [List.length_drop]; exact hs)
  omega

theorem div_end {x y q r : Int} (h : x = y * q + r) (h0 : 0 ≤ r) (h1 : r < y) : q = x / y ∧ r = x % y := by
  have e : (r + y * q) / y = r / y + q := Int.add_mul_ediv_left _ _ (by omega)
  have e2 : (r + y * q) % y = r % y := Int.add_mul_emod_self_left _ _ _
  rw [Int.add_comm] at h
  rw [h, e, e2, Int.ediv_eq_zero_of_lt h0 h1, Int.emod_eq_of_lt h0 h1]
  omega

end Dm
end Go.Proofs.Ytjhhjefobbhdlaa

namespace Go.Proofs.Ytjhhjefobbhdlaa
namespace Dm
open Go.RowKit
open Lm (hide lt_of_cell lt_of_heap cmpI cmpI_lt cmpI_gt)

theorem Sl.drop {w : World} {b off n c : Nat} {zs : List Int} (h : Sl w (.slice (some ⟨b, off, none⟩) n c) zs) (k : Nat) (hk : k ≤ zs.length) : Sl w (.slice (some ⟨b, off + k, none⟩) (zs.length - k) (c - k)) (zs.drop k) := by
  obtain ⟨ao', cap', hv, h1, h2, h3, h4⟩ := h
  obtain ⟨rfl, rfl, rfl⟩ := (Value.slice.injEq .. ▸ hv)
  refine ⟨_, _, by rw [List.length_drop], by rw [List.length_drop]; omega, Nat.le_trans (Nat.sub_le _ _) h2, limb_drop h3 k, ?_⟩
  rcases h4 with rfl | ⟨b', off', e, hc⟩
  · exact .inl (by simp)
  · simp only [Option.some.injEq, Addr.mk.injEq, and_true] at e
    obtain ⟨rfl, rfl⟩ := e
    refine .inr ⟨b, off + k, rfl, fun i hi => ?_⟩
    rw [List.length_drop] at hi
    have := hc (k + i) (by omega)
    rw [List.getD_eq_getElem?_getD, List.getElem?_drop, ← List.getD_eq_getElem?_getD, Nat.add_assoc]
    exact this

theorem made_n (w : World) (ng : Bool) (ao : Option Addr) (n cap : Nat) (ds : List Int) (x : Int) (h : Sl w (.slice ao n cap) ds) (hv : Dm.val ds = x) :
    Calls Try.prog 72 #[.bool ng, .slice ao n cap] w fun e w' => ∃ ng' rs, e = .returned (.agg #[.bool ng', .slice ao rs.length cap]) ∧ Wh w' ng' ao cap rs (sg ng x) ∧ rs.length ≤ ds.length ∧ Below w.heap.size w w' := by
  obtain ⟨rfl, _⟩ := h.parts
  exact made_w w ng ao cap ds x h hv

end Dm
end Go.Proofs.Ytjhhjefobbhdlaa

namespace Go.Proofs.Ytjhhjefobbhdlaa
namespace Dm
open Go.RowKit
open Lm (hide lt_of_cell lt_of_heap cmpI cmpI_lt cmpI_gt)

theorem boxed4 (w : World) (nx : Bool) (vx : Value) (ny : Bool) (vy : Value) : ∃ w0 : World, (((w.alloc (.cells #[.bool nx, vx] 61)).alloc (.cells #[.bool ny, vy] 61)).alloc (.cells #[.bool false, .slice none 0 0] 61)).alloc (.cells #[.bool false, .slice none 0 0] 61) = w0 ∧ Box w0 w.heap.size nx vx ∧ Box w0 (w.heap.size + 1) ny vy ∧ Box w0 (w.heap.size + 1 + 1) false (.slice none 0 0) ∧ Box w0 (w.heap.size + 1 + 1 + 1) false (.slice none 0 0) ∧ Below w.heap.size w w0 ∧ w0.heap.size = w.heap.size + 4 := by
  obtain ⟨w0, e0, bx, by', br, hb0, hs0⟩ := boxed3 w nx vx ny vy
  obtain ⟨b5, hb5, hs5⟩ := boxed w0 false (.slice none 0 0)
  rw [e0]
  refine ⟨_, rfl, bx.below hb5, by'.below hb5, br.below hb5, ?_, hb0.trans (hb5.mono hb0.size), by rw [hs5, hs0]⟩
  rw [hs0] at b5
  exact b5

end Dm
end Go.Proofs.Ytjhhjefobbhdlaa

namespace Go.Proofs.Ytjhhjefobbhdlaa
namespace Dm
open Go.RowKit
open Lm (hide lt_of_cell lt_of_heap)

theorem i_step {ds : List Int} {k : Nat} {u x : Int} (hk : ds.length = k) (h : val ds + pw k * u = x) : val (ds ++ [u % 10000]) + pw (k + 1) * (u / 10000) = x := by
  rw [val_snoc, hk, pw]
  have e : u = u % 10000 + 10000 * (u / 10000) := by omega
  have e2 : pw k * (u % 10000) + 10000 * pw k * (u / 10000) = pw k * u := by
    rw [Int.mul_comm 10000 (pw k), Int.mul_assoc, ← Int.mul_add, ← e]
  omega

theorem i_room {ds : List Int} {k : Nat} {u : Int} (_hk : ds.length = k) (hl : Limb ds) (hu : 0 < u) (h : val ds + pw k * u < 18446744073709551616) : k ≤ 4 := by
  apply Classical.byContradiction
  intro hn
  have h1 := pw_mono (m := 5) (n := k) (by omega)
  rw [show pw 5 = 100000000000000000000 from by decide] at h1
  have h2 : pw k * 1 ≤ pw k * u := Int.mul_le_mul_of_nonneg_left (by omega) (by omega)
  have h3 := (val_bounds hl).1
  omega

set_option maxRecDepth 20000 in
set_option maxHeartbeats 1000000 in
theorem nint_neg (w : World) (v : Int) (h1 : -9223372036854775808 ≤ v) (h2 : v ≤ 9223372036854775807) (h0 : v < 0) :
    Calls Try.prog 46 #[.int .i64 v] w fun e w' => ∃ ng' ao cap rs, e = .returned (.agg #[.bool ng', .slice ao rs.length cap]) ∧ Wh w' ng' ao cap rs v ∧ rs.length ≤ 5 ∧ Below w.heap.size w w' := by
  obtain ⟨i0, hi, hz0, hz1, hz2⟩ := info_parts info64
  obtain ⟨w0, e0, br, hb0, hs0⟩ := boxed0 w false (.slice none 0 0)
  have E0 := hide e0
  clear e0 hs0
  have hw : IntKind.u64.wrap (-IntKind.u64.wrap v) = -v := by rw [IntKind.wrap_u64, IntKind.wrap_u64]; omega
  go_enter Try.func46, Try.ntmps46
  go_wp2
  rw [E0.out]
  clear hw
  go_loopw [3, 4] (fun mv uv wr => ∃ (k : Nat) (u : Int) (ds : List Int), uv = .int .u64 u ∧ 0 ≤ u ∧ u < 18446744073709551616 ∧ ds.length = k ∧ k ≤ 5 ∧ Limb ds ∧ val ds + pw k * u = -v ∧ wr.ownsRow w0.heap.size 3 1 mv k (ds.map (Value.int .i64)) ∧ Below w0.heap.size w0 wr) (fun _ uv _ => (intOf uv).toNat)
  case atStart => exact ⟨0, -v, [], rfl, by omega, by omega, rfl, by omega, limb_nil, by simp [val, pw], World.ownsRow_nil _ _ _ _, Below.refl _ _⟩
  case round =>
    obtain ⟨k, u, ds, rfl, hu0, hu1, hdl, hk5, hds, hv, hown, hbel⟩ := hrel
    have HD := hide hds
    have HDL := hide hdl
    have HV := hide hv
    have hsz := hbel.size
    clear hds hdl hv
    by_cases hu : 0 < u
    · have hroom := i_room HDL.out HD.out hu (by rw [HV.out]; omega)
      have HV' := hide (i_step HDL.out HV.out)
      go_wp2_with (at_builtin; refine wpList_append_own _ rfl (.tmp 13) (.tmp 17) 59 rfl w0.heap.size 3 i0 (.int .i64 0) 1 8 Try.underlying59 hi hz0 hz1 hz2 rfl (by decide) _ _ _ rfl (hown.alloc _) ⟨wr.heap.size, 0, none⟩ 1 1 [.int .i64 (u % 10000)] rfl rfl (cell_one_new _ _ _) ?c2 ?c3 ?c4 ?c5 ?_)
      case c2 => first | rfl | (intro x hx; simp at hx; subst hx; rfl)
      case c3 => unfold maxLen; omega
      case c4 => omega
      case c5 => first | omega | (simp; omega)
      intro v4 w4 hown4 hgrow4 _
      have R := step_own hown4 hgrow4 hbel (hown.lt)
      clear hown4 hgrow4 hown
      go_wp2
      go_roundw
      case rel => exact ⟨k + 1, u / 10000, ds ++ [u % 10000], rfl, by omega, by omega, by have := HDL.out; simp; omega, by omega, limb_append.2 ⟨HD.out, limb_cons.2 ⟨by omega, limb_nil⟩⟩, HV'.out, R.1, R.2⟩
      case measure => simp [intOf]; omega
    · have hu' : u = 0 := by omega
      subst hu'
      have hval : Hid (val ds = -v) := by have := HV.out; rw [Int.mul_zero, Int.add_zero] at this; exact this
      obtain ⟨ao1, cap1, hv1, s1, _, _⟩ := (ow_of_row hown HD.out).open
      subst hv1
      replace br := br.below hbel
      have HB := hb0.trans (hbel.mono hb0.size)
      have hd : decide (v < 0) = true := by simp; omega
      have hsg : Hid (sg true (-v) = v) := by simp [Hid, sg]
      clear hown hbel
      go_wp2_with fail
      try rw [hd]
      refine (made_w _ _ _ _ ds _ s1 hval.out).mono ?_
      rintro e w2 ⟨ng2, r2, rfl, G2, l2, hb2⟩
      rw [hsg.out] at G2
      replace br := br.below hb2
      replace HB := HB.trans (hb2.mono HB.size)
      have hdl := HDL.out
      clear hb2 hval s1
      obtain ⟨ka, kb, kc, kd⟩ := br.facts
      have X := hide (br.set ng2 (.slice ao1 r2.length cap1)).facts
      have Y := hide (br.wh ng2 (.slice ao1 r2.length cap1) G2)
      have Z := hide (below_set2 HB (Nat.le_refl _) (.bool ng2) (.slice ao1 r2.length cap1))
      go_wp2
      refine bodyPost_ret (v := .agg #[.bool ng2, .slice ao1 r2.length cap1]) ?_ rfl ⟨ng2, ao1, cap1, r2, rfl, Y.out, by omega, Z.out⟩
      simp [results, Try.results46, go_sem, X.out.1, X.out.2.1]

set_option maxRecDepth 20000 in
set_option maxHeartbeats 1000000 in
theorem nint_pos (w : World) (v : Int) (h1 : -9223372036854775808 ≤ v) (h2 : v ≤ 9223372036854775807) (h0 : ¬ v < 0) :
    Calls Try.prog 46 #[.int .i64 v] w fun e w' => ∃ ng' ao cap rs, e = .returned (.agg #[.bool ng', .slice ao rs.length cap]) ∧ Wh w' ng' ao cap rs v ∧ rs.length ≤ 5 ∧ Below w.heap.size w w' := by
  obtain ⟨i0, hi, hz0, hz1, hz2⟩ := info_parts info64
  obtain ⟨w0, e0, br, hb0, hs0⟩ := boxed0 w false (.slice none 0 0)
  have E0 := hide e0
  clear e0 hs0
  have hw : True := trivial
  go_enter Try.func46, Try.ntmps46
  go_wp2
  rw [E0.out]
  clear hw
  go_loopw [3, 4] (fun mv uv wr => ∃ (k : Nat) (u : Int) (ds : List Int), uv = .int .u64 u ∧ 0 ≤ u ∧ u < 18446744073709551616 ∧ ds.length = k ∧ k ≤ 5 ∧ Limb ds ∧ val ds + pw k * u = v ∧ wr.ownsRow w0.heap.size 3 1 mv k (ds.map (Value.int .i64)) ∧ Below w0.heap.size w0 wr) (fun _ uv _ => (intOf uv).toNat)
  case atStart => exact ⟨0, v, [], rfl, by omega, by omega, rfl, by omega, limb_nil, by simp [val, pw], World.ownsRow_nil _ _ _ _, Below.refl _ _⟩
  case round =>
    obtain ⟨k, u, ds, rfl, hu0, hu1, hdl, hk5, hds, hv, hown, hbel⟩ := hrel
    have HD := hide hds
    have HDL := hide hdl
    have HV := hide hv
    have hsz := hbel.size
    clear hds hdl hv
    by_cases hu : 0 < u
    · have hroom := i_room HDL.out HD.out hu (by rw [HV.out]; omega)
      have HV' := hide (i_step HDL.out HV.out)
      go_wp2_with (at_builtin; refine wpList_append_own _ rfl (.tmp 13) (.tmp 17) 59 rfl w0.heap.size 3 i0 (.int .i64 0) 1 8 Try.underlying59 hi hz0 hz1 hz2 rfl (by decide) _ _ _ rfl (hown.alloc _) ⟨wr.heap.size, 0, none⟩ 1 1 [.int .i64 (u % 10000)] rfl rfl (cell_one_new _ _ _) ?c2 ?c3 ?c4 ?c5 ?_)
      case c2 => first | rfl | (intro x hx; simp at hx; subst hx; rfl)
      case c3 => unfold maxLen; omega
      case c4 => omega
      case c5 => first | omega | (simp; omega)
      intro v4 w4 hown4 hgrow4 _
      have R := step_own hown4 hgrow4 hbel (hown.lt)
      clear hown4 hgrow4 hown
      go_wp2
      go_roundw
      case rel => exact ⟨k + 1, u / 10000, ds ++ [u % 10000], rfl, by omega, by omega, by have := HDL.out; simp; omega, by omega, limb_append.2 ⟨HD.out, limb_cons.2 ⟨by omega, limb_nil⟩⟩, HV'.out, R.1, R.2⟩
      case measure => simp [intOf]; omega
    · have hu' : u = 0 := by omega
      subst hu'
      have hval : Hid (val ds = v) := by have := HV.out; rw [Int.mul_zero, Int.add_zero] at this; exact this
      obtain ⟨ao1, cap1, hv1, s1, _, _⟩ := (ow_of_row hown HD.out).open
      subst hv1
      replace br := br.below hbel
      have HB := hb0.trans (hbel.mono hb0.size)
      have hd : decide (v < 0) = false := by simp; omega
      have hsg : Hid (sg false (v) = v) := by simp [Hid, sg]
      clear hown hbel
      go_wp2_with fail
      try rw [hd]
      refine (made_w _ _ _ _ ds _ s1 hval.out).mono ?_
      rintro e w2 ⟨ng2, r2, rfl, G2, l2, hb2⟩
      rw [hsg.out] at G2
      replace br := br.below hb2
      replace HB := HB.trans (hb2.mono HB.size)
      have hdl := HDL.out
      clear hb2 hval s1
      obtain ⟨ka, kb, kc, kd⟩ := br.facts
      have X := hide (br.set ng2 (.slice ao1 r2.length cap1)).facts
      have Y := hide (br.wh ng2 (.slice ao1 r2.length cap1) G2)
      have Z := hide (below_set2 HB (Nat.le_refl _) (.bool ng2) (.slice ao1 r2.length cap1))
      go_wp2
      refine bodyPost_ret (v := .agg #[.bool ng2, .slice ao1 r2.length cap1]) ?_ rfl ⟨ng2, ao1, cap1, r2, rfl, Y.out, by omega, Z.out⟩
      simp [results, Try.results46, go_sem, X.out.1, X.out.2.1]

theorem nint_any (w : World) (v : Int) (h1 : -9223372036854775808 ≤ v) (h2 : v ≤ 9223372036854775807) :
    Calls Try.prog 46 #[.int .i64 v] w fun e w' => ∃ ng' ao cap rs, e = .returned (.agg #[.bool ng', .slice ao rs.length cap]) ∧ Wh w' ng' ao cap rs v ∧ rs.length ≤ 5 ∧ Below w.heap.size w w' := by
  by_cases h0 : v < 0
  · exact nint_neg w v h1 h2 h0
  · exact nint_pos w v h1 h2 h0

end Dm
end Go.Proofs.Ytjhhjefobbhdlaa

namespace Go.Proofs.Ytjhhjefobbhdlaa
namespace Dm
open Go.RowKit
open Lm (hide lt_of_cell lt_of_heap)

/-- Where DivMod stands: both numbers, two blocks for the answers, quotient and rest. -/
def Qs (w wx : World) (n1 : Bool) (va : Value) (n2 : Bool) (vb : Value) (g6 g7 : Nat) (q r : Int) (LQ LR : Nat) : Prop := ∃ (nq : Bool) (pq : Option Addr) (qq : Nat) (Q : List Int) (nr : Bool) (pr : Option Addr) (qr : Nat) (R : List Int),
  Box wx w.heap.size n1 va ∧ Box wx (w.heap.size + 1) n2 vb ∧ Box wx (w.heap.size + 1 + 1) false (.slice none 0 0) ∧ Box wx (w.heap.size + 1 + 1 + 1) false (.slice none 0 0) ∧ Box wx g6 nq (.slice pq Q.length qq) ∧ Box wx g7 nr (.slice pr R.length qr) ∧ Wh wx nq pq qq Q q ∧ Wh wx nr pr qr R r ∧ Q.length ≤ LQ ∧ R.length ≤ LR ∧ Below w.heap.size w wx

theorem Qs.below {w wx wy : World} {n1 n2 : Bool} {va vb : Value} {g6 g7 : Nat} {q r : Int} {LQ LR : Nat} (h : Qs w wx n1 va n2 vb g6 g7 q r LQ LR) (hb : Below wx.heap.size wx wy) : Qs w wy n1 va n2 vb g6 g7 q r LQ LR := by
  obtain ⟨nq, pq, qq, Q, nr, pr, qr, R, ba, bb, b4, b5, b6, b7, GQ, GR, lQ, lR, HB⟩ := h
  exact ⟨nq, pq, qq, Q, nr, pr, qr, R, ba.below hb, bb.below hb, b4.below hb, b5.below hb, b6.below hb, b7.below hb, GQ.below hb, GR.below hb, lQ, lR, HB.trans (hb.mono HB.size)⟩

theorem Qs.set6 {w wx : World} {n1 n2 : Bool} {va vb : Value} {g6 g7 : Nat} {q r : Int} {LQ LR : Nat} (h : Qs w wx n1 va n2 vb g6 g7 q r LQ LR) (h6 : w.heap.size + 4 ≤ g6) (h7 : g6 < g7) {m2 : Bool} {p2 : Option Addr} {q2 : Nat} {r2 : List Int} {z : Int} (G : Wh wx m2 p2 q2 r2 z) {L : Nat} (hL : r2.length ≤ L) :
    Qs w ((wx.setCell ⟨g6, 0, none⟩ (.bool m2)).setCell ⟨g6, 1, none⟩ (.slice p2 r2.length q2)) n1 va n2 vb g6 g7 z r L LR := by
  obtain ⟨nq, pq, qq, Q, nr, pr, qr, R, ba, bb, b4, b5, b6, b7, GQ, GR, lQ, lR, HB⟩ := h
  exact ⟨m2, p2, q2, r2, nr, pr, qr, R, box_past ba (by omega) _ _, box_past bb (by omega) _ _, box_past b4 (by omega) _ _, box_past b5 (by omega) _ _, b6.set _ _, box_past b7 (by omega) _ _, b6.wh _ _ G, b6.wh _ _ GR, hL, lR, below_set2 HB (by omega) _ _⟩

theorem Qs.set7 {w wx : World} {n1 n2 : Bool} {va vb : Value} {g6 g7 : Nat} {q r : Int} {LQ LR : Nat} (h : Qs w wx n1 va n2 vb g6 g7 q r LQ LR) (h6 : w.heap.size + 4 ≤ g6) (h7 : g6 < g7) {m2 : Bool} {p2 : Option Addr} {q2 : Nat} {r2 : List Int} {z : Int} (G : Wh wx m2 p2 q2 r2 z) {L : Nat} (hL : r2.length ≤ L) :
    Qs w ((wx.setCell ⟨g7, 0, none⟩ (.bool m2)).setCell ⟨g7, 1, none⟩ (.slice p2 r2.length q2)) n1 va n2 vb g6 g7 q z LQ L := by
  obtain ⟨nq, pq, qq, Q, nr, pr, qr, R, ba, bb, b4, b5, b6, b7, GQ, GR, lQ, lR, HB⟩ := h
  exact ⟨nq, pq, qq, Q, m2, p2, q2, r2, box_past ba (by omega) _ _, box_past bb (by omega) _ _, box_past b4 (by omega) _ _, box_past b5 (by omega) _ _, box_past b6 (by omega) _ _, b7.set _ _, b7.wh _ _ GQ, b7.wh _ _ G, lQ, hL, below_set2 HB (by omega) _ _⟩

/-- What the two 'if's make of quotient and rest. -/
theorem dm_plain (n1 n2 : Bool) {x y : Int} (hx : n1 = decide (x < 0)) (hy : n2 = decide (y < 0)) (y0 : y ≠ 0) {q1 r1 : Int}
    (h : (n1 = true ∧ (x.natAbs : Int) % (y.natAbs : Int) ≠ 0 → q1 = (x.natAbs : Int) / (y.natAbs : Int) + 1 ∧ r1 = (y.natAbs : Int) - (x.natAbs : Int) % (y.natAbs : Int)) ∧ (¬ (n1 = true ∧ (x.natAbs : Int) % (y.natAbs : Int) ≠ 0) → q1 = (x.natAbs : Int) / (y.natAbs : Int) ∧ r1 = (x.natAbs : Int) % (y.natAbs : Int))) :
    Lm.sg (n1 != n2) q1 = x / y ∧ r1 = x % y := by
  have ex : x = Lm.sg n1 (x.natAbs : Int) := by rw [hx]; by_cases h : x < 0 <;> simp [Lm.sg, h] <;> omega
  have ey : y = Lm.sg n2 (y.natAbs : Int) := by rw [hy]; by_cases h : y < 0 <;> simp [Lm.sg, h] <;> omega
  have hY : 0 < (y.natAbs : Int) := by omega
  have hf : ∀ z : Int, Lm.sg false z = z := fun z => rfl
  generalize (x.natAbs : Int) = X at *
  generalize (y.natAbs : Int) = Y at *
  rw [ex, ey]
  clear ex ey hx hy
  cases n1 with
  | false =>
    have h2 := h.2 (by simp)
    rw [h2.1, h2.2]
    have := Lm.wdiv_pos n2 X Y
    rw [hf (X % Y)] at this
    exact this
  | true =>
    by_cases h0 : X % Y = 0
    · have h2 := h.2 (by simp [h0])
      rw [h2.1, h2.2]
      have := Lm.wdiv_even true n2 hY h0
      rw [hf (X % Y)] at this
      exact this
    · have h2 := h.1 ⟨rfl, h0⟩
      rw [h2.1, h2.2]
      have := Lm.wdiv_odd n2 hY h0
      rw [hf (Y - X % Y)] at this
      exact this

end Dm
end Go.Proofs.Ytjhhjefobbhdlaa

namespace Go.Proofs.Ytjhhjefobbhdlaa
namespace Dm
open Go.RowKit
open Lm (hide lt_of_cell lt_of_heap cmpI cmpI_lt cmpI_gt)

theorem gcd_step (u v : Int) : Int.gcd v (u % v) = Int.gcd v u := by
  have h1 := Lm.gcd_step u v (u / v)
  have h2 := Int.mul_ediv_add_emod u v
  rw [Int.mul_comm] at h2
  rw [show u - u / v * v = u % v by omega] at h1
  rw [h1, Int.gcd_comm]

end Dm
end Go.Proofs.Ytjhhjefobbhdlaa

namespace Go.Proofs.Ytjhhjefobbhdlaa
namespace Dm
open Go.RowKit
open Lm (hide lt_of_cell lt_of_heap)

theorem natAbs_id {x : Int} (h : 0 ≤ x) : ((x.natAbs : Nat) : Int) = x := by omega

set_option maxRecDepth 20000 in
set_option maxHeartbeats 400000 in
theorem nsign_zero (w : World) (ng : Bool) (ao : Option Addr) (cap : Nat) :
    Calls Try.prog 51 #[.agg #[.bool ng, .slice ao 0 cap]] w fun e w' => e = .returned (.int .i64 0) ∧ Below w.heap.size w w' := by
  have hb : Below w.heap.size w (w.alloc (.cells #[.bool ng, .slice ao 0 cap] 61)) := (Below.refl _ _).alloc (Nat.le_refl _) _
  go_enter Try.func51, Try.ntmps51
  go_wp2
  go_ret
  exact ⟨rfl, hb⟩

set_option maxRecDepth 20000 in
set_option maxHeartbeats 400000 in
theorem nsign_neg (w : World) (ao : Option Addr) (n cap : Nat) (h0 : ¬ n = 0) :
    Calls Try.prog 51 #[.agg #[.bool true, .slice ao n cap]] w fun e w' => e = .returned (.int .i64 (-1)) ∧ Below w.heap.size w w' := by
  have hb : Below w.heap.size w (w.alloc (.cells #[.bool true, .slice ao n cap] 61)) := (Below.refl _ _).alloc (Nat.le_refl _) _
  have hl2 : (((n : Nat) : Int) == 0) = false := by simp; omega
  clear h0
  go_enter Try.func51, Try.ntmps51
  go_wp2
  go_ret
  exact ⟨rfl, hb⟩
set_option maxRecDepth 20000 in
set_option maxHeartbeats 400000 in
theorem nsign_pos (w : World) (ao : Option Addr) (n cap : Nat) (h0 : ¬ n = 0) :
    Calls Try.prog 51 #[.agg #[.bool false, .slice ao n cap]] w fun e w' => e = .returned (.int .i64 1) ∧ Below w.heap.size w w' := by
  have hb : Below w.heap.size w (w.alloc (.cells #[.bool false, .slice ao n cap] 61)) := (Below.refl _ _).alloc (Nat.le_refl _) _
  have hl2 : (((n : Nat) : Int) == 0) = false := by simp; omega
  clear h0
  go_enter Try.func51, Try.ntmps51
  go_wp2
  go_ret
  exact ⟨rfl, hb⟩
theorem nsign_z (w : World) (ng : Bool) (ao : Option Addr) (cap : Nat) (rs : List Int) (z : Int) (h : Wh w ng ao cap rs z) :
    Calls Try.prog 51 #[.agg #[.bool ng, .slice ao rs.length cap]] w fun e w' => e = .returned (.int .i64 (Int.sign z)) ∧ Below w.heap.size w w' := by
  by_cases h0 : rs.length = 0
  · have hz : z = 0 := h.zero.2 (List.eq_nil_of_length_eq_zero h0)
    rw [hz, h0]
    exact nsign_zero w ng ao cap
  · have hz : z ≠ 0 := fun e => h0 (by rw [h.zero.1 e]; rfl)
    cases ng with
    | true =>
      have hn : z < 0 := by have := h.2; simpa using this.symm
      rw [Int.sign_eq_neg_one_of_neg hn]
      exact nsign_neg w ao _ cap h0
    | false =>
      have hn : 0 < z := by have := h.2; simp at this; omega
      rw [Int.sign_eq_one_of_pos hn]
      exact nsign_pos w ao _ cap h0

/-- What a list of limbs is worth, whatever its sign, is below the base's power. -/
theorem ag_bound {w : World} {ng : Bool} {a : Option Addr} {n c : Nat} {xs : List Int} {x : Int} (h : Lm.Ag w ng a n c xs x) : (x.natAbs : Int) < Lm.pw xs.length := by
  have h1 := Lm.val_bounds h.sl.parts.2.2.2
  have h2 := h.worth
  cases ng <;> simp [Lm.sg] at h2 <;> omega

theorem lbox_past {w : World} {g : Nat} {ng : Bool} {v : Value} (h : Lm.Box w g ng v) {k : Nat} (hne : g ≠ k) (b u : Value) : Lm.Box ((w.setCell ⟨k, 0, none⟩ b).setCell ⟨k, 1, none⟩ u) g ng v := by
  unfold Lm.Box
  rw [heap_setCell_other _ ⟨k, 1, none⟩ g _ hne, heap_setCell_other _ ⟨k, 0, none⟩ g _ hne]
  exact h

theorem gcd_abs (x y : Int) : Int.gcd (x.natAbs : Int) (y.natAbs : Int) = Int.gcd x y := by simp [Int.gcd]

theorem gcd_bound {x y : Int} {m n : Nat} (hx : (x.natAbs : Int) < Lm.pw m) (hy : (y.natAbs : Int) < Lm.pw n) : (((Int.gcd (x.natAbs : Int) (y.natAbs : Int) : Nat) : Int).natAbs : Int) < Lm.pw (m + n + 1) := by
  have a1 := Lm.pw_mono (m := m) (n := m + n) (by omega)
  have a2 := Lm.pw_mono (m := n) (n := m + n) (by omega)
  have b : ((Int.gcd (x.natAbs : Int) (y.natAbs : Int) : Nat) : Int) ≤ (x.natAbs : Int) + (y.natAbs : Int) := by
    by_cases h : (x.natAbs : Int) = 0
    · rw [h, Int.gcd_zero_left]; omega
    · have := Int.le_of_dvd (by omega) (Int.gcd_dvd_left (x.natAbs : Int) (y.natAbs : Int))
      omega
  rw [Lm.pw]
  have := Lm.pw_pos (m + n)
  omega

end Dm
end Go.Proofs.Ytjhhjefobbhdlaa

namespace Go.Proofs.Ytjhhjefobbhdlaa
namespace Dm
open Go.RowKit
open Lm (hide lt_of_cell lt_of_heap)

theorem below_al {w w' : World} (h : Below w.heap.size w w') (o : Obj) : Below w.heap.size w (w'.alloc o) := h.alloc h.size o
theorem below_then {w w' w'' : World} (h : Below w.heap.size w w') (h2 : Below w'.heap.size w' w'') : Below w.heap.size w w'' := h.trans (h2.mono h.size)

theorem box_pair (w : World) : Box ((w.alloc (.cells #[.bool false, .slice none 0 0] 61)).alloc (.cells #[.bool false, .slice none 0 0] 61)) w.heap.size false (.slice none 0 0) ∧ Box ((w.alloc (.cells #[.bool false, .slice none 0 0] 61)).alloc (.cells #[.bool false, .slice none 0 0] 61)) (w.heap.size + 1) false (.slice none 0 0) := by
  obtain ⟨w0, e0, b1, b2, _, _⟩ := boxed2 w false (.slice none 0 0) false (.slice none 0 0)
  rw [e0]
  exact ⟨b1, b2⟩

theorem size_set2 (w : World) (g : Nat) (a b : Value) : ((w.setCell ⟨g, 0, none⟩ a).setCell ⟨g, 1, none⟩ b).heap.size = w.heap.size := by simp [World.setCell]

theorem ends1 {w7 w9 : World} {sp st : Bool} {pp pt : Option Addr} {qp qt : Nat} {rp rt : List Int} {zp zt : Int} (H : Below w7.heap.size w7 w9) (GP : Wh w9 sp pp qp rp zp) (GT : Wh w9 st pt qt rt zt) : Below w7.heap.size w7 ((w9.alloc (.cells #[.bool sp, .slice pp rp.length qp] 61)).alloc (.cells #[.bool st, .slice pt rt.length qt] 61)) ∧ Box ((w9.alloc (.cells #[.bool sp, .slice pp rp.length qp] 61)).alloc (.cells #[.bool st, .slice pt rt.length qt] 61)) w9.heap.size sp (.slice pp rp.length qp) ∧ Box ((w9.alloc (.cells #[.bool sp, .slice pp rp.length qp] 61)).alloc (.cells #[.bool st, .slice pt rt.length qt] 61)) (w9.heap.size + 1) st (.slice pt rt.length qt) ∧ Wh ((w9.alloc (.cells #[.bool sp, .slice pp rp.length qp] 61)).alloc (.cells #[.bool st, .slice pt rt.length qt] 61)) sp pp qp rp zp ∧ Wh ((w9.alloc (.cells #[.bool sp, .slice pp rp.length qp] 61)).alloc (.cells #[.bool st, .slice pt rt.length qt] 61)) st pt qt rt zt := by
  obtain ⟨w0, e0, b1, b2, hb, _⟩ := boxed2 w9 sp (.slice pp rp.length qp) st (.slice pt rt.length qt)
  rw [e0]
  exact ⟨below_then H hb, b1, b2, GP.below hb, GT.below hb⟩

theorem ends1' {w7 w9 : World} {sp st : Bool} {pp pt : Option Addr} {qp qt : Nat} {rp rt : List Int} {zp zt : Int} (H : Below w7.heap.size w7 w9) (GP : Wh w9 sp pp qp rp zp) (GT : Wh w9 st pt qt rt zt) : Below w7.heap.size w7 ((w9.alloc (.cells #[.bool st, .slice pt rt.length qt] 61)).alloc (.cells #[.bool sp, .slice pp rp.length qp] 61)) ∧ Box ((w9.alloc (.cells #[.bool st, .slice pt rt.length qt] 61)).alloc (.cells #[.bool sp, .slice pp rp.length qp] 61)) (w9.heap.size + 1) sp (.slice pp rp.length qp) ∧ Box ((w9.alloc (.cells #[.bool st, .slice pt rt.length qt] 61)).alloc (.cells #[.bool sp, .slice pp rp.length qp] 61)) w9.heap.size st (.slice pt rt.length qt) ∧ Wh ((w9.alloc (.cells #[.bool st, .slice pt rt.length qt] 61)).alloc (.cells #[.bool sp, .slice pp rp.length qp] 61)) sp pp qp rp zp ∧ Wh ((w9.alloc (.cells #[.bool st, .slice pt rt.length qt] 61)).alloc (.cells #[.bool sp, .slice pp rp.length qp] 61)) st pt qt rt zt := by
  obtain ⟨w0, e0, b1, b2, hb, _⟩ := boxed2 w9 st (.slice pt rt.length qt) sp (.slice pp rp.length qp)
  rw [e0]
  exact ⟨below_then H hb, b2, b1, GP.below hb, GT.below hb⟩

theorem ends2 {w7 w9 : World} {sp st : Bool} {pp pt : Option Addr} {qp qt : Nat} {rp rt : List Int} {zp zt : Int} (H : Below w7.heap.size w7 w9) (GP : Wh w9 sp pp qp rp zp) (GT : Wh w9 st pt qt rt zt) {g : Nat} (bn : Box w9 g false (.slice none 0 0)) (hg : w7.heap.size ≤ g) : Below w7.heap.size w7 (((w9.setCell ⟨g, 0, none⟩ (.bool sp)).setCell ⟨g, 1, none⟩ (.slice pp rp.length qp)).alloc (.cells #[.bool st, .slice pt rt.length qt] 61)) ∧ Box (((w9.setCell ⟨g, 0, none⟩ (.bool sp)).setCell ⟨g, 1, none⟩ (.slice pp rp.length qp)).alloc (.cells #[.bool st, .slice pt rt.length qt] 61)) g sp (.slice pp rp.length qp) ∧ Box (((w9.setCell ⟨g, 0, none⟩ (.bool sp)).setCell ⟨g, 1, none⟩ (.slice pp rp.length qp)).alloc (.cells #[.bool st, .slice pt rt.length qt] 61)) w9.heap.size st (.slice pt rt.length qt) ∧ Wh (((w9.setCell ⟨g, 0, none⟩ (.bool sp)).setCell ⟨g, 1, none⟩ (.slice pp rp.length qp)).alloc (.cells #[.bool st, .slice pt rt.length qt] 61)) sp pp qp rp zp ∧ Wh (((w9.setCell ⟨g, 0, none⟩ (.bool sp)).setCell ⟨g, 1, none⟩ (.slice pp rp.length qp)).alloc (.cells #[.bool st, .slice pt rt.length qt] 61)) st pt qt rt zt := by
  have b1 := bn.set sp (.slice pp rp.length qp)
  have H1 := below_set2 H hg (.bool sp) (.slice pp rp.length qp)
  have g1 := bn.wh sp (.slice pp rp.length qp) GP
  have g2 := bn.wh sp (.slice pp rp.length qp) GT
  have hs := size_set2 w9 g (.bool sp) (.slice pp rp.length qp)
  generalize ((w9.setCell ⟨g, 0, none⟩ (.bool sp)).setCell ⟨g, 1, none⟩ (.slice pp rp.length qp)) = wa at *
  obtain ⟨w0, e0, b2, hb, _⟩ := boxed0 wa st (.slice pt rt.length qt)
  rw [e0]
  rw [hs] at b2
  exact ⟨below_then H1 hb, b1.below hb, b2, g1.below hb, g2.below hb⟩

theorem ends2' {w7 w9 : World} {sp st : Bool} {pp pt : Option Addr} {qp qt : Nat} {rp rt : List Int} {zp zt : Int} (H : Below w7.heap.size w7 w9) (GP : Wh w9 sp pp qp rp zp) (GT : Wh w9 st pt qt rt zt) {g : Nat} (bn : Box w9 g false (.slice none 0 0)) (hg : w7.heap.size ≤ g) : Below w7.heap.size w7 (((w9.setCell ⟨g, 0, none⟩ (.bool st)).setCell ⟨g, 1, none⟩ (.slice pt rt.length qt)).alloc (.cells #[.bool sp, .slice pp rp.length qp] 61)) ∧ Box (((w9.setCell ⟨g, 0, none⟩ (.bool st)).setCell ⟨g, 1, none⟩ (.slice pt rt.length qt)).alloc (.cells #[.bool sp, .slice pp rp.length qp] 61)) w9.heap.size sp (.slice pp rp.length qp) ∧ Box (((w9.setCell ⟨g, 0, none⟩ (.bool st)).setCell ⟨g, 1, none⟩ (.slice pt rt.length qt)).alloc (.cells #[.bool sp, .slice pp rp.length qp] 61)) g st (.slice pt rt.length qt) ∧ Wh (((w9.setCell ⟨g, 0, none⟩ (.bool st)).setCell ⟨g, 1, none⟩ (.slice pt rt.length qt)).alloc (.cells #[.bool sp, .slice pp rp.length qp] 61)) sp pp qp rp zp ∧ Wh (((w9.setCell ⟨g, 0, none⟩ (.bool st)).setCell ⟨g, 1, none⟩ (.slice pt rt.length qt)).alloc (.cells #[.bool sp, .slice pp rp.length qp] 61)) st pt qt rt zt := by
  have b1 := bn.set st (.slice pt rt.length qt)
  have H1 := below_set2 H hg (.bool st) (.slice pt rt.length qt)
  have g1 := bn.wh st (.slice pt rt.length qt) GP
  have g2 := bn.wh st (.slice pt rt.length qt) GT
  have hs := size_set2 w9 g (.bool st) (.slice pt rt.length qt)
  generalize ((w9.setCell ⟨g, 0, none⟩ (.bool st)).setCell ⟨g, 1, none⟩ (.slice pt rt.length qt)) = wa at *
  obtain ⟨w0, e0, b2, hb, _⟩ := boxed0 wa sp (.slice pp rp.length qp)
  rw [e0]
  rw [hs] at b2
  exact ⟨below_then H1 hb, b2, b1.below hb, g1.below hb, g2.below hb⟩

theorem ends3 {w7 w9 : World} {sp st : Bool} {pp pt : Option Addr} {qp qt : Nat} {rp rt : List Int} {zp zt : Int} (H : Below w7.heap.size w7 w9) (GP : Wh w9 sp pp qp rp zp) (GT : Wh w9 st pt qt rt zt) {ga gb : Nat} (bA : Box w9 ga false (.slice none 0 0)) (bB : Box w9 gb false (.slice none 0 0)) (hn : ga ≠ gb) (hga : w7.heap.size ≤ ga) (hgb : w7.heap.size ≤ gb) : Below w7.heap.size w7 ((((w9.setCell ⟨ga, 0, none⟩ (.bool sp)).setCell ⟨ga, 1, none⟩ (.slice pp rp.length qp)).setCell ⟨gb, 0, none⟩ (.bool st)).setCell ⟨gb, 1, none⟩ (.slice pt rt.length qt)) ∧ Box ((((w9.setCell ⟨ga, 0, none⟩ (.bool sp)).setCell ⟨ga, 1, none⟩ (.slice pp rp.length qp)).setCell ⟨gb, 0, none⟩ (.bool st)).setCell ⟨gb, 1, none⟩ (.slice pt rt.length qt)) ga sp (.slice pp rp.length qp) ∧ Box ((((w9.setCell ⟨ga, 0, none⟩ (.bool sp)).setCell ⟨ga, 1, none⟩ (.slice pp rp.length qp)).setCell ⟨gb, 0, none⟩ (.bool st)).setCell ⟨gb, 1, none⟩ (.slice pt rt.length qt)) gb st (.slice pt rt.length qt) ∧ Wh ((((w9.setCell ⟨ga, 0, none⟩ (.bool sp)).setCell ⟨ga, 1, none⟩ (.slice pp rp.length qp)).setCell ⟨gb, 0, none⟩ (.bool st)).setCell ⟨gb, 1, none⟩ (.slice pt rt.length qt)) sp pp qp rp zp ∧ Wh ((((w9.setCell ⟨ga, 0, none⟩ (.bool sp)).setCell ⟨ga, 1, none⟩ (.slice pp rp.length qp)).setCell ⟨gb, 0, none⟩ (.bool st)).setCell ⟨gb, 1, none⟩ (.slice pt rt.length qt)) st pt qt rt zt := by
  have b1 := bA.set sp (.slice pp rp.length qp)
  have b2 := box_other bB (Ne.symm hn) (.bool sp) (.slice pp rp.length qp)
  have H1 := below_set2 H hga (.bool sp) (.slice pp rp.length qp)
  have g1 := bA.wh sp (.slice pp rp.length qp) GP
  have g2 := bA.wh sp (.slice pp rp.length qp) GT
  generalize ((w9.setCell ⟨ga, 0, none⟩ (.bool sp)).setCell ⟨ga, 1, none⟩ (.slice pp rp.length qp)) = wa at *
  exact ⟨below_set2 H1 hgb _ _, box_other b1 hn _ _, b2.set st (.slice pt rt.length qt), b2.wh st (.slice pt rt.length qt) g1, b2.wh st (.slice pt rt.length qt) g2⟩

end Dm
end Go.Proofs.Ytjhhjefobbhdlaa

namespace Go.Proofs.Ytjhhjefobbhdlaa
namespace Lm
open Go.RowKit
open Dm (WFr set2_kept)

theorem wrap_idv {x : Int} (h1 : -9223372036854775808 ≤ x) (h2 : x ≤ 9223372036854775807) : IntKind.i64.wrap x = x := by
  simp [IntKind.wrap, IntKind.bits, IntKind.signed]
  omega

theorem lb_al {w w' : World} (h : Below w.heap.size w w') (o : Obj) : Below w.heap.size w (w'.alloc o) := h.alloc h.size o
theorem lb_then {w w' w'' : World} (h : Below w.heap.size w w') (h2 : Below w'.heap.size w' w'') : Below w.heap.size w w'' := h.trans (h2.mono h.size)
theorem touch_set2 (w : World) (g : Nat) (b u : Value) : Touch w ((w.setCell ⟨g, 0, none⟩ b).setCell ⟨g, 1, none⟩ u) g :=
  ⟨rfl, rfl, rfl, by simp [World.setCell], fun k _ hk => set2_kept b u hk⟩
theorem Box.touch {w w' : World} {g L : Nat} {ng : Bool} {v : Value} (h : Box w g ng v) (t : Touch w w' L) (hn : g ≠ L) : Box w' g ng v := (t.other g (lt_of_heap h) hn).trans h
theorem Box.kp {w w' : World} {g p : Nat} {bs : List Nat} {ng : Bool} {v : Value} (h : Box w g ng v) (t : Kp w w' p bs) (hn : g ≠ p) (hb : g ∉ bs) : Box w' g ng v := (t.other g (lt_of_heap h) hn hb).trans h

/-- Boxes, all at once. -/
def BxL (w : World) (l : List (Nat × Bool × Value)) : Prop := ∀ t ∈ l, Box w t.1 t.2.1 t.2.2
theorem BxL.below {w w' : World} {l : List (Nat × Bool × Value)} (h : BxL w l) (hb : Below w.heap.size w w') : BxL w' l := fun t ht => (h t ht).below hb
theorem BxL.touch {w w' : World} {l : List (Nat × Bool × Value)} {L : Nat} (h : BxL w l) (t : Touch w w' L) (hn : ∀ u ∈ l, u.1 ≠ L) : BxL w' l := fun u hu => (h u hu).touch t (hn u hu)
theorem BxL.kp {w w' : World} {l : List (Nat × Bool × Value)} {p : Nat} {bs : List Nat} (h : BxL w l) (t : Kp w w' p bs) (hn : ∀ u ∈ l, u.1 ≠ p ∧ u.1 ∉ bs) : BxL w' l := fun u hu => (h u hu).kp t (hn u hu).1 (hn u hu).2
theorem BxL.facts7 {w : World} {g1 g2 g3 g4 g5 g6 g7 : Nat} {n1 n2 n3 n4 n5 n6 n7 : Bool} {v1 v2 v3 v4 v5 v6 v7 : Value} (h : BxL w [(g1, n1, v1), (g2, n2, v2), (g3, n3, v3), (g4, n4, v4), (g5, n5, v5), (g6, n6, v6), (g7, n7, v7)]) :
    (w.cell? ⟨g1, 0, none⟩ = some (.bool n1) ∧ w.cell? ⟨g1, 1, none⟩ = some v1) ∧ (w.cell? ⟨g2, 0, none⟩ = some (.bool n2) ∧ w.cell? ⟨g2, 1, none⟩ = some v2) ∧ (w.cell? ⟨g3, 0, none⟩ = some (.bool n3) ∧ w.cell? ⟨g3, 1, none⟩ = some v3) ∧ (w.cell? ⟨g4, 0, none⟩ = some (.bool n4) ∧ w.cell? ⟨g4, 1, none⟩ = some v4) ∧ (w.cell? ⟨g5, 0, none⟩ = some (.bool n5) ∧ w.cell? ⟨g5, 1, none⟩ = some v5) ∧ (w.cell? ⟨g6, 0, none⟩ = some (.bool n6) ∧ w.cell? ⟨g6, 1, none⟩ = some v6) ∧ (w.cell? ⟨g7, 0, none⟩ = some (.bool n7) ∧ w.cell? ⟨g7, 1, none⟩ = some v7) := by
  have f := fun t ht => (Box.facts (h t ht))
  have e1 := f (g1, n1, v1) (by simp)
  have e2 := f (g2, n2, v2) (by simp)
  have e3 := f (g3, n3, v3) (by simp)
  have e4 := f (g4, n4, v4) (by simp)
  have e5 := f (g5, n5, v5) (by simp)
  have e6 := f (g6, n6, v6) (by simp)
  have e7 := f (g7, n7, v7) (by simp)
  exact ⟨⟨e1.1, e1.2.1⟩, ⟨e2.1, e2.2.1⟩, ⟨e3.1, e3.2.1⟩, ⟨e4.1, e4.2.1⟩, ⟨e5.1, e5.2.1⟩, ⟨e6.1, e6.2.1⟩, ⟨e7.1, e7.2.1⟩⟩

theorem Kp.from {w w1 w' : World} {p : Nat} {bs : List Nat} (hb : Below w.heap.size w w1) (k : Kp w1 w' p bs) : Kp w w' p bs :=
  ⟨k.os.trans hb.os, k.tape.trans hb.tape, k.output.trans hb.output, Nat.le_trans hb.size k.size, fun j hj hp hn => (k.other j (Nat.lt_of_lt_of_le hj hb.size) hp hn).trans (hb.block j hj)⟩

set_option maxRecDepth 20000 in
set_option maxHeartbeats 400000 in
theorem ownWhole_b (w : World) (p Q n : Nat) (bs : List Nat) (hb : Bs w p Q bs n) (hn : n ≤ 1000) (B T : Nat) (ng : Bool) (ao : Option Addr) (cap : Nat) (rs : List Int) (x : Int) (h : Fr B T w ao cap rs x) (hQB : Q ≤ B) (hQ : Q ≤ w.heap.size) (hd : ∀ j, j ∈ bs → j < B ∨ T ≤ j) :
    Calls Try.prog 32 #[.pointer (some ⟨p, 0, none⟩), .agg #[.bool ng, .slice ao rs.length cap]] w fun e w' => e = .returned (.bool true) ∧ ∃ bs', Bs w' p Q bs' (n + 1) ∧ Kp w w' p bs' ∧ ∀ j, j ∈ bs' → j ∈ bs ∨ w.heap.size ≤ j ∨ (B ≤ j ∧ j < T) := by
  obtain ⟨w0, e0, bx, hb0, hs0⟩ := boxed0 w ng (.slice ao rs.length cap)
  have E0 := hide e0
  clear e0
  go_enter Try.func32, Try.ntmps32
  go_upto_region 1 with fail
  rw [E0.out]
  obtain ⟨bx1, bx2, bx3, bx4⟩ := bx.facts
  go_wp2_with fail
  refine (own_b _ _ _ _ bs (hb.below hb0) hn _ _ _ _ _ _ (h.below hb0) hQB (by omega) hd).mono ?_
  rintro e w1 ⟨rfl, bs1, B1, k1, j1⟩
  clear bx1 bx2 bx3 bx4
  go_wp2
  go_ret
  exact ⟨rfl, bs1, B1, k1.from hb0, fun j hj => by rcases j1 j hj with a | a | a; exact .inl a; exact .inr (.inl (by omega)); exact .inr (.inr a)⟩

/-- The room of a list that nobody has. -/
theorem li_nil (B T : Nat) (w : World) : Li B T w none 0 [] := ⟨⟨none, 0, rfl, Nat.le_refl _, by simp [maxLen], limb_nil, .inl rfl⟩, fun h => by omega⟩
theorem wh_nil (w : World) : Wh w false none 0 [] 0 := ⟨⟨⟨none, 0, rfl, Nat.le_refl _, by simp [maxLen], limb_nil, .inl rfl⟩, canon_nil, rfl⟩, rfl⟩
theorem Li.wfr {B T : Nat} {w : World} {ng : Bool} {ao : Option Addr} {cap : Nat} {rs : List Int} {z : Int} (h : Li B T w ao cap rs) (g : Wh w ng ao cap rs z) : WFr B T w ng ao cap rs z := ⟨h.fr g.1, g.2⟩

/-- What DivMod answers, of the program and of the document. -/
def DvP (b : Bool) (xs ys : List Int) (x y zq zr : Int) : Prop := ∀ (w : World) (nx : Bool) (a1 : Option Addr) (n1 c1 : Nat) (ny : Bool) (a2 : Option Addr) (n2 c2 : Nat), Ag w nx a1 n1 c1 xs x → Ag w ny a2 n2 c2 ys y →
  Calls Try.prog 40 #[.agg #[.bool nx, .slice a1 n1 c1], .agg #[.bool ny, .slice a2 n2 c2]] w fun e w' => ∃ nq aq cq qs nr ar cr rs B1 T1 B2 T2, e = .returned (.tuple #[.agg #[.bool nq, .slice aq qs.length cq], .agg #[.bool nr, .slice ar rs.length cr], .bool b]) ∧ WFr B1 T1 w' nq aq cq qs zq ∧ WFr B2 T2 w' nr ar cr rs zr ∧ (w.heap.size ≤ B1 ∧ T1 ≤ w'.heap.size ∧ w.heap.size ≤ B2 ∧ T2 ≤ w'.heap.size ∧ ∀ j, B1 ≤ j → j < T1 → j < B2 ∨ T2 ≤ j) ∧ Below w.heap.size w w'
theorem dvp_some {xs ys : List Int} {x y : Int} (l1 : xs.length ≤ 50000) (l2 : ys.length ≤ 50000) (h0 : y ≠ 0) : DvP true xs ys x y (x / y) (x % y) := by
  intro w nx a1 n1 c1 ny a2 n2 c2 hx hy
  have hv : val ys ≠ 0 := by
    intro e
    have := hy.worth
    rw [e] at this
    cases ny <;> simp [sg] at this <;> omega
  refine (wdivmod_o w nx a1 n1 c1 xs hx.sl ny a2 n2 c2 ys hy.sl (by omega) (by omega) hv).mono ?_
  rintro e w' ⟨nq, aq, cq, qs, nr, ar, cr, rs, B1, T1, B2, T2, rfl, g1, g2, _, _, o1, o2, oo, hb⟩
  rw [hx.worth, hy.worth] at g1 g2
  exact ⟨nq, aq, cq, qs, nr, ar, cr, rs, B1, T1, B2, T2, rfl, o1.wfr g1, o2.wfr g2, oo, hb⟩

theorem dvp_none {xs ys : List Int} {x : Int} : DvP false xs ys x 0 0 0 := by
  intro w nx a1 n1 c1 ny a2 n2 c2 hx hy
  have hv : val ys = 0 := by
    have := hy.worth
    cases ny <;> simp [sg] at this <;> omega
  refine (wdivmod_none w nx a1 n1 c1 xs hx.sl ny a2 n2 c2 ys hy.sl hv).mono ?_
  rintro e w' ⟨rfl, hb⟩
  exact ⟨false, none, 0, [], false, none, 0, [], w.heap.size, w.heap.size, w.heap.size, w.heap.size, rfl, (li_nil _ _ _).wfr (wh_nil _), (li_nil _ _ _).wfr (wh_nil _), ⟨Nat.le_refl _, hb.size, Nat.le_refl _, hb.size, fun j h1 h2 => by omega⟩, hb⟩

end Lm
end Go.Proofs.Ytjhhjefobbhdlaa

namespace Go.Proofs.Ytjhhjefobbhdlaa
namespace Lm
open Go Go.RowKit
open Dm (WFr)

/-- Memory has at least so many blocks. -/
def SzGe (K : Nat) (w : World) : Prop := K ≤ w.heap.size
theorem SzGe.le {K : Nat} {w : World} (h : SzGe K w) : K ≤ w.heap.size := h
theorem SzGe.rl {K : Nat} {w w' : World} (h : SzGe K w) (hr : Rl w w') : SzGe K w' := Nat.le_trans h hr.size
theorem SzGe.ru {K : Nat} {w w' : World} (h : SzGe K w) (hr : Ru w w') : SzGe K w' := Nat.le_trans h hr.size
theorem SzGe.below {K : Nat} {w w' : World} (h : SzGe K w) (hb : Below w.heap.size w w') : SzGe K w' := Nat.le_trans h hb.size
theorem SzGe.touch {K L : Nat} {w w' : World} (h : SzGe K w) (hb : Touch w w' L) : SzGe K w' := Nat.le_trans h hb.size
theorem SzGe.kp {K p : Nat} {bs : List Nat} {w w' : World} (h : SzGe K w) (hb : Kp w w' p bs) : SzGe K w' := Nat.le_trans h hb.size
theorem BoxV.kp {τ : BoxTy} {w w' : World} {g p : Nat} {bs : List Nat} {v : Value} (h : BoxV τ w g v) (k : Kp w w' p bs) (hp : g ≠ p) (hb : g ∉ bs) : BoxV τ w' g v := by
  obtain ⟨cs, hc, h⟩ := h
  exact ⟨cs, hc, (k.other g (lt_of_heap h) hp hb).trans h⟩
theorem _root_.Go.Proofs.Ytjhhjefobbhdlaa.Dm.WFr.narrow {B T : Nat} {w : World} {ng : Bool} {ao : Option Addr} {cap : Nat} {rs : List Int} {z : Int} (h : WFr B T w ng ao cap rs z) (hBT : B ≤ T) : ∃ p q, WFr p q w ng ao cap rs z ∧ B ≤ p ∧ p ≤ q ∧ q ≤ T ∧ ∀ j, p ≤ j → j < q → ∃ cur, w.heap[j]? = some (.cells cur 51 (0, 0)) := by
  obtain ⟨⟨ho, hc, hv, hl⟩, hs⟩ := h
  obtain ⟨e, h1, h2, h4⟩ := ho.sl'
  by_cases h0 : 0 < cap
  · rcases h4 with h4 | ⟨g, off, cur, rfl, hB, hh, h5, h6⟩
    · omega
    · have hg := hl h0 g off rfl
      refine ⟨g, g + 1, ⟨⟨?_, hc, hv, fun _ g' off' e' => ?_⟩, hs⟩, hg.1, by omega, by omega, fun j h7 h8 => ?_⟩
      · obtain ⟨ao', cap', hv', k1, k2, k3, k4⟩ := ho
        obtain ⟨rfl, _, rfl⟩ := (Value.slice.injEq .. ▸ hv')
        exact ⟨_, _, rfl, k1, k2, k3, .inr ⟨g, off, cur, rfl, Nat.le_refl _, hh, h5, h6⟩⟩
      · simp only [Option.some.injEq, Addr.mk.injEq, and_true] at e'
        omega
      · obtain rfl : j = g := by omega
        exact ⟨cur, hh⟩
  · refine ⟨B, B, ⟨⟨ho, hc, hv, fun h => by omega⟩, hs⟩, Nat.le_refl _, Nat.le_refl _, hBT, fun j h7 h8 => by omega⟩
theorem box_out {w : World} {g p q : Nat} {v : Value} (b : BoxV W2 w g v) (h : ∀ j, p ≤ j → j < q → ∃ cur, w.heap[j]? = some (.cells cur 51 (0, 0))) : ¬ (p ≤ g ∧ g < q) := by
  rintro ⟨h1, h2⟩
  obtain ⟨cur, hc⟩ := h g h1 h2
  obtain ⟨cs, _, b⟩ := b
  rw [b] at hc
  simp [W2] at hc
theorem lends_ne {w : World} {L g M k : Nat} {xs ys : List Int} (h : LendS w L g xs) (h' : LendS w M k ys) : L ≠ k ∧ M ≠ g := by
  obtain ⟨h1, cur, h2, _⟩ := h
  obtain ⟨h3, cur', h4, _⟩ := h'
  constructor
  · intro e
    subst e
    rw [h1] at h4
    simp at h4
  · intro e
    subst e
    rw [h2] at h3
    simp at h3

theorem LendN.touch {w w' : World} {L M : Nat} (h : LendN w L) (t : Touch w w' M) (hn : L ≠ M) : LendN w' L := (t.other L h.lt hn).trans h
theorem bs_ne {w : World} {p Q n g : Nat} {bs : List Nat} {v : Value} (h : Bs w p Q bs n) (b : BoxV W2 w g v) : g ≠ p := by
  obtain ⟨rv, lv, mv, _, hk⟩ := h
  obtain ⟨cs, _, b⟩ := b
  intro e
  subst e
  have := hk.here
  rw [b] at this
  simp [W2] at this
section
variable {dst : Option Tmp} {ty : TypeId} {pos : String} {after : Array Edge} {guard : Option (Nat × Bool)} {a : Act} {w : World} {ats : Array TypeId} {i j : Nat} {z : Int}
theorem op_bBook : Does Try.prog { dst, op := .build 40 #[], type := ty, pos, after, guard } a.eval w fun v' w' => Below w.heap.size w w' ∧ Eqs (.agg #[.slice none 0 0, .slice none 0 0]) v' w' := by
  have e : (execOp a.eval { dst, op := .build 40 #[], type := ty, pos, after, guard }).run Try.prog w = .ok (.value (.agg #[.slice none 0 0, .slice none 0 0])) w := by
    simp only [execOp, List.map_toArray, List.map_nil]
    go_simp
  refine ⟨?_⟩
  unfold Turns
  rw [e]
  exact ⟨Below.refl _ _, rfl⟩
theorem op_bookn {Q : Nat} (h : a.eval (.tmp i) = .agg #[.slice none 0 0, .slice none 0 0]) : Does Try.prog { dst, op := .box 40 (.tmp i), type := ty, pos, after, guard } a.eval w fun v w' => v = .pointer (some ⟨w.heap.size, 0, none⟩) ∧ Bs w' w.heap.size Q [] 0 ∧ Below w.heap.size w w' := by
  have e : (execOp a.eval { dst, op := .box 40 (.tmp i), type := ty, pos, after, guard }).run Try.prog w = .ok (.value (.pointer (some ⟨w.heap.size, 0, none⟩))) (w.alloc (.cells #[.slice none 0 0, .slice none 0 0] 40)) := by
    simp only [execOp, h]
    go_simp
  refine ⟨?_⟩
  unfold Turns
  rw [e]
  exact ⟨rfl, Bs.new (heap_alloc_new _ _), (Below.refl _ _).alloc (Nat.le_refl _) _⟩
theorem op_neqsame {u : Int} (h1 : a.eval (.tmp i) = .int .i64 u) (h2 : a.eval (.tmp j) = .int .i64 u) :
    Does Try.prog { dst, op := .binOp .neq 3 (.tmp i) (.tmp j) 3, type := ty, pos, after, guard } a.eval w fun v' w' => Below w.heap.size w w' ∧ Eqs (.bool false) v' w' := by
  refine does_bin (v := .bool false) ?_ ?_ ⟨Below.refl _ _, rfl⟩
  · rw [h1, h2]; simp [go_sem]
  · rw [h1, h2]; simp [go_sem]
theorem op_addk {u v : Int} (h1 : a.eval (.tmp i) = .int .i64 u) (h : -9223372036854775808 ≤ u + v ∧ u + v ≤ 9223372036854775807) :
    Does Try.prog { dst, op := .binOp .add 3 (.tmp i) (.const (.int .i64 v)) 3, type := ty, pos, after, guard } a.eval w fun v' w' => Below w.heap.size w w' ∧ Eqs (.int .i64 (u + v)) v' w' := by
  refine does_bin (v := .int .i64 (u + v)) ?_ ?_ ⟨Below.refl _ _, rfl⟩
  · rw [h1]; simp [go_sem, Act.eval]
  · rw [h1]; simp [go_sem, Act.eval]; exact wrap64 h.1 h.2
theorem has_ownw : Has Try.prog 32 := by unfold Has; kernel_rfl
theorem op_ownw {p Q n B T : Nat} {bs : List Nat} {ng : Bool} {ao : Option Addr} {cap : Nat} {rs : List Int} (hp : a.eval (.tmp i) = .pointer (some ⟨p, 0, none⟩)) (hv : a.eval (.tmp j) = .agg #[.bool ng, .slice ao rs.length cap]) (hb : Bs w p Q bs n) (hn : n ≤ 1000) (h : WFr B T w ng ao cap rs z) (hQB : Q ≤ B) (hQ : Q ≤ w.heap.size) (hd : ∀ j, j ∈ bs → j < B ∨ T ≤ j) :
    Does Try.prog { dst, op := .call { callee := .value (.func 32), args := #[.tmp i, .tmp j], argTypes := ats }, type := ty, pos, after, guard } a.eval w fun v w' => v = .bool true ∧ ∃ bs', Bs w' p Q bs' (n + 1) ∧ Kp w w' p bs' ∧ ∀ j, j ∈ bs' → j ∈ bs ∨ w.heap.size ≤ j ∨ (B ≤ j ∧ j < T) := by
  refine does_call has_ownw _ (by simp only [List.map_toArray, List.map_cons, List.map_nil, hp, hv]) ((ownWhole_b w p Q n bs hb hn B T ng ao cap rs _ h.fr hQB hQ hd).mono ?_)
  rintro e w' ⟨rfl, h1⟩
  exact ⟨_, rfl, rfl, h1⟩
theorem has_bdone : Has Try.prog 33 := by unfold Has; kernel_rfl
theorem op_bdone {p Q n : Nat} {bs : List Nat} (hp : a.eval (.tmp i) = .pointer (some ⟨p, 0, none⟩)) (hb : Bs w p Q bs n) (hn : n ≤ 1000) :
    Does Try.prog { dst, op := .call { callee := .value (.func 33), args := #[.tmp i], argTypes := ats }, type := ty, pos, after, guard } a.eval w fun v w' => Below w.heap.size w w' ∧ Eqs (.bool true) v w' := by
  refine does_call has_bdone _ (by simp only [List.map_toArray, List.map_cons, List.map_nil, hp]) ((done_b w p Q n bs hb hn).mono ?_)
  rintro e w' ⟨rfl, hb⟩
  exact ⟨_, rfl, hb, rfl⟩
end
end Lm
end Go.Proofs.Ytjhhjefobbhdlaa

namespace Go.Proofs.Ytjhhjefobbhdlaa
namespace Lm
open Go Go.RowKit

theorem duty4_one {P : Program} {ops : Array Oper} {Q : Exit → Act → World → Prop} {n : Nat} {Ds : List (Option Nat)} {Ps : List Says} {bx : List Bx} {Wt : List (Nat × Nat)} {a0 : Act} {w0 : World} {l : Array Bool} {a : Act} {w : World} {i : Nat} {o : Oper} (hlen : Ds.length = ops.size) (hduty : Duty4 P n Ds Ps bx Wt a0 w0 i o (Ps.getD i fun _ _ => True)) (hdst : ∀ j o, ops[j]? = some o → o.dst = Ds.getD j none) (hF : Fits n Ds bx) (hI : Inj Ds) (hM : Mono4s Ps) (hτ : ∀ b ∈ bx, BoxOk P b.τ) (ho : ops[i]? = some o) (hnd : flag l i = false) (hearly : ∀ b ∈ bx, ∀ q ia, b.st = some q → b.ia = some ia → flag l q.1 = true → flag l ia = true) (hlateS : ∀ j, Wt.contains (j, i) = true → flag l j = false) (hlate : ∀ b ∈ bx, ∀ q, b.st = some q → b.wt.contains i = true → flag l q.1 = false) (h : Mid4 n Ds Ps bx a0 w0 l a w) (hdeps : ∀ e ∈ o.after, Region.binds .any e = true → flag l e.on = true) :
    wpOp P ops Q i (fun a' w' => Mid4 n Ds Ps bx a0 w0 (l.setIfInBounds i true) a' w') a w := by
  have h' := h
  obtain ⟨h1, h2, h3, h4, hr, h5, hS, h6, gs, h7⟩ := h
  have hany : ∀ j, (o.after.toList.any fun e => e.on == j && Region.binds .any e) = true → flag l j = true := by
    intro j hj
    obtain ⟨e, he, hj⟩ := List.any_eq_true.1 hj
    simp only [Bool.and_eq_true, beq_iff_eq] at hj
    obtain ⟨rfl, hb⟩ := hj
    exact hdeps e (by simpa using he) hb
  have hil : i < l.size := by
    rw [h1, hlen]
    exact (Array.getElem?_eq_some_iff.1 ho).1
  refine wpOp_step ho (fun K' hK => ?_)
  cases hduty with
  | norm d hd hDi hb hduty =>
    have holds : Olds bx i w := by
      intro k b hk hia hwt
      have hmd : made l b = true := by unfold made; rw [hia]
      obtain ⟨_, e2, _, v, e3, e4, _⟩ := h7.1 k b hk hmd
      rw [e2 hia] at e3
      have : filled l b = false := by
        unfold filled
        cases hst : b.st with
        | none => rfl
        | some q => exact hlate b (List.mem_of_getElem? hk) q hst hwt
      rw [e4 this] at e3
      exact e3
    have hduty := hduty a w h2 h4 hr h5 (fun j hj => h6 j (hany j hj)) holds (fun j d hj hd => hS j d hd (hlateS j hj))
    cases hg : o.guard with
    | none =>
      rw [hg] at hduty
      simp only [Region.wanted, hg, if_true]
      exact Does.wp hduty (fun v w' ⟨hw, hp⟩ => by rw [hd]; exact hK _ _ (h'.norm hF hI hM hnd hDi hb hw hp))
    | some gb =>
      obtain ⟨g, b⟩ := gb
      rw [hg] at hduty
      simp only at hduty
      obtain ⟨⟨dg, hdg⟩, hyes, hno⟩ := hduty
      have hgo : ∃ og, ops[g]? = some og := by
        have : g < ops.size := by
          rw [← hlen]
          apply Classical.byContradiction
          intro hn
          rw [List.getD_eq_getElem?_getD, List.getElem?_eq_none (by omega)] at hdg
          simp at hdg
        exact ⟨_, Array.getElem?_eq_getElem this⟩
      obtain ⟨og, hog⟩ := hgo
      have hgn : dg < n := hF.1 g dg hdg
      have hrd : rd Ds a g = a.eval (.tmp dg) := by unfold rd; rw [hdg]
      have hy : yielded ops a.tmps g = (match a.eval (.tmp dg) with | .bool b => some b | _ => none) := by
        unfold yielded
        rw [hog]
        simp only [Option.bind_some, hdst g og hog, hdg]
        have : a.tmps[dg]? = some (a.eval (.tmp dg)) := by
          rw [Array.getElem?_eq_getElem (by omega)]
          simp only [Act.eval, Array.getD, h2, hgn, dif_pos]
          rfl
        rw [this]
        generalize a.eval (.tmp dg) = v
        cases v <;> rfl
      rw [hrd] at hyes hno
      by_cases hv : a.eval (.tmp dg) = .bool b
      · have hw : Region.wanted o (yielded ops a.tmps) = true := by
          simp only [Region.wanted, hg]
          rw [hy, hv]
          simp
        rw [if_pos hw]
        exact Does.wp (hyes hv) (fun v w' ⟨hw, hp⟩ => by rw [hd]; exact hK _ _ (h'.norm hF hI hM hnd hDi hb hw hp))
      · have hw : ¬ Region.wanted o (yielded ops a.tmps) = true := by
          simp only [Region.wanted, hg]
          rw [hy]
          intro hc
          apply hv
          generalize a.eval (.tmp dg) = v at *
          cases v <;> simp at hc
          rw [hc]
        rw [if_neg hw, hd]
        exact hK _ _ (h'.norm hF hI hM hnd hDi hb (Below.refl _ _) (hno hv))
  | alloc k b hk hia hop hd hg hp hu hs =>
    have hm := List.mem_of_getElem? hk
    have hrun : ∃ cs, b.τ.Cs b.v0 cs ∧ Does P o a.eval w fun v w' => v = .pointer (some ⟨w.heap.size, 0, none⟩) ∧ w' = w.alloc (.cells cs b.τ.T) := by
      rcases hop with ⟨hop, hz⟩ | ⟨x, hop, hcs, hx⟩
      · obtain ⟨cs, hc, hrun⟩ := (hτ b hm).alloc w
        refine ⟨cs, by rw [hz]; exact hc, ⟨?_⟩⟩
        unfold Turns
        simp only [execOp, hop]
        simp [hrun]
      · obtain ⟨cs, hc, hrun⟩ := (hτ b hm).box w b.v0 hcs
        refine ⟨cs, hc, ⟨?_⟩⟩
        unfold Turns
        simp only [execOp, hop, hx a h5]
        simp [hrun]
    obtain ⟨cs, hc, hdoes⟩ := hrun
    simp only [Region.wanted, hg, if_true]
    have hns : ∀ q, b.st = some q → flag l q.1 = false := by
      intro q hq
      cases hf : flag l q.1 with
      | false => rfl
      | true =>
        have := hearly b hm q i hq hia hf
        rw [hnd] at this
        cases this
    refine Does.wp hdoes (fun v w' ⟨hv, hw⟩ => ?_)
    subst hv hw
    rw [hd]
    exact hK _ _ (h'.alloc hF hI hM hnd hk hia hu hs (fun v w => by rw [hp]; trivial) hc hns)
  | store k b src isrc hk his hop hd hDi hg hp ha hs hu hn hv =>
    have hm := List.mem_of_getElem? hk
    have hia : made l b = true := by
      unfold made
      cases hia : b.ia with
      | none => rfl
      | some ia => exact hany _ (ha ia hia)
    have hisrc := hany _ hs
    obtain ⟨e1, e2, e2', u, e3, e4⟩ := h7.1 k b hk hia
    have f2 := ((hF.2 b hm).2.2 _ his).2.1
    have hsrc := h6 _ hisrc
    have hrd : rd Ds a isrc = a.eval (.tmp src) := by unfold rd; rw [f2]
    rw [hrd] at hsrc
    obtain ⟨w', hrun, hbv, honly⟩ := (hτ b hm).store w (gs k) u _ e3 (hv _ _ hsrc)
    simp only [Region.wanted, hg, if_true]
    have hdoes : Does P o a.eval w fun v w'' => w'' = w' := by
      refine ⟨?_⟩
      unfold Turns
      simp only [execOp, hop, e1]
      simp [hrun]
    refine Does.wp hdoes (fun v w'' hw => ?_)
    subst hw
    rw [hd]
    exact hK _ _ (Mid4.store (hτ b hm) h1 h2 h3 h4 hr h5 hS hDi h6 h7 hM hil hk his hu hn (fun v w => by rw [hp]; trivial) hia hisrc honly hbv)

/-- The region, drawn or in order. -/
theorem region4x {P : Program} {ops : Array Oper} {Q : Exit → Act → World → Prop} {id n : Nat} {a : Act} {w : World} {dr : Bool} (Ds : List (Option Nat)) (Ps : List Says) (bx : List Bx) (Wt : List (Nat × Nat)) (hm : P.follows .mixedOrders = true) (hn : a.tmps.size = n) (hDs : ops.toList.map (·.dst) = Ds)
    (hinj : (Ds.zipIdx.all fun p => p.1.isNone || Ds.zipIdx.all fun q => p.1 != q.1 || p.2 == q.2) = true) (hf1 : (Ds.all fun d => d.all fun d => decide (d < n)) = true) (hf2 : (bx.all (fitOne Ds)) = true)
    (hdep : (ops.toList.zipIdx.all fun p => p.1.after.all fun e => !Region.binds .any e || decide (e.on < p.2)) = true)
    (hst : (bx.all (waitOne ops)) = true) (hwt : (Wt.all fun p => ((ops[p.1]?).map fun o => o.after.toList.any fun e => e.on == p.2 && Region.binds .any e).getD false) = true)
    (hM : Mono4s Ps) (hτ : ∀ b ∈ bx, BoxOk P b.τ) (hold : ∀ b ∈ bx, b.ia = none → a.eval (.tmp b.d) = .pointer (some ⟨b.g0, 0, none⟩) ∧ BoxV b.τ w b.g0 b.v0) (hdis : ∀ (k k' : Nat) (b b' : Bx), bx[k]? = some b → bx[k']? = some b' → k ≠ k' → b.ia = none → b'.ia = none → b.g0 ≠ b'.g0) (hD : ∀ i o, ops[i]? = some o → Duty4 P n Ds Ps bx Wt a w i o (Ps.getD i fun _ _ => True) ∨ ∀ l a' w', Mid4 n Ds Ps bx a w l a' w' → flag l i = false → (∀ j, (o.after.toList.any fun e => e.on == j && Region.binds .any e) = true → flag l j = true) → (∀ j o, ops[j]? = some o → flag l j = true → ∀ e ∈ o.after, Region.binds .any e = true → flag l e.on = true) → o.guard = none ∧ Does P o a'.eval w' fun v w'' => Mid4 n Ds Ps bx a w (l.setIfInBounds i true) (a'.put o.dst v) w'')
    (hend : ∀ (a' : Act) (w' : World) (gs : Nat → Nat), a'.tmps.size = n → a'.defers = a.defers → But bx w w' → Rl w w' → Rest4 Ds a a' → (∀ j, j < Ds.length → Ps.getD j (fun _ _ => True) (rd Ds a' j) w') →
      (∀ (k : Nat) (b : Bx), bx[k]? = some b → a'.eval (.tmp b.d) = .pointer (some ⟨gs k, 0, none⟩) ∧ (b.ia = none → gs k = b.g0) ∧ (b.ia ≠ none → w.heap.size ≤ gs k) ∧ BoxV b.τ w' (gs k) (match b.st with | some q => a'.eval (.tmp q.2.1) | none => b.v0)) → (∀ (k k' : Nat), k < bx.length → k' < bx.length → k ≠ k' → gs k ≠ gs k') → Q .normal a' w') : (Code.region id ops dr).wp P Q a w := by
  have hlen : Ds.length = ops.size := by rw [← hDs]; simp
  have hdst : ∀ j o, ops[j]? = some o → o.dst = Ds.getD j none := by
    intro j o ho
    rw [← hDs, List.getD_eq_getElem?_getD, List.getElem?_map, Array.getElem?_toList, ho]
    rfl
  have hF := fits_of hf1 hf2
  have hI := inj_of hinj
  let Inv : Array Bool → Act → World → Prop := fun l a' w' => Mid4 n Ds Ps bx a w l a' w' ∧ ∀ j o, ops[j]? = some o → flag l j = true → ∀ e ∈ o.after, Region.binds .any e = true → flag l e.on = true
  have hmd : ∀ l b, b ∈ bx → (∀ j, j < ops.size → flag l j = true) → made l b = true := by
    intro l b hb hall
    unfold made
    cases hia : b.ia with
    | none => rfl
    | some ia => exact hall _ (by rw [← hlen]; exact ((hF.2 b hb).1 ia hia).2)
  have hfin : ∀ l a' w', Inv l a' w' → (∀ j, j < ops.size → flag l j = true) → Q .normal a' w' := by
    rintro l a' w' ⟨⟨h1, h2, h3, h4, hr, h5, _, h6, gs, h7, h8⟩, _⟩ hall
    refine hend a' w' gs h2 h3 h4 hr h5 (fun j hj => h6 j (hall j (by omega))) (fun k b hk => ?_) (fun k k' hk hk' hne => ?_)
    · have hmem := List.mem_of_getElem? hk
      obtain ⟨e1, e2, e2', v, e3, e4, e5⟩ := h7 k b hk (hmd l b hmem hall)
      refine ⟨e1, e2, e2', ?_⟩
      cases hs : b.st with
      | none =>
        have : filled l b = false := by unfold filled; rw [hs]
        rw [e4 this] at e3
        exact e3
      | some q =>
        obtain ⟨_, e6⟩ := e5 q hs (hall _ (by rw [← hlen]; exact ((hF.2 b hmem).2.2 q hs).1))
        simp only
        rw [e6]
        exact e3
    · exact h8 k k' bx[k] bx[k'] (List.getElem?_eq_getElem hk) (List.getElem?_eq_getElem hk') hne (hmd l _ (List.getElem_mem hk) hall) (hmd l _ (List.getElem_mem hk') hall)
  have hwait : ∀ l, (∀ j o, ops[j]? = some o → flag l j = true → ∀ e ∈ o.after, Region.binds .any e = true → flag l e.on = true) → ∀ b ∈ bx, ∀ q, b.st = some q → flag l q.1 = true → (∀ ia, b.ia = some ia → flag l ia = true) ∧ ∀ i, b.wt.contains i = true → flag l i = true := by
    intro l hcl b hb q hq hfl
    have := List.all_eq_true.1 hst b hb
    unfold waitOne at this
    rw [hq] at this
    simp only [Option.all_some] at this
    cases ho' : ops[q.1]? with
    | none => rw [ho'] at this; simp at this
    | some o' =>
      rw [ho'] at this
      simp only [Option.map_some, Option.getD_some, Bool.and_eq_true] at this
      have key : ∀ j, (o'.after.toList.any fun e => e.on == j && Region.binds .any e) = true → flag l j = true := by
        intro j hj
        obtain ⟨e, he, hj⟩ := List.any_eq_true.1 hj
        simp only [Bool.and_eq_true, beq_iff_eq] at hj
        obtain ⟨hj1, hj2⟩ := hj
        have := hcl q.1 o' ho' hfl e (by simpa using he) hj2
        rwa [hj1] at this
      refine ⟨fun ia hia => ?_, fun i hi => ?_⟩
      · have h1 := this.1
        rw [hia] at h1
        exact key ia (by simpa using h1)
      · have h2 := List.all_eq_true.1 this.2 i (by simpa using hi)
        exact key i h2
  have hone : ∀ l a' w', Inv l a' w' → ∀ i o, ops[i]? = some o → flag l i = false → (∀ e ∈ o.after, Region.binds .any e = true → flag l e.on = true) → wpOp P ops Q i (fun a'' w'' => Inv (l.setIfInBounds i true) a'' w'') a' w' := by
    rintro l a' w' ⟨hmid, hcl⟩ i o ho hnd hdeps
    have hst1 : wpOp P ops Q i (fun a'' w'' => Mid4 n Ds Ps bx a w (l.setIfInBounds i true) a'' w'') a' w' := by
      rcases hD i o ho with hd | hd
      · refine duty4_one hlen hd hdst hF hI hM hτ ho hnd (fun b hb q ia hq hia hfl => (hwait l hcl b hb q hq hfl).1 ia hia) (fun j hj => ?_) (fun b hb q hq hwt => ?_) hmid hdeps
        · cases hfl : flag l j with
          | false => rfl
          | true =>
            have h1 := List.all_eq_true.1 hwt (j, i) (by simpa using hj)
            cases ho' : ops[j]? with
            | none => rw [ho'] at h1; simp at h1
            | some o' =>
              rw [ho'] at h1
              simp only [Option.map_some, Option.getD_some] at h1
              obtain ⟨e, he, h2⟩ := List.any_eq_true.1 h1
              simp only [Bool.and_eq_true, beq_iff_eq] at h2
              have := hcl j o' ho' hfl e (by simpa using he) h2.2
              rw [h2.1, hnd] at this
              cases this
        · cases hfl : flag l q.1 with
          | false => rfl
          | true =>
            have := (hwait l hcl b hb q hq hfl).2 i hwt
            rw [hnd] at this
            cases this
      · obtain ⟨hg, hdo⟩ := hd l a' w' hmid hnd (fun j hj => by
          obtain ⟨e, he, hj⟩ := List.any_eq_true.1 hj
          simp only [Bool.and_eq_true, beq_iff_eq] at hj
          obtain ⟨rfl, hb⟩ := hj
          exact hdeps e (by simpa using he) hb) hcl
        refine wpOp_step ho (fun K' hK => ?_)
        simp only [Region.wanted, hg, if_true]
        exact Does.wp hdo (fun v w'' h => hK _ _ h)
    refine wpOp_mono (fun a'' w'' h => ⟨h, fun j oj hoj hj e he hb => ?_⟩) hst1
    · have keep : ∀ m, flag l m = true → flag (l.setIfInBounds i true) m = true := by
        intro m hm'
        by_cases e' : m = i
        · subst e'
          rw [hnd] at hm'
          cases hm'
        · rw [flag_set_ne e']
          exact hm'
      rcases flag_set hj with rfl | ⟨_, hj⟩
      · rw [ho] at hoj
        obtain rfl := Option.some.inj hoj
        exact keep _ (hdeps e he hb)
      · exact keep _ (hcl j oj hoj hj e he hb)
  have h0f : ∀ j, flag (Array.replicate ops.size false) j = false := by
    intro j
    simp only [flag, Array.getD_eq_getD_getElem?, Array.getElem?_replicate]
    split <;> rfl
  have hia0 : ∀ b, made (Array.replicate ops.size false) b = true → b.ia = none := by
    intro b hb
    unfold made at hb
    cases hia : b.ia with
    | none => rfl
    | some ia => rw [hia] at hb; simp only [h0f] at hb; cases hb
  have hstart : ∀ w', Below w.heap.size w w' → Inv (Array.replicate ops.size false) a w' := by
    intro w' hb
    refine ⟨⟨by simp [hlen], hn, rfl, ⟨hb.os, hb.tape, hb.output, hb.size, fun m hm' _ => hb.block m hm'⟩, Rl.of_below hb, fun _ _ => rfl, fun _ _ _ _ => rfl, fun j hj => ?_, fun k => (bx[k]?.map (·.g0)).getD 0, fun k b hk hf => ?_, fun k k' b b' hk hk' hne hf hf' => ?_⟩, fun j o _ hj => ?_⟩
    · rw [h0f] at hj; cases hj
    · have hia := hia0 b hf
      obtain ⟨o1, o2⟩ := hold b (List.mem_of_getElem? hk) hia
      simp only [hk, Option.map_some, Option.getD_some]
      refine ⟨o1, fun _ => trivial, fun h => absurd hia h, b.v0, o2.below hb, fun _ => rfl, fun q _ hfl => ?_⟩
      rw [h0f] at hfl; cases hfl
    · simp only [hk, hk', Option.map_some, Option.getD_some]
      exact hdis k k' b b' hk hk' hne (hia0 b hf) (hia0 b' hf')
    · rw [h0f] at hj; cases hj
  cases dr with
  | false =>
    refine wp_region_seq Inv (hstart w (Below.refl _ _)) hfin (fun l a' w' hI i hi hnd hlow => ?_)
    have ho : ops[i]? = some ops[i] := Array.getElem?_eq_getElem hi
    refine hone l a' w' hI i _ ho hnd (fun e he hb => hlow e.on ?_)
    have h1 := List.all_eq_true.1 hdep (ops[i], i) (by
      rw [List.mem_zipIdx_iff_getElem?]
      simp [hi])
    have := Array.all_eq_true_iff_forall_mem.1 h1 e he
    rw [hb] at this
    simpa using this
  | true =>
    refine wp_region_inv hm Inv (hstart _ (Below.drew (Below.refl _ _))) (fun l a' w' hI hr => hfin l a' w' hI (fun j hj => all_listed4 hdep (by rw [hI.1.1, hlen]) hr j hj)) (fun l a' w' hI i hi => ?_)
    obtain ⟨h1, o, ho, hdeps⟩ := mem_ready.1 hi
    have hnd : flag l i = false := by
      have hs : i < l.size := by rw [hI.1.1, hlen]; exact (Array.getElem?_eq_some_iff.1 ho).1
      rw [Array.getD_eq_getD_getElem?, Array.getElem?_eq_getElem hs] at h1
      simp only [flag, Array.getD_eq_getD_getElem?, Array.getElem?_eq_getElem hs]
      simpa using h1
    exact hone l a' w' hI i o ho hnd hdeps

end Lm
end Go.Proofs.Ytjhhjefobbhdlaa

namespace Go.Proofs.Ytjhhjefobbhdlaa
namespace Dm
open Go.RowKit
open Lm (hide lt_of_cell lt_of_heap div_of info32)

/-- What a list says as a number of 64 bits: 0, if it is longer. -/
def u64 (x : Int) : Int := if x < 18446744073709551616 then x else 0
def u64ok (x : Int) : Bool := decide (x < 18446744073709551616)

theorem long_val {rs : List Int} (h : Lm.Canon rs) (h2 : 2 < rs.length) : ¬ Lm.val rs < 18446744073709551616 := by
  have h1 := Lm.canon_low h (by intro e; subst e; simp at h2)
  have h3 := Lm.pw_mono (m := 2) (n := rs.length - 1) (by omega)
  rw [show Lm.pw 2 = 18446744073709551616 from by decide] at h3
  omega

theorem short_val {rs : List Int} (h : Lm.Limb rs) (h2 : ¬ 2 < rs.length) : Lm.val rs < 18446744073709551616 := by
  have h1 := (Lm.val_bounds h).2
  have h3 := Lm.pw_mono (m := rs.length) (n := 2) (by omega)
  rw [show Lm.pw 2 = 18446744073709551616 from by decide] at h3
  omega

theorem ret2_u64 {a b : Int} {c d : Bool} (h : a = b) (h' : c = d) : Ending.returned (.tuple #[.int .u64 a, .bool c]) = .returned (.tuple #[.int .u64 b, .bool d]) := by rw [h, h']

end Dm
end Go.Proofs.Ytjhhjefobbhdlaa

namespace Go.Proofs.Ytjhhjefobbhdlaa
namespace Lm
open Go.RowKit
open Dm (u64 u64ok long_val short_val ret2_u64)

theorem row_cells {w : World} {b off : Nat} {zs : List Int} (hc : ∀ i, i < zs.length → w.cell? ⟨b, off + i, none⟩ = some (.int .u32 (zs.getD i 0))) : ∀ j u, (zs.map (Value.int .u32))[j]? = some u → w.cell? ((⟨b, off, none⟩ : Addr).add j) = some u := by
  intro j u hu
  rw [List.getElem?_map] at hu
  have hj : j < zs.length := by
    apply Classical.byContradiction
    intro hn
    rw [List.getElem?_eq_none (by omega)] at hu
    cases hu
  rw [List.getElem?_eq_getElem hj] at hu
  have hcj := hc j hj
  rw [List.getD_eq_getElem?_getD, List.getElem?_eq_getElem hj] at hcj
  rw [show ((⟨b, off, none⟩ : Addr).add j) = ⟨b, off + j, none⟩ from by simp [Addr.add], hcj]
  exact hu

theorem row_one (zs : List Int) : ∀ u ∈ zs.map (Value.int .u32), u.oneCell' = true := by
  intro u hu
  obtain ⟨z, _, rfl⟩ := List.mem_map.1 hu
  rfl

set_option maxRecDepth 20000 in
set_option maxHeartbeats 400000 in
theorem copy_any (w : World) (ao : Option Addr) (n cap : Nat) (xs : List Int) (hx : Sl w (.slice ao n cap) xs) (hl : xs.length ≤ 1000000) :
    Calls Try.prog 39 #[.slice ao n cap] w fun e w' => ∃ v, e = .returned v ∧ Ow w.heap.size w' v xs ∧ Below w.heap.size w w' := by
  obtain ⟨rfl, h1, h2, h3⟩ := hx.parts
  obtain ⟨i0, hi, hz0, hz1, hz2⟩ := info_parts info32
  by_cases h0 : 0 < xs.length
  · obtain ⟨b, off, rfl, hc⟩ := hx.cells h0
    have hcells := row_cells hc
    have H3 := hide h3
    clear hc h3 hx
    go_enter Try.func39, Try.ntmps39
    go_wp2_with (at_builtin; refine wpList_append_own _ rfl (.const (.slice none 0 0)) (.tmp 3) 22 rfl w.heap.size 51 i0 (.int .u32 0) 1 4 Try.underlying22 hi hz0 hz1 hz2 rfl (by decide) _ _ _ rfl (World.ownsRow_nil _ _ _ _) ⟨b, off, none⟩ xs.length cap (xs.map (Value.int .u32)) rfl (by simp) hcells (row_one xs) (by unfold maxLen; omega) (by omega) (by simp) ?_)
    intro v' w1 hown hgrow _
    have hb1 : Below w.heap.size w w1 := (Below.refl w.heap.size w).grown hgrow (by simp) (by intro k hk; simp [Value.ownBlock] at hk)
    have how := ow_of_row (zs := xs) (by simpa using hown) H3.out
    clear hown hgrow
    go_wp2
    go_ret
    exact ⟨_, rfl, how, hb1⟩
  · have e : xs = [] := List.eq_nil_of_length_eq_zero (by omega)
    subst e
    cases ao with
    | none =>
      go_enter Try.func39, Try.ntmps39
      go_wp2
      go_ret
      exact ⟨_, rfl, ⟨none, 0, rfl, Nat.le_refl _, by simp [maxLen], limb_nil, .inl rfl⟩, Below.refl _ _⟩
    | some ad =>
      go_enter Try.func39, Try.ntmps39
      go_wp2
      go_ret
      exact ⟨_, rfl, ⟨none, 0, rfl, Nat.le_refl _, by simp [maxLen], limb_nil, .inl rfl⟩, Below.refl _ _⟩

theorem two_val {rs : List Int} (h : ¬ 2 < rs.length) : rs.getD 1 0 * 4294967296 + rs.getD 0 0 = val rs := by
  match rs, h with
  | [], _ => rfl
  | [x], _ => simp [val]
  | [x, y], _ => simp [val]; omega
  | _ :: _ :: _ :: _, h => simp at h

set_option maxRecDepth 20000 in
set_option maxHeartbeats 400000 in
theorem uint_any (w : World) (ao : Option Addr) (n cap : Nat) (xs : List Int) (hx : Sl w (.slice ao n cap) xs) :
    Calls Try.prog 43 #[.slice ao n cap] w fun e w' => e = .returned (.tuple #[.int .u64 (u64 (val xs)), .bool (u64ok (val xs))]) ∧ Below w.heap.size w w' := by
  obtain ⟨rfl, h1, h2, h3⟩ := hx.parts
  have t1 := tl_le xs
  have kc := hide (cut_any w ao _ cap xs hx)
  have hcn := canon_trim h3
  have hX : (xs.take (tl xs)).length = tl xs := by simp; omega
  by_cases hh : 2 < tl xs
  · have HL := long_val hcn (by omega)
    rw [val_take_tl] at HL
    have E1 : Hid (u64 (val xs) = 0) := by simp [Hid, u64, HL]
    have E2 : Hid (u64ok (val xs) = false) := by simp [Hid, u64ok]; omega
    have h2' : (2 : Int) < ((tl xs : Nat) : Int) := by omega
    clear HL hcn hX
    go_enter Try.func43, Try.ntmps43
    go_wp2_with fail
    refine (kc.out).mono ?_
    rintro e w' ⟨rfl, rfl⟩
    go_wp2
    go_ret2
    exact ⟨by rw [E1.out, E2.out]; rfl, Below.refl _ _⟩
  · have HL := short_val hcn.1 (by omega)
    rw [val_take_tl] at HL
    have E1 : Hid (u64 (val xs) = val (xs.take (tl xs))) := by rw [val_take_tl]; simp [Hid, u64, HL]
    have E2 : Hid (u64ok (val xs) = true) := by simp [Hid, u64ok]; omega
    have h2' : ¬ (2 : Int) < ((tl xs : Nat) : Int) := by omega
    have E3 := hide (two_val (rs := xs.take (tl xs)) (by omega))
    have b1 := limb_getD hcn.1 1
    have b0 := limb_getD hcn.1 0
    have k1 := limb_nat w _ _ hx.cut 1
    have k0 := limb_nat w _ _ hx.cut 0
    generalize (xs.take (tl xs)).getD 1 0 = y1 at E3 b1 k1
    generalize (xs.take (tl xs)).getD 0 0 = y0 at E3 b0 k0
    have K1 := hide k1
    have K0 := hide k0
    have hor : bits .or .u64 (y1 * 4294967296) y0 = y1 * 4294967296 + y0 := or_join y1 y0 b1.1 b1.2 b0.1 b0.2
    clear HL hcn hX k1 k0
    go_enter Try.func43, Try.ntmps43
    go_wp2_with fail
    refine (kc.out).mono ?_
    rintro e w' ⟨rfl, rfl⟩
    go_wp2_with fail
    refine (K1.out).mono ?_
    rintro e w' ⟨rfl, rfl⟩
    go_wp2_with fail
    refine (K0.out).mono ?_
    rintro e w' ⟨rfl, rfl⟩
    go_wp2
    go_ret2
    exact ⟨ret2_u64 (by rw [E1.out, E3.out]) E2.out.symm, Below.refl _ _⟩

theorem small_g (w : World) (n : Int) (h0 : 0 ≤ n) (h1 : n < 18446744073709551616) :
    Calls Try.prog 55 #[.int .u64 n] w fun e w' => ∃ ao cap rs, e = .returned (.slice ao rs.length cap) ∧ Got w' ao cap rs n ∧ rs.length ≤ 2 ∧ Below w.heap.size w w' := by
  refine (small_any w n h0 h1).mono ?_
  rintro e w' ⟨v, rfl, hi, hb⟩
  obtain ⟨ao, cap, rs, rfl, hg⟩ := hi.got
  refine ⟨ao, cap, rs, rfl, hg, canon_len hg.canon ?_, hb⟩
  rw [hg.val, show pw 2 = 18446744073709551616 from by decide]
  exact h1

end Lm
end Go.Proofs.Ytjhhjefobbhdlaa

namespace Go.Proofs.Ytjhhjefobbhdlaa
namespace Lm
open Go Go.RowKit

set_option maxRecDepth 20000 in
set_option maxHeartbeats 400000 in
theorem copy_row (w : World) (ao : Option Addr) (n cap : Nat) (xs : List Int) (hx : Sl w (.slice ao n cap) xs) (hl : xs.length ≤ 1000000) :
    Calls Try.prog 39 #[.slice ao n cap] w fun e w' => ∃ v, e = .returned v ∧ w'.ownsRow w.heap.size 51 1 v xs.length (xs.map (Value.int .u32)) ∧ Below w.heap.size w w' := by
  obtain ⟨rfl, h1, h2, h3⟩ := hx.parts
  obtain ⟨i0, hi, hz0, hz1, hz2⟩ := info_parts info32
  by_cases h0 : 0 < xs.length
  · obtain ⟨b, off, rfl, hc⟩ := hx.cells h0
    have hcells := row_cells hc
    have H3 := hide h3
    clear hc h3 hx
    go_enter Try.func39, Try.ntmps39
    go_wp2_with (at_builtin; refine wpList_append_own _ rfl (.const (.slice none 0 0)) (.tmp 3) 22 rfl w.heap.size 51 i0 (.int .u32 0) 1 4 Try.underlying22 hi hz0 hz1 hz2 rfl (by decide) _ _ _ rfl (World.ownsRow_nil _ _ _ _) ⟨b, off, none⟩ xs.length cap (xs.map (Value.int .u32)) rfl (by simp) hcells (row_one xs) (by unfold maxLen; omega) (by omega) (by simp) ?_)
    intro v' w1 hown hgrow _
    have hb1 : Below w.heap.size w w1 := (Below.refl w.heap.size w).grown hgrow (by simp) (by intro k hk; simp [Value.ownBlock] at hk)
    have how := hide (show w1.ownsRow w.heap.size 51 1 v' xs.length (xs.map (Value.int .u32)) by simpa using hown)
    clear hown hgrow
    go_wp2
    go_ret
    exact ⟨_, rfl, how.out, hb1⟩
  · have e : xs = [] := List.eq_nil_of_length_eq_zero (by omega)
    subst e
    cases ao with
    | none =>
      go_enter Try.func39, Try.ntmps39
      go_wp2
      go_ret
      exact ⟨_, rfl, World.ownsRow_nil _ _ _ _, Below.refl _ _⟩
    | some ad =>
      go_enter Try.func39, Try.ntmps39
      go_wp2
      go_ret
      exact ⟨_, rfl, World.ownsRow_nil _ _ _ _, Below.refl _ _⟩

theorem cl_dep {ops : Array Oper} {l : Array Bool} (hcl : ∀ j o, ops[j]? = some o → flag l j = true → ∀ e ∈ o.after, Region.binds .any e = true → flag l e.on = true) {j k : Nat} {o : Oper} (ho : ops[j]? = some o) (hf : flag l j = true) (h : (o.after.toList.any fun e => e.on == k && Region.binds .any e) = true) : flag l k = true := by
  obtain ⟨e, he, h⟩ := List.any_eq_true.1 h
  simp only [Bool.and_eq_true, beq_iff_eq] at h
  have := hcl j o ho hf e (by simpa using he) h.2
  rwa [h.1] at this
/-- A copy, in memory from block K on. -/
def RowL (K : Nat) (xs : List Int) : Says := fun v w => w.ownsRow K 51 1 v xs.length (xs.map (Value.int .u32))
theorem RowL.mono4 (K : Nat) (xs : List Int) : Mono4 (RowL K xs) := fun v w w' hr h => ⟨h.1, by
  rcases h.2 with h2 | ⟨g, cap, cur, e, hb, hh, r⟩
  · exact .inl h2
  · exact .inr ⟨g, cap, cur, e, hb, hr.rows g cur _ (.inl rfl) hh, r⟩⟩
/-- Two limbs 0. -/
def ZeroL : Says := fun v w => ∃ b cur, v = .slice (some ⟨b, 0, none⟩) 2 2 ∧ w.heap[b]? = some (.cells cur 51 (0, 0)) ∧ cur[0]? = some (.int .u32 0) ∧ cur[1]? = some (.int .u32 0)
theorem ZeroL.mono4 : Mono4 ZeroL := fun _ _ _ hr ⟨b, cur, e, hh, r⟩ => ⟨b, cur, e, hr.rows b cur _ (.inl rfl) hh, r⟩

/-- Two limbs 0 were written behind the first n of block g. -/
def InPl (w w' : World) (g n : Nat) : Prop := ∃ cur : Array Value, w.heap[g]? = some (.cells cur 51 (0, 0)) ∧ n + 2 ≤ cur.size ∧ w'.heap[g]? = some (.cells (cur.toList.take n ++ [Value.int .u32 0, Value.int .u32 0] ++ cur.toList.drop (n + 2)).toArray 51 (0, 0)) ∧ Touch w w' g
theorem RowL.inpl {K g : Nat} {xs : List Int} {v : Value} {w w' : World} (h : RowL K xs v w) (ip : InPl w w' g xs.length) : RowL K xs v w' := by
  obtain ⟨cur, hg, hn, hg', ht⟩ := ip
  refine ⟨h.1, ?_⟩
  rcases h.2 with h2 | ⟨g', cap, cur', e, hb, hh, h1, h2, h3, h4⟩
  · exact .inl h2
  · by_cases eg : g' = g
    · subst eg
      rw [hg] at hh
      injection hh with hh
      injection hh with hh
      subst hh
      refine .inr ⟨g', cap, _, e, hb, hg', h1, h2, ?_, ?_⟩
      · rw [← h3]
        simp
        omega
      · have hlen' : xs.length ≤ cur.toList.length := by simp; omega
        rw [← h4, Nat.mul_one, List.append_assoc, List.take_append_of_le_length (by rw [List.length_take]; omega), List.take_take, Nat.min_self]
    · exact .inr ⟨g', cap, cur', e, hb, (ht.other g' (lt_of_heap hh) eg).trans hh, h1, h2, h3, h4⟩
theorem pl_get (l : List Value) (n i : Nat) {z : Value} (hi : i < 2) (hn : n + 2 ≤ l.length) (h : l[i]? = some z) : (l.take n ++ [z, z] ++ l.drop (n + 2))[i]? = some z := by
  rw [List.append_assoc]
  by_cases hin : i < n
  · rw [List.getElem?_append_left (by rw [List.length_take]; omega), List.getElem?_take, if_pos hin]
    exact h
  · rw [List.getElem?_append_right (by rw [List.length_take]; omega), List.length_take, Nat.min_eq_left (by omega), List.getElem?_append_left (by simp; omega)]
    match hk : i - n, (show i - n < 2 by omega) with
    | 0, _ => rfl
    | 1, _ => rfl
theorem ZeroL.inpl {g n : Nat} {v : Value} {w w' : World} (h : ZeroL v w) (ip : InPl w w' g n) : ZeroL v w' := by
  obtain ⟨cur, hg, hn, hg', ht⟩ := ip
  obtain ⟨b, cur', e, hh, z0, z1⟩ := h
  by_cases eg : b = g
  · subst eg
    rw [hg] at hh
    injection hh with hh
    injection hh with hh
    subst hh
    have hn' : n + 2 ≤ cur.toList.length := by simpa using hn
    refine ⟨b, _, e, hg', ?_, ?_⟩
    · rw [List.getElem?_toArray]
      exact pl_get _ n 0 (by omega) hn' (by simpa using z0)
    · rw [List.getElem?_toArray]
      exact pl_get _ n 1 (by omega) hn' (by simpa using z1)
  · exact ⟨b, cur', e, (ht.other b (lt_of_heap hh) eg).trans hh, z0, z1⟩

section
variable {n : Nat} {Ds : List (Option Nat)} {Ps : List Says} {bx : List Bx} {a0 : Act} {w0 : World} {l : Array Bool} {a : Act} {w w' : World} {k d : Nat}
theorem Mid4.fresh {m : Nat} {cur : Array Value} (h : Mid4 n Ds Ps bx a0 w0 l a w) (hτ : ∀ b ∈ bx, BoxOk Try.prog b.τ) (ht : Touch w w' m) (hm : w0.heap.size ≤ m) (hrow : w.heap[m]? = some (.cells cur 51 (0, 0))) (hk : ∀ j, flag l j = true → Ps.getD j (fun _ _ => True) (rd Ds a j) w → Ps.getD j (fun _ _ => True) (rd Ds a j) w') : Mid4 n Ds Ps bx a0 w0 l a w' := by
  obtain ⟨h1, h2, h3, h4, hr, h5, hS, h6, gs, h7, h8⟩ := h
  have hlt := lt_of_heap hrow
  refine ⟨h1, h2, h3, ⟨ht.os.trans h4.os, ht.tape.trans h4.tape, ht.output.trans h4.output, Nat.le_trans h4.size ht.size, fun j hj ho => (ht.other j (Nat.lt_of_lt_of_le hj h4.size) (by omega)).trans (h4.keep j hj ho)⟩, ⟨Nat.le_trans hr.size ht.size, fun p k z e => ?_, fun g cs T hT e => ?_⟩, h5, hS, fun j hj => hk j hj (h6 j hj), gs, fun q b hq hf => ?_, h8⟩
  · have hp := lt_of_cell' e
    rw [World.cell?_of_block (w := w) (ht.other p.block (Nat.lt_of_lt_of_le hp hr.size) (by omega))]
    exact hr.ints p k z e
  · exact (ht.other g (Nat.lt_of_lt_of_le (lt_of_heap e) hr.size) (by have := lt_of_heap e; omega)).trans (hr.rows g cs T hT e)
  · obtain ⟨e1, e2, e3, v, e4, e5⟩ := h7 q b hq hf
    refine ⟨e1, e2, e3, v, e4.touch ht ?_, e5⟩
    intro eg
    obtain ⟨cs, _, hb⟩ := e4
    rw [eg, hrow] at hb
    injection hb with hb
    injection hb with _ hb
    exact (hτ b (List.mem_of_getElem? hq)).ne.1 hb.symm

theorem does_append {t : TypeId} {dst : Option Tmp} {ty : TypeId} {pos : String} {after : Array Edge} {guard : Option (Nat × Bool)} {i j : Nat} {u v r : Value} {R : Value → World → Prop} (h1 : a.eval (.tmp i) = u) (h2 : a.eval (.tmp j) = v) (hr : (Builtin.append_ #[t, t] ty #[u, v]).run Try.prog w = .ok r w') (h : R r w') :
    Does Try.prog { dst, op := .call { callee := .builtin .append, args := #[.tmp i, .tmp j], argTypes := #[t, t] }, type := ty, pos, after, guard } a.eval w R := by
  refine ⟨?_⟩
  unfold Turns execOp
  simp only [resolve, invoke, builtin, Sem.run_bind, Sem.run_pure, Result.andThen_ok, List.map_toArray, List.map_cons, List.map_nil, h1, h2, hr]
  exact h

theorem isl_row {K : Nat} {xs : List Int} {v : Value} {L : Nat} (h : w.ownsRow K 51 1 v (xs.length + 2) (xs.map (Value.int .u32) ++ [Value.int .u32 0, Value.int .u32 0])) (hl : Limb xs) (hL : xs.length + 2 ≤ L) : IsL (val xs) L v w := by
  have hx : xs.map (Value.int .u32) ++ [Value.int .u32 0, Value.int .u32 0] = (xs ++ [0, 0]).map (Value.int .u32) := by simp
  rw [hx] at h
  have ho := ow_of_row (B := K) (zs := xs ++ [0, 0]) (by simpa using h) (limb_append.2 ⟨hl, by intro z hz; simp at hz; omega⟩)
  obtain ⟨ao, cap, hv, h1, h2, h3, h4⟩ := ho.sl
  exact ⟨ao, _, cap, xs ++ [0, 0], hv, ⟨ao, cap, rfl, h1, h2, h3, h4⟩, by rw [val_append]; simp [val], by simpa using hL⟩

theorem app_step {K i j : Nat} {xs : List Int} {ty : TypeId} {pos : String} {after : Array Edge} (h : Mid4 n Ds Ps bx a0 w0 l a w) (hF : Fits n Ds bx) (hI : Inj Ds) (hM : Mono4s Ps) (hτ : ∀ b ∈ bx, BoxOk Try.prog b.τ) (hnd : flag l k = false) (hD : Ds.getD k none = some d) (hb : (bx.all fun b => b.ia != some k && b.st.all fun q => q.1 != k) = true)
    (h4 : RowL K xs (a.eval (.tmp i)) w) (hK : w0.heap.size ≤ K) (hKw : K ≤ w.heap.size) (h5 : ZeroL (a.eval (.tmp j)) w) (hlen : xs.length ≤ 100000) (hl : Limb xs) (hp : Ps.getD k (fun _ _ => True) = IsL (val xs) (xs.length + 2)) (hkeep : ∀ g w'', InPl w w'' g xs.length → ∀ j, flag l j = true → Ps.getD j (fun _ _ => True) (rd Ds a j) w → Ps.getD j (fun _ _ => True) (rd Ds a j) w'') :
    Does Try.prog { dst := some d, op := .call { callee := .builtin .append, args := #[.tmp i, .tmp j], argTypes := #[22, 22] }, type := ty, pos, after, guard := none } a.eval w fun v w' => Mid4 n Ds Ps bx a0 w0 (l.setIfInBounds k true) (a.put (some d) v) w' := by
  obtain ⟨b, cz, ez, hz, z0, z1⟩ := h5
  obtain ⟨i0, hi, hz0, hz1, hz2⟩ := info_parts info32
  have hnews : ∀ (j : Nat) (u : Value), ([Value.int .u32 0, Value.int .u32 0] : List Value)[j]? = some u → w.cell? ((⟨b, 0, none⟩ : Addr).add j) = some u := by
    intro j u hu
    rw [show ((⟨b, 0, none⟩ : Addr).add j) = ⟨b, j, none⟩ from by simp [Addr.add] <;> (intro h; exact h.symm), cell_of_row w b j _ _ (0, 0) hz]
    match j with
    | 0 => rw [z0]; exact hu
    | 1 => rw [z1]; exact hu
    | j + 2 => simp at hu
  have h1 : ∀ u ∈ ([Value.int .u32 0, Value.int .u32 0] : List Value), u.oneCell' = true := by
    intro u hu
    simp at hu
    subst hu
    rfl
  have hown := h4
  by_cases hroom : ∃ g cap, a.eval (.tmp i) = .slice (some ⟨g, 0, none⟩) xs.length cap ∧ xs.length + 2 ≤ cap
  · obtain ⟨g, cap, e4, hroom⟩ := hroom
    rcases h4.2 with ⟨e, _⟩ | ⟨g', cap', cur, e, hKg, hh, hnc, hcm, hcs, htk⟩
    · rw [e4] at e; cases e
    · rw [e4] at e
      simp only [Value.slice.injEq, Option.some.injEq, Addr.mk.injEq, and_true, true_and] at e
      obtain ⟨rfl, rfl⟩ := e
      have hr := run_append_room (P := Try.prog) w 22 ty 51 i0 Try.underlying22 hi g xs.length cap cur hh ⟨b, 0, none⟩ 2 2 [Value.int .u32 0, Value.int .u32 0] (by rw [hz1]; rfl) hnews h1 hroom (by rw [hz1]; simp; omega)
      rw [hz1] at hr
      simp only [Nat.mul_one, List.length_cons, List.length_nil, Nat.zero_add, Nat.reduceAdd] at hr
      refine does_append e4 ez hr ?_
      have hset : (w.setRow g (cur.toList.take xs.length ++ [Value.int .u32 0, Value.int .u32 0] ++ cur.toList.drop (xs.length + 2)).toArray).heap[g]? = some (.cells (cur.toList.take xs.length ++ [Value.int .u32 0, Value.int .u32 0] ++ cur.toList.drop (xs.length + 2)).toArray 51 (0, 0)) := setRow_heap w g cur _ _ _ hh
      have ht : Touch w (w.setRow g (cur.toList.take xs.length ++ [Value.int .u32 0, Value.int .u32 0] ++ cur.toList.drop (xs.length + 2)).toArray) g := ⟨rfl, rfl, rfl, by simp, fun q _ hq => setRow_other w g q _ hq⟩
      have ip : InPl w _ g xs.length := ⟨cur, hh, by omega, hset, ht⟩
      have hmid := h.fresh hτ ht (by omega) hh (hkeep g _ ip)
      refine hmid.norm hF hI hM hnd hD hb (Below.refl _ _) ?_
      rw [hp]
      refine isl_row (K := K) ⟨by simp, .inr ⟨g, cap, _, rfl, hKg, hset, hroom, hcm, ?_, ?_⟩⟩ hl (Nat.le_refl _)
      · simp
        omega
      · simp only [Nat.mul_one] at htk ⊢
        rw [← htk, List.take_append_of_le_length (by simp; omega)]
        rw [List.take_of_length_le (by simp; omega)]
  · obtain ⟨v', w2, hr, ho, hgr, _⟩ := run_append_own (P := Try.prog) w K 22 ty 51 i0 (.int .u32 0) 1 4 Try.underlying22 hi hz0 hz1 hz2 rfl (by decide) (a.eval (.tmp i)) xs.length _ hown ⟨b, 0, none⟩ 2 2 [Value.int .u32 0, Value.int .u32 0] rfl hnews h1 (by unfold maxLen; omega) (by omega) hKw
    have hbw : Below w.heap.size w w2 := by
      rcases h4.2 with ⟨e, hx0⟩ | ⟨g, cap, cur, e, hKg, hh, hnc, hcm, hcs, htk⟩
      · refine (Below.refl w.heap.size w).grown hgr (Nat.le_refl _) ?_
        intro q hq
        rw [e] at hq
        simp [Value.ownBlock] at hq
      · have hg := run_append_grow (P := Try.prog) w 22 ty 51 i0 (.int .u32 0) Try.underlying22 hi hz0 ⟨g, 0, none⟩ xs.length cap (xs.map (Value.int .u32)) (by rw [hz1]; simp) (hown.cells (g := g) (by rw [e]; rfl)) ⟨b, 0, none⟩ 2 2 [Value.int .u32 0, Value.int .u32 0] (by rw [hz1]; rfl) hnews (by
          apply Classical.byContradiction
          intro hc
          exact hroom ⟨g, cap, e, by omega⟩) (by omega) (growslice_fits (by
          apply Classical.byContradiction
          intro hc
          exact hroom ⟨g, cap, e, by omega⟩) (by rw [hz2]; omega))
        rw [e, hg] at hr
        injection hr with _ hr
        rw [← hr]
        exact (Below.drew (Below.refl _ _)).alloc (Nat.le_refl _) _
    refine does_append rfl ez hr (h.norm hF hI hM hnd hD hb hbw ?_)
    rw [hp]
    exact isl_row ho hl (Nat.le_refl _)
end

section
variable {dst : Option Tmp} {ty : TypeId} {pos : String} {after : Array Edge} {guard : Option (Nat × Bool)} {a : Act} {w : World} {ats : Array TypeId} {i j : Nat} {x y z : Int} {L L1 L2 : Nat}
theorem op_zero2 : Does Try.prog { dst, op := .buildSlice 22 2 #[(0, .const (.int .u32 0)), (1, .const (.int .u32 0))], type := ty, pos, after, guard } a.eval w fun v' w' => Below w.heap.size w w' ∧ ZeroL v' w' := by
  have e : (execOp a.eval { dst, op := .buildSlice 22 2 #[(0, .const (.int .u32 0)), (1, .const (.int .u32 0))], type := ty, pos, after, guard }).run Try.prog w = .ok (.value (.slice (some ⟨w.heap.size, 0, none⟩) 2 2)) (w.alloc (.cells #[.int .u32 0, .int .u32 0] 51)) := by
    simp only [execOp, List.map_toArray, List.map_nil, List.map_cons, Act.eval]
    go_simp
  refine ⟨?_⟩
  unfold Turns
  rw [e]
  exact ⟨(Below.refl _ _).alloc (Nat.le_refl _) _, _, _, rfl, heap_alloc_new w _, rfl, rfl⟩
theorem has_lcopy2 : Has Try.prog 39 := by unfold Has; kernel_rfl
theorem op_lcopyr {K : Nat} {ao : Option Addr} {n c : Nat} {xs : List Int} (h : a.eval (.tmp i) = .slice ao n c) (hs : Sl w (.slice ao n c) xs) (hl : xs.length ≤ 1000000) (hK : K ≤ w.heap.size) :
    Does Try.prog { dst, op := .call { callee := .value (.func 39), args := #[.tmp i], argTypes := ats }, type := ty, pos, after, guard } a.eval w fun v w' => Below w.heap.size w w' ∧ RowL K xs v w' := by
  refine does_call has_lcopy2 _ (by simp only [List.map_toArray, List.map_cons, List.map_nil, h]) ((copy_row w ao n c xs hs hl).mono ?_)
  rintro e w' ⟨v, rfl, O, hb⟩
  refine ⟨_, rfl, hb, O.1, ?_⟩
  rcases O.2 with h2 | ⟨g, cap, cur, e, hb, r⟩
  · exact .inl h2
  · exact .inr ⟨g, cap, cur, e, Nat.le_trans hK hb, r⟩
theorem op_bWi {b : Bool} (h1 : a.eval (.tmp i) = .bool b) (h2 : IsL x L (a.eval (.tmp j)) w) (hz : sg b x = z) : Does Try.prog { dst, op := .build 24 #[(0, .tmp i), (1, .tmp j)], type := ty, pos, after, guard } a.eval w fun v' w' => Below w.heap.size w w' ∧ IsW z L v' w' := by
  obtain ⟨ao, n, cap, xs, e, hs, hv, hl⟩ := h2
  exact (op_bW2 h1 e).mono fun v' w' ⟨hb, he⟩ => ⟨hb, b, ao, n, cap, xs, he, ⟨hs.below hb, by rw [hv, hz]⟩, hl⟩
theorem op_stneg {g : Nat} {b c : Bool} {ao : Option Addr} {n cc : Nat} (hp : a.eval (.tmp i) = .pointer (some ⟨g, 0, none⟩)) (hv : a.eval (.tmp j) = .bool c) (hb : BoxV W2 w g (.agg #[.bool b, .slice ao n cc])) :
    Does Try.prog { dst, op := .store 4 (.tmp i) (.tmp j), type := ty, pos, after, guard } a.eval w fun _ w' => BoxV W2 w' g (.agg #[.bool c, .slice ao n cc]) ∧ Only w w' g := by
  have hbx := hb.box
  obtain ⟨b1, b2, b3, b4⟩ := hbx.facts
  have e : (execOp a.eval { dst, op := .store 4 (.tmp i) (.tmp j), type := ty, pos, after, guard }).run Try.prog w = .ok .skip (w.setCell ⟨g, 0, none⟩ (.bool c)) := by
    simp only [execOp, hp, hv]
    go_simp
  refine ⟨?_⟩
  unfold Turns
  rw [e]
  have h1 := heap_setCell_same w g 0 _ _ (.bool c) hbx
  exact ⟨Box.v h1, rfl, rfl, rfl, by simp [World.setCell], fun k hk => Below.heap_setCell _ _ _ _ (by simpa using hk)⟩
noncomputable def wtxt (z : Int) : ByteArray := Classical.epsilon fun s => ∃ ds, IsDec ds (z.natAbs : Int) ∧ s = if z < 0 then strOfNums (45 :: ds) else strOfNums ds
theorem wtxt_eq {z : Int} {ds : List Int} (h : IsDec ds (z.natAbs : Int)) : wtxt z = if z < 0 then strOfNums (45 :: ds) else strOfNums ds := by
  have := Classical.epsilon_spec (p := fun s => ∃ ds, IsDec ds (z.natAbs : Int) ∧ s = if z < 0 then strOfNums (45 :: ds) else strOfNums ds) ⟨_, ds, h, rfl⟩
  obtain ⟨es, he, e⟩ := this
  unfold wtxt
  rw [e, isDec_one he h]
theorem op_wtextz (hx : IsW z L (a.eval (.tmp i)) w) (hl : L ≤ 100000) :
    Does Try.prog { dst, op := .call { callee := .value (.func 41), args := #[.tmp i], argTypes := ats }, type := ty, pos, after, guard } a.eval w fun v w' => Below w.heap.size w w' ∧ Eqs (.string (wtxt z)) v w' := by
  obtain ⟨n1, a1, m1, c1, xs, e1, A1, l1⟩ := hx
  have hv := (val_bounds A1.sl.parts.2.2.2).1
  have e2 : val xs = (z.natAbs : Int) := by
    rw [← A1.worth]
    cases n1 <;> simp [sg] <;> omega
  by_cases hneg : z < 0
  · refine does_call has_wtext _ (by simp only [List.map_toArray, List.map_cons, List.map_nil, e1]) ((wtext_neg w n1 a1 _ c1 xs A1.sl (by omega) (by rw [A1.worth]; exact hneg)).mono ?_)
    rintro e w' ⟨ds, rfl, hd, hb⟩
    rw [e2] at hd
    exact ⟨_, rfl, hb, by rw [Eqs, wtxt_eq hd, if_pos hneg]⟩
  · refine does_call has_wtext _ (by simp only [List.map_toArray, List.map_cons, List.map_nil, e1]) ((wtext_pos w n1 a1 _ c1 xs A1.sl (by omega) (by rw [A1.worth]; exact hneg)).mono ?_)
    rintro e w' ⟨ds, rfl, hd, hb⟩
    rw [e2] at hd
    exact ⟨_, rfl, hb, by rw [Eqs, wtxt_eq hd, if_neg hneg]⟩
theorem op_eqlss {s : ByteArray} (h1 : a.eval (.tmp i) = .string s) (h2 : a.eval (.tmp j) = .string s) :
    Does Try.prog { dst, op := .binOp .eql 9 (.tmp i) (.tmp j) 9, type := ty, pos, after, guard } a.eval w fun v' w' => Below w.heap.size w w' ∧ Eqs (.bool true) v' w' := by
  refine does_bin (v := .bool true) ?_ ?_ ⟨Below.refl _ _, rfl⟩
  · rw [h1, h2]; simp [go_sem]
  · rw [h1, h2]; simp [go_sem]
theorem op_wdiv0 (hx : IsW x L1 (a.eval (.tmp i)) w) (hy : IsW y L2 (a.eval (.tmp j)) w) (h0 : y = 0) :
    Does Try.prog { dst, op := .call { callee := .value (.func 40), args := #[.tmp i, .tmp j], argTypes := ats }, type := ty, pos, after, guard } a.eval w fun v w' => Below w.heap.size w w' ∧ Tup3 (Eqs (.agg #[.bool false, .slice none 0 0])) (Eqs (.agg #[.bool false, .slice none 0 0])) (Eqs (.bool false)) v w' := by
  obtain ⟨n1, a1, m1, c1, xs, e1, A1, l1⟩ := hx
  obtain ⟨n2, a2, m2, c2, ys, e2, A2, l2⟩ := hy
  have hv : val ys = 0 := by
    have h1 := A2.worth
    have h2 := (val_bounds A2.sl.parts.2.2.2).1
    rw [h0] at h1
    cases n2 <;> simp [sg] at h1 <;> omega
  refine does_call has_wdiv _ (by simp only [List.map_toArray, List.map_cons, List.map_nil, e1, e2]) ((wdivmod_none w n1 a1 m1 c1 xs A1.sl n2 a2 m2 c2 ys A2.sl hv).mono ?_)
  rintro e w' ⟨rfl, hb⟩
  exact ⟨_, rfl, hb, _, _, _, rfl, rfl, rfl, rfl⟩
theorem outw_zero {v : Value} (w : World) (h : v = .agg #[.bool false, .slice none 0 0]) : OutW 0 0 v w := ⟨false, none, 0, [], h, wh_nil w, Nat.le_refl _⟩
theorem has_wgcd : Has Try.prog 42 := by unfold Has; kernel_rfl
theorem op_wgcd (hx : IsW x L1 (a.eval (.tmp i)) w) (hy : IsW y L2 (a.eval (.tmp j)) w) (h1 : L1 ≤ 400000) (h2 : L2 ≤ 400000) :
    Does Try.prog { dst, op := .call { callee := .value (.func 42), args := #[.tmp i, .tmp j], argTypes := ats }, type := ty, pos, after, guard } a.eval w fun v w' => Below w.heap.size w w' ∧ OutW ((Int.gcd x y : Nat) : Int) (L1 + L2 + 1) v w' := by
  obtain ⟨n1, a1, m1, c1, xs, e1, A1, l1⟩ := hx
  obtain ⟨n2, a2, m2, c2, ys, e2, A2, l2⟩ := hy
  refine does_call has_wgcd _ (by simp only [List.map_toArray, List.map_cons, List.map_nil, e1, e2]) ((gcd_z w n1 a1 m1 c1 xs x A1 n2 a2 m2 c2 ys y A2 (by omega) (by omega)).mono ?_)
  rintro e w' ⟨ng, ao, cap, rs, rfl, G, l, hb⟩
  exact ⟨_, rfl, hb, _, _, _, _, rfl, G, by omega⟩
theorem ag_flip {w : World} {b c : Bool} {ao : Option Addr} {n cap : Nat} {xs : List Int} {z : Int} (h : Ag w b ao n cap xs z) (h0 : z = 0) : Ag w c ao n cap xs z := by
  refine ⟨h.sl, ?_⟩
  have h1 := h.worth
  have h2 := (val_bounds h.sl.parts.2.2.2).1
  subst h0
  have : val xs = 0 := by cases b <;> simp [sg] at h1 <;> omega
  rw [this]
  cases c <;> simp [sg]
end
end Lm
end Go.Proofs.Ytjhhjefobbhdlaa

namespace Go.Proofs.Ytjhhjefobbhdlaa
namespace Dm
open Go Go.RowKit
theorem Sl.rl {w w' : World} {v : Value} {zs : List Int} (h : Sl w v zs) (hr : Lm.Rl w w') : Sl w' v zs := by
  obtain ⟨ao, cap, rfl, h1, h2, h3, h4⟩ := h
  refine ⟨ao, cap, rfl, h1, h2, h3, ?_⟩
  rcases h4 with h4 | ⟨b, off, rfl, hc⟩
  · exact .inl h4
  · exact .inr ⟨b, off, rfl, fun i hi => hr.ints _ _ _ (hc i hi)⟩
theorem Wh.rl {w w' : World} {ng : Bool} {ao : Option Addr} {cap : Nat} {rs : List Int} {z : Int} (h : Wh w ng ao cap rs z) (hr : Lm.Rl w w') : Wh w' ng ao cap rs z := ⟨⟨h.1.1.rl hr, h.1.2⟩, h.2⟩
theorem pw_small (n : Nat) : pw n ≤ Lm.pw n := by
  induction n with
  | zero => simp [pw, Lm.pw]
  | succ n ih =>
    have := pw_pos n
    simp only [pw, Lm.pw]
    omega
theorem Wh.bound {w : World} {ng : Bool} {ao : Option Addr} {cap : Nat} {rs : List Int} {z : Int} {L : Nat} (h : Wh w ng ao cap rs z) (hl : rs.length ≤ L) : (z.natAbs : Int) < Lm.pw L := by
  have h1 := (val_bounds h.1.canon.1).2
  rw [h.1.val] at h1
  have h2 := pw_mono hl
  have h3 := pw_small L
  omega
theorem Wh.some {w : World} {ng : Bool} {ao : Option Addr} {cap : Nat} {rs : List Int} {z : Int} (h : Wh w ng ao cap rs z) (hz : z ≠ 0) : 0 < rs.length := by
  apply Classical.byContradiction
  intro hn
  exact hz (h.zero.2 (List.eq_nil_of_length_eq_zero (by omega)))
end Dm
namespace Lm
open Go Go.RowKit

/-- The document's own numbers; its fractions. -/
def N2 : BoxTy := ⟨61, .agg #[.bool false, .slice none 0 0], fun v cs => ∃ ng ao n c, v = .agg #[.bool ng, .slice ao n c] ∧ cs = #[.bool ng, .slice ao n c]⟩
theorem N2ok : BoxOk Try.prog N2 where
  noInt := by
    rintro v cs ⟨ng, ao, n, c, rfl, rfl⟩ i k z
    match i with
    | 0 => simp
    | 1 => simp
    | i + 2 => simp
  ne := by unfold N2; exact ⟨by decide, by decide⟩
  alloc := fun w => ⟨#[.bool false, .slice none 0 0], ⟨_, _, _, _, rfl, rfl⟩, by unfold N2; go_simp⟩
  box := by
    rintro w v ⟨cs, ng, ao, n, c, rfl, rfl⟩
    exact ⟨_, ⟨_, _, _, _, rfl, rfl⟩, by unfold N2; go_simp⟩
  store := by
    rintro w g v0 v ⟨cs0, ⟨m, bo, p, d, rfl, rfl⟩, hh⟩ ⟨cs, ng, ao, n, c, rfl, rfl⟩
    have hb : Dm.Box w g m (.slice bo p d) := hh
    obtain ⟨b1, b2, b3, b4⟩ := hb.facts
    refine ⟨(w.setCell ⟨g, 0, none⟩ (.bool ng)).setCell ⟨g, 1, none⟩ (.slice ao n c), ?_, ⟨_, ⟨_, _, _, _, rfl, rfl⟩, hb.set ng (.slice ao n c)⟩, ⟨rfl, rfl, rfl, by simp [World.setCell], fun k hk => ?_⟩⟩
    · unfold N2
      go_simp
    · rw [Below.heap_setCell _ _ _ _ (by simpa using hk), Below.heap_setCell _ _ _ _ (by simpa using hk)]
  load := by
    rintro w g v ⟨cs, ⟨ng, ao, n, c, rfl, rfl⟩, hh⟩
    obtain ⟨b1, b2, b3, b4⟩ := (show Dm.Box w g ng (.slice ao n c) from hh).facts
    unfold N2
    go_simp

theorem q4_facts {w : World} {g : Nat} {x y z u : Value} {T : TypeId} (h : w.heap[g]? = some (.cells #[x, y, z, u] T (0, 0))) : w.cell? ⟨g, 0, none⟩ = some x ∧ w.cell? ⟨g, 1, none⟩ = some y ∧ w.cell? ⟨g, 2, none⟩ = some z ∧ w.cell? ⟨g, 3, none⟩ = some u ∧ w.frozen? ⟨g, 0, none⟩ = false ∧ w.frozen? ⟨g, 1, none⟩ = false ∧ w.frozen? ⟨g, 2, none⟩ = false ∧ w.frozen? ⟨g, 3, none⟩ = false :=
  ⟨by rw [cell_of_row _ _ _ _ _ (0, 0) h]; rfl, by rw [cell_of_row _ _ _ _ _ (0, 0) h]; rfl, by rw [cell_of_row _ _ _ _ _ (0, 0) h]; rfl, by rw [cell_of_row _ _ _ _ _ (0, 0) h]; rfl, frozen_of_row _ _ _ _ _ h, frozen_of_row _ _ _ _ _ h, frozen_of_row _ _ _ _ _ h, frozen_of_row _ _ _ _ _ h⟩
def OutN (z : Int) (L : Nat) : Says := fun v w => ∃ ng ao cap rs, v = .agg #[.bool ng, .slice ao rs.length cap] ∧ Dm.Wh w ng ao cap rs z ∧ rs.length ≤ L
def OutQ (p q : Int) (L : Nat) : Says := fun v w => ∃ ng ao cap rs mg bo dap ss, v = .agg #[.bool ng, .slice ao rs.length cap, .bool mg, .slice bo ss.length dap] ∧ Dm.Wh w ng ao cap rs p ∧ Dm.Wh w mg bo dap ss q ∧ rs.length ≤ L ∧ ss.length ≤ L
theorem OutN.mono4 (z : Int) (L : Nat) : Mono4 (OutN z L) := fun _ _ _ hb ⟨ng, ao, cap, rs, e, h, l⟩ => ⟨ng, ao, cap, rs, e, h.rl hb, l⟩
theorem OutQ.mono4 (p q : Int) (L : Nat) : Mono4 (OutQ p q L) := fun _ _ _ hb ⟨ng, ao, cap, rs, mg, bo, dap, ss, e, h, h', l, l'⟩ => ⟨ng, ao, cap, rs, mg, bo, dap, ss, e, h.rl hb, h'.rl hb, l, l'⟩
theorem OutN.to {z z' : Int} {L L' : Nat} {v : Value} {w : World} (h : OutN z L v w) (e : z = z') (hl : L ≤ L') : OutN z' L' v w := by
  subst e
  obtain ⟨ng, ao, cap, rs, e', h, l⟩ := h
  exact ⟨ng, ao, cap, rs, e', h, Nat.le_trans l hl⟩
theorem OutQ.to {p q p' q' : Int} {L L' : Nat} {v : Value} {w : World} (h : OutQ p q L v w) (e : p = p') (e' : q = q') (hl : L ≤ L') : OutQ p' q' L' v w := by
  subst e e'
  obtain ⟨ng, ao, cap, rs, mg, bo, dap, ss, e, h, h', l, l'⟩ := h
  exact ⟨ng, ao, cap, rs, mg, bo, dap, ss, e, h, h', Nat.le_trans l hl, Nat.le_trans l' hl⟩
theorem OutN.cs {z : Int} {L : Nat} (v : Value) (w : World) (h : OutN z L v w) : ∃ cs, N2.Cs v cs := by
  obtain ⟨ng, ao, cap, rs, rfl, _⟩ := h
  exact ⟨_, _, _, _, _, rfl, rfl⟩
theorem n2_cs {ng : Bool} {ao : Option Addr} {n c : Nat} : ∃ cs, N2.Cs (.agg #[.bool ng, .slice ao n c]) cs := ⟨_, _, _, _, _, rfl, rfl⟩
theorem outn_eq {v : Value} {w : World} {ng : Bool} {ao : Option Addr} {c : Nat} {rs : List Int} {z : Int} {L : Nat} (h : v = .agg #[.bool ng, .slice ao rs.length c]) (hA : Dm.Wh w ng ao c rs z) (hl : rs.length ≤ L) : OutN z L v w := ⟨_, _, _, _, h, hA, hl⟩
theorem outq_eq {v : Value} {w : World} {ng mg : Bool} {ao bo : Option Addr} {c d : Nat} {rs ss : List Int} {p q : Int} {L : Nat} (h : v = .agg #[.bool ng, .slice ao rs.length c, .bool mg, .slice bo ss.length d]) (hA : Dm.Wh w ng ao c rs p) (hB : Dm.Wh w mg bo d ss q) (hl : rs.length ≤ L) (hl' : ss.length ≤ L) : OutQ p q L v w := ⟨_, _, _, _, _, _, _, _, h, hA, hB, hl, hl'⟩
theorem n2_row {w : World} {g : Nat} {ng : Bool} {ao : Option Addr} {n c : Nat} (h : BoxV N2 w g (.agg #[.bool ng, .slice ao n c])) : Dm.Box w g ng (.slice ao n c) := by
  obtain ⟨cs, ⟨_, _, _, _, e, rfl⟩, h⟩ := h
  simp only [Value.agg.injEq] at e
  simp only [Array.mk.injEq, List.cons.injEq, Value.bool.injEq, Value.slice.injEq, and_true] at e
  obtain ⟨rfl, rfl, rfl, rfl⟩ := e
  exact h
theorem lv_N2 {w : World} {g : Nat} {v : Value} (h : BoxV N2 w g v) : (loadVar 61 ⟨g, 0, none⟩).run Try.prog w = .ok v w := by
  obtain ⟨cs, ⟨ng, ao, n, c, rfl, rfl⟩, hh⟩ := h
  obtain ⟨b1, b2, b3, b4⟩ := (show Dm.Box w g ng (.slice ao n c) from hh).facts
  go_simp
section
variable {dst : Option Tmp} {ty : TypeId} {pos : String} {after : Array Edge} {guard : Option (Nat × Bool)} {a : Act} {w : World} {ats : Array TypeId} {i j k g : Nat} {x y z p q : Int} {L L1 L2 : Nat}
theorem op_faN {f off : Nat} (hf : ∀ w : World, (Instr.fieldAt 61 (.pointer (some ⟨g, 0, none⟩)) f).run Try.prog w = .ok (.pointer (some ⟨g, off, none⟩)) w) (hp : a.eval (.tmp k) = .pointer (some ⟨g, 0, none⟩)) :
    Does Try.prog { dst, op := .fieldAddr 61 (.tmp k) f, type := ty, pos, after, guard } a.eval w fun v' w' => Below w.heap.size w w' ∧ Eqs (.pointer (some ⟨g, off, none⟩)) v' w' := by
  refine ⟨?_⟩
  unfold Turns
  simp only [execOp, hp]
  simp [hf]
  exact ⟨Below.refl _ _, rfl⟩
theorem fa_nneg (w : World) : (Instr.fieldAt 61 (.pointer (some ⟨g, 0, none⟩)) 0).run Try.prog w = .ok (.pointer (some ⟨g, 0, none⟩)) w := by go_simp
theorem op_ldnneg {ng : Bool} {ao : Option Addr} {n c : Nat} (hp : a.eval (.tmp k) = .pointer (some ⟨g, 0, none⟩)) (hb : BoxV N2 w g (.agg #[.bool ng, .slice ao n c])) :
    Does Try.prog { dst, op := .load 4 (.tmp k), type := ty, pos, after, guard } a.eval w fun v' w' => Below w.heap.size w w' ∧ Eqs (.bool ng) v' w' := by
  obtain ⟨b1, b2, b3, b4⟩ := (n2_row hb).facts
  refine does_load (v := .bool ng) ?_ ⟨Below.refl _ _, rfl⟩
  rw [hp]
  go_simp
theorem has_nof : Has Try.prog 44 := by unfold Has; kernel_rfl
theorem op_nof (h : IsW z L (a.eval (.tmp i)) w) (hL : L ≤ 100000) :
    Does Try.prog { dst, op := .call { callee := .value (.func 44), args := #[.tmp i], argTypes := ats }, type := ty, pos, after, guard } a.eval w fun v w' => Below w.heap.size w w' ∧ OutN z (3 * L) v w' := by
  obtain ⟨n1, a1, m1, c1, xs, e1, A1, l1⟩ := h
  refine does_call has_nof _ (by simp only [List.map_toArray, List.map_cons, List.map_nil, e1]) ((Dm.nof_z w _ _ _ _ xs z A1 (by omega)).mono ?_)
  rintro e w' ⟨ng, ao, cap, rs, rfl, G, l, hb⟩
  exact ⟨_, rfl, hb, _, _, _, _, rfl, G, by omega⟩
theorem has_nint : Has Try.prog 46 := by unfold Has; kernel_rfl
theorem op_nint {v : Int} (h1 : -9223372036854775808 ≤ v) (h2 : v ≤ 9223372036854775807) :
    Does Try.prog { dst, op := .call { callee := .value (.func 46), args := #[.const (.int .i64 v)], argTypes := ats }, type := ty, pos, after, guard } a.eval w fun v' w' => Below w.heap.size w w' ∧ OutN v 5 v' w' := by
  refine does_call has_nint _ (by simp only [List.map_toArray, List.map_cons, List.map_nil, Act.eval]) ((Dm.nint_any w v h1 h2).mono ?_)
  rintro e w' ⟨ng, ao, cap, rs, rfl, G, l, hb⟩
  exact ⟨_, rfl, hb, _, _, _, _, rfl, G, l⟩
theorem has_nsign : Has Try.prog 51 := by unfold Has; kernel_rfl
theorem op_nsign (h : OutN z L (a.eval (.tmp i)) w) :
    Does Try.prog { dst, op := .call { callee := .value (.func 51), args := #[.tmp i], argTypes := ats }, type := ty, pos, after, guard } a.eval w fun v w' => Below w.heap.size w w' ∧ Eqs (.int .i64 (Int.sign z)) v w' := by
  obtain ⟨ng, ao, cap, rs, e1, W, l⟩ := h
  refine does_call has_nsign _ (by simp only [List.map_toArray, List.map_cons, List.map_nil, e1]) ((Dm.nsign_z w _ _ _ _ _ W).mono ?_)
  rintro e w' ⟨rfl, hb⟩
  exact ⟨_, rfl, hb, rfl⟩
theorem has_nminus : Has Try.prog 58 := by unfold Has; kernel_rfl
theorem op_nminus (h : OutN z L (a.eval (.tmp i)) w) (hL : L ≤ 1000000) :
    Does Try.prog { dst, op := .call { callee := .value (.func 58), args := #[.tmp i], argTypes := ats }, type := ty, pos, after, guard } a.eval w fun v w' => Below w.heap.size w w' ∧ OutN (-z) L v w' := by
  obtain ⟨ng, ao, cap, rs, e1, W, l⟩ := h
  refine does_call has_nminus _ (by simp only [List.map_toArray, List.map_cons, List.map_nil, e1]) ((Dm.minus_g w _ _ _ _ _ W (by omega)).mono ?_)
  rintro e w' ⟨ng, ao, cap, rs, rfl, G, l, hb⟩
  exact ⟨_, rfl, hb, _, _, _, _, rfl, G, by omega⟩
theorem has_ntold : Has Try.prog 54 := by unfold Has; kernel_rfl
theorem op_ntold (h : OutN z L (a.eval (.tmp i)) w) (hL : L ≤ 1000000) :
    Does Try.prog { dst, op := .call { callee := .value (.func 54), args := #[.tmp i], argTypes := ats }, type := ty, pos, after, guard } a.eval w fun v w' => Below w.heap.size w w' ∧ OutW z L v w' := by
  obtain ⟨ng, ao, cap, rs, e1, W, l⟩ := h
  refine does_call has_ntold _ (by simp only [List.map_toArray, List.map_cons, List.map_nil, e1]) ((Dm.told_g w _ _ _ _ _ W L (W.bound l) hL (by omega)).mono ?_)
  rintro e w' ⟨bo, dap, ls, rfl, F, l2, hb⟩
  exact ⟨_, rfl, hb, _, _, _, _, rfl, F.wh, l2⟩
theorem has_nlimbs : Has Try.prog 76 := by unfold Has; kernel_rfl
theorem op_nlimbs (h : OutN z L (a.eval (.tmp i)) w) (hL : L ≤ 1000000) (hz : 0 < z) :
    Does Try.prog { dst, op := .call { callee := .value (.func 76), args := #[.tmp i], argTypes := ats }, type := ty, pos, after, guard } a.eval w fun v w' => Below w.heap.size w w' ∧ OutL z L v w' := by
  obtain ⟨ng, ao, cap, rs, e1, W, l⟩ := h
  have hb := W.bound l
  refine does_call has_nlimbs _ (by simp only [List.map_toArray, List.map_cons, List.map_nil, e1]) ((Dm.limbs_loop w ng ao cap rs _ W.1 L hb hL (by omega) (W.some (by omega))).mono ?_)
  rintro e w' ⟨v, rfl, I, hb'⟩
  obtain ⟨ao, cap, rs, rfl, G⟩ := I.got
  have e3 : ((z.natAbs : Nat) : Int) = z := by omega
  refine ⟨_, rfl, hb', _, _, _, rfl, e3 ▸ G, canon_len G.canon (by rw [G.val]; exact hb)⟩
end

end Lm
end Go.Proofs.Ytjhhjefobbhdlaa

namespace Go.Proofs.Ytjhhjefobbhdlaa
namespace Lm
open Go.RowKit

theorem boxed3a (w : World) (nx : Bool) (vx : Value) (ny : Bool) (vy : Value) (nz : Bool) (vz : Value) : ∃ w0 : World, ((w.alloc (.cells #[.bool nx, vx] 24)).alloc (.cells #[.bool ny, vy] 24)).alloc (.cells #[.bool nz, vz] 24) = w0 ∧ Box w0 w.heap.size nx vx ∧ Box w0 (w.heap.size + 1) ny vy ∧ Box w0 (w.heap.size + 1 + 1) nz vz ∧ Below w.heap.size w w0 ∧ w0.heap.size = w.heap.size + 3 := by
  obtain ⟨w2, e2, b1, b2, hb, hs⟩ := boxed2 w nx vx ny vy
  have h2 := boxed w2 nz vz
  rw [e2]
  refine ⟨_, rfl, b1.below h2.2.1, b2.below h2.2.1, ?_, hb.trans (h2.2.1.mono (by omega)), by rw [h2.2.2, hs]⟩
  have h3 := h2.1
  rw [hs] at h3
  exact h3

theorem wrap_in {x : Int} (h1 : -9223372036854775808 ≤ x) (h2 : x ≤ 9223372036854775807) : IntKind.i64.wrap x = x := by
  simp [IntKind.wrap, IntKind.bits, IntKind.signed]
  omega

theorem cmpI_not_pos {x y : Int} (h : x ≤ y) : ¬ 0 < cmpI x y := by
  rcases Int.lt_trichotomy x y with h1 | h1 | h1
  · rw [cmpI_lt h1]; omega
  · rw [cmpI_eq h1]; omega
  · omega

theorem cmpI_zero (x : Int) : cmpI x 0 = Int.sign x := by
  rcases Int.lt_trichotomy x 0 with h | h | h
  · rw [cmpI_lt h, Int.sign_eq_neg_one_of_neg h]
  · rw [h]; rfl
  · rw [cmpI_gt h, Int.sign_eq_one_of_pos h]

end Lm
end Go.Proofs.Ytjhhjefobbhdlaa
