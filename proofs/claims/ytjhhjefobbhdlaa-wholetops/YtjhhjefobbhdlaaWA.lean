/-
  Whole numbers: a sign and a list of limbs; the contracts of signed, Trim, Neg, Sign and SameWhole.
-/
import Derived.Test.YtjhhjefobbhdlaaWrap
import Derived.Deep.QuietTactic
import Derived.BigQuiet
import Derived.Deep.RegionWith
import Derived.Deep.RegionHeld3
namespace Go.Proofs.Ytjhhjefobbhdlaa
namespace Lm
open Go.RowKit

/-- What a sign and a magnitude are worth. -/
def sg (ng : Bool) (x : Int) : Int := if ng then -x else x

/-- A number in its one form that is worth z. -/
def Wh (w : World) (ng : Bool) (ao : Option Addr) (cap : Nat) (rs : List Int) (z : Int) : Prop := Got w ao cap rs (z.natAbs : Int) ∧ ng = decide (z < 0)

theorem Wh.sl {w : World} {ng : Bool} {ao : Option Addr} {cap : Nat} {rs : List Int} {z : Int} (h : Wh w ng ao cap rs z) : Sl w (.slice ao rs.length cap) rs := h.1.sl

theorem Wh.below {w w' : World} {ng : Bool} {ao : Option Addr} {cap : Nat} {rs : List Int} {z : Int} (h : Wh w ng ao cap rs z) (hb : Below w.heap.size w w') : Wh w' ng ao cap rs z := ⟨h.1.below hb, h.2⟩

theorem Wh.worth {w : World} {ng : Bool} {ao : Option Addr} {cap : Nat} {rs : List Int} {z : Int} (h : Wh w ng ao cap rs z) : sg ng (Lm.val rs) = z := by
  rw [h.1.val, h.2, sg]
  by_cases hz : z < 0
  · simp [hz]; omega
  · simp [hz]; omega

theorem Wh.of {w : World} {ao : Option Addr} {cap : Nat} {rs : List Int} {x : Int} (ng : Bool) (h : Got w ao cap rs x) : Wh w (ng && decide (0 < rs.length)) ao cap rs (sg ng x) := by
  have h0 : 0 ≤ x := by rw [← h.val]; exact (val_bounds h.canon.1).1
  have hz := canon_zero h.canon
  rw [h.val] at hz
  have hl : rs = [] ↔ rs.length = 0 := List.length_eq_zero_iff.symm
  cases ng with
  | false =>
    refine ⟨?_, ?_⟩
    · have e : ((sg false x).natAbs : Int) = x := by simp [sg]; omega
      rw [e]; exact h
    · simp [sg]; omega
  | true =>
    refine ⟨?_, ?_⟩
    · have e : ((sg true x).natAbs : Int) = x := by simp [sg]; omega
      rw [e]; exact h
    · have e3 : (0 < rs.length) ↔ (sg true x < 0) := by
        simp only [sg, if_true]
        constructor
        · intro h1
          have : x ≠ 0 := fun h2 => by have := hl.1 (hz.1 h2); omega
          omega
        · intro h1
          have : rs.length ≠ 0 := fun h2 => by have := hz.2 (hl.2 h2); omega
          omega
      rw [Bool.true_and]
      exact decide_eq_decide.2 e3

set_option maxRecDepth 20000 in
set_option maxHeartbeats 400000 in
theorem signed_any (w : World) (ng : Bool) (ao : Option Addr) (n cap : Nat) (hn : n ≤ 1000000) :
    Calls Try.prog 48 #[.bool ng, .slice ao n cap] w fun e w' => e = .returned (.agg #[.bool (ng && decide (0 < n)), .slice ao n cap]) ∧ Below w.heap.size w w' := by
  cases ng with
  | false =>
    go_enter Try.func48, Try.ntmps48
    go_wp2
    refine bodyPost_ret (v := .agg #[.bool false, .slice ao n cap]) (by simp [results, Try.results48, go_sem]) rfl ⟨by simp, ?_⟩
    exact (Below.refl _ _).alloc (Nat.le_refl _) _
  | true =>
    by_cases h0 : 0 < n
    · have h1 : (0 : Int) < (n : Int) := by omega
      have h2 : Hid (decide (0 < n) = true) := decide_eq_true h0
      go_enter Try.func48, Try.ntmps48
      go_wp2
      refine bodyPost_ret (v := .agg #[.bool true, .slice ao n cap]) (by simp [results, Try.results48, go_sem]) rfl ⟨by rw [h2.out]; rfl, ?_⟩
      exact (Below.refl _ _).alloc (Nat.le_refl _) _
    · have h1 : ¬ (0 : Int) < (n : Int) := by omega
      go_enter Try.func48, Try.ntmps48
      go_wp2
      refine bodyPost_ret (v := .agg #[.bool false, .slice ao n cap]) (by simp [results, Try.results48, go_sem]) rfl ⟨by simp, ?_⟩
      exact (Below.refl _ _).alloc (Nat.le_refl _) _

theorem signed_g (w : World) (ng : Bool) (ao : Option Addr) (cap : Nat) (rs : List Int) (x : Int) (h : Got w ao cap rs x) (hn : rs.length ≤ 1000000) :
    Calls Try.prog 48 #[.bool ng, .slice ao rs.length cap] w fun e w' => ∃ ng', e = .returned (.agg #[.bool ng', .slice ao rs.length cap]) ∧ Wh w' ng' ao cap rs (sg ng x) ∧ Below w.heap.size w w' := by
  refine (signed_any w ng ao rs.length cap hn).mono ?_
  rintro e w' ⟨rfl, hb⟩
  exact ⟨_, rfl, Wh.of ng (h.below hb), hb⟩

/-- A block that holds a whole number. -/
def Box (w : World) (g : Nat) (ng : Bool) (v : Value) : Prop := w.heap[g]? = some (.cells #[.bool ng, v] 24 (0, 0))

theorem Box.below {w w' : World} {g : Nat} {ng : Bool} {v : Value} (h : Box w g ng v) (hb : Below w.heap.size w w') : Box w' g ng v := (hb.block g (lt_of_heap h)).trans h
theorem Box.facts {w : World} {g : Nat} {ng : Bool} {v : Value} (h : Box w g ng v) : w.cell? ⟨g, 0, none⟩ = some (.bool ng) ∧ w.cell? ⟨g, 1, none⟩ = some v ∧ w.frozen? ⟨g, 0, none⟩ = false ∧ w.frozen? ⟨g, 1, none⟩ = false :=
  ⟨by rw [cell_of_row _ _ _ _ _ (0, 0) h]; rfl, by rw [cell_of_row _ _ _ _ _ (0, 0) h]; rfl, frozen_of_row _ _ _ _ _ h, frozen_of_row _ _ _ _ _ h⟩

theorem Box.set {w : World} {g : Nat} {ng : Bool} {v : Value} (h : Box w g ng v) (b : Bool) (u : Value) : Box ((w.setCell ⟨g, 0, none⟩ (.bool b)).setCell ⟨g, 1, none⟩ u) g b u := by
  have h1 := heap_setCell_same w g 0 _ _ (.bool b) h
  have h2 := heap_setCell_same _ g 1 _ _ u h1
  exact h2

theorem Sl.setCell {w : World} {v : Value} {zs : List Int} (h : Sl w v zs) {p : Addr} {u0 : Value} (hp : w.cell? p = some u0) (hne : ∀ z, u0 ≠ .int .u32 z) (u : Value) : Sl (w.setCell p u) v zs := by
  obtain ⟨ao, cap, rfl, h1, h2, h3, h4⟩ := h
  refine ⟨ao, cap, rfl, h1, h2, h3, ?_⟩
  rcases h4 with h4 | ⟨b, off, rfl, hc⟩
  · exact .inl h4
  · refine .inr ⟨b, off, rfl, fun i hi => ?_⟩
    have hd : p ≠ ⟨b, off + i, none⟩ := by
      intro e
      have h5 := hc i hi
      rw [← e, hp] at h5
      exact hne _ (Option.some.inj h5)
    rw [World.cell?_setCell_other _ _ _ _ hd]
    exact hc i hi

theorem Box.sl {w : World} {g : Nat} {ng : Bool} {ao : Option Addr} {n cap : Nat} (h : Box w g ng (.slice ao n cap)) (b : Bool) (u : Value) {v : Value} {zs : List Int} (hs : Sl w v zs) : Sl ((w.setCell ⟨g, 0, none⟩ (.bool b)).setCell ⟨g, 1, none⟩ u) v zs := by
  refine (hs.setCell h.facts.1 (fun z => by simp) _).setCell (u0 := .slice ao n cap) ?_ (fun z => by simp) _
  rw [World.cell?_setCell_other _ _ _ _ (by simp)]
  exact h.facts.2.1

theorem Box.wh {w : World} {g : Nat} {ng : Bool} {ao : Option Addr} {n cap : Nat} (h : Box w g ng (.slice ao n cap)) (b : Bool) (u : Value) {nz : Bool} {az : Option Addr} {cz : Nat} {rs : List Int} {z : Int} (hs : Wh w nz az cz rs z) : Wh ((w.setCell ⟨g, 0, none⟩ (.bool b)).setCell ⟨g, 1, none⟩ u) nz az cz rs z :=
  ⟨⟨h.sl b u hs.1.1, hs.1.2⟩, hs.2⟩

theorem below_set2 {B : Nat} {w w1 : World} {g : Nat} (hb : Below B w w1) (hg : B ≤ g) (b u : Value) : Below B w ((w1.setCell ⟨g, 0, none⟩ b).setCell ⟨g, 1, none⟩ u) := (hb.setCell hg _).setCell hg _

/-- The worlds behind an entry: blocks for what is handed in and for the answer. -/
theorem boxed (w : World) (ng : Bool) (v : Value) : Box (w.alloc (.cells #[.bool ng, v] 24)) w.heap.size ng v ∧ Below w.heap.size w (w.alloc (.cells #[.bool ng, v] 24)) ∧ (w.alloc (.cells #[.bool ng, v] 24)).heap.size = w.heap.size + 1 :=
  ⟨heap_alloc_new w _, (Below.refl _ _).alloc (Nat.le_refl _) _, by simp⟩

theorem boxed1 (w : World) (ng : Bool) (v : Value) : ∃ w0 : World, (w.alloc (.cells #[.bool ng, v] 24)).alloc (.cells #[.bool false, .slice none 0 0] 24) = w0 ∧ Box w0 w.heap.size ng v ∧ Box w0 (w.heap.size + 1) false (.slice none 0 0) ∧ Below w.heap.size w w0 ∧ w0.heap.size = w.heap.size + 2 := by
  have h1 := boxed w ng v
  have h2 := boxed (w.alloc (.cells #[.bool ng, v] 24)) false (.slice none 0 0)
  rw [h1.2.2] at h2
  refine ⟨_, rfl, h1.1.below (by rw [h1.2.2]; exact h2.2.1), h2.1, h1.2.1.trans (h2.2.1.mono (by omega)), h2.2.2⟩

set_option maxRecDepth 20000 in
set_option maxHeartbeats 400000 in
theorem wtrim_g (w : World) (ng : Bool) (ao : Option Addr) (n cap : Nat) (zs : List Int) (h : Sl w (.slice ao n cap) zs) (hz : zs.length ≤ 1000000) :
    Calls Try.prog 12 #[.agg #[.bool ng, .slice ao n cap]] w fun e w' => ∃ ng' ao cap rs, e = .returned (.agg #[.bool ng', .slice ao rs.length cap]) ∧ Wh w' ng' ao cap rs (sg ng (val zs)) ∧ rs.length ≤ zs.length ∧ Below w.heap.size w w' := by
  obtain ⟨w0, e0, bx, br, hb0, hs0⟩ := boxed1 w ng (.slice ao n cap)
  have E0 := hide e0
  have HS := hide hs0
  have h0 := h.below hb0
  clear e0 hs0
  go_enter Try.func12, Try.ntmps12
  go_wp2_with fail
  rw [E0.out]
  obtain ⟨c0, c1, f0, f1⟩ := bx.facts
  obtain ⟨d0, d1, g0, g1⟩ := br.facts
  go_region_held3 (fun w' => w'.cell? ⟨w.heap.size, 0, none⟩ = some (.bool ng) ∧ w'.cell? ⟨w.heap.size, 1, none⟩ = some (.slice ao n cap)) (go_keep) (first
    | (go_at_call 49; refine (trim_g _ _ _ _ zs (h0.below (by repeat (first | exact Below.refl _ _ | refine Below.drew ?_))) hz).mono ?_; rintro e w1 ⟨p1, q1, r1, rfl, G1, l1, hb1⟩; have hb1' : Below w0.heap.size w0 w1 := (show Below w0.heap.size w0 _ by repeat (first | exact Below.refl _ _ | refine Below.drew ?_)).trans hb1; have bx1 := bx.below hb1'; have br1 := br.below hb1'; obtain ⟨i0, i1, j0, j1⟩ := bx1.facts)
    | (go_at_call 48; refine (signed_g _ _ _ _ r1 _ (G1.below (by repeat (first | exact Below.refl _ _ | refine Below.drew ?_))) (by omega)).mono ?_; rintro e w2 ⟨ng2, rfl, G2, hb2⟩; have hb2' : Below w1.heap.size w1 w2 := (show Below w1.heap.size w1 _ by repeat (first | exact Below.refl _ _ | refine Below.drew ?_)).trans hb2; have bx2 := bx1.below hb2'; have br2 := br1.below hb2'; obtain ⟨k0, k1, m0, m1⟩ := br2.facts; obtain ⟨o0, o1, t0, t1⟩ := bx2.facts))
  all_goals
    have X := hide (br2.set ng2 (.slice p1 r1.length q1)).facts
    have Y := hide (br2.wh ng2 (.slice p1 r1.length q1) G2)
    have Z := hide (below_set2 (hb0.trans ((hb1'.trans (hb2'.mono hb1'.size)).mono hb0.size)) (Nat.le_succ _) (.bool ng2) (.slice p1 r1.length q1))
    clear k0 k1 m0 m1 o0 o1 t0 t1 i0 i1 j0 j1 c0 c1 f0 f1 d0 d1 g0 g1
    go_wp2
    refine bodyPost_ret (v := .agg #[.bool ng2, .slice p1 r1.length q1]) ?_ rfl ⟨ng2, p1, q1, r1, rfl, Y.out, l1, Z.out⟩
    simp [results, Try.results12, go_sem, X.out.1, X.out.2.1]

end Lm
end Go.Proofs.Ytjhhjefobbhdlaa
