/-
  The contract of the reference's DivMod on lists of limbs. The contracts of takeTimes and addBack. The contracts of addBack, moveUp and LeadingZeros32. The contracts of LeadingZeros32 and moveUp.
-/
import Derived.Test.YthbomfboohjcfaaROps
import Derived.Test.YthbomfboohjcfaaDDm
import Derived.Test.YthbomfboohjcfaaWrap
import Derived.Deep.QuietTactic
import Derived.BigQuiet
namespace Go.Proofs.Ythbomfboohjcfaa
namespace Dm
open Go.RowKit
open Lm (hide lt_of_cell lt_of_heap cmpI cmpI_lt cmpI_gt)

theorem below_al {w w' : World} (h : Below w.heap.size w w') (o : Obj) : Below w.heap.size w (w'.alloc o) := h.alloc h.size o
theorem below_then {w w' w'' : World} (h : Below w.heap.size w w') (h2 : Below w'.heap.size w' w'') : Below w.heap.size w w'' := h.trans (h2.mono h.size)

theorem box_pair (w : World) : Box ((w.alloc (.cells #[.bool false, .slice none 0 0] 56)).alloc (.cells #[.bool false, .slice none 0 0] 56)) w.heap.size false (.slice none 0 0) ∧ Box ((w.alloc (.cells #[.bool false, .slice none 0 0] 56)).alloc (.cells #[.bool false, .slice none 0 0] 56)) (w.heap.size + 1) false (.slice none 0 0) := by
  obtain ⟨w0, e0, b1, b2, _, _⟩ := boxed2 w false (.slice none 0 0) false (.slice none 0 0)
  rw [e0]
  exact ⟨b1, b2⟩

theorem size_set2 (w : World) (g : Nat) (a b : Value) : ((w.setCell ⟨g, 0, none⟩ a).setCell ⟨g, 1, none⟩ b).heap.size = w.heap.size := by simp [World.setCell]

theorem ends1 {w7 w9 : World} {sp st : Bool} {pp pt : Option Addr} {qp qt : Nat} {rp rt : List Int} {zp zt : Int} (H : Below w7.heap.size w7 w9) (GP : Wh w9 sp pp qp rp zp) (GT : Wh w9 st pt qt rt zt) : Below w7.heap.size w7 ((w9.alloc (.cells #[.bool sp, .slice pp rp.length qp] 56)).alloc (.cells #[.bool st, .slice pt rt.length qt] 56)) ∧ Box ((w9.alloc (.cells #[.bool sp, .slice pp rp.length qp] 56)).alloc (.cells #[.bool st, .slice pt rt.length qt] 56)) w9.heap.size sp (.slice pp rp.length qp) ∧ Box ((w9.alloc (.cells #[.bool sp, .slice pp rp.length qp] 56)).alloc (.cells #[.bool st, .slice pt rt.length qt] 56)) (w9.heap.size + 1) st (.slice pt rt.length qt) ∧ Wh ((w9.alloc (.cells #[.bool sp, .slice pp rp.length qp] 56)).alloc (.cells #[.bool st, .slice pt rt.length qt] 56)) sp pp qp rp zp ∧ Wh ((w9.alloc (.cells #[.bool sp, .slice pp rp.length qp] 56)).alloc (.cells #[.bool st, .slice pt rt.length qt] 56)) st pt qt rt zt := by
  obtain ⟨w0, e0, b1, b2, hb, _⟩ := boxed2 w9 sp (.slice pp rp.length qp) st (.slice pt rt.length qt)
  rw [e0]
  exact ⟨below_then H hb, b1, b2, GP.below hb, GT.below hb⟩

theorem ends1' {w7 w9 : World} {sp st : Bool} {pp pt : Option Addr} {qp qt : Nat} {rp rt : List Int} {zp zt : Int} (H : Below w7.heap.size w7 w9) (GP : Wh w9 sp pp qp rp zp) (GT : Wh w9 st pt qt rt zt) : Below w7.heap.size w7 ((w9.alloc (.cells #[.bool st, .slice pt rt.length qt] 56)).alloc (.cells #[.bool sp, .slice pp rp.length qp] 56)) ∧ Box ((w9.alloc (.cells #[.bool st, .slice pt rt.length qt] 56)).alloc (.cells #[.bool sp, .slice pp rp.length qp] 56)) (w9.heap.size + 1) sp (.slice pp rp.length qp) ∧ Box ((w9.alloc (.cells #[.bool st, .slice pt rt.length qt] 56)).alloc (.cells #[.bool sp, .slice pp rp.length qp] 56)) w9.heap.size st (.slice pt rt.length qt) ∧ Wh ((w9.alloc (.cells #[.bool st, .slice pt rt.length qt] 56)).alloc (.cells #[.bool sp, .slice pp rp.length qp] 56)) sp pp qp rp zp ∧ Wh ((w9.alloc (.cells #[.bool st, .slice pt rt.length qt] 56)).alloc (.cells #[.bool sp, .slice pp rp.length qp] 56)) st pt qt rt zt := by
  obtain ⟨w0, e0, b1, b2, hb, _⟩ := boxed2 w9 st (.slice pt rt.length qt) sp (.slice pp rp.length qp)
  rw [e0]
  exact ⟨below_then H hb, b2, b1, GP.below hb, GT.below hb⟩

theorem ends2 {w7 w9 : World} {sp st : Bool} {pp pt : Option Addr} {qp qt : Nat} {rp rt : List Int} {zp zt : Int} (H : Below w7.heap.size w7 w9) (GP : Wh w9 sp pp qp rp zp) (GT : Wh w9 st pt qt rt zt) {g : Nat} (bn : Box w9 g false (.slice none 0 0)) (hg : w7.heap.size ≤ g) : Below w7.heap.size w7 (((w9.setCell ⟨g, 0, none⟩ (.bool sp)).setCell ⟨g, 1, none⟩ (.slice pp rp.length qp)).alloc (.cells #[.bool st, .slice pt rt.length qt] 56)) ∧ Box (((w9.setCell ⟨g, 0, none⟩ (.bool sp)).setCell ⟨g, 1, none⟩ (.slice pp rp.length qp)).alloc (.cells #[.bool st, .slice pt rt.length qt] 56)) g sp (.slice pp rp.length qp) ∧ Box (((w9.setCell ⟨g, 0, none⟩ (.bool sp)).setCell ⟨g, 1, none⟩ (.slice pp rp.length qp)).alloc (.cells #[.bool st, .slice pt rt.length qt] 56)) w9.heap.size st (.slice pt rt.length qt) ∧ Wh (((w9.setCell ⟨g, 0, none⟩ (.bool sp)).setCell ⟨g, 1, none⟩ (.slice pp rp.length qp)).alloc (.cells #[.bool st, .slice pt rt.length qt] 56)) sp pp qp rp zp ∧ Wh (((w9.setCell ⟨g, 0, none⟩ (.bool sp)).setCell ⟨g, 1, none⟩ (.slice pp rp.length qp)).alloc (.cells #[.bool st, .slice pt rt.length qt] 56)) st pt qt rt zt := by
  have b1 := bn.set sp (.slice pp rp.length qp)
  have H1 := below_set2 H hg (.bool sp) (.slice pp rp.length qp)
  have g1 := bn.wh sp (.slice pp rp.length qp) GP
  have g2 := bn.wh sp (.slice pp rp.length qp) GT
  have hs := size_set2 w9 g (.bool sp) (.slice pp rp.length qp)
  generalize ((w9.setCell ⟨g, 0, none⟩ (.bool sp)).setCell ⟨g, 1, none⟩ (.slice pp rp.length qp)) = wa at *
  obtain ⟨w0, e0, b2, hb, _⟩ := boxed0 wa st (.slice pt rt.length qt)
  rw [e0]
  rw [hs] at b2
  exact ⟨below_then H1 hb, b1.below hb, b2, g1.below hb, g2.below hb⟩

theorem ends2' {w7 w9 : World} {sp st : Bool} {pp pt : Option Addr} {qp qt : Nat} {rp rt : List Int} {zp zt : Int} (H : Below w7.heap.size w7 w9) (GP : Wh w9 sp pp qp rp zp) (GT : Wh w9 st pt qt rt zt) {g : Nat} (bn : Box w9 g false (.slice none 0 0)) (hg : w7.heap.size ≤ g) : Below w7.heap.size w7 (((w9.setCell ⟨g, 0, none⟩ (.bool st)).setCell ⟨g, 1, none⟩ (.slice pt rt.length qt)).alloc (.cells #[.bool sp, .slice pp rp.length qp] 56)) ∧ Box (((w9.setCell ⟨g, 0, none⟩ (.bool st)).setCell ⟨g, 1, none⟩ (.slice pt rt.length qt)).alloc (.cells #[.bool sp, .slice pp rp.length qp] 56)) w9.heap.size sp (.slice pp rp.length qp) ∧ Box (((w9.setCell ⟨g, 0, none⟩ (.bool st)).setCell ⟨g, 1, none⟩ (.slice pt rt.length qt)).alloc (.cells #[.bool sp, .slice pp rp.length qp] 56)) g st (.slice pt rt.length qt) ∧ Wh (((w9.setCell ⟨g, 0, none⟩ (.bool st)).setCell ⟨g, 1, none⟩ (.slice pt rt.length qt)).alloc (.cells #[.bool sp, .slice pp rp.length qp] 56)) sp pp qp rp zp ∧ Wh (((w9.setCell ⟨g, 0, none⟩ (.bool st)).setCell ⟨g, 1, none⟩ (.slice pt rt.length qt)).alloc (.cells #[.bool sp, .slice pp rp.length qp] 56)) st pt qt rt zt := by
  have b1 := bn.set st (.slice pt rt.length qt)
  have H1 := below_set2 H hg (.bool st) (.slice pt rt.length qt)
  have g1 := bn.wh st (.slice pt rt.length qt) GP
  have g2 := bn.wh st (.slice pt rt.length qt) GT
  have hs := size_set2 w9 g (.bool st) (.slice pt rt.length qt)
  generalize ((w9.setCell ⟨g, 0, none⟩ (.bool st)).setCell ⟨g, 1, none⟩ (.slice pt rt.length qt)) = wa at *
  obtain ⟨w0, e0, b2, hb, _⟩ := boxed0 wa sp (.slice pp rp.length qp)
  rw [e0]
  rw [hs] at b2
  exact ⟨below_then H1 hb, b2, b1.below hb, g1.below hb, g2.below hb⟩

theorem ends3 {w7 w9 : World} {sp st : Bool} {pp pt : Option Addr} {qp qt : Nat} {rp rt : List Int} {zp zt : Int} (H : Below w7.heap.size w7 w9) (GP : Wh w9 sp pp qp rp zp) (GT : Wh w9 st pt qt rt zt) {ga gb : Nat} (bA : Box w9 ga false (.slice none 0 0)) (bB : Box w9 gb false (.slice none 0 0)) (hn : ga ≠ gb) (hga : w7.heap.size ≤ ga) (hgb : w7.heap.size ≤ gb) : Below w7.heap.size w7 ((((w9.setCell ⟨ga, 0, none⟩ (.bool sp)).setCell ⟨ga, 1, none⟩ (.slice pp rp.length qp)).setCell ⟨gb, 0, none⟩ (.bool st)).setCell ⟨gb, 1, none⟩ (.slice pt rt.length qt)) ∧ Box ((((w9.setCell ⟨ga, 0, none⟩ (.bool sp)).setCell ⟨ga, 1, none⟩ (.slice pp rp.length qp)).setCell ⟨gb, 0, none⟩ (.bool st)).setCell ⟨gb, 1, none⟩ (.slice pt rt.length qt)) ga sp (.slice pp rp.length qp) ∧ Box ((((w9.setCell ⟨ga, 0, none⟩ (.bool sp)).setCell ⟨ga, 1, none⟩ (.slice pp rp.length qp)).setCell ⟨gb, 0, none⟩ (.bool st)).setCell ⟨gb, 1, none⟩ (.slice pt rt.length qt)) gb st (.slice pt rt.length qt) ∧ Wh ((((w9.setCell ⟨ga, 0, none⟩ (.bool sp)).setCell ⟨ga, 1, none⟩ (.slice pp rp.length qp)).setCell ⟨gb, 0, none⟩ (.bool st)).setCell ⟨gb, 1, none⟩ (.slice pt rt.length qt)) sp pp qp rp zp ∧ Wh ((((w9.setCell ⟨ga, 0, none⟩ (.bool sp)).setCell ⟨ga, 1, none⟩ (.slice pp rp.length qp)).setCell ⟨gb, 0, none⟩ (.bool st)).setCell ⟨gb, 1, none⟩ (.slice pt rt.length qt)) st pt qt rt zt := by
  have b1 := bA.set sp (.slice pp rp.length qp)
  have b2 := box_other bB (Ne.symm hn) (.bool sp) (.slice pp rp.length qp)
  have H1 := below_set2 H hga (.bool sp) (.slice pp rp.length qp)
  have g1 := bA.wh sp (.slice pp rp.length qp) GP
  have g2 := bA.wh sp (.slice pp rp.length qp) GT
  generalize ((w9.setCell ⟨ga, 0, none⟩ (.bool sp)).setCell ⟨ga, 1, none⟩ (.slice pp rp.length qp)) = wa at *
  exact ⟨below_set2 H1 hgb _ _, box_other b1 hn _ _, b2.set st (.slice pt rt.length qt), b2.wh st (.slice pt rt.length qt) g1, b2.wh st (.slice pt rt.length qt) g2⟩

set_option maxRecDepth 20000 in
set_option maxHeartbeats 1000000 in
theorem rdivmod_none (w : World) (a1 a2 : Option Addr) (n1 n2 c1 c2 : Nat) (xs ys : List Int) (_hx : Lm.Sl w (.slice a1 n1 c1) xs) (hy : Lm.Sl w (.slice a2 n2 c2) ys) (_l1 : xs.length ≤ 100000) (l2 : ys.length ≤ 100000) (h0 : Lm.val ys = 0) :
    Calls Try.prog 27 #[.slice a1 n1 c1, .slice a2 n2 c2] w fun e w' => ∃ v1 v2, e = .returned (.tuple #[v1, v2, .bool false]) ∧ Lm.Is w.heap.size w' v1 0 ∧ Lm.Is w.heap.size w' v2 0 ∧ Below w.heap.size w w' := by
  go_enter Try.func27, Try.ntmps27
  go_wp2_with fail
  refine (fromLimbs_any w a2 n2 c2 ys hy (by omega)).mono ?_
  rintro e w1 ⟨pY, qY, DY, rfl, GY, dY, hb1⟩
  have hl : DY.length = 0 := by
    have := canon_zero GY.canon
    rw [GY.val] at this
    rw [this.1 h0]; rfl
  obtain ⟨w2, e2, bY, hb2, hs2⟩ := boxed0 w1 false (.slice pY DY.length qY)
  have E2 := hide e2
  have HB := hb1.trans (hb2.mono hb1.size)
  have hs : sgn DY.length = 0 := by simp [sgn, hl]
  clear e2 hl
  go_upto_region 2 with fail
  rw [E2.out]
  obtain ⟨bY1, bY2, bY3, bY4⟩ := bY.facts
  go_wp2_with fail
  refine (sign_any _ _ _ _).mono ?_
  rintro e w3 ⟨rfl, e3⟩
  have hb3 : Below w2.heap.size w2 w3 := by rw [e3]; exact (Below.refl _ _).alloc (Nat.le_refl _) _
  replace HB := HB.trans (hb3.mono HB.size)
  rw [hs]
  clear e3 hs
  go_wp2
  go_ret3
  exact ⟨_, _, rfl, is_nil _ _, is_nil _ _, HB⟩

set_option maxRecDepth 20000 in
set_option maxHeartbeats 8000000 in
theorem rdivmod_any (w : World) (a1 a2 : Option Addr) (n1 n2 c1 c2 : Nat) (xs ys : List Int) (hx : Lm.Sl w (.slice a1 n1 c1) xs) (hy : Lm.Sl w (.slice a2 n2 c2) ys) (l1 : xs.length ≤ 100000) (l2 : ys.length ≤ 100000) (h0 : Lm.val ys ≠ 0) :
    Calls Try.prog 27 #[.slice a1 n1 c1, .slice a2 n2 c2] w fun e w' => ∃ v1 v2, e = .returned (.tuple #[v1, v2, .bool true]) ∧ Lm.Is w.heap.size w' v1 (Lm.val xs / Lm.val ys) ∧ Lm.Is w.heap.size w' v2 (Lm.val xs % Lm.val ys) ∧ Below w.heap.size w w' := by
  have hvx := hide (Lm.val_bounds hx.parts.2.2.2)
  have hvy := hide (Lm.val_bounds hy.parts.2.2.2)
  go_enter Try.func27, Try.ntmps27
  go_wp2_with fail
  refine (fromLimbs_any w a2 n2 c2 ys hy (by omega)).mono ?_
  rintro e w1 ⟨pY, qY, DY, rfl, GY, dY, hb1⟩
  have hl : 0 < DY.length := by
    apply Classical.byContradiction
    intro hn
    exact h0 (got_zero GY (by omega))
  obtain ⟨w2, e2, bY, hb2, hs2⟩ := boxed0 w1 false (.slice pY DY.length qY)
  have E2 := hide e2
  have HB := hb1.trans (hb2.mono hb1.size)
  have hs : sgn DY.length = 1 := by simp only [sgn]; rw [if_neg (by omega)]
  have H0 := hide h0
  clear e2 h0
  go_upto_region 2 with fail
  rw [E2.out]
  obtain ⟨bY1, bY2, bY3, bY4⟩ := bY.facts
  go_wp2_with fail
  refine (sign_any _ _ _ _).mono ?_
  rintro e w7 ⟨rfl, e3⟩
  have hb3 : Below w2.heap.size w2 w7 := by rw [e3]; exact (Below.refl _ _).alloc (Nat.le_refl _) _
  replace HB := HB.trans (hb3.mono HB.size)
  rw [hs]
  replace bY := bY.below hb3
  replace GY := (GY.below hb2).below hb3
  have hx3 := hx.below HB
  clear e3 hs bY1 bY2 bY3 bY4 hb1 hb2 hb3 E2 hx hy
  go_upto_region 4 with fail
  go_cut [8, 9] (fun u8 u9 wx => ∃ g8 g9 nq pq qq Q nr pr qr R, u8 = .pointer (some ⟨g8, 0, none⟩) ∧ u9 = .pointer (some ⟨g9, 0, none⟩) ∧ Box wx g8 nq (.slice pq Q.length qq) ∧ Box wx g9 nr (.slice pr R.length qr) ∧ Wh wx nq pq qq Q (Lm.val xs / Lm.val ys) ∧ Wh wx nr pr qr R (Lm.val xs % Lm.val ys) ∧ Q.length ≤ 300000 ∧ R.length ≤ 300000 ∧ Below w.heap.size w wx)
  case first =>
    have lY7 := lt_of_heap bY
    generalize w1.heap.size = g7 at *
    have hn70 : (g7 = w7.heap.size) = False := eq_false (by omega)
    have hn71 : (w7.heap.size = g7) = False := eq_false (by omega)
    have hn72 : (g7 = w7.heap.size + 1) = False := eq_false (by omega)
    have hn73 : (w7.heap.size + 1 = g7) = False := eq_false (by omega)
    obtain ⟨bY1, bY2, bY3, bY4⟩ := bY.facts
    go_region_held3 (fun w' => w'.cell? ⟨g7, 0, none⟩ = some (.bool false) ∧ w'.cell? ⟨g7, 1, none⟩ = some (.slice pY DY.length qY)) (go_keep) (first
      | (go_at_call 51; have _hq := hb8'; refine (ndivmod_nat _ p8 q8 D8 _ (G8.below (by repeat (first | exact Below.refl _ _ | refine Below.drew ?_ | refine below_al ?_ _))) _ _ DY _ ((GY.below hb8').below (by repeat (first | exact Below.refl _ _ | refine Below.drew ?_ | refine below_al ?_ _))) (by omega) (by omega) (by omega)).mono ?_; rintro e w9 ⟨sp, pp, qp, rp, st, pt, qt, rt, rfl, GP, GT, lp, lt', hb9⟩; have hb9' : Below w8.heap.size w8 w9 := below_then (show Below w8.heap.size w8 _ by repeat (first | exact Below.refl _ _ | refine Below.drew ?_ | refine below_al ?_ _)) hb9; have s89 := hb9'.size; clear bY1 bY2 bY3 bY4; have H79 := below_then hb8' hb9'; obtain ⟨bY1, bY2, bY3, bY4⟩ := (bY.below H79).facts; have hn90 : (g7 = w9.heap.size) = False := eq_false (by omega); have hn91 : (w9.heap.size = g7) = False := eq_false (by omega); have hn92 : (g7 = w9.heap.size + 1) = False := eq_false (by omega); have hn93 : (w9.heap.size + 1 = g7) = False := eq_false (by omega); first | (replace bm := bm.below hb9'; replace bn := bn.below hb9'; clear bn1 bn2 bn3 bn4 bm1 bm2 bm3 bm4; obtain ⟨bn1, bn2, bn3, bn4⟩ := bn.facts; obtain ⟨bm1, bm2, bm3, bm4⟩ := bm.facts; have qa : ∀ v u : Value, Box ((w9.setCell ⟨w7.heap.size, 0, none⟩ v).setCell ⟨w7.heap.size, 1, none⟩ u) (w7.heap.size + 1) false (.slice none 0 0) := fun v u => box_other bm (by omega) v u; have qa1 := fun v u => (Box.facts (qa v u)).1; have qa2 := fun v u => (Box.facts (qa v u)).2.1; have qa3 := fun v u => (Box.facts (qa v u)).2.2.1; have qa4 := fun v u => (Box.facts (qa v u)).2.2.2; have qc : ∀ v u : Value, Box ((w9.setCell ⟨(w7.heap.size + 1), 0, none⟩ v).setCell ⟨(w7.heap.size + 1), 1, none⟩ u) w7.heap.size false (.slice none 0 0) := fun v u => box_other bn (by omega) v u; have qc1 := fun v u => (Box.facts (qc v u)).1; have qc2 := fun v u => (Box.facts (qc v u)).2.1; have qc3 := fun v u => (Box.facts (qc v u)).2.2.1; have qc4 := fun v u => (Box.facts (qc v u)).2.2.2) | (replace bn := bn.below hb9'; clear bn1 bn2 bn3 bn4; obtain ⟨bn1, bn2, bn3, bn4⟩ := bn.facts; first | (have bm := Box.below (g := w8.heap.size) (ng := false) (v := .slice none 0 0) (by exact heap_alloc_new _ _) hb9; obtain ⟨bm1, bm2, bm3, bm4⟩ := bm.facts; have qa : ∀ v u : Value, Box ((w9.setCell ⟨w7.heap.size, 0, none⟩ v).setCell ⟨w7.heap.size, 1, none⟩ u) w8.heap.size false (.slice none 0 0) := fun v u => box_other bm (by omega) v u; have qa1 := fun v u => (Box.facts (qa v u)).1; have qa2 := fun v u => (Box.facts (qa v u)).2.1; have qa3 := fun v u => (Box.facts (qa v u)).2.2.1; have qa4 := fun v u => (Box.facts (qa v u)).2.2.2; have qc : ∀ v u : Value, Box ((w9.setCell ⟨w8.heap.size, 0, none⟩ v).setCell ⟨w8.heap.size, 1, none⟩ u) w7.heap.size false (.slice none 0 0) := fun v u => box_other bn (by omega) v u; have qc1 := fun v u => (Box.facts (qc v u)).1; have qc2 := fun v u => (Box.facts (qc v u)).2.1; have qc3 := fun v u => (Box.facts (qc v u)).2.2.1; have qc4 := fun v u => (Box.facts (qc v u)).2.2.2) | (have qn : ∀ o : Obj, Box (w9.alloc o) _ false (.slice none 0 0) := fun o => bn.below ((Below.refl _ _).alloc (Nat.le_refl _) o); have qn1 := fun o => (qn o).facts.1; have qn2 := fun o => (qn o).facts.2.1; have qn3 := fun o => (qn o).facts.2.2.1; have qn4 := fun o => (qn o).facts.2.2.2; have lbn := lt_of_heap bn; have qm := fun v u => box_other (heap_alloc_new w9 (.cells #[.bool false, .slice none 0 0] 56 : Obj)) (Nat.ne_of_gt lbn) v u; have qm1 := fun v u => Box.facts (qm v u) |>.1; have qm2 := fun v u => Box.facts (qm v u) |>.2.1; have qm3 := fun v u => Box.facts (qm v u) |>.2.2.1; have qm4 := fun v u => Box.facts (qm v u) |>.2.2.2)) | (have bn := Box.below (g := w8.heap.size) (ng := false) (v := .slice none 0 0) (by exact (box_pair _).1) hb9; have bm := Box.below (g := w8.heap.size + 1) (ng := false) (v := .slice none 0 0) (by exact (box_pair _).2) hb9; obtain ⟨bn1, bn2, bn3, bn4⟩ := bn.facts; obtain ⟨bm1, bm2, bm3, bm4⟩ := bm.facts; have qa : ∀ v u : Value, Box ((w9.setCell ⟨w8.heap.size, 0, none⟩ v).setCell ⟨w8.heap.size, 1, none⟩ u) (w8.heap.size + 1) false (.slice none 0 0) := fun v u => box_other bm (by omega) v u; have qa1 := fun v u => (Box.facts (qa v u)).1; have qa2 := fun v u => (Box.facts (qa v u)).2.1; have qa3 := fun v u => (Box.facts (qa v u)).2.2.1; have qa4 := fun v u => (Box.facts (qa v u)).2.2.2; have qc : ∀ v u : Value, Box ((w9.setCell ⟨(w8.heap.size + 1), 0, none⟩ v).setCell ⟨(w8.heap.size + 1), 1, none⟩ u) w8.heap.size false (.slice none 0 0) := fun v u => box_other bn (by omega) v u; have qc1 := fun v u => (Box.facts (qc v u)).1; have qc2 := fun v u => (Box.facts (qc v u)).2.1; have qc3 := fun v u => (Box.facts (qc v u)).2.2.1; have qc4 := fun v u => (Box.facts (qc v u)).2.2.2) | (have bn := Box.below (g := w8.heap.size) (ng := false) (v := .slice none 0 0) (by exact heap_alloc_new _ _) hb9; obtain ⟨bn1, bn2, bn3, bn4⟩ := bn.facts; (have qn : ∀ o : Obj, Box (w9.alloc o) _ false (.slice none 0 0) := fun o => bn.below ((Below.refl _ _).alloc (Nat.le_refl _) o); have qn1 := fun o => (qn o).facts.1; have qn2 := fun o => (qn o).facts.2.1; have qn3 := fun o => (qn o).facts.2.2.1; have qn4 := fun o => (qn o).facts.2.2.2; have lbn := lt_of_heap bn; have qm := fun v u => box_other (heap_alloc_new w9 (.cells #[.bool false, .slice none 0 0] 56 : Obj)) (Nat.ne_of_gt lbn) v u; have qm1 := fun v u => Box.facts (qm v u) |>.1; have qm2 := fun v u => Box.facts (qm v u) |>.2.1; have qm3 := fun v u => Box.facts (qm v u) |>.2.2.1; have qm4 := fun v u => Box.facts (qm v u) |>.2.2.2)) | skip)
      | (go_at_call 43; refine (fromLimbs_any _ a1 n1 c1 xs (hx3.below (by repeat (first | exact Below.refl _ _ | refine Below.drew ?_ | refine below_al ?_ _))) (by omega)).mono ?_; rintro e w8 ⟨p8, q8, D8, rfl, G8, d8, hb8⟩; have hb8' : Below w7.heap.size w7 w8 := below_then (show Below w7.heap.size w7 _ by repeat (first | exact Below.refl _ _ | refine Below.drew ?_ | refine below_al ?_ _)) hb8; have s78 := hb8'.size; clear bY1 bY2 bY3 bY4; obtain ⟨bY1, bY2, bY3, bY4⟩ := (bY.below hb8').facts; have hn80 : (g7 = w8.heap.size) = False := eq_false (by omega); have hn81 : (w8.heap.size = g7) = False := eq_false (by omega); have hn82 : (g7 = w8.heap.size + 1) = False := eq_false (by omega); have hn83 : (w8.heap.size + 1 = g7) = False := eq_false (by omega); first | (have bn := Box.below (g := w7.heap.size) (ng := false) (v := .slice none 0 0) (by exact (box_pair _).1) hb8; have bm := Box.below (g := w7.heap.size + 1) (ng := false) (v := .slice none 0 0) (by exact (box_pair _).2) hb8; obtain ⟨bn1, bn2, bn3, bn4⟩ := bn.facts; obtain ⟨bm1, bm2, bm3, bm4⟩ := bm.facts) | (have bn := Box.below (g := w7.heap.size) (ng := false) (v := .slice none 0 0) (by exact heap_alloc_new _ _) hb8; have lbn8 := lt_of_heap bn; obtain ⟨bn1, bn2, bn3, bn4⟩ := bn.facts) | skip))
    all_goals
      clear bY1 bY2 bY3 bY4
      have L1 : rp.length ≤ 300000 := by omega
      have L2 : rt.length ≤ 300000 := by omega
      go_wp2
      go_meet
      case rel =>
        first
          | (have E := ends3 H79 GP GT bn bm (by omega) (by omega) (by omega); with_reducible exact ⟨_, _, sp, pp, qp, rp, st, pt, qt, rt, rfl, rfl, E.2.1, E.2.2.1, E.2.2.2.1, E.2.2.2.2, L1, L2, HB.trans (E.1.mono HB.size)⟩)
          | (have E := ends3 H79 GP GT bm bn (by omega) (by omega) (by omega); with_reducible exact ⟨_, _, sp, pp, qp, rp, st, pt, qt, rt, rfl, rfl, E.2.1, E.2.2.1, E.2.2.2.1, E.2.2.2.2, L1, L2, HB.trans (E.1.mono HB.size)⟩)
          | (have E := ends2 H79 GP GT bn (by omega); with_reducible exact ⟨_, _, sp, pp, qp, rp, st, pt, qt, rt, rfl, rfl, E.2.1, E.2.2.1, E.2.2.2.1, E.2.2.2.2, L1, L2, HB.trans (E.1.mono HB.size)⟩)
          | (have E := ends2' H79 GP GT bn (by omega); with_reducible exact ⟨_, _, sp, pp, qp, rp, st, pt, qt, rt, rfl, rfl, E.2.1, E.2.2.1, E.2.2.2.1, E.2.2.2.2, L1, L2, HB.trans (E.1.mono HB.size)⟩)
          | (have E := ends1 H79 GP GT; with_reducible exact ⟨_, _, sp, pp, qp, rp, st, pt, qt, rt, rfl, rfl, E.2.1, E.2.2.1, E.2.2.2.1, E.2.2.2.2, L1, L2, HB.trans (E.1.mono HB.size)⟩)
          | (have E := ends1' H79 GP GT; with_reducible exact ⟨_, _, sp, pp, qp, rp, st, pt, qt, rt, rfl, rfl, E.2.1, E.2.2.1, E.2.2.2.1, E.2.2.2.2, L1, L2, HB.trans (E.1.mono HB.size)⟩)
  case rest =>
    obtain ⟨g8, g9, nq, pq, qq, Q, nr, pr, qr, R, rfl, rfl, b8, b9, GQ, GR, lQ, lR, HB⟩ := hcut
    clear bY GY
    have hdn : 0 ≤ Lm.val xs / Lm.val ys := Int.ediv_nonneg hvx.out.1 hvy.out.1
    have hmn : 0 ≤ Lm.val xs % Lm.val ys := Int.emod_nonneg _ H0.out
    have hdl : Hid (((Lm.val xs / Lm.val ys).natAbs : Int) < Lm.pw xs.length) := by
      show (((Lm.val xs / Lm.val ys).natAbs : Nat) : Int) < Lm.pw xs.length
      rw [natAbs_of hdn]
      have := Int.ediv_le_self (Lm.val ys) hvx.out.1
      have := hvx.out
      omega
    have hml : Hid (((Lm.val xs % Lm.val ys).natAbs : Int) < Lm.pw ys.length) := by
      show (((Lm.val xs % Lm.val ys).natAbs : Nat) : Int) < Lm.pw ys.length
      rw [natAbs_of hmn]
      have := hvy.out
      have := H0.out
      have := Int.emod_lt_of_pos (Lm.val xs) (b := Lm.val ys) (by omega)
      omega
    obtain ⟨b81, b82, b83, b84⟩ := b8.facts
    obtain ⟨b91, b92, b93, b94⟩ := b9.facts
    go_wp2_with fail
    go_region_held3 (fun w' => w'.cell? ⟨g8, 0, none⟩ = some (.bool nq) ∧ w'.cell? ⟨g8, 1, none⟩ = some (.slice pq Q.length qq) ∧ w'.cell? ⟨g9, 0, none⟩ = some (.bool nr) ∧ w'.cell? ⟨g9, 1, none⟩ = some (.slice pr R.length qr)) (go_keep) (first
      | (go_at_call 42; have _hq := hb1'; refine (limbs_any _ _ _ _ R _ (GR.1.below (by repeat (first | exact Below.refl _ _ | refine Below.drew ?_))) ys.length hml.out (by omega) (by omega)).mono ?_; rintro e w2 ⟨v2, rfl, I2, hb2⟩; have hb2' : Below w1.heap.size w1 w2 := (show Below w1.heap.size w1 _ by repeat (first | exact Below.refl _ _ | refine Below.drew ?_)).trans hb2; rw [natAbs_of hmn] at I2; replace b8 := b8.below hb2'; replace b9 := b9.below hb2'; clear b81 b82 b83 b84 b91 b92 b93 b94; obtain ⟨b81, b82, b83, b84⟩ := b8.facts; obtain ⟨b91, b92, b93, b94⟩ := b9.facts)
      | (go_at_call 42; refine (limbs_any _ _ _ _ Q _ (GQ.1.below (by repeat (first | exact Below.refl _ _ | refine Below.drew ?_))) xs.length hdl.out (by omega) (by omega)).mono ?_; rintro e w1 ⟨v1, rfl, I1, hb1⟩; have hb1' : Below wc.heap.size wc w1 := (show Below wc.heap.size wc _ by repeat (first | exact Below.refl _ _ | refine Below.drew ?_)).trans hb1; rw [natAbs_of hdn] at I1; replace GR := GR.below hb1'; replace b8 := b8.below hb1'; replace b9 := b9.below hb1'; clear b81 b82 b83 b84 b91 b92 b93 b94; obtain ⟨b81, b82, b83, b84⟩ := b8.facts; obtain ⟨b91, b92, b93, b94⟩ := b9.facts))
    all_goals
      have HBZ := hide (HB.trans ((hb1'.trans (hb2'.mono hb1'.size)).mono HB.size))
      have J1 := hide ((I1.below hb2').mono HB.size)
      have J2 := hide (I2.mono (Nat.le_trans HB.size hb1'.size))
      clear b81 b82 b83 b84 b91 b92 b93 b94
      go_wp2
      go_ret3
      exact ⟨_, _, rfl, J1.out, J2.out, HBZ.out⟩

end Dm
end Go.Proofs.Ythbomfboohjcfaa

namespace Go.Proofs.Ythbomfboohjcfaa
namespace Lm
open Go.RowKit

theorem take_val {ps Y qs : List Int} {k : Nat} {x y a c b t r : Int} (hk : qs.length = k) (hy : Y.getD k 0 = y) (ha : ps.getD k 0 = a) (ht : t = x * y + c) (hr : r = a - t % 4294967296 - b) (h1 : -4294967296 ≤ r) (h2 : r < 4294967296) (h : val qs - pw k * (c + b) = vf ps k - x * vf Y k) :
    val (qs ++ [r % 4294967296]) - pw (k + 1) * (t / 4294967296 + bor r) = vf ps (k + 1) - x * vf Y (k + 1) := by
  rw [val_snoc, vf, vf, ha, hy, hk, pw, sub_step h1 h2]
  have e : t = t % 4294967296 + 4294967296 * (t / 4294967296) := by omega
  have e1 : pw k * (r + 4294967296 * bor r) = pw k * r + 4294967296 * pw k * bor r := by rw [Int.mul_add, Int.mul_comm 4294967296 (pw k), Int.mul_assoc]
  have e2 : 4294967296 * pw k * (t / 4294967296 + bor r) = pw k * (4294967296 * (t / 4294967296)) + 4294967296 * pw k * bor r := by rw [Int.mul_add, Int.mul_comm 4294967296 (pw k), Int.mul_assoc]
  have e3 : pw k * (4294967296 * (t / 4294967296)) = pw k * t - pw k * (t % 4294967296) := by rw [← Int.mul_sub]; congr 1; omega
  have e4 : x * (vf Y k + pw k * y) = x * vf Y k + pw k * (x * y) := by rw [Int.mul_add, ← Int.mul_assoc x, Int.mul_comm x (pw k), Int.mul_assoc]
  have e5 : pw k * t = pw k * (x * y) + pw k * c := by rw [ht, Int.mul_add]
  have e6 : pw k * r = pw k * a - pw k * (t % 4294967296) - pw k * b := by rw [hr, Int.mul_sub, Int.mul_sub]
  have e7 : pw k * (c + b) = pw k * c + pw k * b := Int.mul_add _ _ _
  rw [e1, e2, e3, e4, e5, e6]
  omega

theorem take_carry {Y : List Int} {k : Nat} {x y c t : Int} (hy : Y.getD k 0 = y) (ht : t = x * y + c) (h : pw k * c ≤ x * vf Y k) : pw (k + 1) * (t / 4294967296) ≤ x * vf Y (k + 1) := by
  rw [vf, hy, pw]
  have e1 : 4294967296 * pw k * (t / 4294967296) = pw k * (4294967296 * (t / 4294967296)) := by rw [Int.mul_comm 4294967296 (pw k), Int.mul_assoc]
  have e2 : pw k * (4294967296 * (t / 4294967296)) ≤ pw k * t := Int.mul_le_mul_of_nonneg_left (by omega) (by have := pw_pos k; omega)
  have e3 : pw k * t = pw k * (x * y) + pw k * c := by rw [ht, Int.mul_add]
  have e4 : x * (vf Y k + pw k * y) = x * vf Y k + pw k * (x * y) := by rw [Int.mul_add, ← Int.mul_assoc x, Int.mul_comm x (pw k), Int.mul_assoc]
  omega

theorem carry_zero {Y : List Int} {n : Nat} {x c : Int} (hY : Limb Y) (hl : Y.length = n) (hx : 0 ≤ x ∧ x < 4294967296) (hc : 0 ≤ c) (h : pw (n + 1) * c ≤ x * vf Y (n + 1)) : c = 0 := by
  rw [vf_all Y _ (by omega), pw] at h
  have hb := val_bounds hY
  rw [hl] at hb
  have h1 : x * val Y ≤ 4294967295 * val Y := Int.mul_le_mul_of_nonneg_right (by omega) hb.1
  apply Classical.byContradiction
  intro hn
  have h2 : 4294967296 * pw n * 1 ≤ 4294967296 * pw n * c := Int.mul_le_mul_of_nonneg_left (by omega) (by have := pw_pos n; omega)
  omega

set_option maxRecDepth 20000 in
set_option maxHeartbeats 1000000 in
theorem takeTimes_any (w : World) (g o n cap c2 : Nat) (cur : Array Value) (ps Y : List Int) (a2 : Option Addr) (x : Int) (hx : 0 ≤ x ∧ x < 4294967296)
    (hh : w.heap[g]? = some (.cells cur 47 (0, 0))) (ha : At cur .u32 o ps) (hp : Limb ps) (hpl : ps.length = n + 1) (hm : n ≤ 1000000)
    (hY : ∀ wr cur', Wr w wr g cur' 47 → Sl wr (.slice a2 n c2) Y) :
    Calls Try.prog 76 #[.slice (some ⟨g, o, none⟩) (n + 1) cap, .slice a2 n c2, .int .u32 x] w fun e w' => ∃ qs b cur', e = .returned (.bool (b != 0)) ∧ (0 ≤ b ∧ b ≤ 1) ∧ val qs - pw (n + 1) * b = val ps - x * val Y ∧ Limb qs ∧ qs.length = n + 1 ∧ Wr w w' g cur' 47 ∧ cur'.size = cur.size ∧ At cur' .u32 o qs ∧ (∀ i, i < o ∨ o + (n + 1) ≤ i → cur'[i]? = cur[i]?) := by
  obtain ⟨hYl, g1, g2, g3⟩ := (hY _ _ (Wr.refl hh)).parts
  have HP := hide hp
  have HY := hide g3
  have HYL := hide hYl
  have HPL := hide hpl
  have HH := hide hh
  have HA := hide ha
  clear hp g3 hYl hpl hh ha
  go_enter Try.func76, Try.ntmps76
  go_wp2
  go_loopw [7, 8, 14] (fun cv bv i wr => ∃ (k : Nat) (c b : Int) (qs : List Int) (cur' : Array Value), k ≤ n + 1 ∧ cv = .int .u64 c ∧ bv = .int .i64 b ∧ i = .int .i64 k ∧ (0 ≤ c ∧ c < 4294967296) ∧ (0 ≤ b ∧ b ≤ 1) ∧ qs.length = k ∧ Limb qs ∧ val qs - pw k * (c + b) = vf ps k - x * vf Y k ∧ pw k * c ≤ x * vf Y k ∧ Wr w wr g cur' 47 ∧ cur'.size = cur.size ∧ At cur' .u32 o (qs ++ ps.drop k) ∧ (∀ i, i < o ∨ o + (n + 1) ≤ i → cur'[i]? = cur[i]?)) (fun _ _ i _ => n + 1 - (intOf i).toNat)
  case atStart => exact ⟨0, 0, 0, [], cur, Nat.zero_le _, rfl, rfl, rfl, by omega, by omega, rfl, limb_nil, by simp [val, vf, pw], by simp [vf], Wr.refl HH.out, rfl, by simpa using HA.out, fun _ _ => rfl⟩
  case round =>
    obtain ⟨k, c, b, qs, cur', hk, rfl, rfl, rfl, hc, hbb, hql, hq, hval, hcar, hwr, hcs, hat, hout⟩ := hrel
    have HQL := hide hql
    have HQ := hide hq
    have HV := hide hval
    have HCar := hide hcar
    have HW := hide hwr
    have HC := hide hcs
    have HT := hide hat
    have HO := hide hout
    clear hql hq hval hcar hwr hcs hat hout
    by_cases hlt : k < n + 1
    · have sy := hY _ _ HW.out
      have hlen : (qs ++ ps.drop k).length = n + 1 := by have := HQL.out; have := HPL.out; simp; omega
      have co := HT.out.cell HW.out.here k (by rw [hlen]; omega)
      have e1 : (qs ++ ps.drop k).getD k 0 = ps.getD k 0 := by
        rw [List.getD_eq_getElem?_getD, List.getElem?_append_right (by have := HQL.out; omega), List.getElem?_drop, List.getD_eq_getElem?_getD, HQL.out]
        congr 2
        omega
      rw [e1] at co
      have hfree := HW.out.free (o + k)
      have by' := limb_getD HY.out k
      have ba := limb_getD HP.out k
      obtain ⟨y, hy⟩ : ∃ y, Y.getD k 0 = y := ⟨_, rfl⟩
      obtain ⟨a, hpa⟩ : ∃ a, ps.getD k 0 = a := ⟨_, rfl⟩
      have ky : Hid (Calls Try.prog 47 #[.slice a2 n c2, .int .i64 k] wr fun e w' => e = .returned (.int .u32 y) ∧ w' = wr) := by rw [← hy]; exact limb_nat _ _ Y sy k
      rw [hy] at by'
      rw [hpa] at co ba
      have hxy := mul_bound hx by'
      have s0 : 0 ≤ (x * y + c) % 4294967296 ∧ (x * y + c) % 4294967296 < 4294967296 := by omega
      have s1 : -4294967296 ≤ a - (x * y + c) % 4294967296 - b := by omega
      have s2 : a - (x * y + c) % 4294967296 - b < 4294967296 := by omega
      have hand := and_bor s1 s2
      have hbo := bor_01 (a - (x * y + c) % 4294967296 - b)
      have HV' := hide (take_val (x := x) HQL.out hy hpa rfl rfl s1 s2 HV.out)
      have HCar' := hide (take_carry (x := x) hy rfl HCar.out)
      have HT' := hide (HT.out.set k ((a - (x * y + c) % 4294967296 - b) % 4294967296))
      have HW' := hide (HW.out.set (o + k) (.int .u32 ((a - (x * y + c) % 4294967296 - b) % 4294967296)))
      have d1 : (k : Int) < (n : Int) + 1 := by omega
      clear hlen e1 hy hpa sy
      go_wp2_with fail
      refine (ky.out).mono ?_
      rintro e w2 ⟨rfl, rfl⟩
      go_wp2
      go_roundw
      case rel =>
        refine ⟨k + 1, (x * y + c) / 4294967296, _, qs ++ [(a - (x * y + c) % 4294967296 - b) % 4294967296], _, by omega, rfl, rfl, by go_num, by omega, hbo, by have := HQL.out; simp; omega, limb_append.2 ⟨HQ.out, limb_cons.2 ⟨by omega, limb_nil⟩⟩, HV'.out, HCar'.out, HW'.out, by simpa using HC.out, by rw [← set_snoc qs ps k _ HQL.out (by have := HPL.out; omega)]; exact HT'.out, fun i hi => ?_⟩
        rw [Array.getElem?_setIfInBounds, if_neg (by omega)]
        exact HO.out i hi
      case measure => simp [intOf]; omega
    · have hkn : k = n + 1 := by omega
      subst hkn
      have hc0 := carry_zero HY.out HYL.out.symm hx hc.1 HCar.out
      have HVf : Hid (val qs - pw (n + 1) * b = val ps - x * val Y) := by
        have h9 := HV.out
        rw [hc0, Int.zero_add, vf_all ps _ (by have := HPL.out; omega), vf_all Y _ (by have := HYL.out; omega)] at h9
        exact h9
      have HTf : Hid (At cur' .u32 o qs) := by
        have h9 := HT.out
        rwa [List.drop_of_length_le (by have := HPL.out; omega), List.append_nil] at h9
      clear hc0
      go_wp2
      go_ret
      exact ⟨qs, b, cur', rfl, hbb, HVf.out, HQ.out, HQL.out, HW.out, HC.out, HTf.out, HO.out⟩

end Lm
end Go.Proofs.Ythbomfboohjcfaa

namespace Go.Proofs.Ythbomfboohjcfaa
namespace Lm
open Go.RowKit

set_option maxRecDepth 20000 in
set_option maxHeartbeats 1000000 in
theorem addBack_any (w : World) (g o n cap c2 : Nat) (cur : Array Value) (ps Y : List Int) (a2 : Option Addr)
    (hh : w.heap[g]? = some (.cells cur 47 (0, 0))) (ha : At cur .u32 o ps) (hp : Limb ps) (hpl : ps.length = n + 1) (hm : n ≤ 1000000)
    (hY : ∀ wr cur', Wr w wr g cur' 47 → Sl wr (.slice a2 n c2) Y) :
    Calls Try.prog 77 #[.slice (some ⟨g, o, none⟩) (n + 1) cap, .slice a2 n c2] w fun e w' => ∃ qs c cur', e = .returned (.tuple #[]) ∧ (0 ≤ c ∧ c ≤ 1) ∧ val qs + pw (n + 1) * c = val ps + val Y ∧ Limb qs ∧ qs.length = n + 1 ∧ Wr w w' g cur' 47 ∧ cur'.size = cur.size ∧ At cur' .u32 o qs ∧ (∀ i, i < o ∨ o + (n + 1) ≤ i → cur'[i]? = cur[i]?) := by
  obtain ⟨hYl, g1, g2, g3⟩ := (hY _ _ (Wr.refl hh)).parts
  have HP := hide hp
  have HY := hide g3
  have HYL := hide hYl
  have HPL := hide hpl
  have HH := hide hh
  have HA := hide ha
  clear hp g3 hYl hpl hh ha
  go_enter Try.func77, Try.ntmps77
  go_wp2
  go_loopw [4, 9] (fun cv i wr => ∃ (k : Nat) (c : Int) (qs : List Int) (cur' : Array Value), k ≤ n + 1 ∧ cv = .int .u64 c ∧ i = .int .i64 k ∧ (0 ≤ c ∧ c ≤ 1) ∧ qs.length = k ∧ Limb qs ∧ val qs + pw k * c = vf ps k + vf Y k ∧ Wr w wr g cur' 47 ∧ cur'.size = cur.size ∧ At cur' .u32 o (qs ++ ps.drop k) ∧ (∀ i, i < o ∨ o + (n + 1) ≤ i → cur'[i]? = cur[i]?)) (fun _ i _ => n + 1 - (intOf i).toNat)
  case atStart => exact ⟨0, 0, [], cur, Nat.zero_le _, rfl, rfl, by omega, rfl, limb_nil, by simp [val, vf, pw], Wr.refl HH.out, rfl, by simpa using HA.out, fun _ _ => rfl⟩
  case round =>
    obtain ⟨k, c, qs, cur', hk, rfl, rfl, hc, hql, hq, hval, hwr, hcs, hat, hout⟩ := hrel
    have HQL := hide hql
    have HQ := hide hq
    have HV := hide hval
    have HW := hide hwr
    have HC := hide hcs
    have HT := hide hat
    have HO := hide hout
    clear hql hq hval hwr hcs hat hout
    by_cases hlt : k < n + 1
    · have sy := hY _ _ HW.out
      have hlen : (qs ++ ps.drop k).length = n + 1 := by have := HQL.out; have := HPL.out; simp; omega
      have co := HT.out.cell HW.out.here k (by rw [hlen]; omega)
      have e1 : (qs ++ ps.drop k).getD k 0 = ps.getD k 0 := by
        rw [List.getD_eq_getElem?_getD, List.getElem?_append_right (by have := HQL.out; omega), List.getElem?_drop, List.getD_eq_getElem?_getD, HQL.out]
        congr 2
        omega
      rw [e1] at co
      have hfree := HW.out.free (o + k)
      have by' := limb_getD HY.out k
      have ba := limb_getD HP.out k
      obtain ⟨y, hy⟩ : ∃ y, Y.getD k 0 = y := ⟨_, rfl⟩
      obtain ⟨a, hpa⟩ : ∃ a, ps.getD k 0 = a := ⟨_, rfl⟩
      have ky : Hid (∀ q, Calls Try.prog 47 #[.slice a2 n c2, .int .i64 k] (wr.drewN q) fun e w' => e = .returned (.int .u32 y) ∧ w' = wr.drewN q) := by
        intro q; rw [← hy]; exact limb_nat _ _ Y (sy.below (below_drewN (Below.refl _ _) q)) k
      rw [hy] at by'
      rw [hpa] at co ba
      have hst := add_step ba by' hc rfl
      have HV' := hide (add_val HQL.out hpa hy rfl HV.out)
      have HT' := hide (HT.out.set k ((a + y + c) % 4294967296))
      have HW' := hide (HW.out.set (o + k) (.int .u32 ((a + y + c) % 4294967296)))
      have d1 : (k : Int) < (n : Int) + 1 := by omega
      clear hlen e1 hy hpa sy
      go_wp2
      go_quiet ((go_at_call 47; exact Calls.quiet_of_same (ky.out _)))
      go_wp2
      go_roundw
      case rel =>
        refine ⟨k + 1, (a + y + c) / 4294967296, qs ++ [(a + y + c) % 4294967296], _, by omega, rfl, by go_num, by omega, by have := HQL.out; simp; omega, limb_append.2 ⟨HQ.out, limb_cons.2 ⟨by omega, limb_nil⟩⟩, HV'.out, HW'.out.drewN _, by simpa using HC.out, by rw [← set_snoc qs ps k _ HQL.out (by have := HPL.out; omega)]; exact HT'.out, fun i hi => ?_⟩
        rw [Array.getElem?_setIfInBounds, if_neg (by omega)]
        exact HO.out i hi
      case measure => simp [intOf]; omega
    · have hkn : k = n + 1 := by omega
      subst hkn
      have HVf : Hid (val qs + pw (n + 1) * c = val ps + val Y) := by
        have h9 := HV.out
        rw [vf_all ps _ (by have := HPL.out; omega), vf_all Y _ (by have := HYL.out; omega)] at h9
        exact h9
      have HTf : Hid (At cur' .u32 o qs) := by
        have h9 := HT.out
        rwa [List.drop_of_length_le (by have := HPL.out; omega), List.append_nil] at h9
      go_wp2
      go_end0
      exact ⟨qs, c, cur', rfl, hc, HVf.out, HQ.out, HQL.out, HW.out, HC.out, HTf.out, HO.out⟩

end Lm
end Go.Proofs.Ythbomfboohjcfaa

namespace Go.Proofs.Ythbomfboohjcfaa
namespace Lm
open Go.RowKit

set_option maxRecDepth 20000 in
set_option maxHeartbeats 400000 in
theorem lead_any (x : Int) (w : World) (h0 : 0 ≤ x) (h1 : x < 4294967296) :
    Calls Try.prog 74 #[.int .u32 x] w fun e w' => e = .returned (.int .i64 (32 - (Lib.bitLen x.toNat : Nat))) ∧ w' = w := by
  have hl : Lib.bitLen x.toNat ≤ 32 := Lib.bitLen_le _ 32 (by omega) (by omega)
  have kl := hide (len32_any x w h0 h1)
  generalize Lib.bitLen x.toNat = l at hl kl
  go_enter Try.func74, Try.ntmps74
  go_wp2_with fail
  refine (kl.out).mono ?_
  rintro e w' ⟨rfl, rfl⟩
  go_wp2
  go_ret
  exact ⟨rfl, rfl⟩

theorem p2_pow (s : Nat) : (2 : Int) ^ s = p2 s := by
  induction s with
  | zero => rfl
  | succ s ih => rw [Int.pow_succ, ih, p2]; omega

theorem nat_p2 (s : Nat) : ((2 ^ s : Nat) : Int) = p2 s := by
  induction s with
  | zero => rfl
  | succ s ih => rw [Nat.pow_succ, p2]; omega

theorem up_bound {x c : Int} {s : Nat} (h1 : 0 ≤ x) (h2 : x < 4294967296) (hs : s ≤ 31) (h3 : 0 ≤ c) (h4 : c < p2 s) : 0 ≤ x * p2 s + c ∧ x * p2 s + c < 4294967296 * p2 s ∧ x * p2 s + c < 9223372036854775808 ∧ 0 ≤ x * p2 s := by
  have hp := p2_pos s
  have hp2 := p2_mono (m := s) (n := 31) hs
  rw [show p2 31 = 2147483648 from by decide] at hp2
  have e1 : 0 ≤ x * p2 s := Int.mul_nonneg h1 (by omega)
  have e2 : (x + 1) * p2 s ≤ 4294967296 * p2 s := Int.mul_le_mul_of_nonneg_right (by omega) (by omega)
  rw [Int.add_mul] at e2
  omega

theorem or_shift {x c : Int} {s : Nat} (h1 : 0 ≤ x) (h2 : x < 4294967296) (hs : s ≤ 31) (h3 : 0 ≤ c) (h4 : c < p2 s) : bits .or .u64 (IntKind.u64.wrap (x * 2 ^ s)) c = x * p2 s + c := by
  have hb := up_bound h1 h2 hs h3 h4
  have hp := p2_pos s
  rw [p2_pow, IntKind.wrap_u64, Int.emod_eq_of_lt hb.2.2.2 (by omega), u64_or _ _ hb.2.2.2 (by omega) h3 (by omega)]
  obtain ⟨a, rfl⟩ := Int.eq_ofNat_of_zero_le h1
  obtain ⟨d, rfl⟩ := Int.eq_ofNat_of_zero_le h3
  have e1 : ((a : Int) * p2 s).toNat = 2 ^ s * a := by
    rw [← nat_p2, Int.mul_comm, ← Int.natCast_mul, Int.toNat_natCast]
  have hd : d < 2 ^ s := by have := nat_p2 s; omega
  rw [e1, Int.toNat_natCast, ← Nat.two_pow_add_eq_or_of_lt hd, Int.natCast_add, Int.natCast_mul, nat_p2, Int.mul_comm]

theorem up_val {zs qs : List Int} {k : Nat} {z c m t : Int} (hk : qs.length = k) (hz : zs.getD k 0 = z) (hs : t = z * m + c) (h : val qs + pw k * c = vf zs k * m) :
    val (qs ++ [t % 4294967296]) + pw (k + 1) * (t / 4294967296) = vf zs (k + 1) * m := by
  rw [val_snoc, vf, hz, hk, pw, Int.add_mul]
  have e : t = t % 4294967296 + 4294967296 * (t / 4294967296) := by omega
  have e2 : pw k * (t % 4294967296) + 4294967296 * pw k * (t / 4294967296) = pw k * t := by
    rw [Int.mul_comm 4294967296 (pw k), Int.mul_assoc, ← Int.mul_add, ← e]
  have e3 : pw k * z * m = pw k * (z * m) := by rw [Int.mul_assoc]
  rw [Int.add_assoc, e2, hs, Int.mul_add, e3]
  omega

set_option maxRecDepth 20000 in
set_option maxHeartbeats 1000000 in
theorem moveUp_any (w : World) (ao : Option Addr) (n cap : Nat) (xs : List Int) (hx : Sl w (.slice ao n cap) xs) (s : Nat) (hs : s ≤ 31) (hm : xs.length ≤ 1000000) :
    Calls Try.prog 59 #[.slice ao n cap, .int .u64 s] w fun e w' => ∃ cur qs, e = .returned (.slice (some ⟨w.heap.size, 0, none⟩) (n + 1) (n + 1)) ∧ Limb qs ∧ qs.length = n + 1 ∧ val qs = val xs * p2 s ∧ w'.heap[w.heap.size]? = some (.cells cur 47 (0, 0)) ∧ cur.size = n + 1 ∧ At cur .u32 0 qs ∧ Below w.heap.size w w' := by
  obtain ⟨rfl, h1, h2, h3⟩ := hx.parts
  obtain ⟨i0, hi, hz0, hz1, hz2⟩ := info_parts info32
  have H3 := hide h3
  have hp := p2_pos s
  have hp2 := p2_mono (m := s) (n := 31) hs
  rw [show p2 31 = 2147483648 from by decide] at hp2
  clear h3
  go_enter Try.func59, Try.ntmps59
  go_wp2_with (refine wpList_make_full _ rfl (.tmp 12) (.tmp 12) 22 rfl w.heap.size 47 i0 (.int .u32 0) 1 Try.underlying22 hi hz0 hz1 .i64 .i64 _ _ (xs.length + 1) rfl rfl (by omega) (by omega) (by rw [hz2]; omega) (by unfold maxLen; omega) (Nat.le_refl _) ?hK)
  case hK =>
    intro w1 hown hgrow
    obtain ⟨_, cur, hh, hcs, hat⟩ := block_of_made hown
    have hb1 : Below w.heap.size w w1 := (Below.refl w.heap.size w).grown hgrow (Nat.le_refl _) (by simp)
    have HH := hide hh
    have HS := hide hcs
    have HA := hide hat
    clear hown hgrow hh hcs hat
    go_wp2
    go_loopw [6, 16] (fun cv i wr => ∃ (k : Nat) (c : Int) (qs : List Int) (cur' : Array Value), k ≤ xs.length ∧ cv = .int .u64 c ∧ i = .int .i64 k ∧ (0 ≤ c ∧ c < p2 s) ∧ qs.length = k ∧ Limb qs ∧ val qs + pw k * c = vf xs k * p2 s ∧ Wr w1 wr w.heap.size cur' 47 ∧ cur'.size = xs.length + 1 ∧ At cur' .u32 0 (qs ++ (List.replicate (xs.length + 1) 0).drop k)) (fun _ i _ => xs.length - (intOf i).toNat)
    case atStart => exact ⟨0, 0, [], cur, Nat.zero_le _, rfl, rfl, by omega, rfl, limb_nil, by simp [val, vf, pw], Wr.refl HH.out, HS.out, by simpa using HA.out⟩
    case round =>
      obtain ⟨k, c, qs, cur', hk, rfl, rfl, hcb, hql, hq, hval, hwr, hcs, hat⟩ := hrel
      have HQL := hide hql
      have HQ := hide hq
      have HV := hide hval
      have HW := hide hwr
      have HC := hide hcs
      have HT := hide hat
      clear hql hq hval hwr hcs hat
      by_cases hlt : k < xs.length
      · have sx := HW.out.sl (Nat.le_refl _) hb1 rfl hx
        obtain ⟨b, off, rfl, hcx⟩ := sx.cells (by omega)
        have cx := hcx k (by omega)
        have bx := limb_getD H3.out k
        obtain ⟨x, hxk⟩ : ∃ x, xs.getD k 0 = x := ⟨_, rfl⟩
        rw [hxk] at cx bx
        have hlen : (qs ++ (List.replicate (xs.length + 1) (0 : Int)).drop k).length = xs.length + 1 := by have := HQL.out; simp; omega
        have hcell := HT.out.cell HW.out.here k (by rw [hlen]; omega)
        rw [Nat.zero_add] at hcell
        generalize (qs ++ (List.replicate (xs.length + 1) (0 : Int)).drop k).getD k 0 = old at hcell
        have hfree := HW.out.free k
        obtain ⟨M, hM⟩ : ∃ M, M = x * p2 s + c := ⟨_, rfl⟩
        have hor : bits .or .u64 (IntKind.u64.wrap (x * 2 ^ s)) c = M := by rw [hM]; exact or_shift bx.1 bx.2 hs hcb.1 hcb.2
        have hmb := up_bound bx.1 bx.2 hs hcb.1 hcb.2
        rw [← hM] at hmb
        have m1 := hmb.1
        have m2 := hmb.2.1
        have m3 := hmb.2.2.1
        have HV' := hide (up_val HQL.out hxk hM HV.out)
        have HT' := hide (HT.out.set k (M % 4294967296))
        have HW' := hide (HW.out.set k (.int .u32 (M % 4294967296)))
        clear hlen sx hcx hM hmb hxk
        go_wp2
        go_roundw
        case rel => exact ⟨k + 1, M / 4294967296, qs ++ [M % 4294967296], _, by omega, rfl, by go_num, by omega, by have := HQL.out; simp; omega, limb_append.2 ⟨HQ.out, limb_cons.2 ⟨by omega, limb_nil⟩⟩, HV'.out, HW'.out, by simpa using HC.out, by rw [← set_snoc qs _ k _ HQL.out (by simp; omega)]; simpa using HT'.out⟩
        case measure => simp [intOf]; omega
      · have hkM : k = xs.length := by omega
        subst hkM
        have hlen : (qs ++ (List.replicate (xs.length + 1) (0 : Int)).drop xs.length).length = xs.length + 1 := by have := HQL.out; simp; omega
        have hcell := HT.out.cell HW.out.here xs.length (by rw [hlen]; omega)
        rw [Nat.zero_add] at hcell
        have hfree := HW.out.free xs.length
        generalize hold : (qs ++ (List.replicate (xs.length + 1) (0 : Int)).drop xs.length).getD xs.length 0 = old at hcell
        have hat2 := HT.out.set xs.length c
        rw [set_snoc qs _ xs.length c HQL.out (by simp), List.drop_of_length_le (by simp), List.append_nil, Nat.zero_add] at hat2
        have hw2 := HW.out.set xs.length (.int .u32 c)
        have hlr : Limb (qs ++ [c]) := limb_append.2 ⟨HQ.out, limb_cons.2 ⟨by omega, limb_nil⟩⟩
        have R := hide (And.intro hat2 (And.intro hw2 (And.intro hlr (show val (qs ++ [c]) = val xs * p2 s by
          rw [val_snoc, HQL.out, HV.out, vf_all xs _ (Nat.le_refl _)]))))
        have hbel : Below w.heap.size w (wr.setCell ⟨w.heap.size, xs.length, none⟩ (.int .u32 c)) := hb1.trans (hw2.below (Nat.le_refl _))
        have hc2 : c < 4294967296 := by omega
        clear hat2 hw2 hlr hlen hold
        go_wp2
        go_ret
        exact ⟨_, qs ++ [c], rfl, R.out.2.2.1, by have := HQL.out; simp; omega, R.out.2.2.2, R.out.2.1.here, by simpa using HC.out, R.out.1, hbel⟩

end Lm
end Go.Proofs.Ythbomfboohjcfaa
