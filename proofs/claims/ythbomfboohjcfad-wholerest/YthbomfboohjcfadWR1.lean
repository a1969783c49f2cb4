/-
  WholeRest: the divisor is not 0.
-/
import Derived.Test.YthbomfboohjcfadWRt
import Derived.Test.YthbomfboohjcfadWS
namespace Go.Proofs.Ythbomfboohjcfad
namespace Lm
open Go.RowKit

theorem below_al {w w' : World} (h : Below w.heap.size w w') (o : Obj) : Below w.heap.size w (w'.alloc o) := h.alloc h.size o
theorem below_then {w w' w'' : World} (h : Below w.heap.size w w') (h2 : Below w'.heap.size w' w'') : Below w.heap.size w w'' := h.trans (h2.mono h.size)

theorem box_pair (w : World) : Box ((w.alloc (.cells #[.bool false, .slice none 0 0] 24)).alloc (.cells #[.bool false, .slice none 0 0] 24)) w.heap.size false (.slice none 0 0) ∧ Box ((w.alloc (.cells #[.bool false, .slice none 0 0] 24)).alloc (.cells #[.bool false, .slice none 0 0] 24)) (w.heap.size + 1) false (.slice none 0 0) := by
  obtain ⟨w0, e0, b1, b2, _, _⟩ := boxed2 w false (.slice none 0 0) false (.slice none 0 0)
  rw [e0]
  exact ⟨b1, b2⟩

theorem size_set2 (w : World) (g : Nat) (a b : Value) : ((w.setCell ⟨g, 0, none⟩ a).setCell ⟨g, 1, none⟩ b).heap.size = w.heap.size := by simp [World.setCell]

theorem ends1 {w7 w9 : World} {sp st : Bool} {pp pt : Option Addr} {qp qt : Nat} {rp rt : List Int} {zp zt : Int} (H : Below w7.heap.size w7 w9) (GP : Wh w9 sp pp qp rp zp) (GT : Wh w9 st pt qt rt zt) : Below w7.heap.size w7 ((w9.alloc (.cells #[.bool sp, .slice pp rp.length qp] 24)).alloc (.cells #[.bool st, .slice pt rt.length qt] 24)) ∧ Box ((w9.alloc (.cells #[.bool sp, .slice pp rp.length qp] 24)).alloc (.cells #[.bool st, .slice pt rt.length qt] 24)) w9.heap.size sp (.slice pp rp.length qp) ∧ Box ((w9.alloc (.cells #[.bool sp, .slice pp rp.length qp] 24)).alloc (.cells #[.bool st, .slice pt rt.length qt] 24)) (w9.heap.size + 1) st (.slice pt rt.length qt) ∧ Wh ((w9.alloc (.cells #[.bool sp, .slice pp rp.length qp] 24)).alloc (.cells #[.bool st, .slice pt rt.length qt] 24)) sp pp qp rp zp ∧ Wh ((w9.alloc (.cells #[.bool sp, .slice pp rp.length qp] 24)).alloc (.cells #[.bool st, .slice pt rt.length qt] 24)) st pt qt rt zt := by
  obtain ⟨w0, e0, b1, b2, hb, _⟩ := boxed2 w9 sp (.slice pp rp.length qp) st (.slice pt rt.length qt)
  rw [e0]
  exact ⟨below_then H hb, b1, b2, GP.below hb, GT.below hb⟩

theorem ends1' {w7 w9 : World} {sp st : Bool} {pp pt : Option Addr} {qp qt : Nat} {rp rt : List Int} {zp zt : Int} (H : Below w7.heap.size w7 w9) (GP : Wh w9 sp pp qp rp zp) (GT : Wh w9 st pt qt rt zt) : Below w7.heap.size w7 ((w9.alloc (.cells #[.bool st, .slice pt rt.length qt] 24)).alloc (.cells #[.bool sp, .slice pp rp.length qp] 24)) ∧ Box ((w9.alloc (.cells #[.bool st, .slice pt rt.length qt] 24)).alloc (.cells #[.bool sp, .slice pp rp.length qp] 24)) (w9.heap.size + 1) sp (.slice pp rp.length qp) ∧ Box ((w9.alloc (.cells #[.bool st, .slice pt rt.length qt] 24)).alloc (.cells #[.bool sp, .slice pp rp.length qp] 24)) w9.heap.size st (.slice pt rt.length qt) ∧ Wh ((w9.alloc (.cells #[.bool st, .slice pt rt.length qt] 24)).alloc (.cells #[.bool sp, .slice pp rp.length qp] 24)) sp pp qp rp zp ∧ Wh ((w9.alloc (.cells #[.bool st, .slice pt rt.length qt] 24)).alloc (.cells #[.bool sp, .slice pp rp.length qp] 24)) st pt qt rt zt := by
  obtain ⟨w0, e0, b1, b2, hb, _⟩ := boxed2 w9 st (.slice pt rt.length qt) sp (.slice pp rp.length qp)
  rw [e0]
  exact ⟨below_then H hb, b2, b1, GP.below hb, GT.below hb⟩

theorem ends2 {w7 w9 : World} {sp st : Bool} {pp pt : Option Addr} {qp qt : Nat} {rp rt : List Int} {zp zt : Int} (H : Below w7.heap.size w7 w9) (GP : Wh w9 sp pp qp rp zp) (GT : Wh w9 st pt qt rt zt) {g : Nat} (bn : Box w9 g false (.slice none 0 0)) (hg : w7.heap.size ≤ g) : Below w7.heap.size w7 (((w9.setCell ⟨g, 0, none⟩ (.bool sp)).setCell ⟨g, 1, none⟩ (.slice pp rp.length qp)).alloc (.cells #[.bool st, .slice pt rt.length qt] 24)) ∧ Box (((w9.setCell ⟨g, 0, none⟩ (.bool sp)).setCell ⟨g, 1, none⟩ (.slice pp rp.length qp)).alloc (.cells #[.bool st, .slice pt rt.length qt] 24)) g sp (.slice pp rp.length qp) ∧ Box (((w9.setCell ⟨g, 0, none⟩ (.bool sp)).setCell ⟨g, 1, none⟩ (.slice pp rp.length qp)).alloc (.cells #[.bool st, .slice pt rt.length qt] 24)) w9.heap.size st (.slice pt rt.length qt) ∧ Wh (((w9.setCell ⟨g, 0, none⟩ (.bool sp)).setCell ⟨g, 1, none⟩ (.slice pp rp.length qp)).alloc (.cells #[.bool st, .slice pt rt.length qt] 24)) sp pp qp rp zp ∧ Wh (((w9.setCell ⟨g, 0, none⟩ (.bool sp)).setCell ⟨g, 1, none⟩ (.slice pp rp.length qp)).alloc (.cells #[.bool st, .slice pt rt.length qt] 24)) st pt qt rt zt := by
  have b1 := bn.set sp (.slice pp rp.length qp)
  have H1 := below_set2 H hg (.bool sp) (.slice pp rp.length qp)
  have g1 := bn.wh sp (.slice pp rp.length qp) GP
  have g2 := bn.wh sp (.slice pp rp.length qp) GT
  have hs := size_set2 w9 g (.bool sp) (.slice pp rp.length qp)
  generalize ((w9.setCell ⟨g, 0, none⟩ (.bool sp)).setCell ⟨g, 1, none⟩ (.slice pp rp.length qp)) = wa at *
  obtain ⟨w0, e0, b2, hb, _⟩ := boxed0 wa st (.slice pt rt.length qt)
  rw [e0]
  rw [hs] at b2
  exact ⟨below_then H1 hb, b1.below hb, b2, g1.below hb, g2.below hb⟩

theorem ends2' {w7 w9 : World} {sp st : Bool} {pp pt : Option Addr} {qp qt : Nat} {rp rt : List Int} {zp zt : Int} (H : Below w7.heap.size w7 w9) (GP : Wh w9 sp pp qp rp zp) (GT : Wh w9 st pt qt rt zt) {g : Nat} (bn : Box w9 g false (.slice none 0 0)) (hg : w7.heap.size ≤ g) : Below w7.heap.size w7 (((w9.setCell ⟨g, 0, none⟩ (.bool st)).setCell ⟨g, 1, none⟩ (.slice pt rt.length qt)).alloc (.cells #[.bool sp, .slice pp rp.length qp] 24)) ∧ Box (((w9.setCell ⟨g, 0, none⟩ (.bool st)).setCell ⟨g, 1, none⟩ (.slice pt rt.length qt)).alloc (.cells #[.bool sp, .slice pp rp.length qp] 24)) w9.heap.size sp (.slice pp rp.length qp) ∧ Box (((w9.setCell ⟨g, 0, none⟩ (.bool st)).setCell ⟨g, 1, none⟩ (.slice pt rt.length qt)).alloc (.cells #[.bool sp, .slice pp rp.length qp] 24)) g st (.slice pt rt.length qt) ∧ Wh (((w9.setCell ⟨g, 0, none⟩ (.bool st)).setCell ⟨g, 1, none⟩ (.slice pt rt.length qt)).alloc (.cells #[.bool sp, .slice pp rp.length qp] 24)) sp pp qp rp zp ∧ Wh (((w9.setCell ⟨g, 0, none⟩ (.bool st)).setCell ⟨g, 1, none⟩ (.slice pt rt.length qt)).alloc (.cells #[.bool sp, .slice pp rp.length qp] 24)) st pt qt rt zt := by
  have b1 := bn.set st (.slice pt rt.length qt)
  have H1 := below_set2 H hg (.bool st) (.slice pt rt.length qt)
  have g1 := bn.wh st (.slice pt rt.length qt) GP
  have g2 := bn.wh st (.slice pt rt.length qt) GT
  have hs := size_set2 w9 g (.bool st) (.slice pt rt.length qt)
  generalize ((w9.setCell ⟨g, 0, none⟩ (.bool st)).setCell ⟨g, 1, none⟩ (.slice pt rt.length qt)) = wa at *
  obtain ⟨w0, e0, b2, hb, _⟩ := boxed0 wa sp (.slice pp rp.length qp)
  rw [e0]
  rw [hs] at b2
  exact ⟨below_then H1 hb, b2, b1.below hb, g1.below hb, g2.below hb⟩

theorem ends3 {w7 w9 : World} {sp st : Bool} {pp pt : Option Addr} {qp qt : Nat} {rp rt : List Int} {zp zt : Int} (H : Below w7.heap.size w7 w9) (GP : Wh w9 sp pp qp rp zp) (GT : Wh w9 st pt qt rt zt) {ga gb : Nat} (bA : Box w9 ga false (.slice none 0 0)) (bB : Box w9 gb false (.slice none 0 0)) (hn : ga ≠ gb) (hga : w7.heap.size ≤ ga) (hgb : w7.heap.size ≤ gb) : Below w7.heap.size w7 ((((w9.setCell ⟨ga, 0, none⟩ (.bool sp)).setCell ⟨ga, 1, none⟩ (.slice pp rp.length qp)).setCell ⟨gb, 0, none⟩ (.bool st)).setCell ⟨gb, 1, none⟩ (.slice pt rt.length qt)) ∧ Box ((((w9.setCell ⟨ga, 0, none⟩ (.bool sp)).setCell ⟨ga, 1, none⟩ (.slice pp rp.length qp)).setCell ⟨gb, 0, none⟩ (.bool st)).setCell ⟨gb, 1, none⟩ (.slice pt rt.length qt)) ga sp (.slice pp rp.length qp) ∧ Box ((((w9.setCell ⟨ga, 0, none⟩ (.bool sp)).setCell ⟨ga, 1, none⟩ (.slice pp rp.length qp)).setCell ⟨gb, 0, none⟩ (.bool st)).setCell ⟨gb, 1, none⟩ (.slice pt rt.length qt)) gb st (.slice pt rt.length qt) ∧ Wh ((((w9.setCell ⟨ga, 0, none⟩ (.bool sp)).setCell ⟨ga, 1, none⟩ (.slice pp rp.length qp)).setCell ⟨gb, 0, none⟩ (.bool st)).setCell ⟨gb, 1, none⟩ (.slice pt rt.length qt)) sp pp qp rp zp ∧ Wh ((((w9.setCell ⟨ga, 0, none⟩ (.bool sp)).setCell ⟨ga, 1, none⟩ (.slice pp rp.length qp)).setCell ⟨gb, 0, none⟩ (.bool st)).setCell ⟨gb, 1, none⟩ (.slice pt rt.length qt)) st pt qt rt zt := by
  have b1 := bA.set sp (.slice pp rp.length qp)
  have b2 := box_other bB (Ne.symm hn) (.bool sp) (.slice pp rp.length qp)
  have H1 := below_set2 H hga (.bool sp) (.slice pp rp.length qp)
  have g1 := bA.wh sp (.slice pp rp.length qp) GP
  have g2 := bA.wh sp (.slice pp rp.length qp) GT
  generalize ((w9.setCell ⟨ga, 0, none⟩ (.bool sp)).setCell ⟨ga, 1, none⟩ (.slice pp rp.length qp)) = wa at *
  exact ⟨below_set2 H1 hgb _ _, box_other b1 hn _ _, b2.set st (.slice pt rt.length qt), b2.wh st (.slice pt rt.length qt) g1, b2.wh st (.slice pt rt.length qt) g2⟩

set_option maxRecDepth 20000 in
set_option maxHeartbeats 4000000 in
theorem wrest_pos (w : World) (nx : Bool) (a0 : Option Addr) (n0 c0 : Nat) (xs : List Int) (zx : Int) (ny : Bool) (a1 : Option Addr) (n1 c1 : Nat) (ys : List Int) (zy : Int) (AX : Ag w nx a0 n0 c0 xs zx) (AY : Ag w ny a1 n1 c1 ys zy) (b0 : n0 ≤ 35184372088832) (b1 : n1 ≤ 35184372088832) (h : ¬ 1500 < 1 + (n0 : Int) + (1 + n1)) (h0 : zy ≠ 0) :
    Calls Try.prog 6 #[.agg #[.bool nx, .slice a0 n0 c0], .agg #[.bool ny, .slice a1 n1 c1]] w fun e w' => e = .returned (.bool true) ∧ Below w.heap.size w w' := by
  obtain ⟨e0', _, _, _⟩ := AX.sl.parts
  obtain ⟨e1', _, _, ly'⟩ := AY.sl.parts
  have L0 : xs.length ≤ 1500 := by omega
  have L1 : ys.length ≤ 1500 := by omega
  have HAB : Hid (sg false (val ys) = (zy.natAbs : Int)) := by
    have h1 := AY.worth
    have h2 := (val_bounds ly').1
    show _ = _
    cases ny <;> simp [sg] at h1 ⊢ <;> omega
  have H0 := hide h0
  obtain ⟨sy, hsy, hsn⟩ : ∃ s, Int.sign zy = s ∧ (s == 0) = false := ⟨_, rfl, by simp [h0]⟩
  have HSY := hide hsy
  have HN0 : Hid (-zy ≠ 0) := by show _ ≠ _; omega
  clear e0' e1' h0 hsy ly'
  obtain ⟨w0, e0, bx, by', hb0, hs0⟩ := boxed2 w nx (.slice a0 n0 c0) ny (.slice a1 n1 c1)
  have E0 := hide e0
  have HB : Below w.heap.size w w0 := hb0
  replace AX := AX.below hb0
  replace AY := AY.below hb0
  clear e0 hs0 hb0
  have hw1 : IntKind.i64.wrap (1 + (n0 : Int) + (1 + (n1 : Int))) = 1 + (n0 : Int) + (1 + (n1 : Int)) := wrap_in (by omega) (by omega)
  go_enter Try.func6, Try.ntmps6
  go_wp2_with fail
  rw [E0.out]
  clear E0
  refine (wawake_any _).mono ?_
  rintro e w1 ⟨rfl, hb1⟩
  replace HB := HB.trans (hb1.mono HB.size)
  replace AX := AX.below hb1
  replace AY := AY.below hb1
  replace bx := bx.below hb1
  replace by' := by'.below hb1
  clear hb1
  go_wp2
  obtain ⟨bx1, bx2, bx3, bx4⟩ := bx.facts
  obtain ⟨by1, by2, by3, by4⟩ := by'.facts
  go_region_held3 (fun w' => w'.cell? ⟨w.heap.size, 0, none⟩ = some (.bool nx) ∧ w'.cell? ⟨w.heap.size, 1, none⟩ = some (.slice a0 n0 c0) ∧ w'.cell? ⟨w.heap.size + 1, 0, none⟩ = some (.bool ny) ∧ w'.cell? ⟨w.heap.size + 1, 1, none⟩ = some (.slice a1 n1 c1)) (go_keep) (first
    | (go_at_call 9; have _hq := hb2'; refine (wlen_any _ _ _ _ _ b1).mono ?_; rintro e w3 ⟨rfl, hb3⟩; have hb3' : Below w2.heap.size w2 w3 := (show Below w2.heap.size w2 _ by repeat (first | exact Below.refl _ _ | refine Below.drew ?_)).trans hb3; have HB := HB.trans (hb3'.mono HB.size); replace AX := AX.below hb3'; replace AY := AY.below hb3'; replace bx := bx.below hb3'; clear bx1 bx2 bx3 bx4; obtain ⟨bx1, bx2, bx3, bx4⟩ := bx.facts; replace by' := by'.below hb3'; clear by1 by2 by3 by4; obtain ⟨by1, by2, by3, by4⟩ := by'.facts)
    | (go_at_call 9; refine (wlen_any _ _ _ _ _ b0).mono ?_; rintro e w2 ⟨rfl, hb2⟩; have hb2' : Below w1.heap.size w1 w2 := (show Below w1.heap.size w1 _ by repeat (first | exact Below.refl _ _ | refine Below.drew ?_)).trans hb2; have HB := HB.trans (hb2'.mono HB.size); replace AX := AX.below hb2'; replace AY := AY.below hb2'; replace bx := bx.below hb2'; clear bx1 bx2 bx3 bx4; obtain ⟨bx1, bx2, bx3, bx4⟩ := bx.facts; replace by' := by'.below hb2'; clear by1 by2 by3 by4; obtain ⟨by1, by2, by3, by4⟩ := by'.facts))
  all_goals
    clear bx1 bx2 bx3 bx4 by1 by2 by3 by4
    go_wp2_with fail
    refine (divmod_z _ _ _ _ _ _ _ AX _ _ _ _ _ _ AY (by omega) (by omega) H0.out).mono ?_
    rintro e w4 ⟨sq, pq, qq, rq, sr, pr, qr, rr, rfl, GQ, GR, lq, lr, hb4⟩
    replace HB := HB.trans (hb4.mono HB.size)
    replace AX := AX.below hb4
    replace AY := AY.below hb4
    replace bx := bx.below hb4
    replace by' := by'.below hb4
    obtain ⟨w5, e5, bq, br, hb5, hs5⟩ := boxed2 w4 sq (.slice pq rq.length qq) sr (.slice pr rr.length qr)
    have E5 := hide e5
    replace HB := HB.trans (hb5.mono HB.size)
    replace AX := AX.below hb5
    replace AY := AY.below hb5
    replace bx := bx.below hb5
    replace by' := by'.below hb5
    replace GQ := GQ.below hb5
    replace GR := GR.below hb5
    obtain ⟨ya, yb, yc, yd⟩ := by'.facts
    rw [← e5] at ya yb yc yd
    clear e5 hs5
    go_wp2_with fail
    rw [E5.out]
    refine (sign_z _ _ _ _ _ _ _ AY (by omega) sy HSY.out).mono ?_
    rintro e w6 ⟨rfl, hb6⟩
    replace HB := HB.trans (hb6.mono HB.size)
    replace AX := AX.below hb6
    replace AY := AY.below hb6
    replace bx := bx.below hb6
    replace by' := by'.below hb6
    replace GQ := GQ.below hb6
    replace GR := GR.below hb6
    replace bq := bq.below hb6
    replace br := br.below hb6
    clear ya yb yc yd E5
    obtain ⟨ya, yb, yc, yd⟩ := by'.facts
    obtain ⟨w7, e7, bs, hb7, hs7⟩ := boxed0 w6 false (.slice a1 n1 c1)
    have E7 := hide e7
    clear e7 hs7
    go_wp2
    rw [E7.out]
    rename_i K hK
    replace HB := HB.trans (hb7.mono HB.size)
    replace AX := AX.below hb7
    replace AY := AY.below hb7
    replace bx := bx.below hb7
    replace by' := by'.below hb7
    replace GQ := GQ.below hb7
    replace GR := GR.below hb7
    replace bq := bq.below hb7
    replace br := br.below hb7
    clear ya yb yc yd E7
    have lx7 := lt_of_heap bx
    have ly7 := lt_of_heap by'
    have lq7 := lt_of_heap bq
    have lr7 := lt_of_heap br
    have ls7 := lt_of_heap bs
    have hn70 : (w.heap.size = w7.heap.size) = False := eq_false (by omega)
    have hn71 : (w7.heap.size = w.heap.size) = False := eq_false (by omega)
    have hn72 : (w.heap.size + 1 = w7.heap.size) = False := eq_false (by omega)
    have hn73 : (w7.heap.size = w.heap.size + 1) = False := eq_false (by omega)
    have hn74 : (w.heap.size = w7.heap.size + 1) = False := eq_false (by omega)
    have hn75 : (w7.heap.size + 1 = w.heap.size) = False := eq_false (by omega)
    obtain ⟨bx1, bx2, bx3, bx4⟩ := bx.facts
    obtain ⟨by1, by2, by3, by4⟩ := by'.facts
    go_region_held3 (fun w' => w'.cell? ⟨w.heap.size, 0, none⟩ = some (.bool nx) ∧ w'.cell? ⟨w.heap.size, 1, none⟩ = some (.slice a0 n0 c0) ∧ w'.cell? ⟨w.heap.size + 1, 0, none⟩ = some (.bool ny) ∧ w'.cell? ⟨w.heap.size + 1, 1, none⟩ = some (.slice a1 n1 c1)) (go_keep) (first
      | (go_at_call 11; have _hq := hb8'; refine (divmod_z _ _ _ _ _ _ _ (AX.below (below_then hb8' (by repeat (first | exact Below.refl _ _ | refine Below.drew ?_ | refine below_al ?_ _)))) _ _ _ _ _ _ (G8.below (by repeat (first | exact Below.refl _ _ | refine Below.drew ?_ | refine below_al ?_ _))).ag (by omega) (by omega) HN0.out).mono ?_; rintro e w9 ⟨sp, pp, qp, rp, st, pt, qt, rt, rfl, GP, GT, lp, lt', hb9⟩; have hb9' : Below w8.heap.size w8 w9 := below_then (show Below w8.heap.size w8 _ by repeat (first | exact Below.refl _ _ | refine Below.drew ?_ | refine below_al ?_ _)) hb9; have s89 := hb9'.size; clear bx1 bx2 bx3 bx4 by1 by2 by3 by4; have H79 := below_then hb8' hb9'; obtain ⟨bx1, bx2, bx3, bx4⟩ := (bx.below H79).facts; obtain ⟨by1, by2, by3, by4⟩ := (by'.below H79).facts; have hn90 : (w.heap.size = w9.heap.size) = False := eq_false (by omega); have hn91 : (w9.heap.size = w.heap.size) = False := eq_false (by omega); have hn92 : (w.heap.size + 1 = w9.heap.size) = False := eq_false (by omega); have hn93 : (w9.heap.size = w.heap.size + 1) = False := eq_false (by omega); have hn94 : (w.heap.size = w9.heap.size + 1) = False := eq_false (by omega); have hn95 : (w9.heap.size + 1 = w.heap.size) = False := eq_false (by omega); first | (replace bm := bm.below hb9'; replace bn := bn.below hb9'; clear bn1 bn2 bn3 bn4 bm1 bm2 bm3 bm4; obtain ⟨bn1, bn2, bn3, bn4⟩ := bn.facts; obtain ⟨bm1, bm2, bm3, bm4⟩ := bm.facts; have qa : ∀ v u : Value, Box ((w9.setCell ⟨w7.heap.size, 0, none⟩ v).setCell ⟨w7.heap.size, 1, none⟩ u) (w7.heap.size + 1) false (.slice none 0 0) := fun v u => box_other bm (by omega) v u; have qa1 := fun v u => (Box.facts (qa v u)).1; have qa2 := fun v u => (Box.facts (qa v u)).2.1; have qa3 := fun v u => (Box.facts (qa v u)).2.2.1; have qa4 := fun v u => (Box.facts (qa v u)).2.2.2; have qc : ∀ v u : Value, Box ((w9.setCell ⟨(w7.heap.size + 1), 0, none⟩ v).setCell ⟨(w7.heap.size + 1), 1, none⟩ u) w7.heap.size false (.slice none 0 0) := fun v u => box_other bn (by omega) v u; have qc1 := fun v u => (Box.facts (qc v u)).1; have qc2 := fun v u => (Box.facts (qc v u)).2.1; have qc3 := fun v u => (Box.facts (qc v u)).2.2.1; have qc4 := fun v u => (Box.facts (qc v u)).2.2.2) | (replace bn := bn.below hb9'; clear bn1 bn2 bn3 bn4; obtain ⟨bn1, bn2, bn3, bn4⟩ := bn.facts; first | (have bm := Box.below (g := w8.heap.size) (ng := false) (v := .slice none 0 0) (by exact heap_alloc_new _ _) hb9; obtain ⟨bm1, bm2, bm3, bm4⟩ := bm.facts; have qa : ∀ v u : Value, Box ((w9.setCell ⟨w7.heap.size, 0, none⟩ v).setCell ⟨w7.heap.size, 1, none⟩ u) w8.heap.size false (.slice none 0 0) := fun v u => box_other bm (by omega) v u; have qa1 := fun v u => (Box.facts (qa v u)).1; have qa2 := fun v u => (Box.facts (qa v u)).2.1; have qa3 := fun v u => (Box.facts (qa v u)).2.2.1; have qa4 := fun v u => (Box.facts (qa v u)).2.2.2; have qc : ∀ v u : Value, Box ((w9.setCell ⟨w8.heap.size, 0, none⟩ v).setCell ⟨w8.heap.size, 1, none⟩ u) w7.heap.size false (.slice none 0 0) := fun v u => box_other bn (by omega) v u; have qc1 := fun v u => (Box.facts (qc v u)).1; have qc2 := fun v u => (Box.facts (qc v u)).2.1; have qc3 := fun v u => (Box.facts (qc v u)).2.2.1; have qc4 := fun v u => (Box.facts (qc v u)).2.2.2) | (have qn : ∀ o : Obj, Box (w9.alloc o) _ false (.slice none 0 0) := fun o => bn.below ((Below.refl _ _).alloc (Nat.le_refl _) o); have qn1 := fun o => (qn o).facts.1; have qn2 := fun o => (qn o).facts.2.1; have qn3 := fun o => (qn o).facts.2.2.1; have qn4 := fun o => (qn o).facts.2.2.2; have lbn := lt_of_heap bn; have qm := fun v u => box_other (heap_alloc_new w9 (.cells #[.bool false, .slice none 0 0] 24 : Obj)) (Nat.ne_of_gt lbn) v u; have qm1 := fun v u => Box.facts (qm v u) |>.1; have qm2 := fun v u => Box.facts (qm v u) |>.2.1; have qm3 := fun v u => Box.facts (qm v u) |>.2.2.1; have qm4 := fun v u => Box.facts (qm v u) |>.2.2.2)) | (have bn := Box.below (g := w8.heap.size) (ng := false) (v := .slice none 0 0) (by exact (box_pair _).1) hb9; have bm := Box.below (g := w8.heap.size + 1) (ng := false) (v := .slice none 0 0) (by exact (box_pair _).2) hb9; obtain ⟨bn1, bn2, bn3, bn4⟩ := bn.facts; obtain ⟨bm1, bm2, bm3, bm4⟩ := bm.facts; have qa : ∀ v u : Value, Box ((w9.setCell ⟨w8.heap.size, 0, none⟩ v).setCell ⟨w8.heap.size, 1, none⟩ u) (w8.heap.size + 1) false (.slice none 0 0) := fun v u => box_other bm (by omega) v u; have qa1 := fun v u => (Box.facts (qa v u)).1; have qa2 := fun v u => (Box.facts (qa v u)).2.1; have qa3 := fun v u => (Box.facts (qa v u)).2.2.1; have qa4 := fun v u => (Box.facts (qa v u)).2.2.2; have qc : ∀ v u : Value, Box ((w9.setCell ⟨(w8.heap.size + 1), 0, none⟩ v).setCell ⟨(w8.heap.size + 1), 1, none⟩ u) w8.heap.size false (.slice none 0 0) := fun v u => box_other bn (by omega) v u; have qc1 := fun v u => (Box.facts (qc v u)).1; have qc2 := fun v u => (Box.facts (qc v u)).2.1; have qc3 := fun v u => (Box.facts (qc v u)).2.2.1; have qc4 := fun v u => (Box.facts (qc v u)).2.2.2) | (have bn := Box.below (g := w8.heap.size) (ng := false) (v := .slice none 0 0) (by exact heap_alloc_new _ _) hb9; obtain ⟨bn1, bn2, bn3, bn4⟩ := bn.facts; (have qn : ∀ o : Obj, Box (w9.alloc o) _ false (.slice none 0 0) := fun o => bn.below ((Below.refl _ _).alloc (Nat.le_refl _) o); have qn1 := fun o => (qn o).facts.1; have qn2 := fun o => (qn o).facts.2.1; have qn3 := fun o => (qn o).facts.2.2.1; have qn4 := fun o => (qn o).facts.2.2.2; have lbn := lt_of_heap bn; have qm := fun v u => box_other (heap_alloc_new w9 (.cells #[.bool false, .slice none 0 0] 24 : Obj)) (Nat.ne_of_gt lbn) v u; have qm1 := fun v u => Box.facts (qm v u) |>.1; have qm2 := fun v u => Box.facts (qm v u) |>.2.1; have qm3 := fun v u => Box.facts (qm v u) |>.2.2.1; have qm4 := fun v u => Box.facts (qm v u) |>.2.2.2)) | skip)
      | (go_at_call 21; refine (neg_z _ _ _ _ _ _ _ (AY.below (by repeat (first | exact Below.refl _ _ | refine Below.drew ?_ | refine below_al ?_ _))) (by omega)).mono ?_; rintro e w8 ⟨s8, p8, q8, r8, rfl, G8, l8, hb8⟩; have hb8' : Below w7.heap.size w7 w8 := below_then (show Below w7.heap.size w7 _ by repeat (first | exact Below.refl _ _ | refine Below.drew ?_ | refine below_al ?_ _)) hb8; have s78 := hb8'.size; clear bx1 bx2 bx3 bx4 by1 by2 by3 by4; obtain ⟨bx1, bx2, bx3, bx4⟩ := (bx.below hb8').facts; obtain ⟨by1, by2, by3, by4⟩ := (by'.below hb8').facts; have hn80 : (w.heap.size = w8.heap.size) = False := eq_false (by omega); have hn81 : (w8.heap.size = w.heap.size) = False := eq_false (by omega); have hn82 : (w.heap.size + 1 = w8.heap.size) = False := eq_false (by omega); have hn83 : (w8.heap.size = w.heap.size + 1) = False := eq_false (by omega); have hn84 : (w.heap.size = w8.heap.size + 1) = False := eq_false (by omega); have hn85 : (w8.heap.size + 1 = w.heap.size) = False := eq_false (by omega); first | (have bn := Box.below (g := w7.heap.size) (ng := false) (v := .slice none 0 0) (by exact (box_pair _).1) hb8; have bm := Box.below (g := w7.heap.size + 1) (ng := false) (v := .slice none 0 0) (by exact (box_pair _).2) hb8; obtain ⟨bn1, bn2, bn3, bn4⟩ := bn.facts; obtain ⟨bm1, bm2, bm3, bm4⟩ := bm.facts) | (have bn := Box.below (g := w7.heap.size) (ng := false) (v := .slice none 0 0) (by exact heap_alloc_new _ _) hb8; have lbn8 := lt_of_heap bn; obtain ⟨bn1, bn2, bn3, bn4⟩ := bn.facts) | skip))
    all_goals
      first
        | (have E := ends3 H79 GP GT bn bm (by omega) (by omega) (by omega)
           exact hK _ _ (wrest_tail w _ nx a0 n0 c0 xs zx ny a1 n1 c1 ys zy (AX.below E.1) (AY.below E.1) ⟨(AY.below E.1).sl, HAB.out⟩ H0.out L0 L1 (HB.trans (E.1.mono HB.size)) _ _ _ _ _ _ _ sq pq qq rq (GQ.below E.1) (by omega) sr pr qr rr (GR.below E.1) (by omega) sp pp qp rp E.2.2.2.1 st pt qt rt E.2.2.2.2 (bx.below E.1) (by'.below E.1) (bq.below E.1) (br.below E.1) (bs.below E.1) E.2.1 E.2.2.1 _ _ _ _ _ _ _ _ _ _ _ _ _ _ _ _ _ _ _ _ _ _ _ _ _ _ _ _ _ _ _ _ _ _ _ _ _ _ _ _ _ _ _ _ _ _ _ _ _ _ _ _ _ _ _ _ _ _ _ _ _ _ _ _ _ _ _ _ _ _ _ _ _ _ _ _ _ _ _))
        | (have E := ends3 H79 GP GT bm bn (by omega) (by omega) (by omega)
           exact hK _ _ (wrest_tail w _ nx a0 n0 c0 xs zx ny a1 n1 c1 ys zy (AX.below E.1) (AY.below E.1) ⟨(AY.below E.1).sl, HAB.out⟩ H0.out L0 L1 (HB.trans (E.1.mono HB.size)) _ _ _ _ _ _ _ sq pq qq rq (GQ.below E.1) (by omega) sr pr qr rr (GR.below E.1) (by omega) sp pp qp rp E.2.2.2.1 st pt qt rt E.2.2.2.2 (bx.below E.1) (by'.below E.1) (bq.below E.1) (br.below E.1) (bs.below E.1) E.2.1 E.2.2.1 _ _ _ _ _ _ _ _ _ _ _ _ _ _ _ _ _ _ _ _ _ _ _ _ _ _ _ _ _ _ _ _ _ _ _ _ _ _ _ _ _ _ _ _ _ _ _ _ _ _ _ _ _ _ _ _ _ _ _ _ _ _ _ _ _ _ _ _ _ _ _ _ _ _ _ _ _ _ _))
        | (have E := ends2 H79 GP GT bn (by omega)
           exact hK _ _ (wrest_tail w _ nx a0 n0 c0 xs zx ny a1 n1 c1 ys zy (AX.below E.1) (AY.below E.1) ⟨(AY.below E.1).sl, HAB.out⟩ H0.out L0 L1 (HB.trans (E.1.mono HB.size)) _ _ _ _ _ _ _ sq pq qq rq (GQ.below E.1) (by omega) sr pr qr rr (GR.below E.1) (by omega) sp pp qp rp E.2.2.2.1 st pt qt rt E.2.2.2.2 (bx.below E.1) (by'.below E.1) (bq.below E.1) (br.below E.1) (bs.below E.1) E.2.1 E.2.2.1 _ _ _ _ _ _ _ _ _ _ _ _ _ _ _ _ _ _ _ _ _ _ _ _ _ _ _ _ _ _ _ _ _ _ _ _ _ _ _ _ _ _ _ _ _ _ _ _ _ _ _ _ _ _ _ _ _ _ _ _ _ _ _ _ _ _ _ _ _ _ _ _ _ _ _ _ _ _ _))
        | (have E := ends2' H79 GP GT bn (by omega)
           exact hK _ _ (wrest_tail w _ nx a0 n0 c0 xs zx ny a1 n1 c1 ys zy (AX.below E.1) (AY.below E.1) ⟨(AY.below E.1).sl, HAB.out⟩ H0.out L0 L1 (HB.trans (E.1.mono HB.size)) _ _ _ _ _ _ _ sq pq qq rq (GQ.below E.1) (by omega) sr pr qr rr (GR.below E.1) (by omega) sp pp qp rp E.2.2.2.1 st pt qt rt E.2.2.2.2 (bx.below E.1) (by'.below E.1) (bq.below E.1) (br.below E.1) (bs.below E.1) E.2.1 E.2.2.1 _ _ _ _ _ _ _ _ _ _ _ _ _ _ _ _ _ _ _ _ _ _ _ _ _ _ _ _ _ _ _ _ _ _ _ _ _ _ _ _ _ _ _ _ _ _ _ _ _ _ _ _ _ _ _ _ _ _ _ _ _ _ _ _ _ _ _ _ _ _ _ _ _ _ _ _ _ _ _))
        | (have E := ends1 H79 GP GT
           exact hK _ _ (wrest_tail w _ nx a0 n0 c0 xs zx ny a1 n1 c1 ys zy (AX.below E.1) (AY.below E.1) ⟨(AY.below E.1).sl, HAB.out⟩ H0.out L0 L1 (HB.trans (E.1.mono HB.size)) _ _ _ _ _ _ _ sq pq qq rq (GQ.below E.1) (by omega) sr pr qr rr (GR.below E.1) (by omega) sp pp qp rp E.2.2.2.1 st pt qt rt E.2.2.2.2 (bx.below E.1) (by'.below E.1) (bq.below E.1) (br.below E.1) (bs.below E.1) E.2.1 E.2.2.1 _ _ _ _ _ _ _ _ _ _ _ _ _ _ _ _ _ _ _ _ _ _ _ _ _ _ _ _ _ _ _ _ _ _ _ _ _ _ _ _ _ _ _ _ _ _ _ _ _ _ _ _ _ _ _ _ _ _ _ _ _ _ _ _ _ _ _ _ _ _ _ _ _ _ _ _ _ _ _))
        | (have E := ends1' H79 GP GT
           exact hK _ _ (wrest_tail w _ nx a0 n0 c0 xs zx ny a1 n1 c1 ys zy (AX.below E.1) (AY.below E.1) ⟨(AY.below E.1).sl, HAB.out⟩ H0.out L0 L1 (HB.trans (E.1.mono HB.size)) _ _ _ _ _ _ _ sq pq qq rq (GQ.below E.1) (by omega) sr pr qr rr (GR.below E.1) (by omega) sp pp qp rp E.2.2.2.1 st pt qt rt E.2.2.2.2 (bx.below E.1) (by'.below E.1) (bq.below E.1) (br.below E.1) (bs.below E.1) E.2.1 E.2.2.1 _ _ _ _ _ _ _ _ _ _ _ _ _ _ _ _ _ _ _ _ _ _ _ _ _ _ _ _ _ _ _ _ _ _ _ _ _ _ _ _ _ _ _ _ _ _ _ _ _ _ _ _ _ _ _ _ _ _ _ _ _ _ _ _ _ _ _ _ _ _ _ _ _ _ _ _ _ _ _))

theorem wrest_law (w : World) (nx : Bool) (a0 : Option Addr) (n0 c0 : Nat) (xs : List Int) (zx : Int) (ny : Bool) (a1 : Option Addr) (n1 c1 : Nat) (ys : List Int) (zy : Int) (AX : Ag w nx a0 n0 c0 xs zx) (AY : Ag w ny a1 n1 c1 ys zy) (b0 : n0 ≤ 35184372088832) (b1 : n1 ≤ 35184372088832) :
    Calls Try.prog 6 #[.agg #[.bool nx, .slice a0 n0 c0], .agg #[.bool ny, .slice a1 n1 c1]] w fun e w' => e = .returned (.bool true) ∧ Below w.heap.size w w' := by
  by_cases h : 1500 < 1 + (n0 : Int) + (1 + n1)
  · exact wrest_long w nx a0 n0 c0 xs zx ny a1 n1 c1 ys zy AX AY b0 b1 h
  · by_cases hy : zy = 0
    · subst hy
      exact wrest_zero w nx a0 n0 c0 xs zx ny a1 n1 c1 ys AX AY b0 b1 h
    · exact wrest_pos w nx a0 n0 c0 xs zx ny a1 n1 c1 ys zy AX AY b0 b1 h hy

end Lm
end Go.Proofs.Ythbomfboohjcfad
