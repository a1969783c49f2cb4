/-
  The contract of the reference's DivMod on whole numbers. WholeDivides: what its walk uses beside the contracts. WholeDivides answers true, whatever two numbers it is handed. The given statement on WholeDivides, for every input: the call answers true, and each argument reads behind it as it read before. No condition beyond the statement's own.
-/
import Derived.Test.YthbomfboohjcfadWDvLawM46
import Derived.Test.YthbomfboohjcfadWDvLawM37
import Derived.Test.YthbomfboohjcfadWDvLawM40
import Derived.Test.YthbomfboohjcfadWDvLawM41
import Derived.Test.YthbomfboohjcfadRows
import Derived.ProofKit
import Derived.OpenShut
import Derived.ShutString
import Derived.ChangeOld
import Derived.SizedLaws
import Derived.Lib.SmallJoins
namespace Go.Proofs.Ythbomfboohjcfad
namespace Dm
open Go.RowKit
open Lm (hide lt_of_cell lt_of_heap)

theorem below_al {w w' : World} (h : Below w.heap.size w w') (o : Obj) : Below w.heap.size w (w'.alloc o) := h.alloc h.size o
theorem below_then {w w' w'' : World} (h : Below w.heap.size w w') (h2 : Below w'.heap.size w' w'') : Below w.heap.size w w'' := h.trans (h2.mono h.size)

theorem box_pair (w : World) : Box ((w.alloc (.cells #[.bool false, .slice none 0 0] 58)).alloc (.cells #[.bool false, .slice none 0 0] 58)) w.heap.size false (.slice none 0 0) ∧ Box ((w.alloc (.cells #[.bool false, .slice none 0 0] 58)).alloc (.cells #[.bool false, .slice none 0 0] 58)) (w.heap.size + 1) false (.slice none 0 0) := by
  obtain ⟨w0, e0, b1, b2, _, _⟩ := boxed2 w false (.slice none 0 0) false (.slice none 0 0)
  rw [e0]
  exact ⟨b1, b2⟩

theorem size_set2 (w : World) (g : Nat) (a b : Value) : ((w.setCell ⟨g, 0, none⟩ a).setCell ⟨g, 1, none⟩ b).heap.size = w.heap.size := by simp [World.setCell]

theorem ends1 {w7 w9 : World} {sp st : Bool} {pp pt : Option Addr} {qp qt : Nat} {rp rt : List Int} {zp zt : Int} (H : Below w7.heap.size w7 w9) (GP : Wh w9 sp pp qp rp zp) (GT : Wh w9 st pt qt rt zt) : Below w7.heap.size w7 ((w9.alloc (.cells #[.bool sp, .slice pp rp.length qp] 58)).alloc (.cells #[.bool st, .slice pt rt.length qt] 58)) ∧ Box ((w9.alloc (.cells #[.bool sp, .slice pp rp.length qp] 58)).alloc (.cells #[.bool st, .slice pt rt.length qt] 58)) w9.heap.size sp (.slice pp rp.length qp) ∧ Box ((w9.alloc (.cells #[.bool sp, .slice pp rp.length qp] 58)).alloc (.cells #[.bool st, .slice pt rt.length qt] 58)) (w9.heap.size + 1) st (.slice pt rt.length qt) ∧ Wh ((w9.alloc (.cells #[.bool sp, .slice pp rp.length qp] 58)).alloc (.cells #[.bool st, .slice pt rt.length qt] 58)) sp pp qp rp zp ∧ Wh ((w9.alloc (.cells #[.bool sp, .slice pp rp.length qp] 58)).alloc (.cells #[.bool st, .slice pt rt.length qt] 58)) st pt qt rt zt := by
  obtain ⟨w0, e0, b1, b2, hb, _⟩ := boxed2 w9 sp (.slice pp rp.length qp) st (.slice pt rt.length qt)
  rw [e0]
  exact ⟨below_then H hb, b1, b2, GP.below hb, GT.below hb⟩

theorem ends1' {w7 w9 : World} {sp st : Bool} {pp pt : Option Addr} {qp qt : Nat} {rp rt : List Int} {zp zt : Int} (H : Below w7.heap.size w7 w9) (GP : Wh w9 sp pp qp rp zp) (GT : Wh w9 st pt qt rt zt) : Below w7.heap.size w7 ((w9.alloc (.cells #[.bool st, .slice pt rt.length qt] 58)).alloc (.cells #[.bool sp, .slice pp rp.length qp] 58)) ∧ Box ((w9.alloc (.cells #[.bool st, .slice pt rt.length qt] 58)).alloc (.cells #[.bool sp, .slice pp rp.length qp] 58)) (w9.heap.size + 1) sp (.slice pp rp.length qp) ∧ Box ((w9.alloc (.cells #[.bool st, .slice pt rt.length qt] 58)).alloc (.cells #[.bool sp, .slice pp rp.length qp] 58)) w9.heap.size st (.slice pt rt.length qt) ∧ Wh ((w9.alloc (.cells #[.bool st, .slice pt rt.length qt] 58)).alloc (.cells #[.bool sp, .slice pp rp.length qp] 58)) sp pp qp rp zp ∧ Wh ((w9.alloc (.cells #[.bool st, .slice pt rt.length qt] 58)).alloc (.cells #[.bool sp, .slice pp rp.length qp] 58)) st pt qt rt zt := by
  obtain ⟨w0, e0, b1, b2, hb, _⟩ := boxed2 w9 st (.slice pt rt.length qt) sp (.slice pp rp.length qp)
  rw [e0]
  exact ⟨below_then H hb, b2, b1, GP.below hb, GT.below hb⟩

theorem ends2 {w7 w9 : World} {sp st : Bool} {pp pt : Option Addr} {qp qt : Nat} {rp rt : List Int} {zp zt : Int} (H : Below w7.heap.size w7 w9) (GP : Wh w9 sp pp qp rp zp) (GT : Wh w9 st pt qt rt zt) {g : Nat} (bn : Box w9 g false (.slice none 0 0)) (hg : w7.heap.size ≤ g) : Below w7.heap.size w7 (((w9.setCell ⟨g, 0, none⟩ (.bool sp)).setCell ⟨g, 1, none⟩ (.slice pp rp.length qp)).alloc (.cells #[.bool st, .slice pt rt.length qt] 58)) ∧ Box (((w9.setCell ⟨g, 0, none⟩ (.bool sp)).setCell ⟨g, 1, none⟩ (.slice pp rp.length qp)).alloc (.cells #[.bool st, .slice pt rt.length qt] 58)) g sp (.slice pp rp.length qp) ∧ Box (((w9.setCell ⟨g, 0, none⟩ (.bool sp)).setCell ⟨g, 1, none⟩ (.slice pp rp.length qp)).alloc (.cells #[.bool st, .slice pt rt.length qt] 58)) w9.heap.size st (.slice pt rt.length qt) ∧ Wh (((w9.setCell ⟨g, 0, none⟩ (.bool sp)).setCell ⟨g, 1, none⟩ (.slice pp rp.length qp)).alloc (.cells #[.bool st, .slice pt rt.length qt] 58)) sp pp qp rp zp ∧ Wh (((w9.setCell ⟨g, 0, none⟩ (.bool sp)).setCell ⟨g, 1, none⟩ (.slice pp rp.length qp)).alloc (.cells #[.bool st, .slice pt rt.length qt] 58)) st pt qt rt zt := by
  have b1 := bn.set sp (.slice pp rp.length qp)
  have H1 := below_set2 H hg (.bool sp) (.slice pp rp.length qp)
  have g1 := bn.wh sp (.slice pp rp.length qp) GP
  have g2 := bn.wh sp (.slice pp rp.length qp) GT
  have hs := size_set2 w9 g (.bool sp) (.slice pp rp.length qp)
  generalize ((w9.setCell ⟨g, 0, none⟩ (.bool sp)).setCell ⟨g, 1, none⟩ (.slice pp rp.length qp)) = wa at *
  obtain ⟨w0, e0, b2, hb, _⟩ := boxed0 wa st (.slice pt rt.length qt)
  rw [e0]
  rw [hs] at b2
  exact ⟨below_then H1 hb, b1.below hb, b2, g1.below hb, g2.below hb⟩

theorem ends2' {w7 w9 : World} {sp st : Bool} {pp pt : Option Addr} {qp qt : Nat} {rp rt : List Int} {zp zt : Int} (H : Below w7.heap.size w7 w9) (GP : Wh w9 sp pp qp rp zp) (GT : Wh w9 st pt qt rt zt) {g : Nat} (bn : Box w9 g false (.slice none 0 0)) (hg : w7.heap.size ≤ g) : Below w7.heap.size w7 (((w9.setCell ⟨g, 0, none⟩ (.bool st)).setCell ⟨g, 1, none⟩ (.slice pt rt.length qt)).alloc (.cells #[.bool sp, .slice pp rp.length qp] 58)) ∧ Box (((w9.setCell ⟨g, 0, none⟩ (.bool st)).setCell ⟨g, 1, none⟩ (.slice pt rt.length qt)).alloc (.cells #[.bool sp, .slice pp rp.length qp] 58)) w9.heap.size sp (.slice pp rp.length qp) ∧ Box (((w9.setCell ⟨g, 0, none⟩ (.bool st)).setCell ⟨g, 1, none⟩ (.slice pt rt.length qt)).alloc (.cells #[.bool sp, .slice pp rp.length qp] 58)) g st (.slice pt rt.length qt) ∧ Wh (((w9.setCell ⟨g, 0, none⟩ (.bool st)).setCell ⟨g, 1, none⟩ (.slice pt rt.length qt)).alloc (.cells #[.bool sp, .slice pp rp.length qp] 58)) sp pp qp rp zp ∧ Wh (((w9.setCell ⟨g, 0, none⟩ (.bool st)).setCell ⟨g, 1, none⟩ (.slice pt rt.length qt)).alloc (.cells #[.bool sp, .slice pp rp.length qp] 58)) st pt qt rt zt := by
  have b1 := bn.set st (.slice pt rt.length qt)
  have H1 := below_set2 H hg (.bool st) (.slice pt rt.length qt)
  have g1 := bn.wh st (.slice pt rt.length qt) GP
  have g2 := bn.wh st (.slice pt rt.length qt) GT
  have hs := size_set2 w9 g (.bool st) (.slice pt rt.length qt)
  generalize ((w9.setCell ⟨g, 0, none⟩ (.bool st)).setCell ⟨g, 1, none⟩ (.slice pt rt.length qt)) = wa at *
  obtain ⟨w0, e0, b2, hb, _⟩ := boxed0 wa sp (.slice pp rp.length qp)
  rw [e0]
  rw [hs] at b2
  exact ⟨below_then H1 hb, b2, b1.below hb, g1.below hb, g2.below hb⟩

theorem ends3 {w7 w9 : World} {sp st : Bool} {pp pt : Option Addr} {qp qt : Nat} {rp rt : List Int} {zp zt : Int} (H : Below w7.heap.size w7 w9) (GP : Wh w9 sp pp qp rp zp) (GT : Wh w9 st pt qt rt zt) {ga gb : Nat} (bA : Box w9 ga false (.slice none 0 0)) (bB : Box w9 gb false (.slice none 0 0)) (hn : ga ≠ gb) (hga : w7.heap.size ≤ ga) (hgb : w7.heap.size ≤ gb) : Below w7.heap.size w7 ((((w9.setCell ⟨ga, 0, none⟩ (.bool sp)).setCell ⟨ga, 1, none⟩ (.slice pp rp.length qp)).setCell ⟨gb, 0, none⟩ (.bool st)).setCell ⟨gb, 1, none⟩ (.slice pt rt.length qt)) ∧ Box ((((w9.setCell ⟨ga, 0, none⟩ (.bool sp)).setCell ⟨ga, 1, none⟩ (.slice pp rp.length qp)).setCell ⟨gb, 0, none⟩ (.bool st)).setCell ⟨gb, 1, none⟩ (.slice pt rt.length qt)) ga sp (.slice pp rp.length qp) ∧ Box ((((w9.setCell ⟨ga, 0, none⟩ (.bool sp)).setCell ⟨ga, 1, none⟩ (.slice pp rp.length qp)).setCell ⟨gb, 0, none⟩ (.bool st)).setCell ⟨gb, 1, none⟩ (.slice pt rt.length qt)) gb st (.slice pt rt.length qt) ∧ Wh ((((w9.setCell ⟨ga, 0, none⟩ (.bool sp)).setCell ⟨ga, 1, none⟩ (.slice pp rp.length qp)).setCell ⟨gb, 0, none⟩ (.bool st)).setCell ⟨gb, 1, none⟩ (.slice pt rt.length qt)) sp pp qp rp zp ∧ Wh ((((w9.setCell ⟨ga, 0, none⟩ (.bool sp)).setCell ⟨ga, 1, none⟩ (.slice pp rp.length qp)).setCell ⟨gb, 0, none⟩ (.bool st)).setCell ⟨gb, 1, none⟩ (.slice pt rt.length qt)) st pt qt rt zt := by
  have b1 := bA.set sp (.slice pp rp.length qp)
  have b2 := box_other bB (Ne.symm hn) (.bool sp) (.slice pp rp.length qp)
  have H1 := below_set2 H hga (.bool sp) (.slice pp rp.length qp)
  have g1 := bA.wh sp (.slice pp rp.length qp) GP
  have g2 := bA.wh sp (.slice pp rp.length qp) GT
  generalize ((w9.setCell ⟨ga, 0, none⟩ (.bool sp)).setCell ⟨ga, 1, none⟩ (.slice pp rp.length qp)) = wa at *
  exact ⟨below_set2 H1 hgb _ _, box_other b1 hn _ _, b2.set st (.slice pt rt.length qt), b2.wh st (.slice pt rt.length qt) g1, b2.wh st (.slice pt rt.length qt) g2⟩

set_option maxRecDepth 20000 in
set_option maxHeartbeats 2000000 in
theorem rdivmod2_none (w : World) (nx : Bool) (a1 : Option Addr) (n1 c1 : Nat) (xs : List Int) (x : Int) (hx : Lm.Ag w nx a1 n1 c1 xs x) (ny : Bool) (a2 : Option Addr) (n2 c2 : Nat) (ys : List Int) (y : Int) (hy : Lm.Ag w ny a2 n2 c2 ys y) (m1 : xs.length ≤ 50000) (m2 : ys.length ≤ 50000) (h0 : y = 0) :
    Calls Try.prog 13 #[.agg #[.bool nx, .slice a1 n1 c1], .agg #[.bool ny, .slice a2 n2 c2]] w fun e w' => e = .returned (.tuple #[.agg #[.bool false, .slice none 0 0], .agg #[.bool false, .slice none 0 0], .bool false]) ∧ Below w.heap.size w w' := by
  have _hm1 := m1
  obtain ⟨w0, e0, bx, bY0, br, bs, hb0, hs0⟩ := Lm.boxed4 w nx (.slice a1 n1 c1) ny (.slice a2 n2 c2)
  have E0 := hide e0
  have hx0 := hx.below hb0
  have hy0 := hy.below hb0
  clear e0
  go_enter Try.func13, Try.ntmps13
  go_upto_region 1 with fail
  rw [E0.out]
  obtain ⟨by1, by2, by3, by4⟩ := bY0.facts
  go_wp2_with fail
  refine (nof_z _ _ _ _ _ ys _ hy0 (by omega)).mono ?_
  rintro e w1 ⟨nY, pY, qY, DY, rfl, GY, dY, hb1⟩
  obtain ⟨w2, e2, bY, hb2, hs2⟩ := boxed0 w1 nY (.slice pY DY.length qY)
  have E2 := hide e2
  have z1 := hb1.size
  have HB := hb0.trans (hb1.mono hb0.size)
  replace HB := HB.trans (hb2.mono HB.size)
  replace bx := (bx.below hb1).below hb2
  replace br := (br.below hb1).below hb2
  replace bs := (bs.below hb1).below hb2
  replace GY := GY.below hb2
  have hx2 := (hx0.below hb1).below hb2
  clear e2 by1 by2 by3 by4 hb1 hb2 E0 hx0 hy0 bY0
  go_upto_region 2 with fail
  rw [E2.out]
  clear E2
  obtain ⟨bY1, bY2, bY3, bY4⟩ := bY.facts
  go_wp2_with fail
  refine (nsign_z _ _ _ _ DY _ GY).mono ?_
  rintro e w7 ⟨rfl, hb7⟩
  replace HB := HB.trans (hb7.mono HB.size)
  replace bx := bx.below hb7
  replace br := br.below hb7
  replace bs := bs.below hb7
  replace bY := bY.below hb7
  replace GY := GY.below hb7
  have hx7 := hx2.below hb7
  have s27 := hb7.size
  clear bY1 bY2 bY3 bY4 hb7 hx2
  rw [h0, Int.sign_zero]
  clear h0 GY hx7 bY bx
  obtain ⟨br1, br2, br3, br4⟩ := br.facts
  obtain ⟨bs1, bs2, bs3, bs4⟩ := bs.facts
  have F1 := hide (lbox_past (br.set false (.slice none 0 0)) (show w.heap.size + 1 + 1 ≠ w.heap.size + 1 + 1 + 1 by omega) (.bool false) (.slice none 0 0)).facts
  have bs' := lbox_past bs (show w.heap.size + 1 + 1 + 1 ≠ w.heap.size + 1 + 1 by omega) (.bool false) (.slice none 0 0)
  have F2 := hide (bs'.set false (.slice none 0 0)).facts
  have Z2 := hide (below_set2 (below_set2 HB (show w.heap.size ≤ w.heap.size + 1 + 1 by omega) (.bool false) (.slice none 0 0)) (show w.heap.size ≤ w.heap.size + 1 + 1 + 1 by omega) (.bool false) (.slice none 0 0))
  obtain ⟨bt1, bt2, bt3, bt4⟩ := bs'.facts
  clear bs'
  go_wp2
  refine bodyPost_ret (v := .tuple #[.agg #[.bool false, .slice none 0 0], .agg #[.bool false, .slice none 0 0], .bool false]) ?_ rfl ⟨rfl, Z2.out⟩
  simp [results, Try.results13, go_sem, F1.out.1, F1.out.2.1, F2.out.1, F2.out.2.1]

set_option maxRecDepth 20000 in
set_option maxHeartbeats 8000000 in
theorem rdivmod2_any (w : World) (nx : Bool) (a1 : Option Addr) (n1 c1 : Nat) (xs : List Int) (x : Int) (hx : Lm.Ag w nx a1 n1 c1 xs x) (ny : Bool) (a2 : Option Addr) (n2 c2 : Nat) (ys : List Int) (y : Int) (hy : Lm.Ag w ny a2 n2 c2 ys y) (m1 : xs.length ≤ 50000) (m2 : ys.length ≤ 50000) (h0 : y ≠ 0) :
    Calls Try.prog 13 #[.agg #[.bool nx, .slice a1 n1 c1], .agg #[.bool ny, .slice a2 n2 c2]] w fun e w' => ∃ nq pq qq Q nr pr qr R, e = .returned (.tuple #[.agg #[.bool nq, .slice pq Q.length qq], .agg #[.bool nr, .slice pr R.length qr], .bool true]) ∧ WFr w.heap.size w'.heap.size w' nq pq qq Q (x / y) ∧ WFr w.heap.size w'.heap.size w' nr pr qr R (x % y) ∧ Q.length ≤ xs.length ∧ R.length ≤ ys.length ∧ Below w.heap.size w w' := by
  have HXB := hide (ag_bound hx)
  have HYB := hide (ag_bound hy)
  have H0 := hide h0
  have hsn : (Int.sign y == 0) = false := by simp [Int.sign_eq_zero_iff_zero, h0]
  have HQB : Hid (((x / y).natAbs : Int) < Lm.pw xs.length) := by
    have h1 := HXB.out
    have h2 : (x / y).natAbs ≤ x.natAbs := Int.natAbs_ediv_le_natAbs x y
    show (((x / y).natAbs : Nat) : Int) < _
    omega
  have HRB : Hid (((x % y).natAbs : Int) < Lm.pw ys.length) := by
    have h1 := HYB.out
    have h2 := Int.emod_lt x h0
    have h3 := Int.emod_nonneg x h0
    show (((x % y).natAbs : Nat) : Int) < _
    omega
  clear h0
  obtain ⟨w0, e0, bx, bY0, br, bs, hb0, hs0⟩ := Lm.boxed4 w nx (.slice a1 n1 c1) ny (.slice a2 n2 c2)
  have E0 := hide e0
  have hx0 := hx.below hb0
  have hy0 := hy.below hb0
  clear e0
  go_enter Try.func13, Try.ntmps13
  go_upto_region 1 with fail
  rw [E0.out]
  obtain ⟨by1, by2, by3, by4⟩ := bY0.facts
  go_wp2_with fail
  refine (nof_z _ _ _ _ _ ys _ hy0 (by omega)).mono ?_
  rintro e w1 ⟨nY, pY, qY, DY, rfl, GY, dY, hb1⟩
  obtain ⟨w2, e2, bY, hb2, hs2⟩ := boxed0 w1 nY (.slice pY DY.length qY)
  have E2 := hide e2
  have z1 := hb1.size
  have HB := hb0.trans (hb1.mono hb0.size)
  replace HB := HB.trans (hb2.mono HB.size)
  replace bx := (bx.below hb1).below hb2
  replace br := (br.below hb1).below hb2
  replace bs := (bs.below hb1).below hb2
  replace GY := GY.below hb2
  have hx2 := (hx0.below hb1).below hb2
  clear e2 by1 by2 by3 by4 hb1 hb2 E0 hx0 hy0 bY0
  go_upto_region 2 with fail
  rw [E2.out]
  clear E2
  obtain ⟨bY1, bY2, bY3, bY4⟩ := bY.facts
  go_wp2_with fail
  refine (nsign_z _ _ _ _ DY _ GY).mono ?_
  rintro e w7 ⟨rfl, hb7⟩
  replace HB := HB.trans (hb7.mono HB.size)
  replace bx := bx.below hb7
  replace br := br.below hb7
  replace bs := bs.below hb7
  replace bY := bY.below hb7
  replace GY := GY.below hb7
  have hx7 := hx2.below hb7
  have s27 := hb7.size
  clear bY1 bY2 bY3 bY4 hb7 hx2
  go_upto_region 4 with fail
  go_cut [8, 9] (fun u8 u9 wx => ∃ g8 g9 nq pq qq Q nr pr qr R, u8 = .pointer (some ⟨g8, 0, none⟩) ∧ u9 = .pointer (some ⟨g9, 0, none⟩) ∧ Box wx g8 nq (.slice pq Q.length qq) ∧ Box wx g9 nr (.slice pr R.length qr) ∧ Wh wx nq pq qq Q (x / y) ∧ Wh wx nr pr qr R (x % y) ∧ Q.length ≤ 400000 ∧ R.length ≤ 400000 ∧ Below w7.heap.size w7 wx ∧ (w7.heap.size ≤ g8 ∧ w7.heap.size ≤ g9))
  case first =>
    have lY7 := lt_of_heap bY
    have lX7 := lt_of_heap bx
    generalize w1.heap.size = g7 at *
    have hn70 : (g7 = w7.heap.size) = False := eq_false (by omega)
    have hn71 : (w7.heap.size = g7) = False := eq_false (by omega)
    have hn72 : (g7 = w7.heap.size + 1) = False := eq_false (by omega)
    have hn73 : (w7.heap.size + 1 = g7) = False := eq_false (by omega)
    have hn74 : (w.heap.size = w7.heap.size) = False := eq_false (by omega)
    have hn75 : (w7.heap.size = w.heap.size) = False := eq_false (by omega)
    have hn76 : (w.heap.size = w7.heap.size + 1) = False := eq_false (by omega)
    have hn77 : (w7.heap.size + 1 = w.heap.size) = False := eq_false (by omega)
    obtain ⟨bY1, bY2, bY3, bY4⟩ := bY.facts
    obtain ⟨bx1, bx2, bx3, bx4⟩ := bx.facts
    go_region_held3 (fun w' => w'.cell? ⟨g7, 0, none⟩ = some (.bool nY) ∧ w'.cell? ⟨g7, 1, none⟩ = some (.slice pY DY.length qY) ∧ w'.cell? ⟨w.heap.size, 0, none⟩ = some (.bool nx) ∧ w'.cell? ⟨w.heap.size, 1, none⟩ = some (.slice a1 n1 c1)) (go_keep) (first
      | (go_at_call 38; have _hq := hb8'; refine (ndivmod_z _ _ p8 q8 D8 _ (G8.below (by repeat (first | exact Below.refl _ _ | refine Below.drew ?_ | refine below_al ?_ _))) _ _ _ DY _ ((GY.below hb8').below (by repeat (first | exact Below.refl _ _ | refine Below.drew ?_ | refine below_al ?_ _))) (by omega) (by omega) H0.out).mono ?_; rintro e w9 ⟨sp, pp, qp, rp, st, pt, qt, rt, rfl, GP, GT, lp, lt', hb9⟩; have hb9' : Below w8.heap.size w8 w9 := below_then (show Below w8.heap.size w8 _ by repeat (first | exact Below.refl _ _ | refine Below.drew ?_ | refine below_al ?_ _)) hb9; have s89 := hb9'.size; clear bY1 bY2 bY3 bY4 bx1 bx2 bx3 bx4; have H79 := below_then hb8' hb9'; obtain ⟨bY1, bY2, bY3, bY4⟩ := (bY.below H79).facts; obtain ⟨bx1, bx2, bx3, bx4⟩ := (bx.below H79).facts; have hn90 : (g7 = w9.heap.size) = False := eq_false (by omega); have hn91 : (w9.heap.size = g7) = False := eq_false (by omega); have hn92 : (g7 = w9.heap.size + 1) = False := eq_false (by omega); have hn93 : (w9.heap.size + 1 = g7) = False := eq_false (by omega); have hn94 : (w.heap.size = w9.heap.size) = False := eq_false (by omega); have hn95 : (w9.heap.size = w.heap.size) = False := eq_false (by omega); have hn96 : (w.heap.size = w9.heap.size + 1) = False := eq_false (by omega); have hn97 : (w9.heap.size + 1 = w.heap.size) = False := eq_false (by omega); first | (replace bm := bm.below hb9'; replace bn := bn.below hb9'; clear bn1 bn2 bn3 bn4 bm1 bm2 bm3 bm4; obtain ⟨bn1, bn2, bn3, bn4⟩ := bn.facts; obtain ⟨bm1, bm2, bm3, bm4⟩ := bm.facts; have qa : ∀ v u : Value, Box ((w9.setCell ⟨w7.heap.size, 0, none⟩ v).setCell ⟨w7.heap.size, 1, none⟩ u) (w7.heap.size + 1) false (.slice none 0 0) := fun v u => box_other bm (by omega) v u; have qa1 := fun v u => (Box.facts (qa v u)).1; have qa2 := fun v u => (Box.facts (qa v u)).2.1; have qa3 := fun v u => (Box.facts (qa v u)).2.2.1; have qa4 := fun v u => (Box.facts (qa v u)).2.2.2; have qc : ∀ v u : Value, Box ((w9.setCell ⟨(w7.heap.size + 1), 0, none⟩ v).setCell ⟨(w7.heap.size + 1), 1, none⟩ u) w7.heap.size false (.slice none 0 0) := fun v u => box_other bn (by omega) v u; have qc1 := fun v u => (Box.facts (qc v u)).1; have qc2 := fun v u => (Box.facts (qc v u)).2.1; have qc3 := fun v u => (Box.facts (qc v u)).2.2.1; have qc4 := fun v u => (Box.facts (qc v u)).2.2.2) | (replace bn := bn.below hb9'; clear bn1 bn2 bn3 bn4; obtain ⟨bn1, bn2, bn3, bn4⟩ := bn.facts; first | (have bm := Box.below (g := w8.heap.size) (ng := false) (v := .slice none 0 0) (by exact heap_alloc_new _ _) hb9; obtain ⟨bm1, bm2, bm3, bm4⟩ := bm.facts; have qa : ∀ v u : Value, Box ((w9.setCell ⟨w7.heap.size, 0, none⟩ v).setCell ⟨w7.heap.size, 1, none⟩ u) w8.heap.size false (.slice none 0 0) := fun v u => box_other bm (by omega) v u; have qa1 := fun v u => (Box.facts (qa v u)).1; have qa2 := fun v u => (Box.facts (qa v u)).2.1; have qa3 := fun v u => (Box.facts (qa v u)).2.2.1; have qa4 := fun v u => (Box.facts (qa v u)).2.2.2; have qc : ∀ v u : Value, Box ((w9.setCell ⟨w8.heap.size, 0, none⟩ v).setCell ⟨w8.heap.size, 1, none⟩ u) w7.heap.size false (.slice none 0 0) := fun v u => box_other bn (by omega) v u; have qc1 := fun v u => (Box.facts (qc v u)).1; have qc2 := fun v u => (Box.facts (qc v u)).2.1; have qc3 := fun v u => (Box.facts (qc v u)).2.2.1; have qc4 := fun v u => (Box.facts (qc v u)).2.2.2) | (have qn : ∀ o : Obj, Box (w9.alloc o) _ false (.slice none 0 0) := fun o => bn.below ((Below.refl _ _).alloc (Nat.le_refl _) o); have qn1 := fun o => (qn o).facts.1; have qn2 := fun o => (qn o).facts.2.1; have qn3 := fun o => (qn o).facts.2.2.1; have qn4 := fun o => (qn o).facts.2.2.2; have lbn := lt_of_heap bn; have qm := fun v u => box_other (heap_alloc_new w9 (.cells #[.bool false, .slice none 0 0] 58 : Obj)) (Nat.ne_of_gt lbn) v u; have qm1 := fun v u => Box.facts (qm v u) |>.1; have qm2 := fun v u => Box.facts (qm v u) |>.2.1; have qm3 := fun v u => Box.facts (qm v u) |>.2.2.1; have qm4 := fun v u => Box.facts (qm v u) |>.2.2.2)) | (have bn := Box.below (g := w8.heap.size) (ng := false) (v := .slice none 0 0) (by exact (box_pair _).1) hb9; have bm := Box.below (g := w8.heap.size + 1) (ng := false) (v := .slice none 0 0) (by exact (box_pair _).2) hb9; obtain ⟨bn1, bn2, bn3, bn4⟩ := bn.facts; obtain ⟨bm1, bm2, bm3, bm4⟩ := bm.facts; have qa : ∀ v u : Value, Box ((w9.setCell ⟨w8.heap.size, 0, none⟩ v).setCell ⟨w8.heap.size, 1, none⟩ u) (w8.heap.size + 1) false (.slice none 0 0) := fun v u => box_other bm (by omega) v u; have qa1 := fun v u => (Box.facts (qa v u)).1; have qa2 := fun v u => (Box.facts (qa v u)).2.1; have qa3 := fun v u => (Box.facts (qa v u)).2.2.1; have qa4 := fun v u => (Box.facts (qa v u)).2.2.2; have qc : ∀ v u : Value, Box ((w9.setCell ⟨(w8.heap.size + 1), 0, none⟩ v).setCell ⟨(w8.heap.size + 1), 1, none⟩ u) w8.heap.size false (.slice none 0 0) := fun v u => box_other bn (by omega) v u; have qc1 := fun v u => (Box.facts (qc v u)).1; have qc2 := fun v u => (Box.facts (qc v u)).2.1; have qc3 := fun v u => (Box.facts (qc v u)).2.2.1; have qc4 := fun v u => (Box.facts (qc v u)).2.2.2) | (have bn := Box.below (g := w8.heap.size) (ng := false) (v := .slice none 0 0) (by exact heap_alloc_new _ _) hb9; obtain ⟨bn1, bn2, bn3, bn4⟩ := bn.facts; (have qn : ∀ o : Obj, Box (w9.alloc o) _ false (.slice none 0 0) := fun o => bn.below ((Below.refl _ _).alloc (Nat.le_refl _) o); have qn1 := fun o => (qn o).facts.1; have qn2 := fun o => (qn o).facts.2.1; have qn3 := fun o => (qn o).facts.2.2.1; have qn4 := fun o => (qn o).facts.2.2.2; have lbn := lt_of_heap bn; have qm := fun v u => box_other (heap_alloc_new w9 (.cells #[.bool false, .slice none 0 0] 58 : Obj)) (Nat.ne_of_gt lbn) v u; have qm1 := fun v u => Box.facts (qm v u) |>.1; have qm2 := fun v u => Box.facts (qm v u) |>.2.1; have qm3 := fun v u => Box.facts (qm v u) |>.2.2.1; have qm4 := fun v u => Box.facts (qm v u) |>.2.2.2)) | skip)
      | (go_at_call 36; refine (nof_z _ _ _ _ _ xs x (hx7.below (by repeat (first | exact Below.refl _ _ | refine Below.drew ?_ | refine below_al ?_ _))) (by omega)).mono ?_; rintro e w8 ⟨m8, p8, q8, D8, rfl, G8, d8, hb8⟩; have hb8' : Below w7.heap.size w7 w8 := below_then (show Below w7.heap.size w7 _ by repeat (first | exact Below.refl _ _ | refine Below.drew ?_ | refine below_al ?_ _)) hb8; have s78 := hb8'.size; clear bY1 bY2 bY3 bY4 bx1 bx2 bx3 bx4; obtain ⟨bY1, bY2, bY3, bY4⟩ := (bY.below hb8').facts; obtain ⟨bx1, bx2, bx3, bx4⟩ := (bx.below hb8').facts; have hn80 : (g7 = w8.heap.size) = False := eq_false (by omega); have hn81 : (w8.heap.size = g7) = False := eq_false (by omega); have hn82 : (g7 = w8.heap.size + 1) = False := eq_false (by omega); have hn83 : (w8.heap.size + 1 = g7) = False := eq_false (by omega); have hn84 : (w.heap.size = w8.heap.size) = False := eq_false (by omega); have hn85 : (w8.heap.size = w.heap.size) = False := eq_false (by omega); have hn86 : (w.heap.size = w8.heap.size + 1) = False := eq_false (by omega); have hn87 : (w8.heap.size + 1 = w.heap.size) = False := eq_false (by omega); first | (have bn := Box.below (g := w7.heap.size) (ng := false) (v := .slice none 0 0) (by exact (box_pair _).1) hb8; have bm := Box.below (g := w7.heap.size + 1) (ng := false) (v := .slice none 0 0) (by exact (box_pair _).2) hb8; obtain ⟨bn1, bn2, bn3, bn4⟩ := bn.facts; obtain ⟨bm1, bm2, bm3, bm4⟩ := bm.facts) | (have bn := Box.below (g := w7.heap.size) (ng := false) (v := .slice none 0 0) (by exact heap_alloc_new _ _) hb8; have lbn8 := lt_of_heap bn; obtain ⟨bn1, bn2, bn3, bn4⟩ := bn.facts) | skip))
    all_goals
      clear bY1 bY2 bY3 bY4 bx1 bx2 bx3 bx4
      have L1 : rp.length ≤ 400000 := by omega
      have L2 : rt.length ≤ 400000 := by omega
      go_wp2
      go_meet
      case rel =>
        first
          | (have E := ends3 H79 GP GT bn bm (by omega) (by omega) (by omega); with_reducible exact ⟨_, _, sp, pp, qp, rp, st, pt, qt, rt, rfl, rfl, E.2.1, E.2.2.1, E.2.2.2.1, E.2.2.2.2, L1, L2, E.1, by omega⟩)
          | (have E := ends3 H79 GP GT bm bn (by omega) (by omega) (by omega); with_reducible exact ⟨_, _, sp, pp, qp, rp, st, pt, qt, rt, rfl, rfl, E.2.1, E.2.2.1, E.2.2.2.1, E.2.2.2.2, L1, L2, E.1, by omega⟩)
          | (have E := ends2 H79 GP GT bn (by omega); with_reducible exact ⟨_, _, sp, pp, qp, rp, st, pt, qt, rt, rfl, rfl, E.2.1, E.2.2.1, E.2.2.2.1, E.2.2.2.2, L1, L2, E.1, by omega⟩)
          | (have E := ends2' H79 GP GT bn (by omega); with_reducible exact ⟨_, _, sp, pp, qp, rp, st, pt, qt, rt, rfl, rfl, E.2.1, E.2.2.1, E.2.2.2.1, E.2.2.2.2, L1, L2, E.1, by omega⟩)
          | (have E := ends1 H79 GP GT; with_reducible exact ⟨_, _, sp, pp, qp, rp, st, pt, qt, rt, rfl, rfl, E.2.1, E.2.2.1, E.2.2.2.1, E.2.2.2.2, L1, L2, E.1, by omega⟩)
          | (have E := ends1' H79 GP GT; with_reducible exact ⟨_, _, sp, pp, qp, rp, st, pt, qt, rt, rfl, rfl, E.2.1, E.2.2.1, E.2.2.2.1, E.2.2.2.2, L1, L2, E.1, by omega⟩)
  case rest =>
    obtain ⟨g8, g9, nq, pq, qq, Q, nr, pr, qr, R, rfl, rfl, b8, b9, GQ, GR, lQ, lR, hb7, hg8, hg9⟩ := hcut
    have l7 := lt_of_heap bs
    replace HB := HB.trans (hb7.mono HB.size)
    replace br := br.below hb7
    replace bs := bs.below hb7
    clear bY GY bx hx7
    have ne1 : ¬ (w.heap.size + 1 + 1 = g8) := by omega
    have ne2 : ¬ (w.heap.size + 1 + 1 + 1 = g8) := by omega
    have ne3 : ¬ (w.heap.size + 1 + 1 = g9) := by omega
    have ne4 : ¬ (w.heap.size + 1 + 1 + 1 = g9) := by omega
    obtain ⟨b81, b82, b83, b84⟩ := b8.facts
    obtain ⟨b91, b92, b93, b94⟩ := b9.facts
    obtain ⟨br1, br2, br3, br4⟩ := br.facts
    obtain ⟨bs1, bs2, bs3, bs4⟩ := bs.facts
    go_wp2_with fail
    go_region_held3 (fun w' => w'.cell? ⟨g8, 0, none⟩ = some (.bool nq) ∧ w'.cell? ⟨g8, 1, none⟩ = some (.slice pq Q.length qq) ∧ w'.cell? ⟨g9, 0, none⟩ = some (.bool nr) ∧ w'.cell? ⟨g9, 1, none⟩ = some (.slice pr R.length qr)) (go_keep) (first
      | (go_at_call 39; have _hq := hb1'; refine (told_g _ _ _ _ R _ (GR.below (by repeat (first | exact Below.refl _ _ | refine Below.drew ?_))) ys.length HRB.out (by omega) (by omega)).mono ?_; rintro e w2 ⟨p2, q2, r2, rfl, F2, l2, hb2⟩; have hb2' : Below w1.heap.size w1 w2 := (show Below w1.heap.size w1 _ by repeat (first | exact Below.refl _ _ | refine Below.drew ?_)).trans hb2; replace F1 := F1.below hb2'; replace b8 := b8.below hb2'; clear b81 b82 b83 b84; obtain ⟨b81, b82, b83, b84⟩ := b8.facts; replace b9 := b9.below hb2'; clear b91 b92 b93 b94; obtain ⟨b91, b92, b93, b94⟩ := b9.facts; replace br := br.below hb2'; clear br1 br2 br3 br4; obtain ⟨br1, br2, br3, br4⟩ := br.facts; replace bs := bs.below hb2'; clear bs1 bs2 bs3 bs4; obtain ⟨bs1, bs2, bs3, bs4⟩ := bs.facts)
      | (go_at_call 39; refine (told_g _ _ _ _ Q _ (GQ.below (by repeat (first | exact Below.refl _ _ | refine Below.drew ?_))) xs.length HQB.out (by omega) (by omega)).mono ?_; rintro e w1 ⟨p1, q1, r1, rfl, F1, l1, hb1⟩; have hb1' : Below wc.heap.size wc w1 := (show Below wc.heap.size wc _ by repeat (first | exact Below.refl _ _ | refine Below.drew ?_)).trans hb1; replace GR := GR.below hb1'; replace b8 := b8.below hb1'; clear b81 b82 b83 b84; obtain ⟨b81, b82, b83, b84⟩ := b8.facts; replace b9 := b9.below hb1'; clear b91 b92 b93 b94; obtain ⟨b91, b92, b93, b94⟩ := b9.facts; replace br := br.below hb1'; clear br1 br2 br3 br4; obtain ⟨br1, br2, br3, br4⟩ := br.facts; replace bs := bs.below hb1'; clear bs1 bs2 bs3 bs4; obtain ⟨bs1, bs2, bs3, bs4⟩ := bs.facts))
    all_goals
      replace HB := (HB.trans (hb1'.mono HB.size)).trans (hb2'.mono (Nat.le_trans HB.size hb1'.size))
      have bs' := lbox_past bs (show w.heap.size + 1 + 1 + 1 ≠ w.heap.size + 1 + 1 by omega) (.bool nq) (.slice p1 r1.length q1)
      have X1 := hide (lbox_past (br.set nq (.slice p1 r1.length q1)) (show w.heap.size + 1 + 1 ≠ w.heap.size + 1 + 1 + 1 by omega) (.bool nr) (.slice p2 r2.length q2)).facts
      have X2 := hide (bs'.set nr (.slice p2 r2.length q2)).facts
      have sA := hb1'.size
      have sB := hb2'.size
      have sC := hb7.size
      have hsz : ((((w2.setCell ⟨w.heap.size + 1 + 1, 0, none⟩ (.bool nq)).setCell ⟨w.heap.size + 1 + 1, 1, none⟩ (.slice p1 r1.length q1)).setCell ⟨w.heap.size + 1 + 1 + 1, 0, none⟩ (.bool nr)).setCell ⟨w.heap.size + 1 + 1 + 1, 1, none⟩ (.slice p2 r2.length q2)).heap.size = w2.heap.size := by simp [World.setCell]
      have Y1 := hide (((F1.wide (B' := w7.heap.size) (T' := w2.heap.size) sC sB).kept (fun g _ hg _ => set2_kept (.bool nq) (.slice p1 r1.length q1) (show g ≠ w.heap.size + 1 + 1 by omega))).kept (fun g _ hg _ => set2_kept (.bool nr) (.slice p2 r2.length q2) (show g ≠ w.heap.size + 1 + 1 + 1 by omega)))
      have Y2 := hide (((F2.wide (B' := w7.heap.size) (T' := w2.heap.size) (Nat.le_trans sC sA) (Nat.le_refl _)).kept (fun g _ hg _ => set2_kept (.bool nq) (.slice p1 r1.length q1) (show g ≠ w.heap.size + 1 + 1 by omega))).kept (fun g _ hg _ => set2_kept (.bool nr) (.slice p2 r2.length q2) (show g ≠ w.heap.size + 1 + 1 + 1 by omega)))
      have HSZ := hide hsz
      clear hsz
      have Z2 := hide (below_set2 (below_set2 HB (show w.heap.size ≤ w.heap.size + 1 + 1 by omega) (.bool nq) (.slice p1 r1.length q1)) (show w.heap.size ≤ w.heap.size + 1 + 1 + 1 by omega) (.bool nr) (.slice p2 r2.length q2))
      clear b81 b82 b83 b84 b91 b92 b93 b94 bs'
      go_wp2
      refine bodyPost_ret (v := .tuple #[.agg #[.bool nq, .slice p1 r1.length q1], .agg #[.bool nr, .slice p2 r2.length q2], .bool true]) ?_ rfl ⟨nq, p1, q1, r1, nr, p2, q2, r2, rfl, Y1.out.wide (by omega) (Nat.le_of_eq HSZ.out.symm), Y2.out.wide (by omega) (Nat.le_of_eq HSZ.out.symm), l1, l2, by first | exact Z2.out | exact Below.drew Z2.out⟩
      simp [results, Try.results13, go_sem, X1.out.1, X1.out.2.1, X2.out.1, X2.out.2.1]

end Dm
end Go.Proofs.Ythbomfboohjcfad

namespace Go.Proofs.Ythbomfboohjcfad
namespace Lm
open Go.RowKit
open Dm (WFr set2_kept)

theorem wrap_in {x : Int} (h1 : -9223372036854775808 ≤ x) (h2 : x ≤ 9223372036854775807) : IntKind.i64.wrap x = x := by
  simp [IntKind.wrap, IntKind.bits, IntKind.signed]
  omega

theorem lb_al {w w' : World} (h : Below w.heap.size w w') (o : Obj) : Below w.heap.size w (w'.alloc o) := h.alloc h.size o
theorem lb_then {w w' w'' : World} (h : Below w.heap.size w w') (h2 : Below w'.heap.size w' w'') : Below w.heap.size w w'' := h.trans (h2.mono h.size)
theorem touch_set2 (w : World) (g : Nat) (b u : Value) : Touch w ((w.setCell ⟨g, 0, none⟩ b).setCell ⟨g, 1, none⟩ u) g :=
  ⟨rfl, rfl, rfl, by simp [World.setCell], fun k _ hk => set2_kept b u hk⟩
theorem Box.touch {w w' : World} {g L : Nat} {ng : Bool} {v : Value} (h : Box w g ng v) (t : Touch w w' L) (hn : g ≠ L) : Box w' g ng v := (t.other g (lt_of_heap h) hn).trans h
theorem Box.kp {w w' : World} {g p : Nat} {bs : List Nat} {ng : Bool} {v : Value} (h : Box w g ng v) (t : Kp w w' p bs) (hn : g ≠ p) (hb : g ∉ bs) : Box w' g ng v := (t.other g (lt_of_heap h) hn hb).trans h

/-- Boxes, all at once. -/
def BxL (w : World) (l : List (Nat × Bool × Value)) : Prop := ∀ t ∈ l, Box w t.1 t.2.1 t.2.2
theorem BxL.below {w w' : World} {l : List (Nat × Bool × Value)} (h : BxL w l) (hb : Below w.heap.size w w') : BxL w' l := fun t ht => (h t ht).below hb
theorem BxL.touch {w w' : World} {l : List (Nat × Bool × Value)} {L : Nat} (h : BxL w l) (t : Touch w w' L) (hn : ∀ u ∈ l, u.1 ≠ L) : BxL w' l := fun u hu => (h u hu).touch t (hn u hu)
theorem BxL.kp {w w' : World} {l : List (Nat × Bool × Value)} {p : Nat} {bs : List Nat} (h : BxL w l) (t : Kp w w' p bs) (hn : ∀ u ∈ l, u.1 ≠ p ∧ u.1 ∉ bs) : BxL w' l := fun u hu => (h u hu).kp t (hn u hu).1 (hn u hu).2
theorem BxL.facts7 {w : World} {g1 g2 g3 g4 g5 g6 g7 : Nat} {n1 n2 n3 n4 n5 n6 n7 : Bool} {v1 v2 v3 v4 v5 v6 v7 : Value} (h : BxL w [(g1, n1, v1), (g2, n2, v2), (g3, n3, v3), (g4, n4, v4), (g5, n5, v5), (g6, n6, v6), (g7, n7, v7)]) :
    (w.cell? ⟨g1, 0, none⟩ = some (.bool n1) ∧ w.cell? ⟨g1, 1, none⟩ = some v1) ∧ (w.cell? ⟨g2, 0, none⟩ = some (.bool n2) ∧ w.cell? ⟨g2, 1, none⟩ = some v2) ∧ (w.cell? ⟨g3, 0, none⟩ = some (.bool n3) ∧ w.cell? ⟨g3, 1, none⟩ = some v3) ∧ (w.cell? ⟨g4, 0, none⟩ = some (.bool n4) ∧ w.cell? ⟨g4, 1, none⟩ = some v4) ∧ (w.cell? ⟨g5, 0, none⟩ = some (.bool n5) ∧ w.cell? ⟨g5, 1, none⟩ = some v5) ∧ (w.cell? ⟨g6, 0, none⟩ = some (.bool n6) ∧ w.cell? ⟨g6, 1, none⟩ = some v6) ∧ (w.cell? ⟨g7, 0, none⟩ = some (.bool n7) ∧ w.cell? ⟨g7, 1, none⟩ = some v7) := by
  have f := fun t ht => (Box.facts (h t ht))
  have e1 := f (g1, n1, v1) (by simp)
  have e2 := f (g2, n2, v2) (by simp)
  have e3 := f (g3, n3, v3) (by simp)
  have e4 := f (g4, n4, v4) (by simp)
  have e5 := f (g5, n5, v5) (by simp)
  have e6 := f (g6, n6, v6) (by simp)
  have e7 := f (g7, n7, v7) (by simp)
  exact ⟨⟨e1.1, e1.2.1⟩, ⟨e2.1, e2.2.1⟩, ⟨e3.1, e3.2.1⟩, ⟨e4.1, e4.2.1⟩, ⟨e5.1, e5.2.1⟩, ⟨e6.1, e6.2.1⟩, ⟨e7.1, e7.2.1⟩⟩

theorem Kp.from {w w1 w' : World} {p : Nat} {bs : List Nat} (hb : Below w.heap.size w w1) (k : Kp w1 w' p bs) : Kp w w' p bs :=
  ⟨k.os.trans hb.os, k.tape.trans hb.tape, k.output.trans hb.output, Nat.le_trans hb.size k.size, fun j hj hp hn => (k.other j (Nat.lt_of_lt_of_le hj hb.size) hp hn).trans (hb.block j hj)⟩

set_option maxRecDepth 20000 in
set_option maxHeartbeats 400000 in
theorem ownWhole_b (w : World) (p Q n : Nat) (bs : List Nat) (hb : Bs w p Q bs n) (hn : n ≤ 1000) (B T : Nat) (ng : Bool) (ao : Option Addr) (cap : Nat) (rs : List Int) (x : Int) (h : Fr B T w ao cap rs x) (hQB : Q ≤ B) (hQ : Q ≤ w.heap.size) (hd : ∀ j, j ∈ bs → j < B ∨ T ≤ j) :
    Calls Try.prog 17 #[.pointer (some ⟨p, 0, none⟩), .agg #[.bool ng, .slice ao rs.length cap]] w fun e w' => e = .returned (.bool true) ∧ ∃ bs', Bs w' p Q bs' (n + 1) ∧ Kp w w' p bs' ∧ ∀ j, j ∈ bs' → j ∈ bs ∨ w.heap.size ≤ j ∨ (B ≤ j ∧ j < T) := by
  obtain ⟨w0, e0, bx, hb0, hs0⟩ := boxed0 w ng (.slice ao rs.length cap)
  have E0 := hide e0
  clear e0
  go_enter Try.func17, Try.ntmps17
  go_upto_region 1 with fail
  rw [E0.out]
  obtain ⟨bx1, bx2, bx3, bx4⟩ := bx.facts
  go_wp2_with fail
  refine (own_b _ _ _ _ bs (hb.below hb0) hn _ _ _ _ _ _ (h.below hb0) hQB (by omega) hd).mono ?_
  rintro e w1 ⟨rfl, bs1, B1, k1, j1⟩
  clear bx1 bx2 bx3 bx4
  go_wp2
  go_ret
  exact ⟨rfl, bs1, B1, k1.from hb0, fun j hj => by rcases j1 j hj with a | a | a; exact .inl a; exact .inr (.inl (by omega)); exact .inr (.inr a)⟩

/-- The room of a list that nobody has. -/
theorem li_nil (B T : Nat) (w : World) : Li B T w none 0 [] := ⟨⟨none, 0, rfl, Nat.le_refl _, by simp [maxLen], limb_nil, .inl rfl⟩, fun h => by omega⟩
theorem wh_nil (w : World) : Wh w false none 0 [] 0 := ⟨⟨⟨none, 0, rfl, Nat.le_refl _, by simp [maxLen], limb_nil, .inl rfl⟩, canon_nil, rfl⟩, rfl⟩
theorem Li.wfr {B T : Nat} {w : World} {ng : Bool} {ao : Option Addr} {cap : Nat} {rs : List Int} {z : Int} (h : Li B T w ao cap rs) (g : Wh w ng ao cap rs z) : WFr B T w ng ao cap rs z := ⟨h.fr g.1, g.2⟩

/-- What DivMod answers, of the program and of the document. -/
def DvP (b : Bool) (xs ys : List Int) (x y zq zr : Int) : Prop := ∀ (w : World) (nx : Bool) (a1 : Option Addr) (n1 c1 : Nat) (ny : Bool) (a2 : Option Addr) (n2 c2 : Nat), Ag w nx a1 n1 c1 xs x → Ag w ny a2 n2 c2 ys y →
  Calls Try.prog 11 #[.agg #[.bool nx, .slice a1 n1 c1], .agg #[.bool ny, .slice a2 n2 c2]] w fun e w' => ∃ nq aq cq qs nr ar cr rs B1 T1 B2 T2, e = .returned (.tuple #[.agg #[.bool nq, .slice aq qs.length cq], .agg #[.bool nr, .slice ar rs.length cr], .bool b]) ∧ WFr B1 T1 w' nq aq cq qs zq ∧ WFr B2 T2 w' nr ar cr rs zr ∧ (w.heap.size ≤ B1 ∧ T1 ≤ w'.heap.size ∧ w.heap.size ≤ B2 ∧ T2 ≤ w'.heap.size ∧ ∀ j, B1 ≤ j → j < T1 → j < B2 ∨ T2 ≤ j) ∧ Below w.heap.size w w'
def DvR (b : Bool) (xs ys : List Int) (x y zq zr : Int) : Prop := ∀ (w : World) (nx : Bool) (a1 : Option Addr) (n1 c1 : Nat) (ny : Bool) (a2 : Option Addr) (n2 c2 : Nat), Ag w nx a1 n1 c1 xs x → Ag w ny a2 n2 c2 ys y →
  Calls Try.prog 13 #[.agg #[.bool nx, .slice a1 n1 c1], .agg #[.bool ny, .slice a2 n2 c2]] w fun e w' => ∃ nq aq cq qs nr ar cr rs, e = .returned (.tuple #[.agg #[.bool nq, .slice aq qs.length cq], .agg #[.bool nr, .slice ar rs.length cr], .bool b]) ∧ WFr w.heap.size w'.heap.size w' nq aq cq qs zq ∧ WFr w.heap.size w'.heap.size w' nr ar cr rs zr ∧ Below w.heap.size w w'

theorem dvp_some {xs ys : List Int} {x y : Int} (l1 : xs.length ≤ 50000) (l2 : ys.length ≤ 50000) (h0 : y ≠ 0) : DvP true xs ys x y (x / y) (x % y) := by
  intro w nx a1 n1 c1 ny a2 n2 c2 hx hy
  have hv : val ys ≠ 0 := by
    intro e
    have := hy.worth
    rw [e] at this
    cases ny <;> simp [sg] at this <;> omega
  refine (wdivmod_o w nx a1 n1 c1 xs hx.sl ny a2 n2 c2 ys hy.sl (by omega) (by omega) hv).mono ?_
  rintro e w' ⟨nq, aq, cq, qs, nr, ar, cr, rs, B1, T1, B2, T2, rfl, g1, g2, _, _, o1, o2, oo, hb⟩
  rw [hx.worth, hy.worth] at g1 g2
  exact ⟨nq, aq, cq, qs, nr, ar, cr, rs, B1, T1, B2, T2, rfl, o1.wfr g1, o2.wfr g2, oo, hb⟩

theorem dvr_some {xs ys : List Int} {x y : Int} (l1 : xs.length ≤ 50000) (l2 : ys.length ≤ 50000) (h0 : y ≠ 0) : DvR true xs ys x y (x / y) (x % y) := by
  intro w nx a1 n1 c1 ny a2 n2 c2 hx hy
  refine (Dm.rdivmod2_any w nx a1 n1 c1 xs x hx ny a2 n2 c2 ys y hy l1 l2 h0).mono ?_
  rintro e w' ⟨nq, aq, cq, qs, nr, ar, cr, rs, rfl, g1, g2, _, _, hb⟩
  exact ⟨nq, aq, cq, qs, nr, ar, cr, rs, rfl, g1, g2, hb⟩

theorem dvp_none {xs ys : List Int} {x : Int} : DvP false xs ys x 0 0 0 := by
  intro w nx a1 n1 c1 ny a2 n2 c2 hx hy
  have hv : val ys = 0 := by
    have := hy.worth
    cases ny <;> simp [sg] at this <;> omega
  refine (wdivmod_none w nx a1 n1 c1 xs hx.sl ny a2 n2 c2 ys hy.sl hv).mono ?_
  rintro e w' ⟨rfl, hb⟩
  exact ⟨false, none, 0, [], false, none, 0, [], w.heap.size, w.heap.size, w.heap.size, w.heap.size, rfl, (li_nil _ _ _).wfr (wh_nil _), (li_nil _ _ _).wfr (wh_nil _), ⟨Nat.le_refl _, hb.size, Nat.le_refl _, hb.size, fun j h1 h2 => by omega⟩, hb⟩

theorem dvr_none {xs ys : List Int} {x : Int} (l1 : xs.length ≤ 50000) (l2 : ys.length ≤ 50000) : DvR false xs ys x 0 0 0 := by
  intro w nx a1 n1 c1 ny a2 n2 c2 hx hy
  refine (Dm.rdivmod2_none w nx a1 n1 c1 xs x hx ny a2 n2 c2 ys 0 hy l1 l2 rfl).mono ?_
  rintro e w' ⟨rfl, hb⟩
  exact ⟨false, none, 0, [], false, none, 0, [], rfl, (li_nil _ _ _).wfr (wh_nil _), (li_nil _ _ _).wfr (wh_nil _), hb⟩

end Lm
end Go.Proofs.Ythbomfboohjcfad

namespace Go.Proofs.Ythbomfboohjcfad
namespace Lm
open Go.RowKit
open Dm (WFr set2_kept)

/-- In one of the ranges, or from N on. -/
def InR (l : List (Nat × Nat)) (N j : Nat) : Prop := (∃ r ∈ l, r.1 ≤ j ∧ j < r.2) ∨ N ≤ j
theorem InR.more {l : List (Nat × Nat)} {N j : Nat} (h : InR l N j) (r : Nat × Nat) : InR (r :: l) N j := by
  rcases h with ⟨s, hs, h⟩ | h
  · exact .inl ⟨s, List.mem_cons_of_mem _ hs, h⟩
  · exact .inr h
theorem InR.step {l : List (Nat × Nat)} {bs : List Nat} {N W j B T : Nat} (old : ∀ j, j ∈ bs → InR l N j) (zz : N ≤ W) (h : j ∈ bs ∨ W ≤ j ∨ (B ≤ j ∧ j < T)) : InR ((B, T) :: l) N j := by
  rcases h with h | h | h
  · exact (old j h).more _
  · exact .inr (by omega)
  · exact .inl ⟨(B, T), List.mem_cons_self, h⟩
theorem InR.one {a b N j : Nat} (h : InR [(a, b)] N j) : (a ≤ j ∧ j < b) ∨ N ≤ j := by
  rcases h with ⟨r, hr, h⟩ | h
  · simp only [List.mem_cons, List.not_mem_nil, or_false] at hr
    subst hr
    exact .inl h
  · exact .inr h
theorem InR.two {a b c d N j : Nat} (h : InR [(a, b), (c, d)] N j) : (a ≤ j ∧ j < b) ∨ (c ≤ j ∧ j < d) ∨ N ≤ j := by
  rcases h with ⟨r, hr, h⟩ | h
  · simp only [List.mem_cons, List.not_mem_nil, or_false] at hr
    rcases hr with rfl | rfl
    · exact .inl h
    · exact .inr (.inl h)
  · exact .inr (.inr h)
theorem InR.three {a b c d e f N j : Nat} (h : InR [(a, b), (c, d), (e, f)] N j) : (a ≤ j ∧ j < b) ∨ (c ≤ j ∧ j < d) ∨ (e ≤ j ∧ j < f) ∨ N ≤ j := by
  rcases h with ⟨r, hr, h⟩ | h
  · simp only [List.mem_cons, List.not_mem_nil, or_false] at hr
    rcases hr with rfl | rfl | rfl
    · exact .inl h
    · exact .inr (.inl h)
    · exact .inr (.inr (.inl h))
  · exact .inr (.inr (.inr h))

/-- What stands between two calls of OwnWhole. -/
structure Stp (w W : World) (p N : Nat) (L : List (Nat × Bool × Value)) (l : List (Nat × Nat)) (n : Nat) : Prop where
  hb : Below w.heap.size w W
  bb : BxL W L
  bk : ∃ bs, Bs W p w.heap.size bs n ∧ ∀ j, j ∈ bs → InR l N j
  zz : N ≤ W.heap.size

theorem Stp.below {w W W' : World} {p N n : Nat} {L : List (Nat × Bool × Value)} {l : List (Nat × Nat)} (h : Stp w W p N L l n) (hb : Below W.heap.size W W') : Stp w W' p N L l n := by
  obtain ⟨bs, h1, h2⟩ := h.bk
  exact ⟨h.hb.trans (hb.mono h.hb.size), h.bb.below hb, ⟨bs, h1.below hb, h2⟩, Nat.le_trans h.zz hb.size⟩

/-- W' is W, but for block p, the ranges l and new blocks. -/
def Kq (W W' : World) (p N : Nat) (l : List (Nat × Nat)) : Prop := ∀ k, k < W.heap.size → k ≠ p → ¬ InR l N k → W'.heap[k]? = W.heap[k]?
theorem wfr_kq {B T : Nat} {W W' : World} {p N : Nat} {l : List (Nat × Nat)} {ng : Bool} {ao : Option Addr} {cap : Nat} {rs : List Int} {z : Int} (h : WFr B T W ng ao cap rs z) (k : Kq W W' p N l) (hp : p < B ∨ T ≤ p) (hd : ∀ j, InR l N j → j < B ∨ T ≤ j) : WFr B T W' ng ao cap rs z :=
  h.kept fun g hg h1 h2 => k g hg (by omega) (fun hi => by have := hd g hi; omega)

theorem Stp.own {w W : World} {p N n : Nat} {L : List (Nat × Bool × Value)} {l : List (Nat × Nat)} (h : Stp w W p N L l n) (hn : n ≤ 1000) {B T : Nat} {ng : Bool} {ao : Option Addr} {cap : Nat} {rs : List Int} {z : Int} (F : WFr B T W ng ao cap rs z) (hB : w.heap.size ≤ B) (hd : ∀ j, InR l N j → j < B ∨ T ≤ j) (hL : ∀ u ∈ L, u.1 ≠ p ∧ ¬ InR ((B, T) :: l) N u.1) (hp : w.heap.size ≤ p) (hw : ∀ j, InR ((B, T) :: l) N j → w.heap.size ≤ j) :
    Calls Try.prog 17 #[.pointer (some ⟨p, 0, none⟩), .agg #[.bool ng, .slice ao rs.length cap]] W fun e W' => e = .returned (.bool true) ∧ Stp w W' p N L ((B, T) :: l) (n + 1) ∧ Kq W W' p N ((B, T) :: l) := by
  obtain ⟨bs, h1, h2⟩ := h.bk
  refine (ownWhole_b W p w.heap.size n bs h1 hn B T ng ao cap rs _ F.fr hB h.hb.size (fun j hj => hd j (h2 j hj))).mono ?_
  rintro e W' ⟨rfl, bs', B', k, j'⟩
  have lo : ∀ j, j ∈ bs' → InR ((B, T) :: l) N j := fun j hj => InR.step h2 h.zz (j' j hj)
  exact ⟨rfl, ⟨h.hb.trans (k.below hp (fun j hj => hw j (lo j hj)) h.hb.size), h.bb.kp k (fun u hu => ⟨(hL u hu).1, fun hj => (hL u hu).2 (lo _ hj)⟩), ⟨bs', B', lo⟩, Nat.le_trans h.zz k.size⟩, fun g hg hgp hgi => k.other g hg hgp (fun hj => hgi (lo g hj))⟩

theorem Stp.done {w W : World} {p N n : Nat} {L : List (Nat × Bool × Value)} {l : List (Nat × Nat)} (h : Stp w W p N L l n) (hn : n ≤ 1000) :
    Calls Try.prog 18 #[.pointer (some ⟨p, 0, none⟩)] W fun e W' => e = .returned (.bool true) ∧ Stp w W' p N L l n := by
  obtain ⟨bs, h1, h2⟩ := h.bk
  refine (done_b W p w.heap.size n bs h1 hn).mono ?_
  rintro e W' ⟨rfl, hb⟩
  exact ⟨rfl, h.below hb⟩

set_option maxRecDepth 20000 in
set_option maxHeartbeats 1000000 in
theorem wdv_long (w : World) (nx : Bool) (a0 : Option Addr) (n0 c0 : Nat) (xs : List Int) (zx : Int) (ny : Bool) (a1 : Option Addr) (n1 c1 : Nat) (ys : List Int) (zy : Int) (AX : Ag w nx a0 n0 c0 xs zx) (AY : Ag w ny a1 n1 c1 ys zy) (b0 : n0 ≤ 35184372088832) (b1 : n1 ≤ 35184372088832) (h : 1500 < 1 + (n0 : Int) + (1 + n1)) :
    Calls Try.prog 3 #[.agg #[.bool nx, .slice a0 n0 c0], .agg #[.bool ny, .slice a1 n1 c1]] w fun e w' => e = .returned (.bool true) ∧ Below w.heap.size w w' := by
  obtain ⟨w0, e0, bx, by', hb0, hs0⟩ := boxed2 w nx (.slice a0 n0 c0) ny (.slice a1 n1 c1)
  have E0 := hide e0
  have HB : Below w.heap.size w w0 := hb0
  replace AX := AX.below hb0
  replace AY := AY.below hb0
  clear e0 hs0 hb0
  have hw1 : IntKind.i64.wrap (1 + (n0 : Int) + (1 + (n1 : Int))) = 1 + (n0 : Int) + (1 + (n1 : Int)) := wrap_in (by omega) (by omega)
  go_enter Try.func3, Try.ntmps3
  go_wp2_with fail
  rw [E0.out]
  clear E0
  refine (wawake_any _).mono ?_
  rintro e w1 ⟨rfl, hb1⟩
  replace HB := HB.trans (hb1.mono HB.size)
  replace AX := AX.below hb1
  replace AY := AY.below hb1
  replace bx := bx.below hb1
  replace by' := by'.below hb1
  clear hb1
  go_wp2
  obtain ⟨bx1, bx2, bx3, bx4⟩ := bx.facts
  obtain ⟨by1, by2, by3, by4⟩ := by'.facts
  go_region_held3 (fun w' => w'.cell? ⟨w.heap.size, 0, none⟩ = some (.bool nx) ∧ w'.cell? ⟨w.heap.size, 1, none⟩ = some (.slice a0 n0 c0) ∧ w'.cell? ⟨w.heap.size + 1, 0, none⟩ = some (.bool ny) ∧ w'.cell? ⟨w.heap.size + 1, 1, none⟩ = some (.slice a1 n1 c1)) (go_keep) (first
    | (go_at_call 9; have _hq := hb2'; refine (wlen_any _ _ _ _ _ b1).mono ?_; rintro e w3 ⟨rfl, hb3⟩; have hb3' : Below w2.heap.size w2 w3 := (show Below w2.heap.size w2 _ by repeat (first | exact Below.refl _ _ | refine Below.drew ?_)).trans hb3; have HB := HB.trans (hb3'.mono HB.size); replace AX := AX.below hb3'; replace AY := AY.below hb3'; replace bx := bx.below hb3'; clear bx1 bx2 bx3 bx4; obtain ⟨bx1, bx2, bx3, bx4⟩ := bx.facts; replace by' := by'.below hb3'; clear by1 by2 by3 by4; obtain ⟨by1, by2, by3, by4⟩ := by'.facts)
    | (go_at_call 9; refine (wlen_any _ _ _ _ _ b0).mono ?_; rintro e w2 ⟨rfl, hb2⟩; have hb2' : Below w1.heap.size w1 w2 := (show Below w1.heap.size w1 _ by repeat (first | exact Below.refl _ _ | refine Below.drew ?_)).trans hb2; have HB := HB.trans (hb2'.mono HB.size); replace AX := AX.below hb2'; replace AY := AY.below hb2'; replace bx := bx.below hb2'; clear bx1 bx2 bx3 bx4; obtain ⟨bx1, bx2, bx3, bx4⟩ := bx.facts; replace by' := by'.below hb2'; clear by1 by2 by3 by4; obtain ⟨by1, by2, by3, by4⟩ := by'.facts))
  all_goals
    clear bx1 bx2 bx3 bx4 by1 by2 by3 by4
    go_wp2
    go_ret
    exact ⟨rfl, HB⟩

set_option maxRecDepth 20000 in
set_option maxHeartbeats 16000000 in
theorem wdv_short (w : World) (nx : Bool) (a0 : Option Addr) (n0 c0 : Nat) (xs : List Int) (zx : Int) (ny : Bool) (a1 : Option Addr) (n1 c1 : Nat) (ys : List Int) (zy : Int) (AX : Ag w nx a0 n0 c0 xs zx) (AY : Ag w ny a1 n1 c1 ys zy) (b0 : n0 ≤ 35184372088832) (b1 : n1 ≤ 35184372088832) (h : ¬ 1500 < 1 + (n0 : Int) + (1 + n1)) (zq zr : Int) (b : Bool) (KP : Hid (DvP b xs ys zx zy zq zr)) (KR : Hid (DvR b xs ys zx zy zq zr)) :
    Calls Try.prog 3 #[.agg #[.bool nx, .slice a0 n0 c0], .agg #[.bool ny, .slice a1 n1 c1]] w fun e w' => e = .returned (.bool true) ∧ Below w.heap.size w w' := by
  obtain ⟨e0', _, _, _⟩ := AX.sl.parts
  obtain ⟨e1', _, _, _⟩ := AY.sl.parts
  have L0 : xs.length ≤ 1500 := by omega
  have L1 : ys.length ≤ 1500 := by omega
  have lx := hide AX.sl.lt
  have ly := hide AY.sl.lt
  clear e0' e1'
  have AXo := AX
  have AYo := AY
  obtain ⟨w0, e0, bx, by', hb0, hs0⟩ := boxed2 w nx (.slice a0 n0 c0) ny (.slice a1 n1 c1)
  have E0 := hide e0
  have HB : Below w.heap.size w w0 := hb0
  replace AX := AX.below hb0
  replace AY := AY.below hb0
  clear e0 hs0 hb0
  have hw1 : IntKind.i64.wrap (1 + (n0 : Int) + (1 + (n1 : Int))) = 1 + (n0 : Int) + (1 + (n1 : Int)) := wrap_in (by omega) (by omega)
  go_enter Try.func3, Try.ntmps3
  go_wp2_with fail
  rw [E0.out]
  clear E0
  refine (wawake_any _).mono ?_
  rintro e w1 ⟨rfl, hb1⟩
  replace HB := HB.trans (hb1.mono HB.size)
  replace AX := AX.below hb1
  replace AY := AY.below hb1
  replace bx := bx.below hb1
  replace by' := by'.below hb1
  clear hb1
  go_wp2
  obtain ⟨bx1, bx2, bx3, bx4⟩ := bx.facts
  obtain ⟨by1, by2, by3, by4⟩ := by'.facts
  go_region_held3 (fun w' => w'.cell? ⟨w.heap.size, 0, none⟩ = some (.bool nx) ∧ w'.cell? ⟨w.heap.size, 1, none⟩ = some (.slice a0 n0 c0) ∧ w'.cell? ⟨w.heap.size + 1, 0, none⟩ = some (.bool ny) ∧ w'.cell? ⟨w.heap.size + 1, 1, none⟩ = some (.slice a1 n1 c1)) (go_keep) (first
    | (go_at_call 9; have _hq := hb2'; refine (wlen_any _ _ _ _ _ b1).mono ?_; rintro e w3 ⟨rfl, hb3⟩; have hb3' : Below w2.heap.size w2 w3 := (show Below w2.heap.size w2 _ by repeat (first | exact Below.refl _ _ | refine Below.drew ?_)).trans hb3; have HB := HB.trans (hb3'.mono HB.size); replace AX := AX.below hb3'; replace AY := AY.below hb3'; replace bx := bx.below hb3'; clear bx1 bx2 bx3 bx4; obtain ⟨bx1, bx2, bx3, bx4⟩ := bx.facts; replace by' := by'.below hb3'; clear by1 by2 by3 by4; obtain ⟨by1, by2, by3, by4⟩ := by'.facts)
    | (go_at_call 9; refine (wlen_any _ _ _ _ _ b0).mono ?_; rintro e w2 ⟨rfl, hb2⟩; have hb2' : Below w1.heap.size w1 w2 := (show Below w1.heap.size w1 _ by repeat (first | exact Below.refl _ _ | refine Below.drew ?_)).trans hb2; have HB := HB.trans (hb2'.mono HB.size); replace AX := AX.below hb2'; replace AY := AY.below hb2'; replace bx := bx.below hb2'; clear bx1 bx2 bx3 bx4; obtain ⟨bx1, bx2, bx3, bx4⟩ := bx.facts; replace by' := by'.below hb2'; clear by1 by2 by3 by4; obtain ⟨by1, by2, by3, by4⟩ := by'.facts))
  all_goals
    clear bx1 bx2 bx3 bx4 by1 by2 by3 by4 hb2 hb3 hb2' hb3' AX AY
    go_upto_region 6 with fail
    have LL := hide (lenders w3 _ rfl)
    have sz3 := HB.size
    have lx3 := lt_of_heap bx
    have ly3 := lt_of_heap by'
    have e4 : ∃ w4 : World, (w3.alloc (.cells #[.slice none 0 0, .int .i64 0] 28)).alloc (.cells #[.slice none 0 0, .int .i64 0] 28) = w4 := ⟨_, rfl⟩
    obtain ⟨w4, e4⟩ := e4
    rw [e4] at LL ⊢
    clear e4
    obtain ⟨hL1, hL2, hb4, hs4⟩ := LL.out
    replace HB := HB.trans (hb4.mono HB.size)
    replace bx := bx.below hb4
    replace by' := by'.below hb4
    have AX4 := AXo.below HB
    generalize w3.heap.size = l1 at *
    have hl1 : l1 < w4.heap.size := by omega
    have hl2 : l1 + 1 < w4.heap.size := by omega
    clear LL hb4 hs4
    go_cut [7] (fun v wx => ∃ g7 gl, v = .pointer (some ⟨g7, 0, none⟩) ∧ Box wx g7 nx (.slice (some ⟨gl, 5, none⟩) xs.length (xs.length + 5)) ∧ LendS wx l1 gl xs ∧ Touch w4 wx l1 ∧ w4.heap.size ≤ g7 ∧ w4.heap.size ≤ gl ∧ g7 ≠ gl)
    case first =>
      have hn0 : (w.heap.size = w4.heap.size) = False := eq_false (by omega)
      have hn1 : (w4.heap.size = w.heap.size) = False := eq_false (by omega)
      obtain ⟨bx1, bx2, bx3, bx4⟩ := bx.facts
      go_region_held3 (fun w' => w'.cell? ⟨w.heap.size, 0, none⟩ = some (.bool nx) ∧ w'.cell? ⟨w.heap.size, 1, none⟩ = some (.slice a0 n0 c0)) (go_keep) (first
        | (go_at_call 10; refine (lend_any _ l1 _ _ _ _ _ xs ((Below.block (B := w4.heap.size) (by repeat (first | exact Below.refl _ _ | refine Below.drew ?_ | refine lb_al ?_ _)) l1 hl1).trans hL1) (AX4.sl.below (by repeat (first | exact Below.refl _ _ | refine Below.drew ?_ | refine lb_al ?_ _))) (by omega) (fun h0 b off e => by have := lx.out h0 b off e; omega)).mono ?_; rintro e w5 ⟨rfl, S5, t5⟩; have t5' : Touch w4 w5 l1 := (Touch.of_below (show Below w4.heap.size w4 _ by repeat (first | exact Below.refl _ _ | refine Below.drew ?_ | refine lb_al ?_ _))).trans t5; have s5 := t5'.size; clear bx1 bx2 bx3 bx4; obtain ⟨bx1, bx2, bx3, bx4⟩ := (bx.touch t5' (by omega)).facts; first | (have bn : Box w5 w4.heap.size false (.slice none 0 0) := Box.touch (g := w4.heap.size) (ng := false) (v := .slice none 0 0) (by exact heap_alloc_new _ _) t5 (by omega); obtain ⟨bn1, bn2, bn3, bn4⟩ := bn.facts) | skip))
      all_goals
        clear bx1 bx2 bx3 bx4
        first
          | (have FIN := hide (And.intro (bn.set nx (.slice (some ⟨w4.heap.size + 1, 5, none⟩) xs.length (xs.length + 5))) (And.intro (LendS.touch (by simpa using S5) (touch_set2 w5 w4.heap.size (.bool nx) (.slice (some ⟨w4.heap.size + 1, 5, none⟩) xs.length (xs.length + 5))) (show l1 ≠ w4.heap.size by omega) (show w4.heap.size + 1 ≠ w4.heap.size by omega)) (t5'.newer (touch_set2 w5 w4.heap.size (.bool nx) (.slice (some ⟨w4.heap.size + 1, 5, none⟩) xs.length (xs.length + 5))) (Nat.le_refl _))))
             go_wp2
             go_meet
             case rel => exact ⟨w4.heap.size, w4.heap.size + 1, rfl, FIN.out.1, FIN.out.2.1, FIN.out.2.2, Nat.le_refl _, Nat.le_succ _, by omega⟩)
          | (obtain ⟨w6, e6, b6, hb6, hs6⟩ := boxed0 w5 nx (.slice (some ⟨w4.heap.size, 5, none⟩) xs.length (xs.length + 5))
             have E6 := hide e6
             have lg := LendS.lt (show LendS w5 l1 w4.heap.size xs from S5)
             have FIN := hide (And.intro b6 (And.intro (LendS.below (show LendS w5 l1 w4.heap.size xs from S5) hb6) (t5'.calm hb6)))
             clear e6
             go_wp2
             rw [E6.out]
             go_meet
             case rel => exact ⟨w5.heap.size, w4.heap.size, rfl, FIN.out.1, FIN.out.2.1, FIN.out.2.2, s5, Nat.le_refl _, by omega⟩)
    case rest =>
      obtain ⟨g7, gl, rfl, b7, S1, t5, hg7, hgl, hgg⟩ := hcut
      have z5 := t5.size
      have lg7 := lt_of_heap b7
      have lgl := S1.lt
      replace HB := HB.trans (t5.below (by omega) HB.size)
      replace bx := bx.touch t5 (by omega)
      replace by' := by'.touch t5 (by omega)
      replace hL2 := (t5.other (l1 + 1) (by omega) (by omega)).trans hL2
      have AY5 := AYo.below HB
      have hl3 : l1 + 1 < wc.heap.size := by omega
      clear t5 hL1 AX4
      go_upto_region 7 with fail
      go_cut [8] (fun v wx => ∃ g8 gk, v = .pointer (some ⟨g8, 0, none⟩) ∧ Box wx g8 ny (.slice (some ⟨gk, 5, none⟩) ys.length (ys.length + 5)) ∧ LendS wx (l1 + 1) gk ys ∧ Touch wc wx (l1 + 1) ∧ wc.heap.size ≤ g8 ∧ wc.heap.size ≤ gk ∧ g8 ≠ gk)
      case first =>
        have hn0 : ((w.heap.size + 1) = wc.heap.size) = False := eq_false (by omega)
        have hn1 : (wc.heap.size = (w.heap.size + 1)) = False := eq_false (by omega)
        obtain ⟨by1, by2, by3, by4⟩ := by'.facts
        go_region_held3 (fun w' => w'.cell? ⟨(w.heap.size + 1), 0, none⟩ = some (.bool ny) ∧ w'.cell? ⟨(w.heap.size + 1), 1, none⟩ = some (.slice a1 n1 c1)) (go_keep) (first
          | (go_at_call 10; refine (lend_any _ (l1 + 1) _ _ _ _ _ ys ((Below.block (B := wc.heap.size) (by repeat (first | exact Below.refl _ _ | refine Below.drew ?_ | refine lb_al ?_ _)) (l1 + 1) hl3).trans hL2) (AY5.sl.below (by repeat (first | exact Below.refl _ _ | refine Below.drew ?_ | refine lb_al ?_ _))) (by omega) (fun h0 b off e => by have := ly.out h0 b off e; omega)).mono ?_; rintro e w5 ⟨rfl, S5, t5⟩; have t5' : Touch wc w5 (l1 + 1) := (Touch.of_below (show Below wc.heap.size wc _ by repeat (first | exact Below.refl _ _ | refine Below.drew ?_ | refine lb_al ?_ _))).trans t5; have s5 := t5'.size; clear by1 by2 by3 by4; obtain ⟨by1, by2, by3, by4⟩ := (by'.touch t5' (by omega)).facts; first | (have bn : Box w5 wc.heap.size false (.slice none 0 0) := Box.touch (g := wc.heap.size) (ng := false) (v := .slice none 0 0) (by exact heap_alloc_new _ _) t5 (by omega); obtain ⟨bn1, bn2, bn3, bn4⟩ := bn.facts) | skip))
        all_goals
          clear by1 by2 by3 by4
          first
            | (have FIN := hide (And.intro (bn.set ny (.slice (some ⟨wc.heap.size + 1, 5, none⟩) ys.length (ys.length + 5))) (And.intro (LendS.touch (by simpa using S5) (touch_set2 w5 wc.heap.size (.bool ny) (.slice (some ⟨wc.heap.size + 1, 5, none⟩) ys.length (ys.length + 5))) (show (l1 + 1) ≠ wc.heap.size by omega) (show wc.heap.size + 1 ≠ wc.heap.size by omega)) (t5'.newer (touch_set2 w5 wc.heap.size (.bool ny) (.slice (some ⟨wc.heap.size + 1, 5, none⟩) ys.length (ys.length + 5))) (Nat.le_refl _))))
               go_wp2
               go_meet
               case rel => exact ⟨wc.heap.size, wc.heap.size + 1, rfl, FIN.out.1, FIN.out.2.1, FIN.out.2.2, Nat.le_refl _, Nat.le_succ _, by omega⟩)
            | (obtain ⟨w6, e6, b6, hb6, hs6⟩ := boxed0 w5 ny (.slice (some ⟨wc.heap.size, 5, none⟩) ys.length (ys.length + 5))
               have E6 := hide e6
               have lg := LendS.lt (show LendS w5 (l1 + 1) wc.heap.size ys from S5)
               have FIN := hide (And.intro b6 (And.intro (LendS.below (show LendS w5 (l1 + 1) wc.heap.size ys from S5) hb6) (t5'.calm hb6)))
               clear e6
               go_wp2
               rw [E6.out]
               go_meet
               case rel => exact ⟨w5.heap.size, wc.heap.size, rfl, FIN.out.1, FIN.out.2.1, FIN.out.2.2, s5, Nat.le_refl _, by omega⟩)
      case rest =>
        obtain ⟨g8, gk, rfl, b8, S2, t6, hg8, hgk, hgg2⟩ := hcut
        have z6 := t6.size
        have lg8 := lt_of_heap b8
        have lgk := S2.lt
        replace HB := HB.trans (t6.below (by omega) HB.size)
        replace bx := bx.touch t6 (by omega)
        replace by' := by'.touch t6 (by omega)
        replace b7 := b7.touch t6 (by omega)
        replace S1 := S1.touch t6 (by omega) (by omega)
        clear t6 hL2 AY5
        have AXl : Ag wc nx (some ⟨gl, 5, none⟩) xs.length (xs.length + 5) xs zx := ⟨S1.sl (by omega), AXo.worth⟩
        have AYl : Ag wc ny (some ⟨gk, 5, none⟩) ys.length (ys.length + 5) ys zy := ⟨S2.sl (by omega), AYo.worth⟩
        obtain ⟨b71, b72, b73, b74⟩ := b7.facts
        obtain ⟨b81, b82, b83, b84⟩ := b8.facts
        go_wp2_with fail
        refine (KP.out _ _ _ _ _ _ _ _ _ AXl AYl).mono ?_
        rintro e w6 ⟨sq, pq, cq, Q, sr, pr, cr, R, B1, T1, B2, T2, rfl, FQ, FR, ⟨o1, o2, o3, o4, o5⟩, hb6⟩
        obtain ⟨w7, e7, bq, br, hb7, hs7⟩ := boxed2 w6 sq (.slice pq Q.length cq) sr (.slice pr R.length cr)
        have E7 := hide e7
        have HS7 := hide hs7
        clear hs7
        have y6 := hb6.size
        have H67 := lb_then hb6 hb7
        replace HB := HB.trans (H67.mono HB.size)
        replace bx := bx.below H67
        replace by' := by'.below H67
        replace b7 := b7.below H67
        replace b8 := b8.below H67
        replace S1 := S1.below H67
        replace S2 := S2.below H67
        replace AXl := AXl.below H67
        replace AYl := AYl.below H67
        replace FQ := FQ.below hb7
        replace FR := FR.below hb7
        clear e7 b71 b72 b73 b74 b81 b82 b83 b84 hb6 hb7 H67
        go_upto_region 9 with fail
        rw [E7.out]
        clear E7
        obtain ⟨b71, b72, b73, b74⟩ := b7.facts
        obtain ⟨b81, b82, b83, b84⟩ := b8.facts
        go_wp2_with fail
        refine (wgcd_o _ _ _ _ _ xs AXl.sl _ _ _ _ ys AYl.sl (by omega) (by omega)).mono ?_
        rintro e w8 ⟨sG, pg, cg, G, rfl, GG, lG, og, hb8⟩
        rw [AXl.worth, AYl.worth] at GG
        have FG := og.wfr GG
        clear og GG
        obtain ⟨w9, e9, bg, hb9, hs9⟩ := boxed0 w8 sG (.slice pg G.length cg)
        have E9 := hide e9
        have HS9 := hide hs9
        clear hs9
        have y8 := hb8.size
        have H89 := lb_then hb8 hb9
        replace HB := HB.trans (H89.mono HB.size)
        replace bx := bx.below H89
        replace by' := by'.below H89
        replace bq := bq.below H89
        replace br := br.below H89
        replace S1 := S1.below H89
        replace S2 := S2.below H89
        replace FQ := FQ.below H89
        replace FR := FR.below H89
        replace FG := FG.below hb9
        clear e9 b71 b72 b73 b74 b81 b82 b83 b84 hb8 hb9 H89 b7 b8 AXl AYl
        go_upto_region 10 with fail
        rw [E9.out]
        clear E9
        obtain ⟨bx1, bx2, bx3, bx4⟩ := bx.facts
        obtain ⟨by1, by2, by3, by4⟩ := by'.facts
        go_wp2_with fail
        refine (KR.out _ _ _ _ _ _ _ _ _ (AXo.below HB) (AYo.below HB)).mono ?_
        rintro e w10 ⟨tq, uq, vq, WQ, tr, ur, vr, WR, rfl, GQ, GR, hb10⟩
        obtain ⟨w11, e11, bwq, bwr, hb11, hs11⟩ := boxed2 w10 tq (.slice uq WQ.length vq) tr (.slice ur WR.length vr)
        have E11 := hide e11
        have HS11 := hide hs11
        clear hs11
        have y10 := hb10.size
        have H11 := lb_then hb10 hb11
        replace HB := HB.trans (H11.mono HB.size)
        replace bx := bx.below H11
        replace by' := by'.below H11
        replace bq := bq.below H11
        replace br := br.below H11
        replace bg := bg.below H11
        replace S1 := S1.below H11
        replace S2 := S2.below H11
        replace FQ := FQ.below H11
        replace FR := FR.below H11
        replace FG := FG.below H11
        replace GQ := GQ.below hb11
        replace GR := GR.below hb11
        clear e11 bx1 bx2 bx3 bx4 by1 by2 by3 by4 hb10 hb11 H11
        go_upto_region 11 with fail
        rw [E11.out]
        clear E11
        go_upto_region 12 with fail
        obtain ⟨hbk, hb12, hs12⟩ := book_new w11
        have e12 : ∃ w12 : World, w11.alloc (.cells #[.slice none 0 0, .slice none 0 0] 36) = w12 := ⟨_, rfl⟩
        obtain ⟨w12, e12⟩ := e12
        rw [e12] at hbk hb12 hs12 ⊢
        have BK : Bs w12 w11.heap.size w.heap.size [] 0 := Bs.new hbk
        replace HB := HB.trans (hb12.mono HB.size)
        replace S1 := S1.below hb12
        replace S2 := S2.below hb12
        replace FQ := FQ.below hb12
        replace FR := FR.below hb12
        replace FG := FG.below hb12
        replace GQ := GQ.below hb12
        replace GR := GR.below hb12
        have bb : BxL w12 [(w.heap.size, nx, .slice a0 n0 c0), (w.heap.size + 1, ny, .slice a1 n1 c1), (w6.heap.size, sq, .slice pq Q.length cq), (w6.heap.size + 1, sr, .slice pr R.length cr), (w8.heap.size, sG, .slice pg G.length cg), (w10.heap.size, tq, .slice uq WQ.length vq), (w10.heap.size + 1, tr, .slice ur WR.length vr)] := by
          intro t ht
          simp only [List.mem_cons, List.not_mem_nil, or_false] at ht
          rcases ht with rfl | rfl | rfl | rfl | rfl | rfl | rfl
          · exact bx.below hb12
          · exact by'.below hb12
          · exact bq.below hb12
          · exact br.below hb12
          · exact bg.below hb12
          · exact bwq.below hb12
          · exact bwr.below hb12
        have n0w : w.heap.size + 2 ≤ l1 := by omega
        have h_7 := HS7.out
        have h_9 := HS9.out
        have h_11 := HS11.out
        have n1w : w12.heap.size = w11.heap.size + 1 ∧ w11.heap.size = w10.heap.size + 2 ∧ w9.heap.size = w8.heap.size + 1 ∧ w7.heap.size = w6.heap.size + 2 := by omega
        have N1 := hide n1w
        have n2w : w12.heap.size ≥ w11.heap.size + 1 ∧ w11.heap.size ≥ w10.heap.size + 2 ∧ w9.heap.size ≥ w8.heap.size + 1 ∧ w7.heap.size ≥ w6.heap.size + 2 := by omega
        clear e12 hbk hb12 bx by' bq br bg bwq bwr h_7 h_9 h_11 hs12 n1w
        have ot : T1 ≤ w6.heap.size ∧ T2 ≤ w6.heap.size := ⟨o2, o4⟩
        have D1 : Hid (∀ u ∈ ([(w.heap.size, nx, .slice a0 n0 c0), (w.heap.size + 1, ny, .slice a1 n1 c1), (w6.heap.size, sq, .slice pq Q.length cq), (w6.heap.size + 1, sr, .slice pr R.length cr), (w8.heap.size, sG, .slice pg G.length cg), (w10.heap.size, tq, .slice uq WQ.length vq), (w10.heap.size + 1, tr, .slice ur WR.length vr)] : List (Nat × Bool × Value)), u.1 ≠ gl) := by
          intro u hu
          simp only [List.mem_cons, List.not_mem_nil, or_false] at hu
          rcases hu with rfl | rfl | rfl | rfl | rfl | rfl | rfl <;> simp only [ne_eq] <;> omega
        have D2 : Hid (∀ u ∈ ([(w.heap.size, nx, .slice a0 n0 c0), (w.heap.size + 1, ny, .slice a1 n1 c1), (w6.heap.size, sq, .slice pq Q.length cq), (w6.heap.size + 1, sr, .slice pr R.length cr), (w8.heap.size, sG, .slice pg G.length cg), (w10.heap.size, tq, .slice uq WQ.length vq), (w10.heap.size + 1, tr, .slice ur WR.length vr)] : List (Nat × Bool × Value)), u.1 ≠ gk) := by
          intro u hu
          simp only [List.mem_cons, List.not_mem_nil, or_false] at hu
          rcases hu with rfl | rfl | rfl | rfl | rfl | rfl | rfl <;> simp only [ne_eq] <;> omega
        have D3 : Hid (∀ u ∈ ([(w.heap.size, nx, .slice a0 n0 c0), (w.heap.size + 1, ny, .slice a1 n1 c1), (w6.heap.size, sq, .slice pq Q.length cq), (w6.heap.size + 1, sr, .slice pr R.length cr), (w8.heap.size, sG, .slice pg G.length cg), (w10.heap.size, tq, .slice uq WQ.length vq), (w10.heap.size + 1, tr, .slice ur WR.length vr)] : List (Nat × Bool × Value)), u.1 ≠ w11.heap.size ∧ ¬ InR [(w7.heap.size, w8.heap.size), (B2, T2), (B1, T1)] w12.heap.size u.1) := by
          intro u hu
          have := N1.out
          have key : ∀ j, InR [(w7.heap.size, w8.heap.size), (B2, T2), (B1, T1)] w12.heap.size j → (w7.heap.size ≤ j ∧ j < w8.heap.size) ∨ (B2 ≤ j ∧ j < T2) ∨ (B1 ≤ j ∧ j < T1) ∨ w12.heap.size ≤ j := fun j h => h.three
          simp only [List.mem_cons, List.not_mem_nil, or_false] at hu
          rcases hu with rfl | rfl | rfl | rfl | rfl | rfl | rfl <;> refine ⟨by simp only [ne_eq]; omega, fun h => ?_⟩ <;> have h9 := key _ h <;> simp only [] at h9 <;> omega
        have IN : Hid (∀ j, InR [(w7.heap.size, w8.heap.size), (B2, T2), (B1, T1)] w12.heap.size j → w.heap.size ≤ j) := fun j h => by
          have := h.three
          omega
        have IQ2 : Hid (∀ j, InR [(B2, T2), (B1, T1)] w12.heap.size j → j < w7.heap.size ∨ w8.heap.size ≤ j) := fun j h => by
          have := h.two
          have := N1.out
          omega
        have IQ1 : Hid (∀ j, InR [(B1, T1)] w12.heap.size j → j < B2 ∨ T2 ≤ j) := fun j h => by
          rcases h.one with h | h
          · exact o5 j h.1 h.2
          · omega
        have PA1 : Hid (gl < B1 ∨ T1 ≤ gl) := by show gl < B1 ∨ T1 ≤ gl; omega
        have PA2 : Hid (gl < B2 ∨ T2 ≤ gl) := by show gl < B2 ∨ T2 ≤ gl; omega
        have PA3 : Hid (gl < w7.heap.size ∨ w8.heap.size ≤ gl) := by show gl < w7.heap.size ∨ w8.heap.size ≤ gl; omega
        have PA4 : Hid (gl < w9.heap.size ∨ w10.heap.size ≤ gl) := by show gl < w9.heap.size ∨ w10.heap.size ≤ gl; omega
        have PA7 : Hid (w11.heap.size ≠ gl) := by show w11.heap.size ≠ gl; omega
        have PA8 : Hid (w.heap.size ≤ gl) := by show w.heap.size ≤ gl; omega
        have PA5 : Hid (l1 + 1 ≠ gl) := by show l1 + 1 ≠ gl; omega
        have PA6 : Hid (gk ≠ gl) := by show gk ≠ gl; omega
        have PA9 : Hid (l1 ≠ gl) := by show l1 ≠ gl; omega
        have PB1 : Hid (gk < B1 ∨ T1 ≤ gk) := by show gk < B1 ∨ T1 ≤ gk; omega
        have PB2 : Hid (gk < B2 ∨ T2 ≤ gk) := by show gk < B2 ∨ T2 ≤ gk; omega
        have PB3 : Hid (gk < w7.heap.size ∨ w8.heap.size ≤ gk) := by show gk < w7.heap.size ∨ w8.heap.size ≤ gk; omega
        have PB4 : Hid (gk < w9.heap.size ∨ w10.heap.size ≤ gk) := by show gk < w9.heap.size ∨ w10.heap.size ≤ gk; omega
        have PB7 : Hid (w11.heap.size ≠ gk) := by show w11.heap.size ≠ gk; omega
        have PB8 : Hid (w.heap.size ≤ gk) := by show w.heap.size ≤ gk; omega
        have PB9 : Hid (l1 + 1 ≠ gk) := by show l1 + 1 ≠ gk; omega
        have q1 : Hid (w.heap.size ≤ B1) := by show w.heap.size ≤ B1; omega
        have q2 : Hid (w.heap.size ≤ B2) := by show w.heap.size ≤ B2; omega
        have q3 : Hid (w.heap.size ≤ w7.heap.size) := by show w.heap.size ≤ w7.heap.size; omega
        have q9 : Hid (w.heap.size ≤ w11.heap.size) := by show w.heap.size ≤ w11.heap.size; omega
        have q10 : Hid (w11.heap.size < B2 ∨ T2 ≤ w11.heap.size) := by show w11.heap.size < B2 ∨ T2 ≤ w11.heap.size; omega
        have q11 : Hid (w11.heap.size < w7.heap.size ∨ w8.heap.size ≤ w11.heap.size) := by show w11.heap.size < w7.heap.size ∨ w8.heap.size ≤ w11.heap.size; omega
        have IQ0 : Hid (∀ j, InR [] w12.heap.size j → j < B1 ∨ T1 ≤ j) := fun j h => by
          rcases h with ⟨r, hr, _⟩ | h
          · exact absurd hr List.not_mem_nil
          · omega
        have IQ1b : Hid (∀ j, InR [(B1, T1)] w12.heap.size j → j < w7.heap.size ∨ w8.heap.size ≤ j) := fun j h => IQ2.out j (h.more _)
        have ING : Hid (∀ j, InR [(B1, T1)] w12.heap.size j → w.heap.size ≤ j) := fun j h => IN.out j ((h.more _).more _)
        have INH : Hid (∀ j, InR [(B2, T2), (B1, T1)] w12.heap.size j → w.heap.size ≤ j) := fun j h => IN.out j (h.more _)
        have DG : Hid (∀ u ∈ ([(w.heap.size, nx, .slice a0 n0 c0), (w.heap.size + 1, ny, .slice a1 n1 c1), (w6.heap.size, sq, .slice pq Q.length cq), (w6.heap.size + 1, sr, .slice pr R.length cr), (w8.heap.size, sG, .slice pg G.length cg), (w10.heap.size, tq, .slice uq WQ.length vq), (w10.heap.size + 1, tr, .slice ur WR.length vr)] : List (Nat × Bool × Value)), u.1 ≠ w11.heap.size ∧ ¬ InR [(B1, T1)] w12.heap.size u.1) := fun u hu => ⟨(D3.out u hu).1, fun h => (D3.out u hu).2 ((h.more _).more _)⟩
        have DH : Hid (∀ u ∈ ([(w.heap.size, nx, .slice a0 n0 c0), (w.heap.size + 1, ny, .slice a1 n1 c1), (w6.heap.size, sq, .slice pq Q.length cq), (w6.heap.size + 1, sr, .slice pr R.length cr), (w8.heap.size, sG, .slice pg G.length cg), (w10.heap.size, tq, .slice uq WQ.length vq), (w10.heap.size + 1, tr, .slice ur WR.length vr)] : List (Nat × Bool × Value)), u.1 ≠ w11.heap.size ∧ ¬ InR [(B2, T2), (B1, T1)] w12.heap.size u.1) := fun u hu => ⟨(D3.out u hu).1, fun h => (D3.out u hu).2 (h.more _)⟩
        have MN0 : 0 ≤ 1000 := by omega
        have M1 : xs.length ≤ 100000 := by omega
        have M2 : ys.length ≤ 100000 := by omega
        have M3 : xs.length ≤ 50000 := by omega
        have M4 : ys.length ≤ 50000 := by omega
        have MN1 : 0 + 1 ≤ 1000 := by omega
        have MN2 : 0 + 1 + 1 ≤ 1000 := by omega
        have MN3 : 0 + 1 + 1 + 1 ≤ 1000 := by omega
        have zz : w12.heap.size ≤ w12.heap.size := Nat.le_refl _
        have hbb : (b == b) = true := by cases b <;> rfl
        clear ot o1 o2 o3 o4 o5 n0w n2w z5 z6 lg7 lgl hg7 hgl hgg lg8 lgk hg8 hgk hgg2 y6 y8 y10 hl1 hl2 hl3 sz3 lx3 ly3 lG L0 L1 h
        obtain ⟨⟨cf1, cf2⟩, ⟨cf3, cf4⟩, ⟨cf5, cf6⟩, ⟨cf7, cf8⟩, ⟨cf9, cf10⟩, ⟨cf11, cf12⟩, ⟨cf13, cf14⟩⟩ := bb.facts7
        go_region_held3 (fun w' => w'.cell? ⟨w.heap.size, 0, none⟩ = some (.bool nx) ∧ w'.cell? ⟨w.heap.size, 1, none⟩ = some (.slice a0 n0 c0) ∧ w'.cell? ⟨w.heap.size + 1, 0, none⟩ = some (.bool ny) ∧ w'.cell? ⟨w.heap.size + 1, 1, none⟩ = some (.slice a1 n1 c1) ∧ w'.cell? ⟨w6.heap.size, 0, none⟩ = some (.bool sq) ∧ w'.cell? ⟨w6.heap.size, 1, none⟩ = some (.slice pq Q.length cq) ∧ w'.cell? ⟨w6.heap.size + 1, 0, none⟩ = some (.bool sr) ∧ w'.cell? ⟨w6.heap.size + 1, 1, none⟩ = some (.slice pr R.length cr) ∧ w'.cell? ⟨w8.heap.size, 0, none⟩ = some (.bool sG) ∧ w'.cell? ⟨w8.heap.size, 1, none⟩ = some (.slice pg G.length cg) ∧ w'.cell? ⟨w10.heap.size, 0, none⟩ = some (.bool tq) ∧ w'.cell? ⟨w10.heap.size, 1, none⟩ = some (.slice uq WQ.length vq) ∧ w'.cell? ⟨w10.heap.size + 1, 0, none⟩ = some (.bool tr) ∧ w'.cell? ⟨w10.heap.size + 1, 1, none⟩ = some (.slice ur WR.length vr)) (go_keep) (first
          | (go_at_call 18; have _hq := kI; refine (Stp.done (ST.below (by repeat (first | exact Below.refl _ _ | refine Below.drew ?_))) MN3).mono ?_; rintro e wJ ⟨rfl, ST'⟩; clear ST; have ST := ST'; clear ST'; clear cf1 cf2 cf3 cf4 cf5 cf6 cf7 cf8 cf9 cf10 cf11 cf12 cf13 cf14; obtain ⟨⟨cf1, cf2⟩, ⟨cf3, cf4⟩, ⟨cf5, cf6⟩, ⟨cf7, cf8⟩, ⟨cf9, cf10⟩, ⟨cf11, cf12⟩, ⟨cf13, cf14⟩⟩ := ST.bb.facts7)
          | (go_at_call 17; have _hq := kH; refine (Stp.own (ST.below (by repeat (first | exact Below.refl _ _ | refine Below.drew ?_))) MN2 (FG.below (by repeat (first | exact Below.refl _ _ | refine Below.drew ?_))) q3.out IQ2.out D3.out q9.out IN.out).mono ?_; rintro e wI ⟨rfl, ST', kI⟩; clear ST FG; have ST := ST'; clear ST'; clear cf1 cf2 cf3 cf4 cf5 cf6 cf7 cf8 cf9 cf10 cf11 cf12 cf13 cf14; obtain ⟨⟨cf1, cf2⟩, ⟨cf3, cf4⟩, ⟨cf5, cf6⟩, ⟨cf7, cf8⟩, ⟨cf9, cf10⟩, ⟨cf11, cf12⟩, ⟨cf13, cf14⟩⟩ := ST.bb.facts7)
          | (go_at_call 17; have _hq := kG; refine (Stp.own (ST.below (by repeat (first | exact Below.refl _ _ | refine Below.drew ?_))) MN1 (FR.below (by repeat (first | exact Below.refl _ _ | refine Below.drew ?_))) q2.out IQ1.out DH.out q9.out INH.out).mono ?_; rintro e wH ⟨rfl, ST', kH⟩; replace FG := wfr_kq (FG.below (show Below wG.heap.size wG _ by repeat (first | exact Below.refl _ _ | refine Below.drew ?_))) kH q11.out IQ2.out; clear ST FR; have ST := ST'; clear ST'; clear cf1 cf2 cf3 cf4 cf5 cf6 cf7 cf8 cf9 cf10 cf11 cf12 cf13 cf14; obtain ⟨⟨cf1, cf2⟩, ⟨cf3, cf4⟩, ⟨cf5, cf6⟩, ⟨cf7, cf8⟩, ⟨cf9, cf10⟩, ⟨cf11, cf12⟩, ⟨cf13, cf14⟩⟩ := ST.bb.facts7)
          | (go_at_call 17; have _hq := hbF'; refine (Stp.own (n := 0) (l := []) (Stp.below (W := wF) ⟨HB, bb, ⟨[], BK, fun j hj => absurd hj List.not_mem_nil⟩, zz⟩ (by repeat (first | exact Below.refl _ _ | refine Below.drew ?_))) MN0 (FQ.below (by repeat (first | exact Below.refl _ _ | refine Below.drew ?_))) q1.out IQ0.out DG.out q9.out ING.out).mono ?_; rintro e wG ⟨rfl, ST, kG⟩; replace FR := wfr_kq (FR.below (show Below wF.heap.size wF _ by repeat (first | exact Below.refl _ _ | refine Below.drew ?_))) kG q10.out IQ1.out; replace FG := wfr_kq (FG.below (show Below wF.heap.size wF _ by repeat (first | exact Below.refl _ _ | refine Below.drew ?_))) kG q11.out IQ1b.out; clear bb HB zz BK FQ; clear cf1 cf2 cf3 cf4 cf5 cf6 cf7 cf8 cf9 cf10 cf11 cf12 cf13 cf14; obtain ⟨⟨cf1, cf2⟩, ⟨cf3, cf4⟩, ⟨cf5, cf6⟩, ⟨cf7, cf8⟩, ⟨cf9, cf10⟩, ⟨cf11, cf12⟩, ⟨cf13, cf14⟩⟩ := ST.bb.facts7)
          | (go_at_call 15; have _hq := hbE'; refine (same_z _ _ _ _ _ _ _ G E _ _ (FG.wh.below (by repeat (first | exact Below.refl _ _ | refine Below.drew ?_))) (FE.wh.below (by repeat (first | exact Below.refl _ _ | refine Below.drew ?_))) true (decide_eq_true rfl)).mono ?_; rintro e wF ⟨rfl, hbF⟩; have hbF' : Below wE.heap.size wE wF := (show Below wE.heap.size wE _ by repeat (first | exact Below.refl _ _ | refine Below.drew ?_)).trans hbF; replace zz := Nat.le_trans zz hbF'.size; replace HB := HB.trans (hbF'.mono HB.size); replace bb := bb.below hbF'; replace FQ := FQ.below hbF'; replace FR := FR.below hbF'; replace FG := FG.below hbF'; replace BK := BK.below hbF'; clear cf1 cf2 cf3 cf4 cf5 cf6 cf7 cf8 cf9 cf10 cf11 cf12 cf13 cf14; obtain ⟨⟨cf1, cf2⟩, ⟨cf3, cf4⟩, ⟨cf5, cf6⟩, ⟨cf7, cf8⟩, ⟨cf9, cf10⟩, ⟨cf11, cf12⟩, ⟨cf13, cf14⟩⟩ := bb.facts7)
          | (go_at_call 16; have _hq := hbD'; refine (Dm.rgcd2_z _ _ _ _ _ xs zx ((AXo.below HB).below (by repeat (first | exact Below.refl _ _ | refine Below.drew ?_))) _ _ _ _ ys zy ((AYo.below HB).below (by repeat (first | exact Below.refl _ _ | refine Below.drew ?_))) M3 M4).mono ?_; rintro e wE ⟨nE, pE, cE, E, rfl, FE, hbE⟩; have hbE' : Below wD.heap.size wD wE := (show Below wD.heap.size wD _ by repeat (first | exact Below.refl _ _ | refine Below.drew ?_)).trans hbE; replace zz := Nat.le_trans zz hbE'.size; replace HB := HB.trans (hbE'.mono HB.size); replace bb := bb.below hbE'; replace FQ := FQ.below hbE'; replace FR := FR.below hbE'; replace FG := FG.below hbE'; replace BK := BK.below hbE'; clear cf1 cf2 cf3 cf4 cf5 cf6 cf7 cf8 cf9 cf10 cf11 cf12 cf13 cf14; obtain ⟨⟨cf1, cf2⟩, ⟨cf3, cf4⟩, ⟨cf5, cf6⟩, ⟨cf7, cf8⟩, ⟨cf9, cf10⟩, ⟨cf11, cf12⟩, ⟨cf13, cf14⟩⟩ := bb.facts7)
          | (go_at_call 15; have _hq := hbC'; refine (same_z _ _ _ _ _ _ _ R WR _ _ (FR.wh.below (by repeat (first | exact Below.refl _ _ | refine Below.drew ?_))) (GR.wh.below (by repeat (first | exact Below.refl _ _ | refine Below.drew ?_))) true (decide_eq_true rfl)).mono ?_; rintro e wD ⟨rfl, hbD⟩; have hbD' : Below wC.heap.size wC wD := (show Below wC.heap.size wC _ by repeat (first | exact Below.refl _ _ | refine Below.drew ?_)).trans hbD; replace zz := Nat.le_trans zz hbD'.size; replace HB := HB.trans (hbD'.mono HB.size); replace bb := bb.below hbD'; replace FQ := FQ.below hbD'; replace FR := FR.below hbD'; replace FG := FG.below hbD'; replace BK := BK.below hbD'; clear cf1 cf2 cf3 cf4 cf5 cf6 cf7 cf8 cf9 cf10 cf11 cf12 cf13 cf14; obtain ⟨⟨cf1, cf2⟩, ⟨cf3, cf4⟩, ⟨cf5, cf6⟩, ⟨cf7, cf8⟩, ⟨cf9, cf10⟩, ⟨cf11, cf12⟩, ⟨cf13, cf14⟩⟩ := bb.facts7)
          | (go_at_call 15; have _hq := tB'; refine (same_z _ _ _ _ _ _ _ Q WQ _ _ (FQ.wh.below (by repeat (first | exact Below.refl _ _ | refine Below.drew ?_))) (GQ.wh.below (by repeat (first | exact Below.refl _ _ | refine Below.drew ?_))) true (decide_eq_true rfl)).mono ?_; rintro e wC ⟨rfl, hbC⟩; have hbC' : Below wB.heap.size wB wC := (show Below wB.heap.size wB _ by repeat (first | exact Below.refl _ _ | refine Below.drew ?_)).trans hbC; replace zz := Nat.le_trans zz hbC'.size; replace HB := HB.trans (hbC'.mono HB.size); replace bb := bb.below hbC'; replace FQ := FQ.below hbC'; replace FR := FR.below hbC'; replace FG := FG.below hbC'; replace GR := GR.below hbC'; replace BK := BK.below hbC'; clear cf1 cf2 cf3 cf4 cf5 cf6 cf7 cf8 cf9 cf10 cf11 cf12 cf13 cf14; obtain ⟨⟨cf1, cf2⟩, ⟨cf3, cf4⟩, ⟨cf5, cf6⟩, ⟨cf7, cf8⟩, ⟨cf9, cf10⟩, ⟨cf11, cf12⟩, ⟨cf13, cf14⟩⟩ := bb.facts7)
          | (go_at_call 14; have _hq := tA'; refine (back_any _ (l1 + 1) gk _ _ _ ys (S2.below (by repeat (first | exact Below.refl _ _ | refine Below.drew ?_))) PB9.out (((AYo.below HB).below (by repeat (first | exact Below.refl _ _ | refine Below.drew ?_))).sl) M2 (fun h0 b off e => Nat.ne_of_lt (Nat.lt_of_lt_of_le (ly.out h0 b off e) PB8.out))).mono ?_; rintro e wB ⟨rfl, tB⟩; have tB' : Touch wA wB gk := (Touch.of_below (show Below wA.heap.size wA _ by repeat (first | exact Below.refl _ _ | refine Below.drew ?_))).trans tB; replace zz := Nat.le_trans zz tB'.size; replace HB := HB.trans (tB'.below PB8.out HB.size); replace bb := bb.touch tB' D2.out; replace FQ := FQ.touch tB' PB1.out; replace FR := FR.touch tB' PB2.out; replace FG := FG.touch tB' PB3.out; replace GQ := GQ.touch tB' PB4.out; replace GR := GR.touch tB' PB4.out; replace BK := BK.touch tB' PB7.out List.not_mem_nil; clear cf1 cf2 cf3 cf4 cf5 cf6 cf7 cf8 cf9 cf10 cf11 cf12 cf13 cf14; obtain ⟨⟨cf1, cf2⟩, ⟨cf3, cf4⟩, ⟨cf5, cf6⟩, ⟨cf7, cf8⟩, ⟨cf9, cf10⟩, ⟨cf11, cf12⟩, ⟨cf13, cf14⟩⟩ := bb.facts7)
          | (go_at_call 14; refine (back_any _ l1 gl _ _ _ xs (S1.below (by repeat (first | exact Below.refl _ _ | refine Below.drew ?_))) PA9.out (((AXo.below HB).below (by repeat (first | exact Below.refl _ _ | refine Below.drew ?_))).sl) M1 (fun h0 b off e => Nat.ne_of_lt (Nat.lt_of_lt_of_le (lx.out h0 b off e) PA8.out))).mono ?_; rintro e wA ⟨rfl, tA⟩; have tA' : Touch w12 wA gl := (Touch.of_below (show Below w12.heap.size w12 _ by repeat (first | exact Below.refl _ _ | refine Below.drew ?_))).trans tA; replace zz := Nat.le_trans zz tA'.size; replace HB := HB.trans (tA'.below PA8.out HB.size); replace bb := bb.touch tA' D1.out; replace S2 := S2.touch tA' PA5.out PA6.out; replace FQ := FQ.touch tA' PA1.out; replace FR := FR.touch tA' PA2.out; replace FG := FG.touch tA' PA3.out; replace GQ := GQ.touch tA' PA4.out; replace GR := GR.touch tA' PA4.out; replace BK := BK.touch tA' PA7.out List.not_mem_nil; clear cf1 cf2 cf3 cf4 cf5 cf6 cf7 cf8 cf9 cf10 cf11 cf12 cf13 cf14; obtain ⟨⟨cf1, cf2⟩, ⟨cf3, cf4⟩, ⟨cf5, cf6⟩, ⟨cf7, cf8⟩, ⟨cf9, cf10⟩, ⟨cf11, cf12⟩, ⟨cf13, cf14⟩⟩ := bb.facts7))
        all_goals
          clear cf1 cf2 cf3 cf4 cf5 cf6 cf7 cf8 cf9 cf10 cf11 cf12 cf13 cf14
          go_wp2
          go_ret
          exact ⟨rfl, ST.hb⟩


theorem wdv_law (w : World) (nx : Bool) (a0 : Option Addr) (n0 c0 : Nat) (xs : List Int) (zx : Int) (ny : Bool) (a1 : Option Addr) (n1 c1 : Nat) (ys : List Int) (zy : Int) (AX : Ag w nx a0 n0 c0 xs zx) (AY : Ag w ny a1 n1 c1 ys zy) (b0 : n0 ≤ 35184372088832) (b1 : n1 ≤ 35184372088832) :
    Calls Try.prog 3 #[.agg #[.bool nx, .slice a0 n0 c0], .agg #[.bool ny, .slice a1 n1 c1]] w fun e w' => e = .returned (.bool true) ∧ Below w.heap.size w w' := by
  by_cases h : 1500 < 1 + (n0 : Int) + (1 + n1)
  · exact wdv_long w nx a0 n0 c0 xs zx ny a1 n1 c1 ys zy AX AY b0 b1 h
  · have e0 := AX.sl.parts.1
    have e1 := AY.sl.parts.1
    by_cases hy : zy = 0
    · subst hy
      exact wdv_short w nx a0 n0 c0 xs zx ny a1 n1 c1 ys 0 AX AY b0 b1 h 0 0 false (hide dvp_none) (hide (dvr_none (by omega) (by omega)))
    · exact wdv_short w nx a0 n0 c0 xs zx ny a1 n1 c1 ys zy AX AY b0 b1 h _ _ true (hide (dvp_some (by omega) (by omega) hy)) (hide (dvr_some (by omega) (by omega) hy))

end Lm
end Go.Proofs.Ythbomfboohjcfad

namespace Go.Proofs.Ythbomfboohjcfad
namespace wholeDividesLaw
open Go.ChangeShapes Go.WideShapes Go.ChangeAt Go.RowKit
open Go.ChangeMaps (open_string shut_string)

theorem own : ownKnob Try.prog.godebug = none := by kernel_rfl
theorem laidOut : laidOutB Try.prog = true := by kernel_rfl
theorem bytes4 : Try.prog.bytesOf 47 = 4 := by kernel_rfl

theorem sl_of {w : World} {x : Addr} {l c : Nat} {zs : List Int} (hl : l ≤ c) (hm : c ≤ maxLen) (hz : zs.length = c) (hcell : ∀ i, i < zs.length → w.cell? (x.add i) = some (.int .u32 (zs.getD i 0))) (hwz : ∀ n ∈ zs, (Lit.int .u32 n).wf = true) : Lm.Sl w (.slice (some x) l c) (zs.take l) := by
  have hll : (zs.take l).length = l := by rw [List.length_take]; omega
  refine ⟨some x, c, by rw [hll], by omega, hm, fun n hn => ?_, ?_⟩
  · have := bounds_u32 (hwz n (List.mem_of_mem_take hn))
    omega
  · by_cases h0 : l = 0
    · exact .inl (List.eq_nil_of_length_eq_zero (by omega))
    · obtain ⟨b, off, spot⟩ := x
      have h1 := hcell 0 (by omega)
      have hspot : spot = none := by simpa [Addr.add] using World.cell?_spot h1
      subst hspot
      refine .inr ⟨b, off, rfl, fun i hi => ?_⟩
      have h2 := hcell i (by omega)
      rw [Lm.getD_take _ _ _ (by omega)]
      have e : (⟨b, off, none⟩ : Addr).add i = ⟨b, off + i, none⟩ := by
        by_cases hi0 : i = 0
        · subst hi0; simp [Addr.add]
        · simp [Addr.add, hi0]
      rwa [e] at h2

set_option linter.unusedVariables false in
set_option maxRecDepth 100000 in
theorem lifted (os : Os) (started : os.Started) (H : Type) (enc : TypeId × Value → H) :
    ReturnsInHanded {} Try.checked os 3 .any (Rows.wholeDividesSpec.pre6 enc Try.prog Try.f3 Rows.wholeDividesRow.domain false) (Rows.wholeDividesSpec.post enc Try.prog Try.f3 false true false false) := by
  refine returnsInHanded_of_change_sized (C := Try.checked) own started (by kernel_rfl) Try.func3
    (ChangeSpec.witness6 (enc := enc) (C := Try.checked) false ⟨#[], #[.agg #[.bool false, .slice none 0 0], .agg #[.bool false, .slice none 0 0]], []⟩ 8 (by kernel_rfl) (by kernel_rfl) (by kernel_rfl) (by kernel_rfl)) ?_
  intro W base args ds gs before hval0 hW hcnd hsz0 _
  have hval : ∀ (j : Nat) t v, Try.f3.params[j]? = some t → args[j]? = some v → Value.okWide Try.prog W .any base t v := hval0
  have hW' := hW
  obtain ⟨p, q, hA0, hV, rfl, hfz, hnd⟩ := hW
  have hA : DataW.TrodAll enc Try.prog W 0 (fun _ => true) true Try.f3.params.toList args.toList ds p := hA0
  have hsz : (DataW.weightsEach Try.prog (Try.f3.params.toList ++ Rows.wholeDividesSpec.plain.varTypes Try.prog) (ds ++ gs)).all (· ≤ reachBytes) = true := hsz0
  rw [Try.params3] at hA hval hsz
  obtain ⟨v0, vs0, d0, ds0, p0, q0, hargs, rfl, rfl, h0, r0⟩ := trodAll_cons hA
  obtain ⟨v1, vs1, d1, ds1, p1, q1, rfl, rfl, rfl, h1, r1⟩ := trodAll_cons r0
  obtain ⟨rfl, rfl, rfl⟩ := trodAll_nil r1
  obtain rfl : args = #[v0, v1] := by cases args; simp_all
  obtain ⟨rfl, rfl⟩ := trodVars_none hV
  have k0 := h0
  have lt0 : ∀ x ∈ p0, x.block < W.heap.size := by obtain ⟨m, hm⟩ := k0; exact DataW.trod_lt m _ _ _ hm
  obtain ⟨g0, a0, len0, cap0, z0, hv0, w0, b0⟩ : ∃ ng ao n cap zs, v0 = .agg #[.bool ng, .slice ao n cap] ∧ Lm.Sl W (.slice ao n cap) zs ∧ n ≤ 35184372088832 := by
    obtain ⟨x0, x1, y0, y1, m, hv, hd, _, t0, t1⟩ := Go.Joins.open_agg2 Try.underlying24 (by kernel_rfl) (by kernel_rfl) (hval 0 24 v0 rfl rfl) h0
    obtain ⟨b, hb0, _⟩ := DataW.trod_bool Try.underlying4 t0
    obtain rfl : x0 = .bool b := by simpa using hb0
    rcases open_ints Try.underlying22 Try.underlying47 (by kernel_rfl) t1 with ⟨hcs, _⟩ | ⟨x, l, c, zs, hcs, _, hl, hm, hz, hx, hcell, hwz⟩
    · obtain rfl : x1 = .slice none 0 0 := by simpa using hcs
      exact ⟨b, none, 0, 0, [], hv, ⟨none, 0, rfl, Nat.le_refl _, by simp [maxLen], Lm.limb_nil, .inl rfl⟩, by omega⟩
    · obtain rfl : x1 = .slice (some x) l c := by simpa using hcs
      have hz' : zs.length = c := by simpa using hz
      have hx1 : y1.1 = .slice (lits .u32 (zs.take l)) (lits .u32 (zs.drop l)) := congrArg Prod.fst hx
      refine ⟨b, some x, l, c, _, hv, sl_of hl hm hz' hcell hwz, ?_⟩
      have hs := List.all_eq_true.1 hsz _ (DataW.weights_mem_each (j := 0) (t := 24) rfl (congrArg some hd) (((lits .u32 (zs.take l) : List (DataW H)).length + (lits .u32 (zs.drop l) : List (DataW H)).length) * Try.prog.bytesOf 47) (by rw [hx1]; simp [DataW.weights, DataW.weightsEach, Try.underlying24, Try.underlying22]))
      rw [bytes4] at hs
      simp only [lits, List.length_map, List.length_take, List.length_drop, reachBytes, decide_eq_true_eq] at hs
      omega
  subst hv0
  have k1 := h1
  have lt1 : ∀ x ∈ p1, x.block < W.heap.size := by obtain ⟨m, hm⟩ := k1; exact DataW.trod_lt m _ _ _ hm
  obtain ⟨g1, a1, len1, cap1, z1, hv1, w1, b1⟩ : ∃ ng ao n cap zs, v1 = .agg #[.bool ng, .slice ao n cap] ∧ Lm.Sl W (.slice ao n cap) zs ∧ n ≤ 35184372088832 := by
    obtain ⟨x0, x1, y0, y1, m, hv, hd, _, t0, t1⟩ := Go.Joins.open_agg2 Try.underlying24 (by kernel_rfl) (by kernel_rfl) (hval 1 24 v1 rfl rfl) h1
    obtain ⟨b, hb0, _⟩ := DataW.trod_bool Try.underlying4 t0
    obtain rfl : x0 = .bool b := by simpa using hb0
    rcases open_ints Try.underlying22 Try.underlying47 (by kernel_rfl) t1 with ⟨hcs, _⟩ | ⟨x, l, c, zs, hcs, _, hl, hm, hz, hx, hcell, hwz⟩
    · obtain rfl : x1 = .slice none 0 0 := by simpa using hcs
      exact ⟨b, none, 0, 0, [], hv, ⟨none, 0, rfl, Nat.le_refl _, by simp [maxLen], Lm.limb_nil, .inl rfl⟩, by omega⟩
    · obtain rfl : x1 = .slice (some x) l c := by simpa using hcs
      have hz' : zs.length = c := by simpa using hz
      have hx1 : y1.1 = .slice (lits .u32 (zs.take l)) (lits .u32 (zs.drop l)) := congrArg Prod.fst hx
      refine ⟨b, some x, l, c, _, hv, sl_of hl hm hz' hcell hwz, ?_⟩
      have hs := List.all_eq_true.1 hsz _ (DataW.weights_mem_each (j := 1) (t := 24) rfl (congrArg some hd) (((lits .u32 (zs.take l) : List (DataW H)).length + (lits .u32 (zs.drop l) : List (DataW H)).length) * Try.prog.bytesOf 47) (by rw [hx1]; simp [DataW.weights, DataW.weightsEach, Try.underlying24, Try.underlying22]))
      rw [bytes4] at hs
      simp only [lits, List.length_map, List.length_take, List.length_drop, reachBytes, decide_eq_true_eq] at hs
      omega
  subst hv1
  clear hA0 hval0
  refine (Lm.wdv_law W g0 a0 len0 cap0 z0 _ g1 a1 len1 cap1 z1 _ ⟨w0, rfl⟩ ⟨w1, rfl⟩ b0 b1).mono fun e W' ⟨he, bel⟩ => ?_
  subst he
  exact ⟨_, rfl, _, _, _, [], _, [], hW', trodAll_mk1 (shut_bool Try.underlying4 _), (trodAll_cons_mk (Below.trod laidOut (by kernel_rfl) (of_decide_eq_true (by kernel_rfl)) k0 bel lt0) (trodAll_cons_mk (Below.trod laidOut (by kernel_rfl) (of_decide_eq_true (by kernel_rfl)) k1 bel lt1) trodAll_mk0)), rfl, bel.frame _, fun h => by cases h⟩

theorem over : Rows.wholeDividesRow.holds Try.pinned (OpenSpec.ofChange Rows.wholeDividesSpec) :=
  OpenClaim.holds_of_wide 3 Try.f3 rfl rfl rfl rfl rfl rfl rfl ⟨rfl, rfl, rfl, rfl, rfl⟩ rfl rfl rfl rfl rfl (by kernel_rfl) Try.func3 (by kernel_rfl)
    (of_decide_eq_true (by kernel_rfl)) (by unfold Func.isWrapper; first | (rw [if_pos (by decide +kernel)]; kernel_rfl) | (rw [if_neg (by decide +kernel)]; exact ⟨rfl, rfl⟩))
    (fun os started H enc _ => lifted os started H enc)
end wholeDividesLaw

theorem wholeDivides_holds : Rows.WholeDividesSaid := wholeDividesLaw.over
#print axioms wholeDivides_holds
end Go.Proofs.Ythbomfboohjcfad
