/-
  The contracts of the reference's Of and Told: whole numbers as they are handed in, and as they are told. The contract of the reference's Int. The contract of the reference's Sub. The contract of the reference's Mul. What the reference's divided holds on its way: its memory, and the plain facts on quotient and rest. The contract of the reference's divided. The contract of the reference's DivMod, of naturals. The contract of the reference's Gcd. The contract of the reference's DivMod, of numbers with signs. The contracts of the reference's DivMod and Gcd on whole numbers. Structs that hold the document's own numbers and fractions, and single operations on them, over a frame that is not written out. Lowest terms, as numbers: fractions that are one number have one numerator and one denominator. No program is named here. The laws of fractions in lowest terms, as numbers. No program is named here. The contracts of the reference's Uint and Small. LimbsNumbers answers true, whatever number and list of limbs it is handed. The document's own fractions.
-/
import Derived.Test.YtkdcgnooeojjgabRMkLawM51
import Derived.Test.YtkdcgnooeojjgabWG
import Derived.Deep.DeepCutAuto
import Derived.BigRegion
import Derived.Test.YtkdcgnooeojjgabRMkLawM49
import Derived.Test.YtkdcgnooeojjgabWF
import Derived.OpenShut
namespace Go.Proofs.Ytkdcgnooeojjgab
namespace Dm
open Go.RowKit
open Lm (hide lt_of_cell lt_of_heap)

theorem sg_eq (ng : Bool) (x : Int) : sg ng x = Lm.sg ng x := by cases ng <;> simp [sg, Lm.sg]

theorem Wh.nats {w : World} {ao : Option Addr} {cap : Nat} {rs : List Int} {x : Int} (h : Got w ao cap rs x) : Wh w false ao cap rs x := by
  have := Wh.of false h
  simpa [sg] using this

theorem box_past {w : World} {g : Nat} {ng : Bool} {v : Value} (h : Box w g ng v) {k : Nat} (hne : g ≠ k) (b u : Value) : Box ((w.setCell ⟨k, 0, none⟩ b).setCell ⟨k, 1, none⟩ u) g ng v := by
  unfold Box
  rw [heap_setCell_other _ ⟨k, 1, none⟩ g _ hne, heap_setCell_other _ ⟨k, 0, none⟩ g _ hne]
  exact h

set_option maxRecDepth 20000 in
set_option maxHeartbeats 1000000 in
theorem nof_g (w : World) (ng : Bool) (a1 : Option Addr) (n1 c1 : Nat) (xs : List Int) (hx : Lm.Sl w (.slice a1 n1 c1) xs) (m1 : xs.length ≤ 100000) :
    Calls Try.prog 58 #[.agg #[.bool ng, .slice a1 n1 c1]] w fun e w' => ∃ ng' ao cap rs, e = .returned (.agg #[.bool ng', .slice ao rs.length cap]) ∧ Wh w' ng' ao cap rs (Lm.sg ng (Lm.val xs)) ∧ rs.length ≤ 3 * xs.length ∧ Below w.heap.size w w' := by
  obtain ⟨w1, e1, bx, hb1, hs1⟩ := Lm.boxed0 w ng (.slice a1 n1 c1)
  obtain ⟨w2, e2, br, hb2, hs2⟩ := boxed0 w1 false (.slice none 0 0)
  have E1 := hide e1
  have E2 := hide e2
  have HB := hb1.trans (hb2.mono hb1.size)
  replace bx := bx.below hb2
  rw [hs1] at br
  have hx2 := hx.below HB
  have HS : w2.heap.size = w.heap.size + 2 := by omega
  rw [← sg_eq]
  clear e1 e2 hb1 hb2 hs1 hs2
  cases ng with
  | false =>
    go_enter Try.func58, Try.ntmps58
    go_upto_region 1 with fail
    rw [E1.out, E2.out]
    obtain ⟨bx1, bx2, bx3, bx4⟩ := bx.facts
    go_wp2_with fail
    refine (fromLimbs_any _ _ _ _ xs hx2 (by omega)).mono ?_
    rintro e w3 ⟨p3, q3, D3, rfl, G3, d3, hb3⟩
    obtain ⟨w4, e4, bn, hb4, hs4⟩ := boxed0 w3 false (.slice p3 D3.length q3)
    have E4 := hide e4
    have z3 := hb3.size
    replace HB := (HB.trans (hb3.mono HB.size)).trans (hb4.mono (Nat.le_trans HB.size z3))
    replace bx := (bx.below hb3).below hb4
    replace br := (br.below hb3).below hb4
    replace G3 := G3.below hb4
    clear e4 hb3 hb4 bx1 bx2 bx3 bx4
    go_upto_region 2 with fail
    rw [E4.out]
    obtain ⟨bx1, bx2, bx3, bx4⟩ := bx.facts
    obtain ⟨br1, br2, br3, br4⟩ := br.facts
    obtain ⟨bn1, bn2, bn3, bn4⟩ := bn.facts
    have F := hide (br.set false (.slice p3 D3.length q3)).facts
    have Y := hide (br.wh false (.slice p3 D3.length q3) (Wh.nats G3))
    have Z := hide (below_set2 HB (show w.heap.size ≤ w.heap.size + 1 by omega) (.bool false) (.slice p3 D3.length q3))
    go_wp2
    refine bodyPost_ret (v := .agg #[.bool false, .slice p3 D3.length q3]) ?_ rfl ⟨false, p3, q3, D3, rfl, Y.out, by omega, Z.out⟩
    simp [results, Try.results58, go_sem, F.out.1, F.out.2.1]
  | true =>
    go_enter Try.func58, Try.ntmps58
    go_upto_region 1 with fail
    rw [E1.out, E2.out]
    obtain ⟨bx1, bx2, bx3, bx4⟩ := bx.facts
    go_wp2_with fail
    refine (fromLimbs_any _ _ _ _ xs hx2 (by omega)).mono ?_
    rintro e w3 ⟨p3, q3, D3, rfl, G3, d3, hb3⟩
    obtain ⟨w4, e4, bn, hb4, hs4⟩ := boxed0 w3 false (.slice p3 D3.length q3)
    have E4 := hide e4
    have z3 := hb3.size
    replace HB := (HB.trans (hb3.mono HB.size)).trans (hb4.mono (Nat.le_trans HB.size z3))
    replace bx := (bx.below hb3).below hb4
    replace br := (br.below hb3).below hb4
    replace G3 := G3.below hb4
    clear e4 hb3 hb4 bx1 bx2 bx3 bx4
    go_upto_region 2 with fail
    rw [E4.out]
    obtain ⟨bx1, bx2, bx3, bx4⟩ := bx.facts
    obtain ⟨bn1, bn2, bn3, bn4⟩ := bn.facts
    go_wp2_with fail
    refine (minus_got _ _ _ _ D3 _ G3 (by omega)).mono ?_
    rintro e w5 ⟨n5, p5, q5, D5, rfl, G5, d5, hb5⟩
    replace HB := HB.trans (hb5.mono HB.size)
    replace br := br.below hb5
    clear bx1 bx2 bx3 bx4 bn1 bn2 bn3 bn4 hb5
    obtain ⟨br1, br2, br3, br4⟩ := br.facts
    have F := hide (br.set n5 (.slice p5 D5.length q5)).facts
    have Y := hide (br.wh n5 (.slice p5 D5.length q5) G5)
    have Z := hide (below_set2 HB (show w.heap.size ≤ w.heap.size + 1 by omega) (.bool n5) (.slice p5 D5.length q5))
    go_wp2
    refine bodyPost_ret (v := .agg #[.bool n5, .slice p5 D5.length q5]) ?_ rfl ⟨n5, p5, q5, D5, rfl, Y.out, by omega, Z.out⟩
    simp [results, Try.results58, go_sem, F.out.1, F.out.2.1]

theorem nof_z (w : World) (ng : Bool) (a1 : Option Addr) (n1 c1 : Nat) (xs : List Int) (x : Int) (hx : Lm.Ag w ng a1 n1 c1 xs x) (m1 : xs.length ≤ 100000) :
    Calls Try.prog 58 #[.agg #[.bool ng, .slice a1 n1 c1]] w fun e w' => ∃ ng' ao cap rs, e = .returned (.agg #[.bool ng', .slice ao rs.length cap]) ∧ Wh w' ng' ao cap rs x ∧ rs.length ≤ 3 * xs.length ∧ Below w.heap.size w w' := by
  have h := nof_g w ng a1 n1 c1 xs hx.sl m1
  rw [hx.worth] at h
  exact h

/-- An answer that is a whole number in memory of its own. -/
structure WFr (B T : Nat) (w : World) (ng : Bool) (ao : Option Addr) (cap : Nat) (rs : List Int) (z : Int) : Prop where
  fr : Lm.Fr B T w ao cap rs (z.natAbs : Int)
  sgn : ng = decide (z < 0)

theorem WFr.wh {B T : Nat} {w : World} {ng : Bool} {ao : Option Addr} {cap : Nat} {rs : List Int} {z : Int} (h : WFr B T w ng ao cap rs z) : Lm.Wh w ng ao cap rs z := ⟨h.fr.got, h.sgn⟩
theorem WFr.below {B T : Nat} {w w' : World} {ng : Bool} {ao : Option Addr} {cap : Nat} {rs : List Int} {z : Int} (h : WFr B T w ng ao cap rs z) (hb : Below w.heap.size w w') : WFr B T w' ng ao cap rs z := ⟨h.fr.below hb, h.sgn⟩
theorem WFr.kept {B T : Nat} {w w' : World} {ng : Bool} {ao : Option Addr} {cap : Nat} {rs : List Int} {z : Int} (h : WFr B T w ng ao cap rs z) (hk : ∀ g, g < w.heap.size → B ≤ g → g < T → w'.heap[g]? = w.heap[g]?) : WFr B T w' ng ao cap rs z := ⟨h.fr.kept hk, h.sgn⟩
theorem WFr.touch {B T L : Nat} {w w' : World} {ng : Bool} {ao : Option Addr} {cap : Nat} {rs : List Int} {z : Int} (h : WFr B T w ng ao cap rs z) (t : Lm.Touch w w' L) (hL : L < B ∨ T ≤ L) : WFr B T w' ng ao cap rs z := ⟨h.fr.touch t hL, h.sgn⟩
theorem WFr.kp {B T p : Nat} {bs : List Nat} {w w' : World} {ng : Bool} {ao : Option Addr} {cap : Nat} {rs : List Int} {z : Int} (h : WFr B T w ng ao cap rs z) (k : Lm.Kp w w' p bs) (hp : p < B ∨ T ≤ p) (hb : ∀ j, j ∈ bs → j < B ∨ T ≤ j) : WFr B T w' ng ao cap rs z := ⟨h.fr.kp k hp hb, h.sgn⟩
theorem WFr.wide {B B' T T' : Nat} {w : World} {ng : Bool} {ao : Option Addr} {cap : Nat} {rs : List Int} {z : Int} (h : WFr B T w ng ao cap rs z) (hB : B' ≤ B) (hT : T ≤ T') : WFr B' T' w ng ao cap rs z :=
  ⟨⟨h.fr.ow.mono hB, h.fr.canon, h.fr.val, fun h0 g off e => by have := h.fr.lies h0 g off e; omega⟩, h.sgn⟩

theorem set2_kept {w : World} {k : Nat} (b u : Value) {g : Nat} (h : g ≠ k) : ((w.setCell ⟨k, 0, none⟩ b).setCell ⟨k, 1, none⟩ u).heap[g]? = w.heap[g]? := by
  rw [heap_setCell_other _ ⟨k, 1, none⟩ g _ h, heap_setCell_other _ ⟨k, 0, none⟩ g _ h]

set_option maxRecDepth 20000 in
set_option maxHeartbeats 1000000 in
theorem told_g (w : World) (ng : Bool) (ao : Option Addr) (cap : Nat) (rs : List Int) (z : Int) (h : Wh w ng ao cap rs z) (M : Nat) (hz : (z.natAbs : Int) < Lm.pw M) (hM : M ≤ 1000000) (hl : rs.length ≤ 1000000) :
    Calls Try.prog 49 #[.agg #[.bool ng, .slice ao rs.length cap]] w fun e w' => ∃ bo dap ls, e = .returned (.agg #[.bool ng, .slice bo ls.length dap]) ∧ WFr w.heap.size w'.heap.size w' ng bo dap ls z ∧ ls.length ≤ M ∧ Below w.heap.size w w' := by
  obtain ⟨w1, e1, bx, hb1, hs1⟩ := boxed0 w ng (.slice ao rs.length cap)
  obtain ⟨w2, e2, br, hb2, hs2⟩ := Lm.boxed0 w1 false (.slice none 0 0)
  have E1 := hide e1
  have E2 := hide e2
  have HB := hb1.trans (hb2.mono hb1.size)
  replace bx := bx.below hb2
  rw [hs1] at br
  have h2 := h.below HB
  have HS : w2.heap.size = w.heap.size + 2 := by omega
  have HSG := hide h.2
  have HZ := hide hz
  have ne1 : ¬ (w.heap.size = w.heap.size + 1) := by omega
  have ne2 : ¬ (w.heap.size + 1 = w.heap.size) := by omega
  clear e1 e2 hb1 hb2 hs1 hs2 hz
  go_enter Try.func49, Try.ntmps49
  go_upto_region 1 with fail
  rw [E1.out, E2.out]
  obtain ⟨bx1, bx2, bx3, bx4⟩ := bx.facts
  obtain ⟨br1, br2, br3, br4⟩ := br.facts
  go_region_held3 (fun w' => w'.cell? ⟨w.heap.size, 0, none⟩ = some (.bool ng) ∧ w'.cell? ⟨w.heap.size, 1, none⟩ = some (.slice ao rs.length cap)) (go_keep) (first
    | (go_at_call 79; refine (limbs_any _ _ _ _ rs _ (h2.1.below (by repeat (first | exact Below.refl _ _ | refine Below.drew ?_))) M HZ.out hM hl).mono ?_; rintro e w1' ⟨v1, rfl, I1, hb1⟩; have hb1' : Below w2.heap.size w2 w1' := (show Below w2.heap.size w2 _ by repeat (first | exact Below.refl _ _ | refine Below.drew ?_)).trans hb1; obtain ⟨p1, q1, r1, rfl, F1⟩ := I1.fr; clear I1; replace bx := bx.below hb1'; clear bx1 bx2 bx3 bx4; obtain ⟨bx1, bx2, bx3, bx4⟩ := bx.facts; replace br := br.below hb1'; clear br1 br2 br3 br4; obtain ⟨br1, br2, br3, br4⟩ := br.facts))
  all_goals
    have HB2 := HB.trans (hb1'.mono HB.size)
    have F := hide (br.set ng (.slice p1 r1.length q1)).facts
    have hkk := lt_of_heap br
    have Y := hide (show WFr w2.heap.size w1'.heap.size _ ng p1 q1 r1 z from (WFr.kept (w := w1') ⟨F1, HSG.out⟩ (fun g _ hg _ => set2_kept (.bool ng) (.slice p1 r1.length q1) (show g ≠ w.heap.size + 1 by omega))))
    have Z := hide (below_set2 HB2 (show w.heap.size ≤ w.heap.size + 1 by omega) (.bool ng) (.slice p1 r1.length q1))
    have LL := hide (Lm.canon_len F1.canon (m := M) (by rw [F1.val]; exact HZ.out))
    clear bx1 bx2 bx3 bx4
    go_wp2
    refine bodyPost_ret (v := .agg #[.bool ng, .slice p1 r1.length q1]) ?_ rfl ⟨p1, q1, r1, rfl, Y.out.wide (by omega) (by simp [World.setCell]), LL.out, Z.out⟩
    simp [results, Try.results49, go_sem, F.out.1, F.out.2.1]

end Dm
end Go.Proofs.Ytkdcgnooeojjgab

namespace Go.Proofs.Ytkdcgnooeojjgab
namespace Dm
open Go.RowKit
open Lm (hide lt_of_cell lt_of_heap)

theorem i_step {ds : List Int} {k : Nat} {u x : Int} (hk : ds.length = k) (h : val ds + pw k * u = x) : val (ds ++ [u % 10000]) + pw (k + 1) * (u / 10000) = x := by
  rw [val_snoc, hk, pw]
  have e : u = u % 10000 + 10000 * (u / 10000) := by omega
  have e2 : pw k * (u % 10000) + 10000 * pw k * (u / 10000) = pw k * u := by
    rw [Int.mul_comm 10000 (pw k), Int.mul_assoc, ← Int.mul_add, ← e]
  omega

theorem i_room {ds : List Int} {k : Nat} {u : Int} (_hk : ds.length = k) (hl : Limb ds) (hu : 0 < u) (h : val ds + pw k * u < 18446744073709551616) : k ≤ 4 := by
  apply Classical.byContradiction
  intro hn
  have h1 := pw_mono (m := 5) (n := k) (by omega)
  rw [show pw 5 = 100000000000000000000 from by decide] at h1
  have h2 : pw k * 1 ≤ pw k * u := Int.mul_le_mul_of_nonneg_left (by omega) (by omega)
  have h3 := (val_bounds hl).1
  omega

set_option maxRecDepth 20000 in
set_option maxHeartbeats 1000000 in
theorem nint_neg (w : World) (v : Int) (h1 : -9223372036854775808 ≤ v) (h2 : v ≤ 9223372036854775807) (h0 : v < 0) :
    Calls Try.prog 48 #[.int .i64 v] w fun e w' => ∃ ng' ao cap rs, e = .returned (.agg #[.bool ng', .slice ao rs.length cap]) ∧ Wh w' ng' ao cap rs v ∧ rs.length ≤ 5 ∧ Below w.heap.size w w' := by
  obtain ⟨i0, hi, hz0, hz1, hz2⟩ := info_parts info64
  obtain ⟨w0, e0, br, hb0, hs0⟩ := boxed0 w false (.slice none 0 0)
  have E0 := hide e0
  clear e0 hs0
  have hw : IntKind.u64.wrap (-IntKind.u64.wrap v) = -v := by rw [IntKind.wrap_u64, IntKind.wrap_u64]; omega
  go_enter Try.func48, Try.ntmps48
  go_wp2
  rw [E0.out]
  clear hw
  go_loopw [3, 4] (fun mv uv wr => ∃ (k : Nat) (u : Int) (ds : List Int), uv = .int .u64 u ∧ 0 ≤ u ∧ u < 18446744073709551616 ∧ ds.length = k ∧ k ≤ 5 ∧ Limb ds ∧ val ds + pw k * u = -v ∧ wr.ownsRow w0.heap.size 3 1 mv k (ds.map (Value.int .i64)) ∧ Below w0.heap.size w0 wr) (fun _ uv _ => (intOf uv).toNat)
  case atStart => exact ⟨0, -v, [], rfl, by omega, by omega, rfl, by omega, limb_nil, by simp [val, pw], World.ownsRow_nil _ _ _ _, Below.refl _ _⟩
  case round =>
    obtain ⟨k, u, ds, rfl, hu0, hu1, hdl, hk5, hds, hv, hown, hbel⟩ := hrel
    have HD := hide hds
    have HDL := hide hdl
    have HV := hide hv
    have hsz := hbel.size
    clear hds hdl hv
    by_cases hu : 0 < u
    · have hroom := i_room HDL.out HD.out hu (by rw [HV.out]; omega)
      have HV' := hide (i_step HDL.out HV.out)
      go_wp2_with (at_builtin; refine wpList_append_own _ rfl (.tmp 13) (.tmp 17) 64 rfl w0.heap.size 3 i0 (.int .i64 0) 1 8 Try.underlying64 hi hz0 hz1 hz2 rfl (by decide) _ _ _ rfl (hown.alloc _) ⟨wr.heap.size, 0, none⟩ 1 1 [.int .i64 (u % 10000)] rfl rfl (cell_one_new _ _ _) ?c2 ?c3 ?c4 ?c5 ?_)
      case c2 => first | rfl | (intro x hx; simp at hx; subst hx; rfl)
      case c3 => unfold maxLen; omega
      case c4 => omega
      case c5 => first | omega | (simp; omega)
      intro v4 w4 hown4 hgrow4 _
      have R := step_own hown4 hgrow4 hbel (hown.lt)
      clear hown4 hgrow4 hown
      go_wp2
      go_roundw
      case rel => exact ⟨k + 1, u / 10000, ds ++ [u % 10000], rfl, by omega, by omega, by have := HDL.out; simp; omega, by omega, limb_append.2 ⟨HD.out, limb_cons.2 ⟨by omega, limb_nil⟩⟩, HV'.out, R.1, R.2⟩
      case measure => simp [intOf]; omega
    · have hu' : u = 0 := by omega
      subst hu'
      have hval : Hid (val ds = -v) := by have := HV.out; rw [Int.mul_zero, Int.add_zero] at this; exact this
      obtain ⟨ao1, cap1, hv1, s1, _, _⟩ := (ow_of_row hown HD.out).open
      subst hv1
      replace br := br.below hbel
      have HB := hb0.trans (hbel.mono hb0.size)
      have hd : decide (v < 0) = true := by simp; omega
      have hsg : Hid (sg true (-v) = v) := by simp [Hid, sg]
      clear hown hbel
      go_wp2_with fail
      try rw [hd]
      refine (made_w _ _ _ _ ds _ s1 hval.out).mono ?_
      rintro e w2 ⟨ng2, r2, rfl, G2, l2, hb2⟩
      rw [hsg.out] at G2
      replace br := br.below hb2
      replace HB := HB.trans (hb2.mono HB.size)
      have hdl := HDL.out
      clear hb2 hval s1
      obtain ⟨ka, kb, kc, kd⟩ := br.facts
      have X := hide (br.set ng2 (.slice ao1 r2.length cap1)).facts
      have Y := hide (br.wh ng2 (.slice ao1 r2.length cap1) G2)
      have Z := hide (below_set2 HB (Nat.le_refl _) (.bool ng2) (.slice ao1 r2.length cap1))
      go_wp2
      refine bodyPost_ret (v := .agg #[.bool ng2, .slice ao1 r2.length cap1]) ?_ rfl ⟨ng2, ao1, cap1, r2, rfl, Y.out, by omega, Z.out⟩
      simp [results, Try.results48, go_sem, X.out.1, X.out.2.1]

set_option maxRecDepth 20000 in
set_option maxHeartbeats 1000000 in
theorem nint_pos (w : World) (v : Int) (h1 : -9223372036854775808 ≤ v) (h2 : v ≤ 9223372036854775807) (h0 : ¬ v < 0) :
    Calls Try.prog 48 #[.int .i64 v] w fun e w' => ∃ ng' ao cap rs, e = .returned (.agg #[.bool ng', .slice ao rs.length cap]) ∧ Wh w' ng' ao cap rs v ∧ rs.length ≤ 5 ∧ Below w.heap.size w w' := by
  obtain ⟨i0, hi, hz0, hz1, hz2⟩ := info_parts info64
  obtain ⟨w0, e0, br, hb0, hs0⟩ := boxed0 w false (.slice none 0 0)
  have E0 := hide e0
  clear e0 hs0
  have hw : True := trivial
  go_enter Try.func48, Try.ntmps48
  go_wp2
  rw [E0.out]
  clear hw
  go_loopw [3, 4] (fun mv uv wr => ∃ (k : Nat) (u : Int) (ds : List Int), uv = .int .u64 u ∧ 0 ≤ u ∧ u < 18446744073709551616 ∧ ds.length = k ∧ k ≤ 5 ∧ Limb ds ∧ val ds + pw k * u = v ∧ wr.ownsRow w0.heap.size 3 1 mv k (ds.map (Value.int .i64)) ∧ Below w0.heap.size w0 wr) (fun _ uv _ => (intOf uv).toNat)
  case atStart => exact ⟨0, v, [], rfl, by omega, by omega, rfl, by omega, limb_nil, by simp [val, pw], World.ownsRow_nil _ _ _ _, Below.refl _ _⟩
  case round =>
    obtain ⟨k, u, ds, rfl, hu0, hu1, hdl, hk5, hds, hv, hown, hbel⟩ := hrel
    have HD := hide hds
    have HDL := hide hdl
    have HV := hide hv
    have hsz := hbel.size
    clear hds hdl hv
    by_cases hu : 0 < u
    · have hroom := i_room HDL.out HD.out hu (by rw [HV.out]; omega)
      have HV' := hide (i_step HDL.out HV.out)
      go_wp2_with (at_builtin; refine wpList_append_own _ rfl (.tmp 13) (.tmp 17) 64 rfl w0.heap.size 3 i0 (.int .i64 0) 1 8 Try.underlying64 hi hz0 hz1 hz2 rfl (by decide) _ _ _ rfl (hown.alloc _) ⟨wr.heap.size, 0, none⟩ 1 1 [.int .i64 (u % 10000)] rfl rfl (cell_one_new _ _ _) ?c2 ?c3 ?c4 ?c5 ?_)
      case c2 => first | rfl | (intro x hx; simp at hx; subst hx; rfl)
      case c3 => unfold maxLen; omega
      case c4 => omega
      case c5 => first | omega | (simp; omega)
      intro v4 w4 hown4 hgrow4 _
      have R := step_own hown4 hgrow4 hbel (hown.lt)
      clear hown4 hgrow4 hown
      go_wp2
      go_roundw
      case rel => exact ⟨k + 1, u / 10000, ds ++ [u % 10000], rfl, by omega, by omega, by have := HDL.out; simp; omega, by omega, limb_append.2 ⟨HD.out, limb_cons.2 ⟨by omega, limb_nil⟩⟩, HV'.out, R.1, R.2⟩
      case measure => simp [intOf]; omega
    · have hu' : u = 0 := by omega
      subst hu'
      have hval : Hid (val ds = v) := by have := HV.out; rw [Int.mul_zero, Int.add_zero] at this; exact this
      obtain ⟨ao1, cap1, hv1, s1, _, _⟩ := (ow_of_row hown HD.out).open
      subst hv1
      replace br := br.below hbel
      have HB := hb0.trans (hbel.mono hb0.size)
      have hd : decide (v < 0) = false := by simp; omega
      have hsg : Hid (sg false (v) = v) := by simp [Hid, sg]
      clear hown hbel
      go_wp2_with fail
      try rw [hd]
      refine (made_w _ _ _ _ ds _ s1 hval.out).mono ?_
      rintro e w2 ⟨ng2, r2, rfl, G2, l2, hb2⟩
      rw [hsg.out] at G2
      replace br := br.below hb2
      replace HB := HB.trans (hb2.mono HB.size)
      have hdl := HDL.out
      clear hb2 hval s1
      obtain ⟨ka, kb, kc, kd⟩ := br.facts
      have X := hide (br.set ng2 (.slice ao1 r2.length cap1)).facts
      have Y := hide (br.wh ng2 (.slice ao1 r2.length cap1) G2)
      have Z := hide (below_set2 HB (Nat.le_refl _) (.bool ng2) (.slice ao1 r2.length cap1))
      go_wp2
      refine bodyPost_ret (v := .agg #[.bool ng2, .slice ao1 r2.length cap1]) ?_ rfl ⟨ng2, ao1, cap1, r2, rfl, Y.out, by omega, Z.out⟩
      simp [results, Try.results48, go_sem, X.out.1, X.out.2.1]

theorem nint_any (w : World) (v : Int) (h1 : -9223372036854775808 ≤ v) (h2 : v ≤ 9223372036854775807) :
    Calls Try.prog 48 #[.int .i64 v] w fun e w' => ∃ ng' ao cap rs, e = .returned (.agg #[.bool ng', .slice ao rs.length cap]) ∧ Wh w' ng' ao cap rs v ∧ rs.length ≤ 5 ∧ Below w.heap.size w w' := by
  by_cases h0 : v < 0
  · exact nint_neg w v h1 h2 h0
  · exact nint_pos w v h1 h2 h0

end Dm
end Go.Proofs.Ytkdcgnooeojjgab

namespace Go.Proofs.Ytkdcgnooeojjgab
namespace Dm
open Go.RowKit
open Lm (hide lt_of_cell lt_of_heap cmpI cmpI_lt cmpI_gt)

theorem Wh.via {w0 w1 w2 : World} {ng : Bool} {ao : Option Addr} {cap : Nat} {rs : List Int} {z : Int} (h : Wh w0 ng ao cap rs z) (h1 : Below w0.heap.size w0 w1) (h2 : Below w1.heap.size w1 w2) : Wh w2 ng ao cap rs z := (h.below h1).below h2

set_option maxRecDepth 20000 in
set_option maxHeartbeats 1000000 in
theorem nsub_g (w : World) (n1 : Bool) (a1 : Option Addr) (c1 : Nat) (xs : List Int) (x : Int) (hx : Wh w n1 a1 c1 xs x) (n2 : Bool) (a2 : Option Addr) (c2 : Nat) (ys : List Int) (y : Int) (hy : Wh w n2 a2 c2 ys y) (m1 : xs.length ≤ 400000) (m2 : ys.length ≤ 400000) :
    Calls Try.prog 83 #[.agg #[.bool n1, .slice a1 xs.length c1], .agg #[.bool n2, .slice a2 ys.length c2]] w fun e w' => ∃ ng' ao cap rs, e = .returned (.agg #[.bool ng', .slice ao rs.length cap]) ∧ Wh w' ng' ao cap rs (x - y) ∧ rs.length ≤ xs.length + ys.length + 1 ∧ Below w.heap.size w w' := by
  obtain ⟨w0, e0, bx, by', br, hb0, hs0⟩ := boxed3 w n1 (.slice a1 xs.length c1) n2 (.slice a2 ys.length c2)
  have E0 := hide e0
  have hx0 := hx.below hb0
  have hy0 := hy.below hb0
  have HB := hb0
  have ne1 : ¬ (w.heap.size = w.heap.size + 1 + 1) := by omega
  have ne2 : ¬ (w.heap.size + 1 + 1 = w.heap.size) := by omega
  clear e0 hs0
  go_enter Try.func83, Try.ntmps83
  go_wp2_with fail
  rw [E0.out]
  obtain ⟨bx1, bx2, bx3, bx4⟩ := bx.facts
  obtain ⟨by1, by2, by3, by4⟩ := by'.facts
  obtain ⟨br1, br2, br3, br4⟩ := br.facts
  go_region_held3 (fun w' => w'.cell? ⟨w.heap.size, 0, none⟩ = some (.bool n1) ∧ w'.cell? ⟨w.heap.size, 1, none⟩ = some (.slice a1 xs.length c1) ∧ w'.cell? ⟨w.heap.size + 1, 0, none⟩ = some (.bool n2) ∧ w'.cell? ⟨w.heap.size + 1, 1, none⟩ = some (.slice a2 ys.length c2)) (go_keep) (first
    | (go_at_call 82; have _hq := hb1'; refine (nadd_g _ _ _ _ xs _ (hx0.via hb1' (by repeat (first | exact Below.refl _ _ | refine Below.drew ?_))) _ _ _ r1 _ (G1.below (by repeat (first | exact Below.refl _ _ | refine Below.drew ?_))) (by omega) (by omega)).mono ?_; rintro e w2 ⟨ng2, p2, q2, r2, rfl, G2, l2, hb2⟩; have hb2' : Below w1.heap.size w1 w2 := (show Below w1.heap.size w1 _ by repeat (first | exact Below.refl _ _ | refine Below.drew ?_)).trans hb2; have HB := HB.trans (hb2'.mono HB.size); replace bx := bx.below hb2'; clear bx1 bx2 bx3 bx4; obtain ⟨bx1, bx2, bx3, bx4⟩ := bx.facts; replace by' := by'.below hb2'; clear by1 by2 by3 by4; obtain ⟨by1, by2, by3, by4⟩ := by'.facts; replace br := br.below hb2'; clear br1 br2 br3 br4; obtain ⟨br1, br2, br3, br4⟩ := br.facts)
    | (go_at_call 85; refine (minus_g _ _ _ _ ys _ (hy0.below (by repeat (first | exact Below.refl _ _ | refine Below.drew ?_))) (by omega)).mono ?_; rintro e w1 ⟨ng1, p1, q1, r1, rfl, G1, l1, hb1⟩; have hb1' : Below w0.heap.size w0 w1 := (show Below w0.heap.size w0 _ by repeat (first | exact Below.refl _ _ | refine Below.drew ?_)).trans hb1; have HB := HB.trans (hb1'.mono HB.size); replace bx := bx.below hb1'; clear bx1 bx2 bx3 bx4; obtain ⟨bx1, bx2, bx3, bx4⟩ := bx.facts; replace by' := by'.below hb1'; clear by1 by2 by3 by4; obtain ⟨by1, by2, by3, by4⟩ := by'.facts; replace br := br.below hb1'; clear br1 br2 br3 br4; obtain ⟨br1, br2, br3, br4⟩ := br.facts))
  all_goals
    have X := hide (br.set ng2 (.slice p2 r2.length q2)).facts
    have Y := hide (br.wh ng2 (.slice p2 r2.length q2) G2)
    have Z := hide (below_set2 HB (show w.heap.size ≤ w.heap.size + 1 + 1 by omega) (.bool ng2) (.slice p2 r2.length q2))
    clear bx1 bx2 bx3 bx4 by1 by2 by3 by4
    go_wp2
    refine bodyPost_ret (v := .agg #[.bool ng2, .slice p2 r2.length q2]) ?_ rfl ⟨ng2, p2, q2, r2, rfl, by rw [show x - y = x + -y by omega]; exact Y.out, by omega, Z.out⟩
    simp [results, Try.results83, go_sem, X.out.1, X.out.2.1]

end Dm
end Go.Proofs.Ytkdcgnooeojjgab

namespace Go.Proofs.Ytkdcgnooeojjgab
namespace Dm
open Go.RowKit
open Lm (hide lt_of_cell lt_of_heap)

theorem val_set : ∀ (L : List Int) (i : Nat) (x : Int), i < L.length → val (L.set i x) = val L + pw i * (x - L.getD i 0)
  | [], i, x, h => by simp at h
  | z :: zs, 0, x, _ => by simp [val, pw]; omega
  | z :: zs, i + 1, x, h => by
    have ih := val_set zs i x (by simpa using h)
    rw [List.set_cons_succ, val, ih, val, List.getD_cons_succ, pw, Int.mul_add, ← Int.mul_assoc]
    omega

theorem digit_le : ∀ (L : List Int) (i : Nat), (∀ z ∈ L, 0 ≤ z) → pw i * L.getD i 0 ≤ val L
  | [], i, _ => by simp [val]
  | z :: zs, 0, h => by
    have h1 : 0 ≤ val zs := by
      have : ∀ l : List Int, (∀ z ∈ l, 0 ≤ z) → 0 ≤ val l := by
        intro l
        induction l with
        | nil => intro _; simp [val]
        | cons a l ih =>
          intro hl
          have := ih (fun z hz => hl z (List.mem_cons_of_mem _ hz))
          have := hl a (List.mem_cons_self ..)
          rw [val]
          omega
      exact this zs (fun y hy => h y (List.mem_cons_of_mem _ hy))
    simp [val, pw]
    omega
  | z :: zs, i + 1, h => by
    have ih := digit_le zs i (fun y hy => h y (List.mem_cons_of_mem _ hy))
    have := h z (List.mem_cons_self ..)
    rw [List.getD_cons_succ, val, pw, Int.mul_assoc]
    omega

theorem limb_set {L : List Int} (h : Limb L) (i : Nat) (x : Int) (hx : 0 ≤ x ∧ x < 10000) : Limb (L.set i x) := by
  intro z hz
  rcases List.mem_or_eq_of_mem_set hz with h1 | h1
  · exact h z h1
  · rw [h1]; exact hx

theorem nonneg_set {L : List Int} (h : Limb L) (i : Nat) (x : Int) (hx : 0 ≤ x) : ∀ z ∈ L.set i x, 0 ≤ z := by
  intro z hz
  rcases List.mem_or_eq_of_mem_set hz with h1 | h1
  · exact (h z h1).1
  · rw [h1]; exact hx

theorem mul_99 {a b : Int} (ha : 0 ≤ a ∧ a < 10000) (hb : 0 ≤ b ∧ b < 10000) : 0 ≤ a * b ∧ a * b ≤ 99980001 := by
  refine ⟨Int.mul_nonneg ha.1 hb.1, ?_⟩
  have h1 : a * b ≤ 9999 * b := Int.mul_le_mul_of_nonneg_right (by omega) hb.1
  omega

/-- A round of the inner loop. -/
theorem mul_in {B M : List Int} {k j : Nat} {P a b c t s : Int} (hl : k + j < M.length) (ht : M.getD (k + j) 0 = t) (hb : B.getD j 0 = b) (hs : s = c + t + a * b) (h : val M + pw (k + j) * c = P + pw k * (a * vf B j)) :
    val (M.set (k + j) (s % 10000)) + pw (k + (j + 1)) * (s / 10000) = P + pw k * (a * vf B (j + 1)) := by
  rw [val_set M _ _ hl, ht, vf, hb, ← Nat.add_assoc, pw]
  have e : s = s % 10000 + 10000 * (s / 10000) := by omega
  have e2 : pw (k + j) * (s % 10000 - t) + 10000 * pw (k + j) * (s / 10000) = pw (k + j) * (s - t) := by
    rw [Int.mul_comm 10000 (pw (k + j)), Int.mul_assoc, ← Int.mul_add]
    congr 1
    omega
  have e3 : pw (k + j) * (s - t) = pw (k + j) * c + pw (k + j) * (a * b) := by rw [← Int.mul_add]; congr 1; omega
  have e4 : pw k * (a * (vf B j + pw j * b)) = pw k * (a * vf B j) + pw (k + j) * (a * b) := by
    rw [pw_add, Int.mul_add, Int.mul_add, Int.mul_assoc (pw k) (pw j), ← Int.mul_assoc a (pw j), Int.mul_comm a (pw j), Int.mul_assoc (pw j) a]
  rw [Int.add_assoc, e2, e3, e4]
  omega

/-- The end of an outer round: the carry is laid on top. -/
theorem mul_out {A B M : List Int} {k : Nat} {a c t : Int} (hA : Limb A) (hB : Limb B) (hM : Limb M) (hk : k < A.length) (hl : k + B.length < M.length) (ht : M.getD (k + B.length) 0 = t) (ha : A.getD k 0 = a) (hc : 0 ≤ c) (h : val M + pw (k + B.length) * c = vf A k * val B + pw k * (a * vf B B.length)) :
    val (M.set (k + B.length) (t + c)) = vf A (k + 1) * val B ∧ Limb (M.set (k + B.length) (t + c)) := by
  have h0 : 0 ≤ t := by rw [← ht]; exact (limb_getD hM _).1
  have e1 : val (M.set (k + B.length) (t + c)) = vf A (k + 1) * val B := by
    rw [val_set M _ _ hl, ht, vf, ha, Int.add_mul, show t + c - t = c by omega, h, vf_all B _ (Nat.le_refl _), Int.mul_assoc]
  refine ⟨e1, limb_set hM _ _ ⟨by omega, ?_⟩⟩
  have h1 := digit_le _ (k + B.length) (nonneg_set hM (k + B.length) (t + c) (by omega))
  have h2 : (M.set (k + B.length) (t + c)).getD (k + B.length) 0 = t + c := by
    rw [List.getD_eq_getElem?_getD, List.getElem?_set_self hl]; rfl
  rw [h2, e1] at h1
  have h3 := val_bounds hB
  have h4 := val_bounds (limb_take hA (k + 1))
  rw [← vf_take, List.length_take, Nat.min_eq_left (by omega)] at h4
  have h5 : vf A (k + 1) * val B ≤ (pw (k + 1) - 1) * val B := Int.mul_le_mul_of_nonneg_right (by omega) h3.1
  have h6 : (pw (k + 1) - 1) * val B ≤ (pw (k + 1) - 1) * (pw B.length - 1) := Int.mul_le_mul_of_nonneg_left (by omega) (by have := pw_pos (k + 1); omega)
  have h7 : (pw (k + 1) - 1) * (pw B.length - 1) < pw (k + 1) * pw B.length := by
    have := pw_pos (k + 1)
    have := pw_pos B.length
    rw [Int.sub_mul, Int.mul_sub]
    omega
  have h8 : pw (k + 1) * pw B.length = pw (k + B.length) * 10000 := by rw [← pw_add, show k + 1 + B.length = (k + B.length) + 1 by omega, pw, Int.mul_comm]
  apply Classical.byContradiction
  intro hn
  have h9 : pw (k + B.length) * 10000 ≤ pw (k + B.length) * (t + c) := Int.mul_le_mul_of_nonneg_left (by omega) (by have := pw_pos (k + B.length); omega)
  omega

theorem Box.wr {w w' : World} {g g' : Nat} {cur : Array Value} {e : TypeId} {ng : Bool} {v : Value} (h : Box w g ng v) (hw : Wr w w' g' cur e) (hne : g ≠ g') : Box w' g ng v := (hw.other g hne).trans h

end Dm
end Go.Proofs.Ytkdcgnooeojjgab

namespace Go.Proofs.Ytkdcgnooeojjgab
namespace Dm
open Go.RowKit
open Lm (hide lt_of_cell lt_of_heap cmpI cmpI_lt cmpI_gt)

set_option maxRecDepth 20000 in
set_option maxHeartbeats 1000000 in
theorem abs_far (w : World) (ng : Bool) (a1 : Option Addr) (c1 : Nat) (xs : List Int) (x : Int) (hx : Got w a1 c1 xs x) (m1 : xs.length ≤ 1000000) (h0 : 0 < xs.length) :
    Calls Try.prog 84 #[.agg #[.bool ng, .slice a1 xs.length c1]] w fun e w' => ∃ ng' ao cap rs, e = .returned (.agg #[.bool ng', .slice ao rs.length cap]) ∧ Wh w' ng' ao cap rs (sg false x) ∧ rs.length ≤ xs.length ∧ (∀ b off, ao = some ⟨b, off, none⟩ → w.heap.size ≤ b) ∧ Below w.heap.size w w' := by
  obtain ⟨b, off, rfl, _⟩ := hx.sl.cells h0
  obtain ⟨w0, rfl, bx, br, hb0, hs0⟩ := boxed1 w ng (.slice (some ⟨b, off, none⟩) xs.length c1)
  obtain ⟨i0, hi, hz0, hz1, hz2⟩ := info_parts info64
  obtain ⟨_, p1, p2, p3⟩ := hx.sl.parts
  have P3 := hide p3
  have hx0 := hx.below hb0
  have HB := hb0
  clear p3
  go_enter Try.func84, Try.ntmps84
  go_wp2_with (at_builtin; refine wpList_append_lies _ rfl _ _ _ rfl w.heap.size 3 i0 _ 1 8 Try.underlying64 hi hz0 hz1 hz2 rfl (by omega) (.slice none 0 0) 0 [] rfl (World.ownsRow_nil _ _ _ _) ⟨b, off, none⟩ xs.length c1 (xs.map (Value.int .i64)) rfl (by simp) (Sl.copy hx0.sl) (one_cells xs) (by omega) (by unfold maxLen; omega) (by omega) (by simp; omega) (w.heap.size + 2) (by simp) ?_)
  intro g1 q1 w1 hown hgrow hat hlt
  have hb1 := Below.grown (Below.refl _ _) hgrow (Nat.le_refl _) (by intro k hk; simp [Value.ownBlock] at hk)
  have HB := HB.trans (hb1.mono HB.size)
  have s1 := copied hown P3.out
  replace bx := bx.below hb1
  replace br := br.below hb1
  have FAR : Hid (w.heap.size ≤ g1) := by rcases hat with e | e; (simp [Value.ownBlock] at e); (show w.heap.size ≤ g1; omega)
  clear hown hgrow hat hx0
  go_wp2_with fail
  try rw [Nat.zero_add]
  refine (made_w _ _ _ _ xs _ s1 hx.val).mono ?_
  rintro e w2 ⟨ng2, r2, rfl, G2, l2, hb2⟩
  replace HB := HB.trans (hb2.mono HB.size)
  replace bx := bx.below hb2
  replace br := br.below hb2
  obtain ⟨bx1, bx2, bx3, bx4⟩ := bx.facts
  obtain ⟨br1, br2, br3, br4⟩ := br.facts
  all_goals
    have X := hide (br.set ng2 (.slice (some ⟨g1, 0, none⟩) r2.length q1)).facts
    have Y := hide (br.wh ng2 (.slice (some ⟨g1, 0, none⟩) r2.length q1) G2)
    have Z := hide (below_set2 HB (show w.heap.size ≤ w.heap.size + 1 by omega) (.bool ng2) (.slice (some ⟨g1, 0, none⟩) r2.length q1))
    clear bx1 bx2 bx3 bx4
    go_wp2
    refine bodyPost_ret (v := .agg #[.bool ng2, .slice (some ⟨g1, 0, none⟩) r2.length q1]) ?_ rfl ⟨ng2, (some ⟨g1, 0, none⟩), q1, r2, rfl, Y.out, by omega, (fun b off e => by simp only [Option.some.injEq, Addr.mk.injEq] at e; have := FAR.out; omega), Z.out⟩
    simp [results, Try.results84, go_sem, X.out.1, X.out.2.1]


theorem Is.far {B : Nat} {w : World} {v : Value} {x : Int} (h : Is B w v x) : ∃ ao cap rs, v = .slice ao rs.length cap ∧ Got w ao cap rs x ∧ (0 < rs.length → ∀ b off, ao = some ⟨b, off, none⟩ → B ≤ b) := by
  obtain ⟨rs, ho, hc, hv⟩ := h
  have hs := ho.sl
  obtain ⟨ao, cap, rfl, h1, h2, h3, h4⟩ := ho
  refine ⟨ao, cap, rs, rfl, ⟨hs, hc, hv⟩, ?_⟩
  intro h0 b off e
  rcases h4 with h4 | ⟨g', off', cur, e', hB, hh, _⟩
  · omega
  · rw [e'] at e
    simp only [Option.some.injEq, Addr.mk.injEq, and_true] at e
    omega

/-- A natural, as a number with a sign. -/
theorem Wh.natu {w : World} {ao : Option Addr} {cap : Nat} {rs : List Int} {x : Int} (h : Got w ao cap rs x) : Wh w false ao cap rs x := by
  have := Wh.of false h
  simpa [sg] using this

theorem cmpI_le0 {x y : Int} : cmpI x y ≤ 0 ↔ x ≤ y := by
  rcases Int.lt_trichotomy x y with h | h | h
  · rw [cmpI_lt h]; omega
  · subst h; simp [Lm.cmpI]
  · rw [cmpI_gt h]; omega

/-- One cell. -/
def Cl (w : World) (b i : Nat) (v : Value) : Prop := w.cell? ⟨b, i, none⟩ = some v
theorem Cl.below {w w' : World} {b i : Nat} {v : Value} (h : Cl w b i v) (hb : Below w.heap.size w w') : Cl w' b i v := (hb.cell (p := ⟨b, i, none⟩) (lt_of_cell h)).trans h
theorem Cl.facts {w : World} {b i : Nat} {v : Value} (h : Cl w b i v) : w.cell? ⟨b, i, none⟩ = some v ∧ True ∧ True ∧ True := ⟨h, trivial, trivial, trivial⟩

theorem Sl.other {w w' : World} {g n c : Nat} {a : Option Addr} {zs : List Int} (h : Sl w (.slice a n c) zs) (hne : 0 < zs.length → ∀ b off, a = some ⟨b, off, none⟩ → b ≠ g) (ho : ∀ k, k ≠ g → w'.heap[k]? = w.heap[k]?) : Sl w' (.slice a n c) zs := by
  obtain ⟨ao', cap', hv, h1, h2, h3, h4⟩ := h
  obtain ⟨rfl, rfl, rfl⟩ := (Value.slice.injEq .. ▸ hv)
  refine ⟨_, _, rfl, h1, h2, h3, ?_⟩
  rcases h4 with h4 | ⟨b, off, rfl, hc⟩
  · exact .inl h4
  · by_cases h0 : 0 < zs.length
    · refine .inr ⟨b, off, rfl, fun i hi => ?_⟩
      rw [World.cell?_of_block (w := w) (ho b (hne h0 b off rfl))]
      exact hc i hi
    · exact .inl (List.eq_nil_of_length_eq_zero (by omega))

/-- Where divided stands: the dividend at its block, two blocks for the answers, the quotient's digits at g, the divisor at gy, what is left at gr. -/
structure Dv (w wr : World) (na : Bool) (va : Value) (g gy gr n : Nat) (Dl : List Int) (pY : Option Addr) (qY : Nat) (Y : List Int) (y : Int) (nR : Bool) (pR : Option Addr) (qR : Nat) (R : List Int) (r : Int) : Prop where
  hb : Below w.heap.size w wr
  ba : Box wr w.heap.size na va
  b4 : Box wr (w.heap.size + 1 + 1) false (.slice none 0 0)
  b5 : Box wr (w.heap.size + 1 + 1 + 1) false (.slice none 0 0)
  bY : Box wr gy false (.slice pY Y.length qY)
  bR : Box wr gr nR (.slice pR R.length qR)
  d : ∃ cur, wr.heap[g]? = some (.cells cur 3 (0, 0)) ∧ cur.size = n ∧ At cur .i64 0 Dl
  dl : Dl.length = n ∧ Limb Dl
  hY : Wh wr false pY qY Y y
  hR : Wh wr nR pR qR R r
  lt : w.heap.size + 4 ≤ g ∧ g < gy ∧ gy < gr
  farY : ∀ b off, pY = some ⟨b, off, none⟩ → g < b

section
variable {w wr wr' : World} {na : Bool} {va : Value} {g gy gr n : Nat} {Dl : List Int} {pY : Option Addr} {qY : Nat} {Y : List Int} {y : Int} {nR : Bool} {pR : Option Addr} {qR : Nat} {R : List Int} {r : Int}
theorem Dv.below (h : Dv w wr na va g gy gr n Dl pY qY Y y nR pR qR R r) (hb : Below wr.heap.size wr wr') : Dv w wr' na va g gy gr n Dl pY qY Y y nR pR qR R r := by
  obtain ⟨cur, hh, r1⟩ := h.d
  exact ⟨h.hb.trans (hb.mono h.hb.size), h.ba.below hb, h.b4.below hb, h.b5.below hb, h.bY.below hb, h.bR.below hb, ⟨cur, (hb.block g (lt_of_heap hh)).trans hh, r1⟩, h.dl, h.hY.below hb, h.hR.below hb, h.lt, h.farY⟩

theorem box_other {w : World} {g k : Nat} {ng : Bool} {v : Value} (h : Box w k ng v) (hne : k ≠ g) (b u : Value) : Box ((w.setCell ⟨g, 0, none⟩ b).setCell ⟨g, 1, none⟩ u) k ng v := by
  unfold Box
  rw [heap_setCell_other _ ⟨g, 1, none⟩ k _ hne, heap_setCell_other _ ⟨g, 0, none⟩ k _ hne]
  exact h

/-- What is left is written anew. -/
theorem Dv.setR (h : Dv w wr na va g gy gr n Dl pY qY Y y nR pR qR R r) {n2 : Bool} {p2 : Option Addr} {q2 : Nat} {R2 : List Int} {r2 : Int} (h2 : Wh wr n2 p2 q2 R2 r2) :
    Dv w ((wr.setCell ⟨gr, 0, none⟩ (.bool n2)).setCell ⟨gr, 1, none⟩ (.slice p2 R2.length q2)) na va g gy gr n Dl pY qY Y y n2 p2 q2 R2 r2 := by
  obtain ⟨cur, hh, r1⟩ := h.d
  have l := h.lt
  refine ⟨below_set2 h.hb (by omega) _ _, box_other h.ba (by omega) _ _, box_other h.b4 (by omega) _ _, box_other h.b5 (by omega) _ _, box_other h.bY (by omega) _ _, h.bR.set _ _, ⟨cur, ?_, r1⟩, h.dl, h.bR.wh _ _ h.hY, h.bR.wh _ _ h2, h.lt, h.farY⟩
  rw [heap_setCell_other _ ⟨gr, 1, none⟩ g _ (by simp; omega), heap_setCell_other _ ⟨gr, 0, none⟩ g _ (by simp; omega)]
  exact hh

/-- A digit of the quotient is written. -/
theorem Dv.setD (h : Dv w wr na va g gy gr n Dl pY qY Y y nR pR qR R r) (i : Nat) (q : Int) (hq : 0 ≤ q ∧ q < 10000) (hfar : 0 < R.length → ∀ b off, pR = some ⟨b, off, none⟩ → b ≠ g) :
    Dv w (wr.setCell ⟨g, i, none⟩ (.int .i64 q)) na va g gy gr n (Dl.set i q) pY qY Y y nR pR qR R r := by
  obtain ⟨cur, hh, hs, ha⟩ := h.d
  have l := h.lt
  have ho : ∀ k, k ≠ g → (wr.setCell ⟨g, i, none⟩ (.int .i64 q)).heap[k]? = wr.heap[k]? := fun k hk => heap_setCell_other wr ⟨g, i, none⟩ k _ hk
  have hset := ha.set i q
  rw [Nat.zero_add] at hset
  refine ⟨h.hb.setCell (show w.heap.size ≤ g by omega) _, (ho _ (by omega)).trans h.ba, (ho _ (by omega)).trans h.b4, (ho _ (by omega)).trans h.b5, (ho _ (by omega)).trans h.bY, (ho _ (by omega)).trans h.bR, ⟨_, heap_setCell_same wr g i cur _ _ hh, by rw [Array.size_setIfInBounds]; exact hs, hset⟩, ⟨by rw [List.length_set]; exact h.dl.1, limb_set h.dl.2 _ _ hq⟩, ?_, ?_, h.lt, h.farY⟩
  · exact ⟨⟨h.hY.1.1.other (fun _ b off e => by have := h.farY b off e; omega) ho, h.hY.1.2⟩, h.hY.2⟩
  · exact ⟨⟨h.hR.1.1.other hfar ho, h.hR.1.2⟩, h.hR.2⟩

theorem Dv.cell (h : Dv w wr na va g gy gr n Dl pY qY Y y nR pR qR R r) (i : Nat) (hi : i < n) : wr.cell? ⟨g, i, none⟩ = some (.int .i64 (Dl.getD i 0)) ∧ wr.frozen? ⟨g, i, none⟩ = false := by
  obtain ⟨cur, hh, hs, ha⟩ := h.d
  have := ha.cell hh i (by rw [h.dl.1]; exact hi)
  rw [Nat.zero_add] at this
  exact ⟨this, frozen_of_row wr g i cur _ hh⟩

theorem Dv.sl (h : Dv w wr na va g gy gr n Dl pY qY Y y nR pR qR R r) (hn : n ≤ 1000000) : Sl wr (.slice (some ⟨g, 0, none⟩) n n) Dl := by
  obtain ⟨cur, hh, hs, ha⟩ := h.d
  exact (show Ow g wr _ Dl from ⟨_, n, by rw [h.dl.1], by rw [h.dl.1]; omega, by unfold maxLen; omega, h.dl.2, .inr ⟨g, 0, cur, rfl, Nat.le_refl _, hh, by omega, ha⟩⟩).sl
end

/-- The numbers of a round. -/
theorem div_round {A Dl : List Int} {k : Nat} {y r a q : Int} (hk : k < A.length) (hd : k < Dl.length) (ha : A.getD k 0 = a) (h : val (A.drop (k + 1)) = y * val (Dl.drop (k + 1)) + r) : val (A.drop k) = y * val ((Dl.set k q).drop k) + (r * 10000 + a - (y * q + 0)) := by
  rw [drop_getD A k hk, ha, val, h]
  have e : (Dl.set k q).drop k = q :: Dl.drop (k + 1) := by
    rw [drop_getD _ k (by rw [List.length_set]; exact hd), List.drop_set_of_lt (by omega)]
    congr 1
    rw [List.getD_eq_getElem?_getD, List.getElem?_set_self hd]
    rfl
  rw [e, val, Int.mul_add, Int.mul_add, ← Int.mul_assoc, ← Int.mul_assoc, Int.mul_comm 10000 y]
  omega

theorem div_start {A : List Int} (hA : Limb A) {m : Nat} {y : Int} (hy : pw m ≤ y) {sk : Nat} (hs : A.length - sk ≤ m) : 0 ≤ val (A.drop sk) ∧ val (A.drop sk) < y := by
  have h1 := val_bounds (limb_drop hA sk)
  have h2 := pw_mono (m := (A.drop sk).length) (n := m) (by rw [List.length_drop]; exact hs)
  omega

theorem div_end {x y q r : Int} (h : x = y * q + r) (h0 : 0 ≤ r) (h1 : r < y) : q = x / y ∧ r = x % y := by
  have e : (r + y * q) / y = r / y + q := Int.add_mul_ediv_left _ _ (by omega)
  have e2 : (r + y * q) % y = r % y := Int.add_mul_emod_self_left _ _ _
  rw [Int.add_comm] at h
  rw [h, e, e2, Int.ediv_eq_zero_of_lt h0 h1, Int.emod_eq_of_lt h0 h1]
  omega

end Dm
end Go.Proofs.Ytkdcgnooeojjgab

namespace Go.Proofs.Ytkdcgnooeojjgab
namespace Dm
open Go.RowKit
open Lm (hide lt_of_cell lt_of_heap cmpI cmpI_lt cmpI_gt)

theorem Sl.drop {w : World} {b off n c : Nat} {zs : List Int} (h : Sl w (.slice (some ⟨b, off, none⟩) n c) zs) (k : Nat) (hk : k ≤ zs.length) : Sl w (.slice (some ⟨b, off + k, none⟩) (zs.length - k) (c - k)) (zs.drop k) := by
  obtain ⟨ao', cap', hv, h1, h2, h3, h4⟩ := h
  obtain ⟨rfl, rfl, rfl⟩ := (Value.slice.injEq .. ▸ hv)
  refine ⟨_, _, by rw [List.length_drop], by rw [List.length_drop]; omega, Nat.le_trans (Nat.sub_le _ _) h2, limb_drop h3 k, ?_⟩
  rcases h4 with rfl | ⟨b', off', e, hc⟩
  · exact .inl (by simp)
  · simp only [Option.some.injEq, Addr.mk.injEq, and_true] at e
    obtain ⟨rfl, rfl⟩ := e
    refine .inr ⟨b, off + k, rfl, fun i hi => ?_⟩
    rw [List.length_drop] at hi
    have := hc (k + i) (by omega)
    rw [List.getD_eq_getElem?_getD, List.getElem?_drop, ← List.getD_eq_getElem?_getD, Nat.add_assoc]
    exact this

theorem made_n (w : World) (ng : Bool) (ao : Option Addr) (n cap : Nat) (ds : List Int) (x : Int) (h : Sl w (.slice ao n cap) ds) (hv : Dm.val ds = x) :
    Calls Try.prog 78 #[.bool ng, .slice ao n cap] w fun e w' => ∃ ng' rs, e = .returned (.agg #[.bool ng', .slice ao rs.length cap]) ∧ Wh w' ng' ao cap rs (sg ng x) ∧ rs.length ≤ ds.length ∧ Below w.heap.size w w' := by
  obtain ⟨rfl, _⟩ := h.parts
  exact made_w w ng ao cap ds x h hv

set_option maxRecDepth 20000 in
set_option maxHeartbeats 8000000 in
theorem divided_g (w : World) (n1 : Bool) (a1 : Option Addr) (c1 : Nat) (A : List Int) (x : Int) (hx : Got w a1 c1 A x) (n2 : Bool) (a2 : Option Addr) (c2 : Nat) (B : List Int) (y : Int) (hy : Got w a2 c2 B y) (m1 : A.length ≤ 300000) (m2 : B.length ≤ 300000) (y0 : 0 < B.length) :
    Calls Try.prog 81 #[.agg #[.bool n1, .slice a1 A.length c1], .agg #[.bool n2, .slice a2 B.length c2]] w fun e w' => ∃ nq pq qq Q nr pr qr R, e = .returned (.tuple #[.agg #[.bool nq, .slice pq Q.length qq], .agg #[.bool nr, .slice pr R.length qr]]) ∧ Wh w' nq pq qq Q (x / y) ∧ Wh w' nr pr qr R (x % y) ∧ Q.length ≤ A.length ∧ R.length ≤ B.length ∧ Below w.heap.size w w' := by
  obtain ⟨w0, e0, bx, by', br, hb0, hs0⟩ := boxed3 w n1 (.slice a1 A.length c1) n2 (.slice a2 B.length c2)
  obtain ⟨bs5, hb5, hs5⟩ := boxed w0 false (.slice none 0 0)
  obtain ⟨i0, hi, hz0, hz1, hz2⟩ := info_parts info64
  have E0 := hide e0
  rw [hs0] at bs5 hs5
  replace bx := bx.below hb5
  replace by' := by'.below hb5
  replace br := br.below hb5
  have HB0 := hb0.trans (hb5.mono hb0.size)
  have hx0 := hx.below HB0
  have hy0 := hy.below HB0
  obtain ⟨_, p1, p2, p3⟩ := hx.sl.parts
  obtain ⟨_, q1, q2, q3⟩ := hy.sl.parts
  have P3 := hide p3
  have Q3 := hide q3
  generalize hw0 : w0.alloc (.cells #[.bool false, .slice none 0 0] 66) = w5 at *
  have E5 := hide hw0
  have HS := hide hs5
  clear p3 q3 e0 hs0 hb5 hw0 hs5
  go_enter Try.func81, Try.ntmps81
  obtain ⟨bx1, bx2, bx3, bx4⟩ := bx.facts
  go_wp2_with (refine wpList_make_full _ rfl (.tmp 16) (.tmp 16) 64 rfl w5.heap.size 3 i0 (.int .i64 0) 1 Try.underlying64 hi hz0 hz1 .i64 .i64 _ _ A.length rfl rfl (by omega) (by omega) (by rw [hz2]; omega) (by unfold maxLen; omega) (by rw [E0.out, E5.out]; exact Nat.le_refl _) ?hK)
  case hK =>
    intro w1 hown hgrow
    rw [E0.out, E5.out] at hgrow
    have hsz5 := HS.out
    obtain ⟨hgB, cur, hh, hcs, hat⟩ := block_of_made hown
    have hb1 : Below w5.heap.size w5 w1 := (Below.refl _ _).grown hgrow (Nat.le_refl _) (by simp)
    have HB1 := HB0.trans (hb1.mono HB0.size)
    have hs1 := lt_of_heap hh
    replace bx := bx.below hb1
    replace by' := by'.below hb1
    replace br := br.below hb1
    replace bs5 := bs5.below hb1
    have hx1 := hx0.below hb1
    have hy1 := hy0.below hb1
    have HH := hide (And.intro hh (And.intro hcs hat))
    clear hown hgrow hh hcs hat hgB hx0 hy0 bx1 bx2 bx3 bx4 E0 E5 hb1 HB0 HS
    generalize hgg : w.heap.size + 1 + 1 + 1 + 1 = g at HH hs1 ⊢
    obtain ⟨bx1, bx2, bx3, bx4⟩ := bx.facts
    obtain ⟨by1, by2, by3, by4⟩ := by'.facts
    go_wp2_with fail
    refine (abs_far _ _ _ _ B _ hy1 (by omega) y0).mono ?_
    rintro e w2 ⟨nY, pY, qY, Y, rfl, GY, lY, farY, hb2⟩
    have HB2 := HB1.trans (hb2.mono HB1.size)
    have z2 := hb2.size
    replace bx := bx.below hb2
    replace by' := by'.below hb2
    replace br := br.below hb2
    replace bs5 := bs5.below hb2
    replace hx1 := hx1.below hb2
    have hh2 := (hb2.block g hs1).trans HH.out.1
    obtain rfl : nY = false := by
      rw [GY.2]
      have := (val_bounds Q3.out).1
      rw [hy.val] at this
      simp [sg]
      omega
    simp only [sg, Bool.false_eq_true, if_false] at GY
    obtain ⟨w3, e3, bY, hb3, hs3⟩ := boxed0 w2 false (.slice pY Y.length qY)
    have HB3 := HB2.trans (hb3.mono HB2.size)
    replace bx := bx.below hb3
    replace by' := by'.below hb3
    replace br := br.below hb3
    replace bs5 := bs5.below hb3
    replace hx1 := hx1.below hb3
    replace GY := GY.below hb3
    have hh3 := (hb3.block g (by omega)).trans hh2
    have HH3 := hide (And.intro hh3 HH.out.2)
    have E3 := hide e3
    clear hb2 hb3 hy1 HH hh2 hh3 e3 bx1 bx2 bx3 bx4 by1 by2 by3 by4
    go_upto_region 3 with fail
    rw [E3.out]
    clear E3
    obtain ⟨bx1, bx2, bx3, bx4⟩ := bx.facts
    obtain ⟨by1, by2, by3, by4⟩ := by'.facts
    generalize hgy : w2.heap.size = gy at *
    go_upto_if 29 with fail
    have hsk : ∃ sk : Nat, sk = A.length + 1 - B.length := ⟨_, rfl⟩
    obtain ⟨sk, hsk⟩ := hsk
    go_cut [8] (fun v wx => v = .int .i64 (sk : Int) ∧ wx = w3)
    case first =>
      by_cases hneg : (A.length : Int) - B.length + 1 < 0
      · go_wp2
        go_meet
        case rel => exact ⟨by simp; omega, rfl⟩
      · go_wp2
        go_meet
        case rel => exact ⟨by simp; omega, rfl⟩
    case rest =>
      obtain ⟨rfl, rfl⟩ := hcut
      have HSK := hide hsk
      have hskA : sk ≤ A.length := by omega
      clear hsk
      have DV0 : Hid (∀ (wx : World) (gr : Nat) (nR : Bool) (pR : Option Addr) (qR : Nat) (R : List Int) (r : Int), Below wc.heap.size wc wx → Box wx gr nR (.slice pR R.length qR) → Wh wx nR pR qR R r → gy < gr → Dv w wx n1 (.slice a1 A.length c1) g gy gr A.length (List.replicate A.length 0) pY qY Y y nR pR qR R r) := by
        intro wx gr nR pR qR R r hbx bRx hRx hgr
        have hd := HH3.out.1
        exact ⟨HB3.trans (hbx.mono HB3.size), bx.below hbx, br.below hbx, bs5.below hbx, bY.below hbx, bRx, ⟨cur, (hbx.block g (lt_of_heap hd)).trans hd, HH3.out.2⟩, ⟨by simp, limb_zeros _⟩, GY.below hbx, hRx, ⟨by omega, by omega, hgr⟩, fun b off e => by have := farY b off e; omega⟩
      go_upto_region 6 with fail
      go_cut [9] (fun v wx => ∃ gr nR pR qR R, v = .pointer (some ⟨gr, 0, none⟩) ∧ Dv w wx n1 (.slice a1 A.length c1) g gy gr A.length (List.replicate A.length 0) pY qY Y y nR pR qR R (val (A.drop sk)))
      case first =>
        by_cases hne : sk < A.length
        · obtain ⟨b, off, rfl, _⟩ := hx1.sl.cells (by omega)
          have sd := hx1.sl.drop sk (by omega)
          have dI : (sk : Int) ≤ (A.length : Int) := by omega
          have sd2 := sd
          rw [← List.length_drop] at sd2
          have hlen : (A.drop sk).length = A.length - sk := List.length_drop
          go_wp2_with (at_builtin; refine wpList_append_lies _ rfl _ _ _ rfl wc.heap.size 3 i0 _ 1 8 Try.underlying64 hi hz0 hz1 hz2 rfl (by omega) (.slice none 0 0) 0 [] rfl (World.ownsRow_nil _ _ _ _) ⟨b, off + sk, none⟩ (A.length - sk) (c1 - sk) ((A.drop sk).map (Value.int .i64)) rfl (by simp) (Sl.copy sd) (one_cells _) (by omega) (by unfold maxLen; omega) (by omega) (Nat.le_refl _) wc.heap.size rfl ?_)
          intro g1 q1 w4 hown hgrow hat hlt
          have hb4 := Below.grown (Below.refl wc.heap.size wc) hgrow (Nat.le_refl _) (by intro k hk; simp [Value.ownBlock] at hk)
          have s4 := copied (zs := A.drop sk) (by rw [List.nil_append, List.map_drop]; exact hown) (limb_drop P3.out sk)
          clear hown hgrow hat
          go_wp2_with fail
          refine (made_n _ _ _ (A.length - sk) _ (A.drop sk) _ (by rw [hlen] at s4; exact s4) rfl).mono ?_
          rintro e w5 ⟨nR, R, rfl, GR, lR, hb5⟩
          have hb45 : Below wc.heap.size wc w5 := hb4.trans (hb5.mono hb4.size)
          obtain ⟨w6, e6, bR, hb6, hs6⟩ := boxed0 w5 nR (.slice (some ⟨g1, 0, none⟩) R.length q1)
          have E6 := hide e6
          have z5 := hb45.size
          have FIN := hide (DV0.out w6 w5.heap.size nR (some ⟨g1, 0, none⟩) q1 R _ (hb45.trans (hb6.mono hb45.size)) bR (GR.below hb6) (by omega))
          clear e6 bx1 bx2 bx3 bx4 by1 by2 by3 by4
          go_wp2
          rw [E6.out]
          go_meet
          case rel => exact ⟨w5.heap.size, nR, (some ⟨g1, 0, none⟩), q1, R, rfl, FIN.out⟩
        · have hsk2 : sk = A.length := by omega
          subst hsk2
          cases a1 with
          | none =>
            go_wp2_with fail
            refine (made_w _ _ none 0 [] 0 (sl_nil _) rfl).mono ?_
            rintro e w5 ⟨nR, R, rfl, GR, lR, hb5⟩
            have hb45 : Below wc.heap.size wc w5 := hb5
            obtain ⟨w6, e6, bR, hb6, hs6⟩ := boxed0 w5 nR (.slice none R.length 0)
            have E6 := hide e6
            have z5 := hb45.size
            have FIN := hide (DV0.out w6 w5.heap.size nR none 0 R _ (hb45.trans (hb6.mono hb45.size)) bR (GR.below hb6) (by omega))
            clear e6 bx1 bx2 bx3 bx4 by1 by2 by3 by4
            go_wp2
            rw [E6.out]
            go_meet
            case rel => exact ⟨w5.heap.size, nR, none, 0, R, rfl, by rw [List.drop_length]; exact FIN.out⟩
          | some ad =>
            rcases Nat.eq_or_lt_of_le p1 with hc | hc
            · subst hc
              go_wp2_with fail
              refine (made_w _ _ none 0 [] 0 (sl_nil _) rfl).mono ?_
              rintro e w5 ⟨nR, R, rfl, GR, lR, hb5⟩
              have hb45 : Below wc.heap.size wc w5 := hb5
              obtain ⟨w6, e6, bR, hb6, hs6⟩ := boxed0 w5 nR (.slice none R.length 0)
              have E6 := hide e6
              have z5 := hb45.size
              have FIN := hide (DV0.out w6 w5.heap.size nR none 0 R _ (hb45.trans (hb6.mono hb45.size)) bR (GR.below hb6) (by omega))
              clear e6 bx1 bx2 bx3 bx4 by1 by2 by3 by4
              go_wp2
              rw [E6.out]
              go_meet
              case rel => exact ⟨w5.heap.size, nR, none, 0, R, rfl, by rw [List.drop_length]; exact FIN.out⟩
            · have hc1 : ¬ c1 = A.length := by omega
              have hc2 : ¬ A.length = c1 := by omega
              go_wp2_with fail
              refine (made_w _ _ none 0 [] 0 (sl_nil _) rfl).mono ?_
              rintro e w5 ⟨nR, R, rfl, GR, lR, hb5⟩
              have hb45 : Below wc.heap.size wc w5 := hb5
              obtain ⟨w6, e6, bR, hb6, hs6⟩ := boxed0 w5 nR (.slice none R.length 0)
              have E6 := hide e6
              have z5 := hb45.size
              have FIN := hide (DV0.out w6 w5.heap.size nR none 0 R _ (hb45.trans (hb6.mono hb45.size)) bR (GR.below hb6) (by omega))
              clear e6 bx1 bx2 bx3 bx4 by1 by2 by3 by4
              go_wp2
              rw [E6.out]
              go_meet
              case rel => exact ⟨w5.heap.size, nR, none, 0, R, rfl, by rw [List.drop_length]; exact FIN.out⟩
      case rest =>
        obtain ⟨gr, nR, pR, qR, R, rfl, DV⟩ := hcut
        have hyv : 0 < y := by rw [← hy.val]; have := canon_low hy.canon (by intro e; rw [e] at y0; simp at y0); have := pw_pos (B.length - 1); omega
        have hyp : y < pw B.length := by rw [← hy.val]; exact (val_bounds Q3.out).2
        have HST := hide (div_start P3.out (m := B.length - 1) (y := y) (sk := sk) (by rw [← hy.val]; exact canon_low hy.canon (by intro e; rw [e] at y0; simp at y0)) (by have := HSK.out; omega))
        have HYP := hide hyp
        clear DV0 bx1 bx2 bx3 bx4 by1 by2 by3 by4 bx by' br bs5 bY hx1 GY HH3 farY hyp
        go_wp2
        go_loopw [10] (fun iv wr => ∃ (k : Nat) (Dl : List Int) (nR : Bool) (pR : Option Addr) (qR : Nat) (R : List Int) (r : Int), k ≤ sk ∧ iv = .int .i64 ((k : Int) - 1) ∧ Dv w wr n1 (.slice a1 A.length c1) g gy gr A.length Dl pY qY Y y nR pR qR R r ∧ val (A.drop k) = y * val (Dl.drop k) + r ∧ 0 ≤ r ∧ r < y) (fun iv _ => (intOf iv + 1).toNat)
        case atStart => exact ⟨sk, _, _, _, _, _, _, Nat.le_refl _, rfl, DV, by rw [List.drop_replicate, val_zeros]; omega, HST.out.1, HST.out.2⟩
        case round =>
          clear DV HST
          obtain ⟨k, Dl, nR, pR, qR, R, r, hk, rfl, DV, hv, hr0, hr1⟩ := hrel
          have lR := DV.hR.len (m := B.length) (by have := HYP.out; omega)
          have HV := hide hv
          clear hv
          cases k with
          | zero =>
            have hv := HV.out
            rw [List.drop_zero, List.drop_zero, hx.val] at hv
            have QE := hide (div_end hv hr0 hr1)
            have bR := DV.bR
            have b4 := DV.b4
            have b5 := DV.b5
            have HL9 := DV.lt
            have ne1 : ¬ (w.heap.size + 1 + 1 = gr) := by omega
            have ne2 : ¬ (w.heap.size + 1 + 1 + 1 = gr) := by omega
            have ne3 : ¬ (gr = w.heap.size + 1 + 1) := by omega
            have ne4 : ¬ (gr = w.heap.size + 1 + 1 + 1) := by omega
            obtain ⟨bR1, bR2, bR3, bR4⟩ := bR.facts
            obtain ⟨b41, b42, b43, b44⟩ := b4.facts
            obtain ⟨b51, b52, b53, b54⟩ := b5.facts
            clear hv
            go_wp2_with fail
            go_region_held3 (fun w' => w'.cell? ⟨gr, 0, none⟩ = some (.bool nR) ∧ w'.cell? ⟨gr, 1, none⟩ = some (.slice pR R.length qR)) (go_keep) (first
              | (go_at_call 78; refine (made_n _ _ _ _ _ Dl _ ((DV.sl (by omega)).below (by repeat (first | exact Below.refl _ _ | refine Below.drew ?_))) rfl).mono ?_; rintro e w1 ⟨n2q, Q, rfl, GQ, lQ, hb1⟩; have hb1' : Below wr.heap.size wr w1 := (show Below wr.heap.size wr _ by repeat (first | exact Below.refl _ _ | refine Below.drew ?_)).trans hb1; replace DV := DV.below hb1'; replace bR := bR.below hb1'; clear bR1 bR2 bR3 bR4; obtain ⟨bR1, bR2, bR3, bR4⟩ := bR.facts; replace b4 := b4.below hb1'; clear b41 b42 b43 b44; obtain ⟨b41, b42, b43, b44⟩ := b4.facts; replace b5 := b5.below hb1'; clear b51 b52 b53 b54; obtain ⟨b51, b52, b53, b54⟩ := b5.facts))
            all_goals
              have F1 := hide (box_other (b4.set n2q (.slice (some ⟨g, 0, none⟩) Q.length A.length)) (show w.heap.size + 1 + 1 ≠ w.heap.size + 1 + 1 + 1 by omega) (.bool nR) (.slice pR R.length qR)).facts
              have b5' := box_other b5 (show w.heap.size + 1 + 1 + 1 ≠ w.heap.size + 1 + 1 by omega) (.bool n2q) (.slice (some ⟨g, 0, none⟩) Q.length A.length)
              have F2 := hide (b5'.set nR (.slice pR R.length qR)).facts
              have Y1 := hide (b5'.wh nR (.slice pR R.length qR) (b4.wh n2q (.slice (some ⟨g, 0, none⟩) Q.length A.length) GQ))
              have Y2 := hide (b5'.wh nR (.slice pR R.length qR) (b4.wh n2q (.slice (some ⟨g, 0, none⟩) Q.length A.length) DV.hR))
              have Z2 := hide (below_set2 (below_set2 DV.hb (show w.heap.size ≤ w.heap.size + 1 + 1 by omega) (.bool n2q) (.slice (some ⟨g, 0, none⟩) Q.length A.length)) (show w.heap.size ≤ w.heap.size + 1 + 1 + 1 by omega) (.bool nR) (.slice pR R.length qR))
              have lD := DV.dl.1
              clear bR1 bR2 bR3 bR4 DV
              go_wp2
              refine bodyPost_ret (v := .tuple #[.agg #[.bool n2q, .slice (some ⟨g, 0, none⟩) Q.length A.length], .agg #[.bool nR, .slice pR R.length qR]]) ?_ rfl ⟨n2q, some ⟨g, 0, none⟩, A.length, Q, nR, pR, qR, R, rfl, by rw [← QE.out.1]; exact Y1.out, by rw [← QE.out.2]; exact Y2.out, by omega, by omega, Z2.out⟩
              simp [results, Try.results81, go_sem, F1.out.1, F1.out.2.1, F2.out.1, F2.out.2.1]
          | succ k =>
            obtain ⟨b, off, rfl, hca⟩ := hx.sl.cells (by omega)
            have cc : Cl wr b (off + k) (.int .i64 (A.getD k 0)) := (DV.hb.cell (p := ⟨b, off + k, none⟩) (lt_of_cell (hca k (by omega)))).trans (hca k (by omega))
            have ba9 := limb_getD P3.out k
            obtain ⟨a, hak⟩ : ∃ a, A.getD k 0 = a := ⟨_, rfl⟩
            rw [hak] at cc ba9
            have HAK := hide hak
            have ba := DV.ba
            have bR := DV.bR
            have vR : val R = r := by rw [DV.hR.1.val]; omega
            have dK : (k : Int) < (A.length : Int) := by omega
            have dK0 : (0 : Int) ≤ (k : Int) := by omega
            have HL9 := DV.lt
            have hz9 := lt_of_heap DV.bR
            clear hca hak
            have ek : (((k + 1 : Nat) : Int) - 1) = (k : Int) := by omega
            rw [ek]
            clear ek
            go_upto_region 10 with fail
            go_cut [] (fun wx => ∃ pR qR R, Dv w wx n1 (.slice (some ⟨b, off, none⟩) A.length c1) g gy gr A.length Dl pY qY Y y false pR qR R (r * 10000 + a) ∧ (0 < R.length → ∀ b off, pR = some ⟨b, off, none⟩ → b ≠ g))
            case first =>
              obtain ⟨cc1, cc2, cc3, cc4⟩ := cc.facts
              obtain ⟨ba1, ba2, ba3, ba4⟩ := ba.facts
              obtain ⟨bR1, bR2, bR3, bR4⟩ := bR.facts
              go_region_with (first
                | (go_at_call 78; have _hq := hb1'; refine (made_g _ p1 q1 r1 _ (G1.below (by repeat (first | exact Below.refl _ _ | refine Below.drew ?_)))).mono ?_; rintro e w2 ⟨rfl, hb2⟩; have hb2' : Below w1.heap.size w1 w2 := (show Below w1.heap.size w1 _ by repeat (first | exact Below.refl _ _ | refine Below.drew ?_)).trans hb2; replace G1 := G1.below hb2'; replace DV := DV.below hb2'; replace ba := ba.below hb2'; clear ba1 ba2 ba3 ba4; obtain ⟨ba1, ba2, ba3, ba4⟩ := ba.facts; replace bR := bR.below hb2'; clear bR1 bR2 bR3 bR4; obtain ⟨bR1, bR2, bR3, bR4⟩ := bR.facts; replace cc := cc.below hb2'; clear cc1 cc2 cc3 cc4; obtain ⟨cc1, cc2, cc3, cc4⟩ := cc.facts)
                | (go_at_call 101; refine (small_any _ _ _ _ R (DV.hR.sl.below (by repeat (first | exact Below.refl _ _ | refine Below.drew ?_))) 10000 a (by omega) (by omega) (by omega)).mono ?_; rintro e w1 ⟨v1, rfl, I1, hb1⟩; have hb1' : Below wr.heap.size wr w1 := (show Below wr.heap.size wr _ by repeat (first | exact Below.refl _ _ | refine Below.drew ?_)).trans hb1; obtain ⟨p1, q1, r1, rfl, G1, far1⟩ := I1.far; clear I1; replace DV := DV.below hb1'; replace ba := ba.below hb1'; clear ba1 ba2 ba3 ba4; obtain ⟨ba1, ba2, ba3, ba4⟩ := ba.facts; replace bR := bR.below hb1'; clear bR1 bR2 bR3 bR4; obtain ⟨bR1, bR2, bR3, bR4⟩ := bR.facts; replace cc := cc.below hb1'; clear cc1 cc2 cc3 cc4; obtain ⟨cc1, cc2, cc3, cc4⟩ := cc.facts))
              all_goals
                rw [vR] at G1
                have FIN := hide (DV.setR (Wh.natu G1))
                have FAR : Hid (0 < r1.length → ∀ b off, p1 = some ⟨b, off, none⟩ → b ≠ g) := fun h0 b off e => by have := far1 h0 b off e; simp at this; omega
                clear ba1 ba2 ba3 ba4 cc1 cc2 cc3 cc4 DV
                go_wp2
                go_meet
                case rel => exact ⟨p1, q1, r1, FIN.out, FAR.out⟩
            case rest =>
              obtain ⟨pR, qR, R, DV, farR⟩ := hcut
              have HFR := hide farR
              clear farR vR ba bR cc
              have lR2 := DV.hR.len (m := B.length + 1) (by rw [pw]; have := HYP.out; omega)
              go_wp2
              obtain ⟨r9, hr9⟩ : ∃ r9, r * 10000 + a = r9 := ⟨_, rfl⟩
              rw [hr9] at DV
              have hy9 : y * 9999 + y = y * (9999 + 1) := by rw [Int.mul_add]; omega
              go_loopw [11, 12] (fun lo hi wx => ∃ l h : Int, lo = .int .i64 l ∧ hi = .int .i64 h ∧ 0 ≤ l ∧ l ≤ h ∧ h ≤ 9999 ∧ y * l ≤ r9 ∧ r9 < y * (h + 1) ∧ Below wc.heap.size wc wx) (fun lo hi _ => (intOf hi - intOf lo).toNat)
              case atStart => exact ⟨0, 9999, rfl, rfl, by omega, by omega, by omega, by omega, by omega, Below.refl _ _⟩
              case round =>
                obtain ⟨l, h, rfl, rfl, l0, lh, h9, lo1, hi1, hbx⟩ := hrel
                replace DV := DV.below hbx
                have LO := hide lo1
                have HI := hide hi1
                have HBW := hide hbx
                clear lo1 hi1 hbx
                by_cases hlt : l < h
                · obtain ⟨m, hm⟩ : ∃ m, (l + h + 1) / 2 = m := ⟨_, rfl⟩
                  have hm1 : l < m ∧ m ≤ h := by omega
                  have bY := DV.bY
                  have bR := DV.bR
                  have vY : val Y = y := by rw [DV.hY.1.val]; omega
                  have hg9 : 0 ≤ r9 := by omega
                  go_upto_region 15 with fail
                  rw [hm]
                  go_cut [66] (fun v wx => v = .bool (decide (y * m ≤ r9)) ∧ Below wr.heap.size wr wx)
                  case first =>
                    obtain ⟨bY1, bY2, bY3, bY4⟩ := bY.facts
                    obtain ⟨bR1, bR2, bR3, bR4⟩ := bR.facts
                    have K := hide (fun w g1 g2 a1 a2 c1 c2 xs ys x y hx hy => size_any w g1 g2 a1 a2 c1 c2 xs ys x y hx hy)
                    go_region_held3 (fun w' => w'.cell? ⟨gy, 0, none⟩ = some (.bool false) ∧ w'.cell? ⟨gy, 1, none⟩ = some (.slice pY Y.length qY) ∧ w'.cell? ⟨gr, 0, none⟩ = some (.bool false) ∧ w'.cell? ⟨gr, 1, none⟩ = some (.slice pR R.length qR)) (go_keep) (first
                      | (go_at_call 77; have _hq := hb2'; refine (size_any _ _ _ p1 _ q1 _ r1 R _ _ (G1.below (by repeat (first | exact Below.refl _ _ | refine Below.drew ?_))) (DV.hR.1.below (by repeat (first | exact Below.refl _ _ | refine Below.drew ?_)))).mono ?_; rintro e w3 ⟨rfl, hb3⟩; have hb3' : Below w2.heap.size w2 w3 := (show Below w2.heap.size w2 _ by repeat (first | exact Below.refl _ _ | refine Below.drew ?_)).trans hb3; replace DV := DV.below hb3'; replace bY := bY.below hb3'; clear bY1 bY2 bY3 bY4; obtain ⟨bY1, bY2, bY3, bY4⟩ := bY.facts; replace bR := bR.below hb3'; clear bR1 bR2 bR3 bR4; obtain ⟨bR1, bR2, bR3, bR4⟩ := bR.facts)
                      | (go_at_call 78; have _hq := hb1'; refine (made_g _ p1 q1 r1 _ (G1.below (by repeat (first | exact Below.refl _ _ | refine Below.drew ?_)))).mono ?_; rintro e w2 ⟨rfl, hb2⟩; have hb2' : Below w1.heap.size w1 w2 := (show Below w1.heap.size w1 _ by repeat (first | exact Below.refl _ _ | refine Below.drew ?_)).trans hb2; replace G1 := G1.below hb2'; replace DV := DV.below hb2'; replace bY := bY.below hb2'; clear bY1 bY2 bY3 bY4; obtain ⟨bY1, bY2, bY3, bY4⟩ := bY.facts; replace bR := bR.below hb2'; clear bR1 bR2 bR3 bR4; obtain ⟨bR1, bR2, bR3, bR4⟩ := bR.facts)
                      | (go_at_call 101; refine (small_any _ _ _ _ Y (DV.hY.sl.below (by repeat (first | exact Below.refl _ _ | refine Below.drew ?_))) m 0 (by omega) (by omega) (by omega)).mono ?_; rintro e w1 ⟨v1, rfl, I1, hb1⟩; have hb1' : Below wr.heap.size wr w1 := (show Below wr.heap.size wr _ by repeat (first | exact Below.refl _ _ | refine Below.drew ?_)).trans hb1; obtain ⟨p1, q1, r1, rfl, G1, far1⟩ := I1.far; clear I1 far1; replace DV := DV.below hb1'; replace bY := bY.below hb1'; clear bY1 bY2 bY3 bY4; obtain ⟨bY1, bY2, bY3, bY4⟩ := bY.facts; replace bR := bR.below hb1'; clear bR1 bR2 bR3 bR4; obtain ⟨bR1, bR2, bR3, bR4⟩ := bR.facts))
                    all_goals
                      clear DV bY1 bY2 bY3 bY4 bR1 bR2 bR3 bR4
                      have HBX := hide ((hb1'.trans (hb2'.mono hb1'.size)).trans (hb3'.mono (Nat.le_trans hb1'.size hb2'.size)))
                      have e9 : (cmpI (y * m) (r9.natAbs : Int) ≤ 0) ↔ (y * m ≤ r9) := by
                        rw [show ((r9.natAbs : Nat) : Int) = r9 by omega]
                        exact cmpI_le0
                      have e10 : decide (cmpI (y * m) (r9.natAbs : Int) ≤ 0) = decide (y * m ≤ r9) := decide_eq_decide.2 e9
                      have E9 := hide e10
                      clear e9 e10
                      go_wp2
                      go_meet
                      case rel => exact ⟨by rw [← E9.out], HBX.out⟩
                  case rest =>
                    obtain ⟨rfl, hbx⟩ := hcut
                    by_cases hle : y * m ≤ r9
                    · have hd : decide (y * m ≤ r9) = true := decide_eq_true hle
                      rw [hd]
                      have HLE := hide hle
                      clear hle hd
                      go_wp2
                      go_roundw
                      case rel => exact ⟨m, h, by first | rfl | rw [hm], rfl, by omega, by omega, by omega, HLE.out, HI.out, HBW.out.trans (hbx.mono HBW.out.size)⟩
                      case measure => simp [intOf]; omega
                    · have hd : decide (y * m ≤ r9) = false := decide_eq_false hle
                      rw [hd]
                      have HLE := hide hle
                      clear hle hd
                      go_wp2
                      go_roundw
                      case rel => exact ⟨l, m - 1, rfl, by first | rfl | rw [hm], by omega, by omega, by omega, LO.out, by have := HLE.out; rw [show m - 1 + 1 = m by omega]; omega, HBW.out.trans (hbx.mono HBW.out.size)⟩
                      case measure => simp [intOf]; omega
                · obtain rfl : h = l := by omega
                  have vY : val Y = y := by rw [DV.hY.1.val]; omega
                  have hg9 : 0 ≤ r9 := by omega
                  obtain ⟨cd, fd⟩ := DV.cell k (by omega)
                  have DV2 := DV.setD k h (by omega) HFR.out
                  have HDV := hide DV2
                  have hp9 : r9 < pw (B.length + 1) := by rw [pw]; have := HYP.out; omega
                  have hp8 : val Y * h + 0 < pw (B.length + 1) := by rw [vY]; have := LO.out; omega
                  have HP8 := hide hp8
                  have vv : ∃ dv, Dl.getD k 0 = dv := ⟨_, rfl⟩
                  obtain ⟨dv, hdv⟩ := vv
                  rw [hdv] at cd
                  clear hp9 hp8 DV DV2 hdv
                  go_upto_region 19 with fail
                  generalize wr.setCell ⟨g, k, none⟩ (.int .i64 h) = ws at HDV ⊢
                  have DV := HDV.out
                  have bY := DV.bY
                  have bR := DV.bR
                  clear HDV cd fd
                  have e1 : y * (h + 1) = y * h + y := by rw [Int.mul_add]; omega
                  have E1 := hide e1
                  clear e1
                  obtain ⟨bY1, bY2, bY3, bY4⟩ := bY.facts
                  obtain ⟨bR1, bR2, bR3, bR4⟩ := bR.facts
                  go_region_with (first
                      | (go_at_call 83; have _hq := hb2'; refine (nsub_g _ _ _ _ R _ (DV.hR.below (by repeat (first | exact Below.refl _ _ | refine Below.drew ?_))) _ p1 q1 r1 _ (Wh.natu (G1.below (by repeat (first | exact Below.refl _ _ | refine Below.drew ?_)))) (by omega) (by have := canon_len G1.canon (m := B.length + 1) (by rw [G1.val]; exact HP8.out); omega)).mono ?_; rintro e w3 ⟨n3, p3, q3, r3, rfl, G3, l3, hb3⟩; have hb3' : Below w2.heap.size w2 w3 := (show Below w2.heap.size w2 _ by repeat (first | exact Below.refl _ _ | refine Below.drew ?_)).trans hb3; replace DV := DV.below hb3'; replace bY := bY.below hb3'; clear bY1 bY2 bY3 bY4; obtain ⟨bY1, bY2, bY3, bY4⟩ := bY.facts; replace bR := bR.below hb3'; clear bR1 bR2 bR3 bR4; obtain ⟨bR1, bR2, bR3, bR4⟩ := bR.facts)
                      | (go_at_call 78; have _hq := hb1'; refine (made_g _ p1 q1 r1 _ (G1.below (by repeat (first | exact Below.refl _ _ | refine Below.drew ?_)))).mono ?_; rintro e w2 ⟨rfl, hb2⟩; have hb2' : Below w1.heap.size w1 w2 := (show Below w1.heap.size w1 _ by repeat (first | exact Below.refl _ _ | refine Below.drew ?_)).trans hb2; replace G1 := G1.below hb2'; replace DV := DV.below hb2'; replace bY := bY.below hb2'; clear bY1 bY2 bY3 bY4; obtain ⟨bY1, bY2, bY3, bY4⟩ := bY.facts; replace bR := bR.below hb2'; clear bR1 bR2 bR3 bR4; obtain ⟨bR1, bR2, bR3, bR4⟩ := bR.facts)
                      | (go_at_call 101; refine (small_any _ _ _ _ Y (DV.hY.sl.below (by repeat (first | exact Below.refl _ _ | refine Below.drew ?_))) h 0 (by omega) (by omega) (by omega)).mono ?_; rintro e w1 ⟨v1, rfl, I1, hb1⟩; have hb1' : Below ws.heap.size ws w1 := (show Below ws.heap.size ws _ by repeat (first | exact Below.refl _ _ | refine Below.drew ?_)).trans hb1; obtain ⟨p1, q1, r1, rfl, G1, far1⟩ := I1.far; clear I1 far1; replace DV := DV.below hb1'; replace bY := bY.below hb1'; clear bY1 bY2 bY3 bY4; obtain ⟨bY1, bY2, bY3, bY4⟩ := bY.facts; replace bR := bR.below hb1'; clear bR1 bR2 bR3 bR4; obtain ⟨bR1, bR2, bR3, bR4⟩ := bR.facts))
                  all_goals
                    rw [vY] at G3
                    have FIN := hide (DV.setR G3)
                    clear bY1 bY2 bY3 bY4 DV
                    go_wp2
                    go_roundw
                    case rel => exact ⟨k, Dl.set k h, n3, p3, q3, r3, _, by omega, by go_num, FIN.out, by rw [← hr9]; exact div_round (by omega) (by have := FIN.out.dl.1; rw [List.length_set] at this; omega) HAK.out HV.out, by have := LO.out; omega, by have := HI.out; have := E1.out; omega⟩
                    case measure => simp [intOf]

end Dm
end Go.Proofs.Ytkdcgnooeojjgab

namespace Go.Proofs.Ytkdcgnooeojjgab
namespace Dm
open Go.RowKit
open Lm (hide lt_of_cell lt_of_heap cmpI cmpI_lt cmpI_gt)

theorem boxed4 (w : World) (nx : Bool) (vx : Value) (ny : Bool) (vy : Value) : ∃ w0 : World, (((w.alloc (.cells #[.bool nx, vx] 66)).alloc (.cells #[.bool ny, vy] 66)).alloc (.cells #[.bool false, .slice none 0 0] 66)).alloc (.cells #[.bool false, .slice none 0 0] 66) = w0 ∧ Box w0 w.heap.size nx vx ∧ Box w0 (w.heap.size + 1) ny vy ∧ Box w0 (w.heap.size + 1 + 1) false (.slice none 0 0) ∧ Box w0 (w.heap.size + 1 + 1 + 1) false (.slice none 0 0) ∧ Below w.heap.size w w0 ∧ w0.heap.size = w.heap.size + 4 := by
  obtain ⟨w0, e0, bx, by', br, hb0, hs0⟩ := boxed3 w nx vx ny vy
  obtain ⟨b5, hb5, hs5⟩ := boxed w0 false (.slice none 0 0)
  rw [e0]
  refine ⟨_, rfl, bx.below hb5, by'.below hb5, br.below hb5, ?_, hb0.trans (hb5.mono hb0.size), by rw [hs5, hs0]⟩
  rw [hs0] at b5
  exact b5

set_option maxRecDepth 20000 in
set_option maxHeartbeats 1000000 in
theorem ndivmod_nat (w : World) (a1 : Option Addr) (c1 : Nat) (A : List Int) (x : Int) (hx : Got w a1 c1 A x) (a2 : Option Addr) (c2 : Nat) (B : List Int) (y : Int) (hy : Got w a2 c2 B y) (m1 : A.length ≤ 300000) (m2 : B.length ≤ 300000) (y0 : 0 < B.length) :
    Calls Try.prog 54 #[.agg #[.bool false, .slice a1 A.length c1], .agg #[.bool false, .slice a2 B.length c2]] w fun e w' => ∃ nq pq qq Q nr pr qr R, e = .returned (.tuple #[.agg #[.bool nq, .slice pq Q.length qq], .agg #[.bool nr, .slice pr R.length qr]]) ∧ Wh w' nq pq qq Q (x / y) ∧ Wh w' nr pr qr R (x % y) ∧ Q.length ≤ A.length ∧ R.length ≤ B.length ∧ Below w.heap.size w w' := by
  obtain ⟨w0, e0, bx, by', b4, b5, hb0, hs0⟩ := boxed4 w false (.slice a1 A.length c1) false (.slice a2 B.length c2)
  have E0 := hide e0
  have hx0 := hx.below hb0
  have hy0 := hy.below hb0
  obtain ⟨_, p1, p2, p3⟩ := hx.sl.parts
  obtain ⟨_, q1, q2, q3⟩ := hy.sl.parts
  clear p3 q3 e0
  go_enter Try.func54, Try.ntmps54
  obtain ⟨bx1, bx2, bx3, bx4⟩ := bx.facts
  obtain ⟨by1, by2, by3, by4⟩ := by'.facts
  go_upto_region 1 with fail
  rw [E0.out]
  go_wp2_with fail
  refine (divided_g _ _ _ _ A _ hx0 _ _ _ B _ hy0 m1 m2 y0).mono ?_
  rintro e w1 ⟨nq, pq, qq, Q, nr, pr, qr, R, rfl, GQ, GR, lQ, lR, hb1⟩
  obtain ⟨w2, e2, bq, bz, hb2, hs2⟩ := boxed2 w1 nq (.slice pq Q.length qq) nr (.slice pr R.length qr)
  have z1 := hb1.size
  have HB := hb0.trans (hb1.mono hb0.size)
  replace HB := HB.trans (hb2.mono HB.size)
  replace bx := (bx.below hb1).below hb2
  replace by' := (by'.below hb1).below hb2
  replace b4 := (b4.below hb1).below hb2
  replace b5 := (b5.below hb1).below hb2
  replace GQ := GQ.below hb2
  replace GR := GR.below hb2
  have E2 := hide e2
  clear e2 bx1 bx2 bx3 bx4 by1 by2 by3 by4 hb1 hb2 E0
  go_upto_region 2 with fail
  rw [E2.out]
  clear E2
  obtain ⟨bx1, bx2, bx3, bx4⟩ := bx.facts
  obtain ⟨by1, by2, by3, by4⟩ := by'.facts
  have ne1 : ¬ (w.heap.size + 1 + 1 = w1.heap.size) := by omega
  have ne2 : ¬ (w.heap.size + 1 + 1 + 1 = w1.heap.size) := by omega
  have ne3 : ¬ (w.heap.size + 1 = w1.heap.size) := by omega
  obtain ⟨bq1, bq2, bq3, bq4⟩ := bq.facts
  obtain ⟨bz1, bz2, bz3, bz4⟩ := bz.facts
  obtain ⟨b41, b42, b43, b44⟩ := b4.facts
  obtain ⟨b51, b52, b53, b54⟩ := b5.facts
  have F1 := hide (box_other (b4.set nq (.slice pq Q.length qq)) (show w.heap.size + 1 + 1 ≠ w.heap.size + 1 + 1 + 1 by omega) (.bool nr) (.slice pr R.length qr)).facts
  have b5' := box_other b5 (show w.heap.size + 1 + 1 + 1 ≠ w.heap.size + 1 + 1 by omega) (.bool nq) (.slice pq Q.length qq)
  have F2 := hide (b5'.set nr (.slice pr R.length qr)).facts
  have Y1 := hide (b5'.wh nr (.slice pr R.length qr) (b4.wh nq (.slice pq Q.length qq) GQ))
  have Y2 := hide (b5'.wh nr (.slice pr R.length qr) (b4.wh nq (.slice pq Q.length qq) GR))
  have Z2 := hide (below_set2 (below_set2 HB (show w.heap.size ≤ w.heap.size + 1 + 1 by omega) (.bool nq) (.slice pq Q.length qq)) (show w.heap.size ≤ w.heap.size + 1 + 1 + 1 by omega) (.bool nr) (.slice pr R.length qr))
  go_wp2_with fail
  go_region_held3 (fun w' => w'.cell? ⟨w1.heap.size, 0, none⟩ = some (.bool nq) ∧ w'.cell? ⟨w1.heap.size, 1, none⟩ = some (.slice pq Q.length qq) ∧ w'.cell? ⟨w1.heap.size + 1, 0, none⟩ = some (.bool nr) ∧ w'.cell? ⟨w1.heap.size + 1, 1, none⟩ = some (.slice pr R.length qr)) (go_keep) (fail)
  all_goals
    go_wp2
    refine bodyPost_ret (v := .tuple #[.agg #[.bool nq, .slice pq Q.length qq], .agg #[.bool nr, .slice pr R.length qr]]) ?_ rfl ⟨nq, pq, qq, Q, nr, pr, qr, R, rfl, Y1.out, Y2.out, by omega, by omega, Below.drew Z2.out⟩
    simp [results, Try.results54, go_sem, F1.out.1, F1.out.2.1, F2.out.1, F2.out.2.1]

end Dm
end Go.Proofs.Ytkdcgnooeojjgab

namespace Go.Proofs.Ytkdcgnooeojjgab
namespace Dm
open Go.RowKit
open Lm (hide lt_of_cell lt_of_heap cmpI cmpI_lt cmpI_gt)

theorem gcd_step (u v : Int) : Int.gcd v (u % v) = Int.gcd v u := by
  have h1 := Lm.gcd_step u v (u / v)
  have h2 := Int.mul_ediv_add_emod u v
  rw [Int.mul_comm] at h2
  rw [show u - u / v * v = u % v by omega] at h1
  rw [h1, Int.gcd_comm]

set_option maxRecDepth 20000 in
set_option maxHeartbeats 2000000 in
theorem ngcd_g (w : World) (n1 : Bool) (a1 : Option Addr) (c1 : Nat) (A : List Int) (x : Int) (hx : Got w a1 c1 A x) (n2 : Bool) (a2 : Option Addr) (c2 : Nat) (B : List Int) (y : Int) (hy : Got w a2 c2 B y) (m1 : A.length ≤ 300000) (m2 : B.length ≤ 300000) :
    Calls Try.prog 86 #[.agg #[.bool n1, .slice a1 A.length c1], .agg #[.bool n2, .slice a2 B.length c2]] w fun e w' => ∃ ng ao cap rs, e = .returned (.agg #[.bool ng, .slice ao rs.length cap]) ∧ Wh w' ng ao cap rs (Int.gcd x y : Int) ∧ rs.length ≤ A.length + B.length ∧ Below w.heap.size w w' := by
  obtain ⟨w0, e0, bx, by', br, hb0, hs0⟩ := boxed3 w n1 (.slice a1 A.length c1) n2 (.slice a2 B.length c2)
  have E0 := hide e0
  have hx0 := hx.below hb0
  have hy0 := hy.below hb0
  have hxn : 0 ≤ x := by rw [← hx.val]; exact (val_bounds hx.canon.1).1
  have hyn : 0 ≤ y := by rw [← hy.val]; exact (val_bounds hy.canon.1).1
  clear e0
  go_enter Try.func86, Try.ntmps86
  go_upto_region 1 with fail
  rw [E0.out]
  obtain ⟨bx1, bx2, bx3, bx4⟩ := bx.facts
  go_wp2_with fail
  refine (abs_got _ _ _ _ A _ hx0 (by omega)).mono ?_
  rintro e w1 ⟨nX, pX, qX, X, rfl, GX, lX, hb1⟩
  obtain ⟨w2, e2, bX, hb2, hs2⟩ := boxed0 w1 nX (.slice pX X.length qX)
  have z1 := hb1.size
  have HB := hb0.trans (hb1.mono hb0.size)
  replace HB := HB.trans (hb2.mono HB.size)
  replace bx := (bx.below hb1).below hb2
  replace by' := (by'.below hb1).below hb2
  replace br := (br.below hb1).below hb2
  replace hy0 := (hy0.below hb1).below hb2
  replace GX := GX.below hb2
  have E2 := hide e2
  clear e2 bx1 bx2 bx3 bx4 hb1 hb2 E0
  go_upto_region 2 with fail
  rw [E2.out]
  clear E2
  obtain ⟨by1, by2, by3, by4⟩ := by'.facts
  go_wp2_with fail
  refine (abs_got _ _ _ _ B _ hy0 (by omega)).mono ?_
  rintro e w3 ⟨nY, pY, qY, Y, rfl, GY, lY, hb3⟩
  obtain ⟨w4, e4, bY, hb4, hs4⟩ := boxed0 w3 nY (.slice pY Y.length qY)
  have z3 := hb3.size
  replace HB := HB.trans (hb3.mono HB.size)
  replace HB := HB.trans (hb4.mono HB.size)
  replace br := (br.below hb3).below hb4
  replace bX := (bX.below hb3).below hb4
  replace GX := (GX.below hb3).below hb4
  replace GY := GY.below hb4
  have E4 := hide e4
  clear e4 by1 by2 by3 by4 hb3 hb4 hy0 hx0 bx by'
  go_wp2_with fail
  rw [E4.out]
  clear E4
  have hsx : w.heap.size + 3 ≤ w1.heap.size := by omega
  have hsy : w1.heap.size + 1 ≤ w3.heap.size := by omega
  have hsz : w3.heap.size < w4.heap.size := by omega
  generalize w1.heap.size = gx at *
  generalize w3.heap.size = gy at *
  have hsg : sg false x = x := rfl
  have hsg2 : sg false y = y := rfl
  rw [hsg] at GX
  rw [hsg2] at GY
  clear hsg hsg2 z1 z3 hs2 hs4 hs0
  go_loopg [] y.toNat (fun k wr => ∃ (nX : Bool) (pX : Option Addr) (qX : Nat) (X : List Int) (u : Int) (nY : Bool) (pY : Option Addr) (qY : Nat) (Y : List Int) (v : Int), Box wr gx nX (.slice pX X.length qX) ∧ Box wr gy nY (.slice pY Y.length qY) ∧ Box wr (w.heap.size + 1 + 1) false (.slice none 0 0) ∧ Wh wr nX pX qX X u ∧ Wh wr nY pY qY Y v ∧ 0 ≤ u ∧ 0 ≤ v ∧ Int.gcd u v = Int.gcd x y ∧ X.length ≤ A.length + B.length ∧ Y.length ≤ A.length + B.length ∧ X.length ≤ 300000 ∧ Y.length ≤ 300000 ∧ Below w.heap.size w wr ∧ k = v.toNat)
  case atStart => exact ⟨nX, pX, qX, X, x, nY, pY, qY, Y, y, bX, bY, br, GX, GY, hxn, hyn, rfl, by omega, by omega, by omega, by omega, HB, rfl⟩
  case round =>
    clear bX bY br GX GY HB lX lY
    obtain ⟨nX, pX, qX, X, u, nY, pY, qY, Y, v, bX, bY, br, GX, GY, hu, hv, hg, lX, lY, lX2, lY2, HB, hk⟩ := hrel
    obtain rfl : nY = false := by rw [GY.2]; simp; omega
    have HG := hide hg
    have HK := hide hk
    have hz := GY.zero
    have HZ := hide hz
    obtain ⟨bY1, bY2, bY3, bY4⟩ := bY.facts
    clear hg hk hz
    go_wp2_with fail
    refine (sign_any _ _ _ _).mono ?_
    rintro e w5 ⟨rfl, e5⟩
    have hb5 : Below wr.heap.size wr w5 := by rw [e5]; exact (Below.refl _ _).alloc (Nat.le_refl _) _
    clear e5
    replace bX := bX.below hb5
    replace bY := bY.below hb5
    replace br := br.below hb5
    replace GX := GX.below hb5
    replace GY := GY.below hb5
    replace HB := HB.trans (hb5.mono HB.size)
    clear hb5 bY1 bY2 bY3 bY4
    by_cases h0 : Y.length = 0
    · have v0 : v = 0 := HZ.out.2 (List.eq_nil_of_length_eq_zero h0)
      have hs : sgn Y.length = 0 := by simp [sgn, h0]
      rw [hs]
      have HG2 : Hid ((Int.gcd x y : Int) = u) := by
        have := HG.out
        rw [v0] at this
        show ((Int.gcd x y : Nat) : Int) = u
        rw [← this, Int.gcd_zero_right]
        omega
      clear hs h0 v0
      obtain ⟨bX1, bX2, bX3, bX4⟩ := bX.facts
      obtain ⟨br1, br2, br3, br4⟩ := br.facts
      have F := hide (br.set nX (.slice pX X.length qX)).facts
      have Y1 := hide (br.wh nX (.slice pX X.length qX) GX)
      have Z := hide (below_set2 HB (show w.heap.size ≤ w.heap.size + 1 + 1 by omega) (.bool nX) (.slice pX X.length qX))
      go_wp2
      refine bodyPost_ret (v := .agg #[.bool nX, .slice pX X.length qX]) ?_ rfl ⟨nX, pX, qX, X, rfl, by rw [HG2.out]; exact Y1.out, by omega, Z.out⟩
      simp [results, Try.results86, go_sem, F.out.1, F.out.2.1]
    · have hs : sgn Y.length = 1 := by simp [sgn, h0]
      rw [hs]
      clear hs
      have vp : 0 < v := by
        apply Classical.byContradiction
        intro hn
        exact h0 (by rw [HZ.out.1 (by omega)]; rfl)
      obtain ⟨bX1, bX2, bX3, bX4⟩ := bX.facts
      obtain ⟨bY1, bY2, bY3, bY4⟩ := bY.facts
      have GX' := GX.1
      have GY' := GY.1
      rw [show ((u.natAbs : Nat) : Int) = u by omega] at GX'
      rw [show ((v.natAbs : Nat) : Int) = v by omega] at GY'
      go_wp2_with fail
      refine (divided_g _ _ _ _ X _ GX' _ _ _ Y _ GY' (by omega) (by omega) (by omega)).mono ?_
      rintro e w6 ⟨nq, pq, qq, Q, nr, pr, qr, R, rfl, GQ, GR, lQ, lR, hb6⟩
      obtain ⟨w7, e7, bq, bz, hb7, hs7⟩ := boxed2 w6 nq (.slice pq Q.length qq) nr (.slice pr R.length qr)
      have z6 := hb6.size
      have lgy := lt_of_heap bY
      replace bX := (bX.below hb6).below hb7
      replace bY := (bY.below hb6).below hb7
      replace br := (br.below hb6).below hb7
      replace GY := (GY.below hb6).below hb7
      replace GR := GR.below hb7
      replace HB := (HB.trans (hb6.mono HB.size)).trans (hb7.mono (Nat.le_trans HB.size z6))
      have E7 := hide e7
      clear e7 hb6 hb7 bX1 bX2 bX3 bX4 bY1 bY2 bY3 bY4 GX GX' GY' GQ bq
      go_upto_region 5 with fail
      rw [E7.out]
      clear E7
      generalize w6.heap.size = g6 at *
      have bX' := bX.set false (.slice pY Y.length qY)
      have bY' := box_other bY (show gy ≠ gx by omega) (.bool false) (.slice pY Y.length qY)
      have br' := box_other br (show w.heap.size + 1 + 1 ≠ gx by omega) (.bool false) (.slice pY Y.length qY)
      have bz' := box_other bz (show g6 + 1 ≠ gx by omega) (.bool false) (.slice pY Y.length qY)
      have GY' := bX.wh false (.slice pY Y.length qY) GY
      have GR' := bX.wh false (.slice pY Y.length qY) GR
      have HB' := below_set2 HB (show w.heap.size ≤ gx by omega) (.bool false) (.slice pY Y.length qY)
      obtain ⟨bX1, bX2, bX3, bX4⟩ := bX.facts
      obtain ⟨bY1, bY2, bY3, bY4⟩ := bY.facts
      have FF := hide (And.intro bX' (And.intro bY' (And.intro br' (And.intro bz' (And.intro GY' (And.intro GR' HB'))))))
      clear bX' bY' br' bz' GY' GR' HB'
      go_upto_region 6 with fail
      clear bX bY br bz GY GR HB bX1 bX2 bX3 bX4 bY1 bY2 bY3 bY4
      generalize (w7.setCell ⟨gx, 0, none⟩ (.bool false)).setCell ⟨gx, 1, none⟩ (.slice pY Y.length qY) = w8 at FF ⊢
      obtain ⟨bX, bY, br, bz, GY, GR, HB⟩ := FF.out
      clear FF
      obtain ⟨bY1, bY2, bY3, bY4⟩ := bY.facts
      obtain ⟨bz1, bz2, bz3, bz4⟩ := bz.facts
      have bX' := box_other bX (show gx ≠ gy by omega) (.bool nr) (.slice pr R.length qr)
      have bY' := bY.set nr (.slice pr R.length qr)
      have br' := box_other br (show w.heap.size + 1 + 1 ≠ gy by omega) (.bool nr) (.slice pr R.length qr)
      have GY' := bY.wh nr (.slice pr R.length qr) GY
      have GR' := bY.wh nr (.slice pr R.length qr) GR
      have HB' := below_set2 HB (show w.heap.size ≤ gy by omega) (.bool nr) (.slice pr R.length qr)
      have FF := hide (And.intro bX' (And.intro bY' (And.intro br' (And.intro GY' (And.intro GR' HB')))))
      clear bX' bY' br' GY' GR' HB' bX br
      go_wp2
      go_roundg (u % v).toNat
      case measure =>
        have := Int.emod_lt_of_pos u vp
        have := Int.emod_nonneg u (show v ≠ 0 by omega)
        have := HK.out
        omega
      case rel => exact ⟨false, pY, qY, Y, v, nr, pr, qr, R, u % v, FF.out.1, FF.out.2.1, FF.out.2.2.1, FF.out.2.2.2.1, FF.out.2.2.2.2.1, hv, Int.emod_nonneg u (show v ≠ 0 by omega), by rw [← HG.out, Int.gcd_comm u v]; exact gcd_step u v, lY, by omega, lY2, by omega, FF.out.2.2.2.2.2, rfl⟩

end Dm
end Go.Proofs.Ytkdcgnooeojjgab

namespace Go.Proofs.Ytkdcgnooeojjgab
namespace Dm
open Go.RowKit
open Lm (hide lt_of_cell lt_of_heap)

/-- Where DivMod stands: both numbers, two blocks for the answers, quotient and rest. -/
def Qs (w wx : World) (n1 : Bool) (va : Value) (n2 : Bool) (vb : Value) (g6 g7 : Nat) (q r : Int) (LQ LR : Nat) : Prop := ∃ (nq : Bool) (pq : Option Addr) (qq : Nat) (Q : List Int) (nr : Bool) (pr : Option Addr) (qr : Nat) (R : List Int),
  Box wx w.heap.size n1 va ∧ Box wx (w.heap.size + 1) n2 vb ∧ Box wx (w.heap.size + 1 + 1) false (.slice none 0 0) ∧ Box wx (w.heap.size + 1 + 1 + 1) false (.slice none 0 0) ∧ Box wx g6 nq (.slice pq Q.length qq) ∧ Box wx g7 nr (.slice pr R.length qr) ∧ Wh wx nq pq qq Q q ∧ Wh wx nr pr qr R r ∧ Q.length ≤ LQ ∧ R.length ≤ LR ∧ Below w.heap.size w wx

theorem Qs.below {w wx wy : World} {n1 n2 : Bool} {va vb : Value} {g6 g7 : Nat} {q r : Int} {LQ LR : Nat} (h : Qs w wx n1 va n2 vb g6 g7 q r LQ LR) (hb : Below wx.heap.size wx wy) : Qs w wy n1 va n2 vb g6 g7 q r LQ LR := by
  obtain ⟨nq, pq, qq, Q, nr, pr, qr, R, ba, bb, b4, b5, b6, b7, GQ, GR, lQ, lR, HB⟩ := h
  exact ⟨nq, pq, qq, Q, nr, pr, qr, R, ba.below hb, bb.below hb, b4.below hb, b5.below hb, b6.below hb, b7.below hb, GQ.below hb, GR.below hb, lQ, lR, HB.trans (hb.mono HB.size)⟩

theorem Qs.set6 {w wx : World} {n1 n2 : Bool} {va vb : Value} {g6 g7 : Nat} {q r : Int} {LQ LR : Nat} (h : Qs w wx n1 va n2 vb g6 g7 q r LQ LR) (h6 : w.heap.size + 4 ≤ g6) (h7 : g6 < g7) {m2 : Bool} {p2 : Option Addr} {q2 : Nat} {r2 : List Int} {z : Int} (G : Wh wx m2 p2 q2 r2 z) {L : Nat} (hL : r2.length ≤ L) :
    Qs w ((wx.setCell ⟨g6, 0, none⟩ (.bool m2)).setCell ⟨g6, 1, none⟩ (.slice p2 r2.length q2)) n1 va n2 vb g6 g7 z r L LR := by
  obtain ⟨nq, pq, qq, Q, nr, pr, qr, R, ba, bb, b4, b5, b6, b7, GQ, GR, lQ, lR, HB⟩ := h
  exact ⟨m2, p2, q2, r2, nr, pr, qr, R, box_past ba (by omega) _ _, box_past bb (by omega) _ _, box_past b4 (by omega) _ _, box_past b5 (by omega) _ _, b6.set _ _, box_past b7 (by omega) _ _, b6.wh _ _ G, b6.wh _ _ GR, hL, lR, below_set2 HB (by omega) _ _⟩

theorem Qs.set7 {w wx : World} {n1 n2 : Bool} {va vb : Value} {g6 g7 : Nat} {q r : Int} {LQ LR : Nat} (h : Qs w wx n1 va n2 vb g6 g7 q r LQ LR) (h6 : w.heap.size + 4 ≤ g6) (h7 : g6 < g7) {m2 : Bool} {p2 : Option Addr} {q2 : Nat} {r2 : List Int} {z : Int} (G : Wh wx m2 p2 q2 r2 z) {L : Nat} (hL : r2.length ≤ L) :
    Qs w ((wx.setCell ⟨g7, 0, none⟩ (.bool m2)).setCell ⟨g7, 1, none⟩ (.slice p2 r2.length q2)) n1 va n2 vb g6 g7 q z LQ L := by
  obtain ⟨nq, pq, qq, Q, nr, pr, qr, R, ba, bb, b4, b5, b6, b7, GQ, GR, lQ, lR, HB⟩ := h
  exact ⟨nq, pq, qq, Q, m2, p2, q2, r2, box_past ba (by omega) _ _, box_past bb (by omega) _ _, box_past b4 (by omega) _ _, box_past b5 (by omega) _ _, box_past b6 (by omega) _ _, b7.set _ _, b7.wh _ _ GQ, b7.wh _ _ G, lQ, hL, below_set2 HB (by omega) _ _⟩

/-- What the two 'if's make of quotient and rest. -/
theorem dm_plain (n1 n2 : Bool) {x y : Int} (hx : n1 = decide (x < 0)) (hy : n2 = decide (y < 0)) (y0 : y ≠ 0) {q1 r1 : Int}
    (h : (n1 = true ∧ (x.natAbs : Int) % (y.natAbs : Int) ≠ 0 → q1 = (x.natAbs : Int) / (y.natAbs : Int) + 1 ∧ r1 = (y.natAbs : Int) - (x.natAbs : Int) % (y.natAbs : Int)) ∧ (¬ (n1 = true ∧ (x.natAbs : Int) % (y.natAbs : Int) ≠ 0) → q1 = (x.natAbs : Int) / (y.natAbs : Int) ∧ r1 = (x.natAbs : Int) % (y.natAbs : Int))) :
    Lm.sg (n1 != n2) q1 = x / y ∧ r1 = x % y := by
  have ex : x = Lm.sg n1 (x.natAbs : Int) := by rw [hx]; by_cases h : x < 0 <;> simp [Lm.sg, h] <;> omega
  have ey : y = Lm.sg n2 (y.natAbs : Int) := by rw [hy]; by_cases h : y < 0 <;> simp [Lm.sg, h] <;> omega
  have hY : 0 < (y.natAbs : Int) := by omega
  have hf : ∀ z : Int, Lm.sg false z = z := fun z => rfl
  generalize (x.natAbs : Int) = X at *
  generalize (y.natAbs : Int) = Y at *
  rw [ex, ey]
  clear ex ey hx hy
  cases n1 with
  | false =>
    have h2 := h.2 (by simp)
    rw [h2.1, h2.2]
    have := Lm.wdiv_pos n2 X Y
    rw [hf (X % Y)] at this
    exact this
  | true =>
    by_cases h0 : X % Y = 0
    · have h2 := h.2 (by simp [h0])
      rw [h2.1, h2.2]
      have := Lm.wdiv_even true n2 hY h0
      rw [hf (X % Y)] at this
      exact this
    · have h2 := h.1 ⟨rfl, h0⟩
      rw [h2.1, h2.2]
      have := Lm.wdiv_odd n2 hY h0
      rw [hf (Y - X % Y)] at this
      exact this

set_option maxRecDepth 20000 in
set_option maxHeartbeats 8000000 in
theorem ndivmod_z (w : World) (n1 : Bool) (a1 : Option Addr) (c1 : Nat) (A : List Int) (x : Int) (hx : Wh w n1 a1 c1 A x) (n2 : Bool) (a2 : Option Addr) (c2 : Nat) (B : List Int) (y : Int) (hy : Wh w n2 a2 c2 B y) (m1 : A.length ≤ 200000) (m2 : B.length ≤ 200000) (y0 : y ≠ 0) :
    Calls Try.prog 54 #[.agg #[.bool n1, .slice a1 A.length c1], .agg #[.bool n2, .slice a2 B.length c2]] w fun e w' => ∃ nq pq qq Q nr pr qr R, e = .returned (.tuple #[.agg #[.bool nq, .slice pq Q.length qq], .agg #[.bool nr, .slice pr R.length qr]]) ∧ Wh w' nq pq qq Q (x / y) ∧ Wh w' nr pr qr R (x % y) ∧ Q.length ≤ A.length + 6 ∧ R.length ≤ 2 * B.length + 1 ∧ Below w.heap.size w w' := by
  obtain ⟨w0, e0, ba, bb, b4, b5, hb0, hs0⟩ := boxed4 w n1 (.slice a1 A.length c1) n2 (.slice a2 B.length c2)
  have E0 := hide e0
  have hx0 := hx.1.below hb0
  have hy0 := hy.1.below hb0
  obtain ⟨_, p1, p2, p3⟩ := hx.1.sl.parts
  obtain ⟨_, q1, q2, q3⟩ := hy.1.sl.parts
  have hX0 : (0 : Int) ≤ (x.natAbs : Int) := by omega
  have hY0 : (0 : Int) < (y.natAbs : Int) := by omega
  have PL := hide (fun q1 r1 => dm_plain n1 n2 (q1 := q1) (r1 := r1) hx.2 hy.2 y0)
  have hBl : 0 < B.length := by
    apply Classical.byContradiction
    intro hn
    have := got_zero hy.1 (by omega)
    omega
  clear p3 q3 e0
  go_enter Try.func54, Try.ntmps54
  obtain ⟨ba1, ba2, ba3, ba4⟩ := ba.facts
  obtain ⟨bb1, bb2, bb3, bb4⟩ := bb.facts
  go_upto_region 1 with fail
  rw [E0.out]
  go_wp2_with fail
  refine (divided_g _ _ _ _ A _ hx0 _ _ _ B _ hy0 (by omega) (by omega) hBl).mono ?_
  rintro e w1 ⟨nq, pq, qq, Q, nr, pr, qr, R, rfl, GQ, GR, lQ, lR, hb1⟩
  generalize hXX : (x.natAbs : Int) = X at *
  generalize hYY : (y.natAbs : Int) = Y at *
  obtain ⟨w2, e2, b6, b7, hb2, hs2⟩ := boxed2 w1 nq (.slice pq Q.length qq) nr (.slice pr R.length qr)
  have z1 := hb1.size
  have HB := hb0.trans (hb1.mono hb0.size)
  replace HB := HB.trans (hb2.mono HB.size)
  have hy2 := hy.below HB
  have QS : Qs w w2 n1 (.slice a1 A.length c1) n2 (.slice a2 B.length c2) w1.heap.size (w1.heap.size + 1) (X / Y) (X % Y) A.length B.length := ⟨nq, pq, qq, Q, nr, pr, qr, R, (ba.below hb1).below hb2, (bb.below hb1).below hb2, (b4.below hb1).below hb2, (b5.below hb1).below hb2, b6, b7, GQ.below hb2, GR.below hb2, lQ, lR, HB⟩
  have E2 := hide e2
  have h67 : w.heap.size + 4 ≤ w1.heap.size := by omega
  have hr0 : 0 ≤ X % Y := Int.emod_nonneg _ (by omega)
  have hw2 := hb2.size
  clear e2 ba1 ba2 ba3 ba4 bb1 bb2 bb3 bb4 hb1 hb2 E0 ba bb b4 b5 b6 b7 GQ GR lQ lR
  go_upto_region 2 with fail
  rw [E2.out]
  clear E2 hs2 HB hx0 hy0
  generalize w1.heap.size = g6 at *
  generalize hr : X % Y = r0 at *
  generalize hq : X / Y = q0 at *
  have HR := hide hr
  have HQ := hide hq
  have HYY := hide hYY
  clear hr hq hYY hXX
  go_cut [20] (fun v wx => v = .bool (n1 && decide (r0 ≠ 0)) ∧ Qs w wx n1 (.slice a1 A.length c1) n2 (.slice a2 B.length c2) g6 (g6 + 1) q0 r0 A.length B.length ∧ Below w2.heap.size w2 wx)
  case first =>
    obtain ⟨nq, pq, qq, Q, nr, pr, qr, R, ba, bb, b4, b5, b6, b7, GQ, GR, lQ, lR, HB⟩ := QS
    obtain ⟨ba1, ba2, ba3, ba4⟩ := ba.facts
    obtain ⟨b71, b72, b73, b74⟩ := b7.facts
    cases n1 with
    | false =>
      have QS := hide (show Qs w w2 false (.slice a1 A.length c1) n2 (.slice a2 B.length c2) g6 (g6 + 1) q0 r0 A.length B.length from ⟨nq, pq, qq, Q, nr, pr, qr, R, ba, bb, b4, b5, b6, b7, GQ, GR, lQ, lR, HB⟩)
      go_wp2
      go_meet
      case rel => exact ⟨by simp, QS.out, Below.refl _ _⟩
    | true =>
      obtain rfl : nr = false := by rw [GR.2]; simp; omega
      have hz := GR.zero
      have QS := hide (show Qs w w2 true (.slice a1 A.length c1) n2 (.slice a2 B.length c2) g6 (g6 + 1) q0 r0 A.length B.length from ⟨nq, pq, qq, Q, false, pr, qr, R, ba, bb, b4, b5, b6, b7, GQ, GR, lQ, lR, HB⟩)
      have HZ := hide hz
      clear hz
      go_wp2_with fail
      refine (sign_any _ _ _ _).mono ?_
      rintro e w5 ⟨rfl, e5⟩
      have hb5 : Below w2.heap.size w2 w5 := by rw [e5]; exact (Below.refl _ _).alloc (Nat.le_refl _) _
      clear e5 ba1 ba2 ba3 ba4 b71 b72 b73 b74
      by_cases h0 : r0 = 0
      · have hs : sgn R.length = 0 := by rw [HZ.out.1 h0]; rfl
        rw [hs]
        have hd : decide (r0 ≠ 0) = false := by simp [h0]
        have HD := hide hd
        clear hs h0 hd
        go_wp2
        go_meet
        case rel => exact ⟨by rw [HD.out]; rfl, QS.out.below hb5, hb5⟩
      · have hs : sgn R.length = 1 := by
          have : R.length ≠ 0 := fun h => h0 (HZ.out.2 (List.eq_nil_of_length_eq_zero h))
          simp [sgn, this]
        rw [hs]
        have hd : decide (r0 ≠ 0) = true := by simp [h0]
        have HD := hide hd
        clear hs h0 hd
        go_wp2
        go_meet
        case rel => exact ⟨by rw [HD.out]; rfl, QS.out.below hb5, hb5⟩
  case rest =>
    obtain ⟨rfl, QS, hbw⟩ := hcut
    have hyw := hy2.below hbw
    clear hy2 hbw
    go_upto_if 20 with fail
    go_cut [] (fun wx => ∃ q1 r1, Qs w wx n1 (.slice a1 A.length c1) n2 (.slice a2 B.length c2) g6 (g6 + 1) q1 r1 (A.length + 6) (2 * B.length + 1) ∧ ((n1 = true ∧ r0 ≠ 0 → q1 = q0 + 1 ∧ r1 = Y - r0) ∧ (¬ (n1 = true ∧ r0 ≠ 0) → q1 = q0 ∧ r1 = r0)))
    case first =>
      by_cases hc : n1 = true ∧ r0 ≠ 0
      · have hb : (n1 && decide (r0 ≠ 0)) = true := by simp [hc.1, hc.2]
        have HC := hide hc
        rw [hb]
        clear hb hc
        go_upto_region 3 with fail
        go_cut [] (fun wx => Qs w wx n1 (.slice a1 A.length c1) n2 (.slice a2 B.length c2) g6 (g6 + 1) (q0 + 1) r0 (A.length + 6) B.length ∧ Wh wx n2 a2 c2 B y)
        case first =>
          have QS' := QS
          obtain ⟨nq, pq, qq, Q, nr, pr, qr, R, ba, bb, b4, b5, b6, b7, GQ, GR, lQ, lR, HB⟩ := QS'
          clear ba bb b4 b5 b7 HB lR
          obtain ⟨b61, b62, b63, b64⟩ := b6.facts
          go_region_with (first
            | (go_at_call 82; have _hq := hb1'; refine (nadd_g _ _ _ _ Q _ (GQ.below (by repeat (first | exact Below.refl _ _ | refine Below.drew ?_))) _ p1 q1 r1 _ (G1.below (by repeat (first | exact Below.refl _ _ | refine Below.drew ?_))) (by omega) (by omega)).mono ?_; rintro e w2 ⟨m2, p2, q2, r2, rfl, G2, l2, hb2⟩; have hb2' : Below w1.heap.size w1 w2 := (show Below w1.heap.size w1 _ by repeat (first | exact Below.refl _ _ | refine Below.drew ?_)).trans hb2; replace GR := GR.below hb2'; replace QS := QS.below hb2'; replace hyw := hyw.below hb2'; replace b6 := b6.below hb2'; clear b61 b62 b63 b64; obtain ⟨b61, b62, b63, b64⟩ := b6.facts)
            | (go_at_call 48; refine (nint_any _ 1 (by omega) (by omega)).mono ?_; rintro e w1 ⟨m1, p1, q1, r1, rfl, G1, l1, hb1⟩; have hb1' : Below wc.heap.size wc w1 := (show Below wc.heap.size wc _ by repeat (first | exact Below.refl _ _ | refine Below.drew ?_)).trans hb1; replace GQ := GQ.below hb1'; replace QS := QS.below hb1'; replace hyw := hyw.below hb1'; replace GR := GR.below hb1'; replace b6 := b6.below hb1'; clear b61 b62 b63 b64; obtain ⟨b61, b62, b63, b64⟩ := b6.facts))
          all_goals
            have FIN := hide (QS.set6 h67 (by omega) G2 (L := A.length + 6) (by omega))
            have FY := hide (b6.wh m2 (.slice p2 r2.length q2) hyw)
            clear QS hyw
            go_wp2
            go_meet
            case rel => exact ⟨FIN.out, FY.out⟩
        case rest =>
          obtain ⟨QS, hyw⟩ := hcut
          have QS' := QS
          obtain ⟨nq, pq, qq, Q, nr, pr, qr, R, ba, bb, b4, b5, b6, b7, GQ, GR, lQ, lR, HB⟩ := QS'
          clear ba b4 b5 b6 HB
          obtain ⟨bb1, bb2, bb3, bb4⟩ := bb.facts
          obtain ⟨b71, b72, b73, b74⟩ := b7.facts
          go_wp2_with fail
          go_region_with (first
            | (go_at_call 83; have _hq := hb1'; refine (nsub_g _ _ p1 q1 r1 _ (G1.below (by repeat (first | exact Below.refl _ _ | refine Below.drew ?_))) _ _ _ R _ (GR.below (by repeat (first | exact Below.refl _ _ | refine Below.drew ?_))) (by omega) (by omega)).mono ?_; rintro e w2 ⟨m2, p2, q2, r2, rfl, G2, l2, hb2⟩; have hb2' : Below w1.heap.size w1 w2 := (show Below w1.heap.size w1 _ by repeat (first | exact Below.refl _ _ | refine Below.drew ?_)).trans hb2; replace GQ := GQ.below hb2'; replace QS := QS.below hb2'; replace bb := bb.below hb2'; clear bb1 bb2 bb3 bb4; obtain ⟨bb1, bb2, bb3, bb4⟩ := bb.facts; replace b7 := b7.below hb2'; clear b71 b72 b73 b74; obtain ⟨b71, b72, b73, b74⟩ := b7.facts)
            | (go_at_call 84; refine (abs_g _ _ _ _ B _ (hyw.below (by repeat (first | exact Below.refl _ _ | refine Below.drew ?_))) (by omega)).mono ?_; rintro e w1 ⟨m1, p1, q1, r1, rfl, G1, l1, hb1⟩; have hb1' : Below wc.heap.size wc w1 := (show Below wc.heap.size wc _ by repeat (first | exact Below.refl _ _ | refine Below.drew ?_)).trans hb1; replace GQ := GQ.below hb1'; replace QS := QS.below hb1'; replace GR := GR.below hb1'; replace bb := bb.below hb1'; clear bb1 bb2 bb3 bb4; obtain ⟨bb1, bb2, bb3, bb4⟩ := bb.facts; replace b7 := b7.below hb1'; clear b71 b72 b73 b74; obtain ⟨b71, b72, b73, b74⟩ := b7.facts))
          all_goals
            have FIN := hide (QS.set7 h67 (by omega) G2 (L := 2 * B.length + 1) (by omega))
            clear QS
            go_wp2
            go_meet
            case rel => exact ⟨q0 + 1, _, FIN.out, fun _ => ⟨rfl, by rw [HYY.out]⟩, fun h => absurd HC.out h⟩
      · have hb : (n1 && decide (r0 ≠ 0)) = false := by
          cases n1 with
          | false => rfl
          | true =>
            have : r0 = 0 := Classical.byContradiction fun h => hc ⟨rfl, h⟩
            simp [this]
        have HC := hide hc
        rw [hb]
        clear hb hc
        obtain ⟨nq, pq, qq, Q, nr, pr, qr, R, ba, bb, b4, b5, b6, b7, GQ, GR, lQ, lR, HB⟩ := QS
        have FIN : Hid (Qs w wc n1 (.slice a1 A.length c1) n2 (.slice a2 B.length c2) g6 (g6 + 1) q0 r0 (A.length + 6) (2 * B.length + 1)) := ⟨nq, pq, qq, Q, nr, pr, qr, R, ba, bb, b4, b5, b6, b7, GQ, GR, by omega, by omega, HB⟩
        go_wp2
        go_meet
        case rel => exact ⟨q0, r0, FIN.out, fun h => absurd h HC.out, fun _ => ⟨rfl, rfl⟩⟩
    case rest =>
      clear QS hyw
      obtain ⟨q1, r1, QS, hqr⟩ := hcut
      have FQ := hide (PL.out q1 r1 hqr)
      clear hqr HR HQ hr0
      obtain ⟨nq, pq, qq, Q, nr, pr, qr, R, ba, bb, b4, b5, b6, b7, GQ, GR, lQ, lR, HB⟩ := QS
      obtain ⟨ba1, ba2, ba3, ba4⟩ := ba.facts
      obtain ⟨bb1, bb2, bb3, bb4⟩ := bb.facts
      have QS := hide (show Qs w wc n1 (.slice a1 A.length c1) n2 (.slice a2 B.length c2) g6 (g6 + 1) q1 r1 (A.length + 6) (2 * B.length + 1) from ⟨nq, pq, qq, Q, nr, pr, qr, R, ba, bb, b4, b5, b6, b7, GQ, GR, lQ, lR, HB⟩)
      go_upto_if 32 with fail
      go_cut [] (fun wx => Qs w wx n1 (.slice a1 A.length c1) n2 (.slice a2 B.length c2) g6 (g6 + 1) (Lm.sg (n1 != n2) q1) r1 (A.length + 6) (2 * B.length + 1))
      case first =>
        clear ba1 ba2 ba3 ba4 bb1 bb2 bb3 bb4
        by_cases hn : n1 = n2
        · subst hn
          have hsg : Hid (Lm.sg (n1 != n1) q1 = q1) := by simp [Hid, Lm.sg]
          cases n1
          all_goals
            go_wp2
            go_meet
            case rel => exact (by rw [hsg.out]; exact QS.out)
        · have hn2 : n2 = !n1 := by cases n1 <;> cases n2 <;> simp_all
          subst hn2
          have hsg : Hid (Lm.sg (n1 != !n1) q1 = -q1) := by cases n1 <;> simp [Hid, Lm.sg]
          obtain ⟨b61, b62, b63, b64⟩ := b6.facts
          clear hn
          cases n1
          all_goals
            go_wp2_with fail
            refine (minus_g _ _ _ _ Q _ GQ (by omega)).mono ?_
            rintro e w6 ⟨m2, p2, q2, r2, rfl, G2, l2, hb6⟩
            replace b6 := b6.below hb6
            have FIN := hide ((QS.out.below hb6).set6 h67 (by omega) G2 (L := A.length + 6) (by omega))
            clear b61 b62 b63 b64
            obtain ⟨b61, b62, b63, b64⟩ := b6.facts
            go_wp2
            go_meet
            case rel => exact (by rw [hsg.out]; exact FIN.out)
      case rest =>
        clear ba bb b4 b5 b6 b7 GQ GR lQ lR HB ba1 ba2 ba3 ba4 bb1 bb2 bb3 bb4 QS
        have QS := hcut
        obtain ⟨nq, pq, qq, Q, nr, pr, qr, R, ba, bb, b4, b5, b6, b7, GQ, GR, lQ, lR, HB⟩ := QS
        rw [FQ.out.1] at GQ
        rw [FQ.out.2] at GR
        clear ba bb
        have ne1 : ¬ (w.heap.size + 1 + 1 = g6) := by omega
        have ne2 : ¬ (w.heap.size + 1 + 1 + 1 = g6) := by omega
        have ne3 : ¬ (w.heap.size + 1 = g6) := by omega
        obtain ⟨b61, b62, b63, b64⟩ := b6.facts
        obtain ⟨b71, b72, b73, b74⟩ := b7.facts
        obtain ⟨b41, b42, b43, b44⟩ := b4.facts
        obtain ⟨b51, b52, b53, b54⟩ := b5.facts
        have F1 := hide (box_past (b4.set nq (.slice pq Q.length qq)) (show w.heap.size + 1 + 1 ≠ w.heap.size + 1 + 1 + 1 by omega) (.bool nr) (.slice pr R.length qr)).facts
        have b5' := box_past b5 (show w.heap.size + 1 + 1 + 1 ≠ w.heap.size + 1 + 1 by omega) (.bool nq) (.slice pq Q.length qq)
        have F2 := hide (b5'.set nr (.slice pr R.length qr)).facts
        have Y1 := hide (b5'.wh nr (.slice pr R.length qr) (b4.wh nq (.slice pq Q.length qq) GQ))
        have Y2 := hide (b5'.wh nr (.slice pr R.length qr) (b4.wh nq (.slice pq Q.length qq) GR))
        have Z2 := hide (below_set2 (below_set2 HB (show w.heap.size ≤ w.heap.size + 1 + 1 by omega) (.bool nq) (.slice pq Q.length qq)) (show w.heap.size ≤ w.heap.size + 1 + 1 + 1 by omega) (.bool nr) (.slice pr R.length qr))
        clear b5'
        go_wp2_with fail
        go_region_held3 (fun w' => w'.cell? ⟨g6, 0, none⟩ = some (.bool nq) ∧ w'.cell? ⟨g6, 1, none⟩ = some (.slice pq Q.length qq) ∧ w'.cell? ⟨g6 + 1, 0, none⟩ = some (.bool nr) ∧ w'.cell? ⟨g6 + 1, 1, none⟩ = some (.slice pr R.length qr)) (go_keep) (fail)
        all_goals
          go_wp2
          refine bodyPost_ret (v := .tuple #[.agg #[.bool nq, .slice pq Q.length qq], .agg #[.bool nr, .slice pr R.length qr]]) ?_ rfl ⟨nq, pq, qq, Q, nr, pr, qr, R, rfl, Y1.out, Y2.out, by omega, by omega, Below.drew Z2.out⟩
          simp [results, Try.results54, go_sem, F1.out.1, F1.out.2.1, F2.out.1, F2.out.2.1]

end Dm
end Go.Proofs.Ytkdcgnooeojjgab

namespace Go.Proofs.Ytkdcgnooeojjgab
namespace Dm
open Go.RowKit
open Lm (hide lt_of_cell lt_of_heap)

theorem natAbs_id {x : Int} (h : 0 ≤ x) : ((x.natAbs : Nat) : Int) = x := by omega

set_option maxRecDepth 20000 in
set_option maxHeartbeats 400000 in
theorem nsign_zero (w : World) (ng : Bool) (ao : Option Addr) (cap : Nat) :
    Calls Try.prog 50 #[.agg #[.bool ng, .slice ao 0 cap]] w fun e w' => e = .returned (.int .i64 0) ∧ Below w.heap.size w w' := by
  have hb : Below w.heap.size w (w.alloc (.cells #[.bool ng, .slice ao 0 cap] 66)) := (Below.refl _ _).alloc (Nat.le_refl _) _
  go_enter Try.func50, Try.ntmps50
  go_wp2
  go_ret
  exact ⟨rfl, hb⟩

set_option maxRecDepth 20000 in
set_option maxHeartbeats 400000 in
theorem nsign_neg (w : World) (ao : Option Addr) (n cap : Nat) (h0 : ¬ n = 0) :
    Calls Try.prog 50 #[.agg #[.bool true, .slice ao n cap]] w fun e w' => e = .returned (.int .i64 (-1)) ∧ Below w.heap.size w w' := by
  have hb : Below w.heap.size w (w.alloc (.cells #[.bool true, .slice ao n cap] 66)) := (Below.refl _ _).alloc (Nat.le_refl _) _
  have hl2 : (((n : Nat) : Int) == 0) = false := by simp; omega
  clear h0
  go_enter Try.func50, Try.ntmps50
  go_wp2
  go_ret
  exact ⟨rfl, hb⟩
set_option maxRecDepth 20000 in
set_option maxHeartbeats 400000 in
theorem nsign_pos (w : World) (ao : Option Addr) (n cap : Nat) (h0 : ¬ n = 0) :
    Calls Try.prog 50 #[.agg #[.bool false, .slice ao n cap]] w fun e w' => e = .returned (.int .i64 1) ∧ Below w.heap.size w w' := by
  have hb : Below w.heap.size w (w.alloc (.cells #[.bool false, .slice ao n cap] 66)) := (Below.refl _ _).alloc (Nat.le_refl _) _
  have hl2 : (((n : Nat) : Int) == 0) = false := by simp; omega
  clear h0
  go_enter Try.func50, Try.ntmps50
  go_wp2
  go_ret
  exact ⟨rfl, hb⟩
theorem nsign_z (w : World) (ng : Bool) (ao : Option Addr) (cap : Nat) (rs : List Int) (z : Int) (h : Wh w ng ao cap rs z) :
    Calls Try.prog 50 #[.agg #[.bool ng, .slice ao rs.length cap]] w fun e w' => e = .returned (.int .i64 (Int.sign z)) ∧ Below w.heap.size w w' := by
  by_cases h0 : rs.length = 0
  · have hz : z = 0 := h.zero.2 (List.eq_nil_of_length_eq_zero h0)
    rw [hz, h0]
    exact nsign_zero w ng ao cap
  · have hz : z ≠ 0 := fun e => h0 (by rw [h.zero.1 e]; rfl)
    cases ng with
    | true =>
      have hn : z < 0 := by have := h.2; simpa using this.symm
      rw [Int.sign_eq_neg_one_of_neg hn]
      exact nsign_neg w ao _ cap h0
    | false =>
      have hn : 0 < z := by have := h.2; simp at this; omega
      rw [Int.sign_eq_one_of_pos hn]
      exact nsign_pos w ao _ cap h0

/-- What a list of limbs is worth, whatever its sign, is below the base's power. -/
theorem ag_bound {w : World} {ng : Bool} {a : Option Addr} {n c : Nat} {xs : List Int} {x : Int} (h : Lm.Ag w ng a n c xs x) : (x.natAbs : Int) < Lm.pw xs.length := by
  have h1 := Lm.val_bounds h.sl.parts.2.2.2
  have h2 := h.worth
  cases ng <;> simp [Lm.sg] at h2 <;> omega

theorem lbox_past {w : World} {g : Nat} {ng : Bool} {v : Value} (h : Lm.Box w g ng v) {k : Nat} (hne : g ≠ k) (b u : Value) : Lm.Box ((w.setCell ⟨k, 0, none⟩ b).setCell ⟨k, 1, none⟩ u) g ng v := by
  unfold Lm.Box
  rw [heap_setCell_other _ ⟨k, 1, none⟩ g _ hne, heap_setCell_other _ ⟨k, 0, none⟩ g _ hne]
  exact h

theorem gcd_abs (x y : Int) : Int.gcd (x.natAbs : Int) (y.natAbs : Int) = Int.gcd x y := by simp [Int.gcd]

theorem gcd_bound {x y : Int} {m n : Nat} (hx : (x.natAbs : Int) < Lm.pw m) (hy : (y.natAbs : Int) < Lm.pw n) : (((Int.gcd (x.natAbs : Int) (y.natAbs : Int) : Nat) : Int).natAbs : Int) < Lm.pw (m + n + 1) := by
  have a1 := Lm.pw_mono (m := m) (n := m + n) (by omega)
  have a2 := Lm.pw_mono (m := n) (n := m + n) (by omega)
  have b : ((Int.gcd (x.natAbs : Int) (y.natAbs : Int) : Nat) : Int) ≤ (x.natAbs : Int) + (y.natAbs : Int) := by
    by_cases h : (x.natAbs : Int) = 0
    · rw [h, Int.gcd_zero_left]; omega
    · have := Int.le_of_dvd (by omega) (Int.gcd_dvd_left (x.natAbs : Int) (y.natAbs : Int))
      omega
  rw [Lm.pw]
  have := Lm.pw_pos (m + n)
  omega

end Dm
end Go.Proofs.Ytkdcgnooeojjgab

namespace Go.Proofs.Ytkdcgnooeojjgab
namespace Dm
open Go Go.RowKit
theorem Sl.rl {w w' : World} {v : Value} {zs : List Int} (h : Sl w v zs) (hr : Lm.Rl w w') : Sl w' v zs := by
  obtain ⟨ao, cap, rfl, h1, h2, h3, h4⟩ := h
  refine ⟨ao, cap, rfl, h1, h2, h3, ?_⟩
  rcases h4 with h4 | ⟨b, off, rfl, hc⟩
  · exact .inl h4
  · exact .inr ⟨b, off, rfl, fun i hi => hr.ints _ _ _ (hc i hi)⟩
theorem Wh.rl {w w' : World} {ng : Bool} {ao : Option Addr} {cap : Nat} {rs : List Int} {z : Int} (h : Wh w ng ao cap rs z) (hr : Lm.Rl w w') : Wh w' ng ao cap rs z := ⟨⟨h.1.1.rl hr, h.1.2⟩, h.2⟩
theorem pw_small (n : Nat) : pw n ≤ Lm.pw n := by
  induction n with
  | zero => simp [pw, Lm.pw]
  | succ n ih =>
    have := pw_pos n
    simp only [pw, Lm.pw]
    omega
theorem Wh.bound {w : World} {ng : Bool} {ao : Option Addr} {cap : Nat} {rs : List Int} {z : Int} {L : Nat} (h : Wh w ng ao cap rs z) (hl : rs.length ≤ L) : (z.natAbs : Int) < Lm.pw L := by
  have h1 := (val_bounds h.1.canon.1).2
  rw [h.1.val] at h1
  have h2 := pw_mono hl
  have h3 := pw_small L
  omega
theorem Wh.some {w : World} {ng : Bool} {ao : Option Addr} {cap : Nat} {rs : List Int} {z : Int} (h : Wh w ng ao cap rs z) (hz : z ≠ 0) : 0 < rs.length := by
  apply Classical.byContradiction
  intro hn
  exact hz (h.zero.2 (List.eq_nil_of_length_eq_zero (by omega)))
end Dm
namespace Lm
open Go Go.RowKit

/-- The document's own numbers; its fractions. -/
def N2 : BoxTy := ⟨66, .agg #[.bool false, .slice none 0 0], fun v cs => ∃ ng ao n c, v = .agg #[.bool ng, .slice ao n c] ∧ cs = #[.bool ng, .slice ao n c]⟩
theorem N2ok : BoxOk Try.prog N2 where
  noInt := by
    rintro v cs ⟨ng, ao, n, c, rfl, rfl⟩ i k z
    match i with
    | 0 => simp
    | 1 => simp
    | i + 2 => simp
  ne := by unfold N2; exact ⟨by decide, by decide⟩
  alloc := fun w => ⟨#[.bool false, .slice none 0 0], ⟨_, _, _, _, rfl, rfl⟩, by unfold N2; go_simp⟩
  box := by
    rintro w v ⟨cs, ng, ao, n, c, rfl, rfl⟩
    exact ⟨_, ⟨_, _, _, _, rfl, rfl⟩, by unfold N2; go_simp⟩
  store := by
    rintro w g v0 v ⟨cs0, ⟨m, bo, p, d, rfl, rfl⟩, hh⟩ ⟨cs, ng, ao, n, c, rfl, rfl⟩
    have hb : Dm.Box w g m (.slice bo p d) := hh
    obtain ⟨b1, b2, b3, b4⟩ := hb.facts
    refine ⟨(w.setCell ⟨g, 0, none⟩ (.bool ng)).setCell ⟨g, 1, none⟩ (.slice ao n c), ?_, ⟨_, ⟨_, _, _, _, rfl, rfl⟩, hb.set ng (.slice ao n c)⟩, ⟨rfl, rfl, rfl, by simp [World.setCell], fun k hk => ?_⟩⟩
    · unfold N2
      go_simp
    · rw [Below.heap_setCell _ _ _ _ (by simpa using hk), Below.heap_setCell _ _ _ _ (by simpa using hk)]
  load := by
    rintro w g v ⟨cs, ⟨ng, ao, n, c, rfl, rfl⟩, hh⟩
    obtain ⟨b1, b2, b3, b4⟩ := (show Dm.Box w g ng (.slice ao n c) from hh).facts
    unfold N2
    go_simp

def Q4 : BoxTy := ⟨68, .agg #[.bool false, .slice none 0 0, .bool false, .slice none 0 0], fun v cs => ∃ ng ao n c mg bo m d, v = .agg #[.bool ng, .slice ao n c, .bool mg, .slice bo m d] ∧ cs = #[.bool ng, .slice ao n c, .bool mg, .slice bo m d]⟩
theorem q4_facts {w : World} {g : Nat} {x y z u : Value} {T : TypeId} (h : w.heap[g]? = some (.cells #[x, y, z, u] T (0, 0))) : w.cell? ⟨g, 0, none⟩ = some x ∧ w.cell? ⟨g, 1, none⟩ = some y ∧ w.cell? ⟨g, 2, none⟩ = some z ∧ w.cell? ⟨g, 3, none⟩ = some u ∧ w.frozen? ⟨g, 0, none⟩ = false ∧ w.frozen? ⟨g, 1, none⟩ = false ∧ w.frozen? ⟨g, 2, none⟩ = false ∧ w.frozen? ⟨g, 3, none⟩ = false :=
  ⟨by rw [cell_of_row _ _ _ _ _ (0, 0) h]; rfl, by rw [cell_of_row _ _ _ _ _ (0, 0) h]; rfl, by rw [cell_of_row _ _ _ _ _ (0, 0) h]; rfl, by rw [cell_of_row _ _ _ _ _ (0, 0) h]; rfl, frozen_of_row _ _ _ _ _ h, frozen_of_row _ _ _ _ _ h, frozen_of_row _ _ _ _ _ h, frozen_of_row _ _ _ _ _ h⟩
theorem Q4ok : BoxOk Try.prog Q4 where
  noInt := by
    rintro v cs ⟨ng, ao, n, c, mg, bo, m, d, rfl, rfl⟩ i k z
    match i with
    | 0 => simp
    | 1 => simp
    | 2 => simp
    | 3 => simp
    | i + 4 => simp
  ne := by unfold Q4; exact ⟨by decide, by decide⟩
  alloc := fun w => ⟨#[.bool false, .slice none 0 0, .bool false, .slice none 0 0], ⟨_, _, _, _, _, _, _, _, rfl, rfl⟩, by unfold Q4; go_simp⟩
  box := by
    rintro w v ⟨cs, ng, ao, n, c, mg, bo, m, d, rfl, rfl⟩
    exact ⟨_, ⟨_, _, _, _, _, _, _, _, rfl, rfl⟩, by unfold Q4; go_simp⟩
  store := by
    rintro w g v0 v ⟨cs0, ⟨m, bo, p, d, mg, b2, d2, e2, rfl, rfl⟩, hh⟩ ⟨cs, ng, ao, n, c, m2, co, q, f, rfl, rfl⟩
    obtain ⟨b1, b2, b3, b4, b5, b6, b7, b8⟩ := q4_facts hh
    have h1 := heap_setCell_same w g 0 _ _ (.bool ng) hh
    have h2 := heap_setCell_same _ g 1 _ _ (.slice ao n c) h1
    have h3 := heap_setCell_same _ g 2 _ _ (.bool m2) h2
    have h4 := heap_setCell_same _ g 3 _ _ (.slice co q f) h3
    refine ⟨(((w.setCell ⟨g, 0, none⟩ (.bool ng)).setCell ⟨g, 1, none⟩ (.slice ao n c)).setCell ⟨g, 2, none⟩ (.bool m2)).setCell ⟨g, 3, none⟩ (.slice co q f), ?_, ⟨_, ⟨_, _, _, _, _, _, _, _, rfl, rfl⟩, h4⟩, ⟨rfl, rfl, rfl, by simp [World.setCell], fun k hk => ?_⟩⟩
    · unfold Q4
      go_simp
    · rw [Below.heap_setCell _ _ _ _ (by simpa using hk), Below.heap_setCell _ _ _ _ (by simpa using hk), Below.heap_setCell _ _ _ _ (by simpa using hk), Below.heap_setCell _ _ _ _ (by simpa using hk)]
  load := by
    rintro w g v ⟨cs, ⟨ng, ao, n, c, mg, bo, m, d, rfl, rfl⟩, hh⟩
    obtain ⟨b1, b2, b3, b4, b5, b6, b7, b8⟩ := q4_facts hh
    unfold Q4
    go_simp

def OutN (z : Int) (L : Nat) : Says := fun v w => ∃ ng ao cap rs, v = .agg #[.bool ng, .slice ao rs.length cap] ∧ Dm.Wh w ng ao cap rs z ∧ rs.length ≤ L
def OutQ (p q : Int) (L : Nat) : Says := fun v w => ∃ ng ao cap rs mg bo dap ss, v = .agg #[.bool ng, .slice ao rs.length cap, .bool mg, .slice bo ss.length dap] ∧ Dm.Wh w ng ao cap rs p ∧ Dm.Wh w mg bo dap ss q ∧ rs.length ≤ L ∧ ss.length ≤ L
theorem OutN.mono4 (z : Int) (L : Nat) : Mono4 (OutN z L) := fun _ _ _ hb ⟨ng, ao, cap, rs, e, h, l⟩ => ⟨ng, ao, cap, rs, e, h.rl hb, l⟩
theorem OutQ.mono4 (p q : Int) (L : Nat) : Mono4 (OutQ p q L) := fun _ _ _ hb ⟨ng, ao, cap, rs, mg, bo, dap, ss, e, h, h', l, l'⟩ => ⟨ng, ao, cap, rs, mg, bo, dap, ss, e, h.rl hb, h'.rl hb, l, l'⟩
theorem OutN.to {z z' : Int} {L L' : Nat} {v : Value} {w : World} (h : OutN z L v w) (e : z = z') (hl : L ≤ L') : OutN z' L' v w := by
  subst e
  obtain ⟨ng, ao, cap, rs, e', h, l⟩ := h
  exact ⟨ng, ao, cap, rs, e', h, Nat.le_trans l hl⟩
theorem OutQ.to {p q p' q' : Int} {L L' : Nat} {v : Value} {w : World} (h : OutQ p q L v w) (e : p = p') (e' : q = q') (hl : L ≤ L') : OutQ p' q' L' v w := by
  subst e e'
  obtain ⟨ng, ao, cap, rs, mg, bo, dap, ss, e, h, h', l, l'⟩ := h
  exact ⟨ng, ao, cap, rs, mg, bo, dap, ss, e, h, h', Nat.le_trans l hl, Nat.le_trans l' hl⟩
theorem OutN.cs {z : Int} {L : Nat} (v : Value) (w : World) (h : OutN z L v w) : ∃ cs, N2.Cs v cs := by
  obtain ⟨ng, ao, cap, rs, rfl, _⟩ := h
  exact ⟨_, _, _, _, _, rfl, rfl⟩
theorem OutQ.cs {p q : Int} {L : Nat} (v : Value) (w : World) (h : OutQ p q L v w) : ∃ cs, Q4.Cs v cs := by
  obtain ⟨ng, ao, cap, rs, mg, bo, dap, ss, rfl, _⟩ := h
  exact ⟨_, _, _, _, _, _, _, _, _, rfl, rfl⟩
theorem n2_cs {ng : Bool} {ao : Option Addr} {n c : Nat} : ∃ cs, N2.Cs (.agg #[.bool ng, .slice ao n c]) cs := ⟨_, _, _, _, _, rfl, rfl⟩
theorem q4_cs {ng mg : Bool} {ao bo : Option Addr} {n c m d : Nat} : ∃ cs, Q4.Cs (.agg #[.bool ng, .slice ao n c, .bool mg, .slice bo m d]) cs := ⟨_, _, _, _, _, _, _, _, _, rfl, rfl⟩
theorem outn_eq {v : Value} {w : World} {ng : Bool} {ao : Option Addr} {c : Nat} {rs : List Int} {z : Int} {L : Nat} (h : v = .agg #[.bool ng, .slice ao rs.length c]) (hA : Dm.Wh w ng ao c rs z) (hl : rs.length ≤ L) : OutN z L v w := ⟨_, _, _, _, h, hA, hl⟩
theorem outq_eq {v : Value} {w : World} {ng mg : Bool} {ao bo : Option Addr} {c d : Nat} {rs ss : List Int} {p q : Int} {L : Nat} (h : v = .agg #[.bool ng, .slice ao rs.length c, .bool mg, .slice bo ss.length d]) (hA : Dm.Wh w ng ao c rs p) (hB : Dm.Wh w mg bo d ss q) (hl : rs.length ≤ L) (hl' : ss.length ≤ L) : OutQ p q L v w := ⟨_, _, _, _, _, _, _, _, h, hA, hB, hl, hl'⟩
theorem n2_row {w : World} {g : Nat} {ng : Bool} {ao : Option Addr} {n c : Nat} (h : BoxV N2 w g (.agg #[.bool ng, .slice ao n c])) : Dm.Box w g ng (.slice ao n c) := by
  obtain ⟨cs, ⟨_, _, _, _, e, rfl⟩, h⟩ := h
  simp only [Value.agg.injEq] at e
  simp only [Array.mk.injEq, List.cons.injEq, Value.bool.injEq, Value.slice.injEq, and_true] at e
  obtain ⟨rfl, rfl, rfl, rfl⟩ := e
  exact h
theorem q4_row {w : World} {g : Nat} {ng mg : Bool} {ao bo : Option Addr} {n c m d : Nat} (h : BoxV Q4 w g (.agg #[.bool ng, .slice ao n c, .bool mg, .slice bo m d])) : w.heap[g]? = some (.cells #[.bool ng, .slice ao n c, .bool mg, .slice bo m d] 68 (0, 0)) := by
  obtain ⟨cs, ⟨_, _, _, _, _, _, _, _, e, rfl⟩, h⟩ := h
  simp only [Value.agg.injEq] at e
  simp only [Array.mk.injEq, List.cons.injEq, Value.bool.injEq, Value.slice.injEq, and_true] at e
  obtain ⟨rfl, ⟨rfl, rfl, rfl⟩, rfl, rfl, rfl, rfl⟩ := e
  exact h
theorem lv_N2 {w : World} {g : Nat} {v : Value} (h : BoxV N2 w g v) : (loadVar 66 ⟨g, 0, none⟩).run Try.prog w = .ok v w := by
  obtain ⟨cs, ⟨ng, ao, n, c, rfl, rfl⟩, hh⟩ := h
  obtain ⟨b1, b2, b3, b4⟩ := (show Dm.Box w g ng (.slice ao n c) from hh).facts
  go_simp
theorem lv_Q4 {w : World} {g : Nat} {v : Value} (h : BoxV Q4 w g v) : (loadVar 68 ⟨g, 0, none⟩).run Try.prog w = .ok v w := by
  obtain ⟨cs, ⟨ng, ao, n, c, mg, bo, m, d, rfl, rfl⟩, hh⟩ := h
  obtain ⟨b1, b2, b3, b4, b5, b6, b7, b8⟩ := q4_facts hh
  go_simp

section
variable {dst : Option Tmp} {ty : TypeId} {pos : String} {after : Array Edge} {guard : Option (Nat × Bool)} {a : Act} {w : World} {ats : Array TypeId} {i j k g : Nat} {x y z p q : Int} {L L1 L2 : Nat}
theorem op_faN {f off : Nat} (hf : ∀ w : World, (Instr.fieldAt 66 (.pointer (some ⟨g, 0, none⟩)) f).run Try.prog w = .ok (.pointer (some ⟨g, off, none⟩)) w) (hp : a.eval (.tmp k) = .pointer (some ⟨g, 0, none⟩)) :
    Does Try.prog { dst, op := .fieldAddr 66 (.tmp k) f, type := ty, pos, after, guard } a.eval w fun v' w' => Below w.heap.size w w' ∧ Eqs (.pointer (some ⟨g, off, none⟩)) v' w' := by
  refine ⟨?_⟩
  unfold Turns
  simp only [execOp, hp]
  simp [hf]
  exact ⟨Below.refl _ _, rfl⟩
theorem fa_nneg (w : World) : (Instr.fieldAt 66 (.pointer (some ⟨g, 0, none⟩)) 0).run Try.prog w = .ok (.pointer (some ⟨g, 0, none⟩)) w := by go_simp
theorem op_faQ {f off : Nat} (hf : ∀ w : World, (Instr.fieldAt 68 (.pointer (some ⟨g, 0, none⟩)) f).run Try.prog w = .ok (.pointer (some ⟨g, off, none⟩)) w) (hp : a.eval (.tmp k) = .pointer (some ⟨g, 0, none⟩)) :
    Does Try.prog { dst, op := .fieldAddr 68 (.tmp k) f, type := ty, pos, after, guard } a.eval w fun v' w' => Below w.heap.size w w' ∧ Eqs (.pointer (some ⟨g, off, none⟩)) v' w' := by
  refine ⟨?_⟩
  unfold Turns
  simp only [execOp, hp]
  simp [hf]
  exact ⟨Below.refl _ _, rfl⟩
theorem fa_q0 (w : World) : (Instr.fieldAt 68 (.pointer (some ⟨g, 0, none⟩)) 0).run Try.prog w = .ok (.pointer (some ⟨g, 0, none⟩)) w := by go_simp
theorem fa_q1 (w : World) : (Instr.fieldAt 68 (.pointer (some ⟨g, 0, none⟩)) 1).run Try.prog w = .ok (.pointer (some ⟨g, 2, none⟩)) w := by go_simp
theorem op_ldnneg {ng : Bool} {ao : Option Addr} {n c : Nat} (hp : a.eval (.tmp k) = .pointer (some ⟨g, 0, none⟩)) (hb : BoxV N2 w g (.agg #[.bool ng, .slice ao n c])) :
    Does Try.prog { dst, op := .load 4 (.tmp k), type := ty, pos, after, guard } a.eval w fun v' w' => Below w.heap.size w w' ∧ Eqs (.bool ng) v' w' := by
  obtain ⟨b1, b2, b3, b4⟩ := (n2_row hb).facts
  refine does_load (v := .bool ng) ?_ ⟨Below.refl _ _, rfl⟩
  rw [hp]
  go_simp
theorem op_ldq0 {ng mg : Bool} {ao bo : Option Addr} {n c m d : Nat} (hp : a.eval (.tmp k) = .pointer (some ⟨g, 0, none⟩)) (hb : BoxV Q4 w g (.agg #[.bool ng, .slice ao n c, .bool mg, .slice bo m d])) :
    Does Try.prog { dst, op := .load 66 (.tmp k), type := ty, pos, after, guard } a.eval w fun v' w' => Below w.heap.size w w' ∧ Eqs (.agg #[.bool ng, .slice ao n c]) v' w' := by
  obtain ⟨b1, b2, b3, b4, b5, b6, b7, b8⟩ := q4_facts (q4_row hb)
  refine does_load (v := .agg #[.bool ng, .slice ao n c]) ?_ ⟨Below.refl _ _, rfl⟩
  rw [hp]
  go_simp
theorem op_ldq1 {ng mg : Bool} {ao bo : Option Addr} {n c m d : Nat} (hp : a.eval (.tmp k) = .pointer (some ⟨g, 2, none⟩)) (hb : BoxV Q4 w g (.agg #[.bool ng, .slice ao n c, .bool mg, .slice bo m d])) :
    Does Try.prog { dst, op := .load 66 (.tmp k), type := ty, pos, after, guard } a.eval w fun v' w' => Below w.heap.size w w' ∧ Eqs (.agg #[.bool mg, .slice bo m d]) v' w' := by
  obtain ⟨b1, b2, b3, b4, b5, b6, b7, b8⟩ := q4_facts (q4_row hb)
  refine does_load (v := .agg #[.bool mg, .slice bo m d]) ?_ ⟨Below.refl _ _, rfl⟩
  rw [hp]
  go_simp
theorem op_bQ (h1 : OutN p L (a.eval (.tmp i)) w) (h2 : OutN q L (a.eval (.tmp j)) w) : Does Try.prog { dst, op := .build 68 #[(0, .tmp i), (1, .tmp j)], type := ty, pos, after, guard } a.eval w fun v' w' => Below w.heap.size w w' ∧ OutQ p q L v' w' := by
  obtain ⟨ng, ao, cap, rs, e1, W1, l1⟩ := h1
  obtain ⟨mg, bo, dap, ss, e2, W2, l2⟩ := h2
  have e : (execOp a.eval { dst, op := .build 68 #[(0, .tmp i), (1, .tmp j)], type := ty, pos, after, guard }).run Try.prog w = .ok (.value (.agg #[.bool ng, .slice ao rs.length cap, .bool mg, .slice bo ss.length dap])) w := by
    simp only [execOp, List.map_toArray, List.map_nil, List.map_cons, e1, e2]
    go_simp
  refine ⟨?_⟩
  unfold Turns
  rw [e]
  exact ⟨Below.refl _ _, outq_eq rfl W1 W2 l1 l2⟩

theorem has_nof : Has Try.prog 58 := by unfold Has; kernel_rfl
theorem op_nof (h : IsW z L (a.eval (.tmp i)) w) (hL : L ≤ 100000) :
    Does Try.prog { dst, op := .call { callee := .value (.func 58), args := #[.tmp i], argTypes := ats }, type := ty, pos, after, guard } a.eval w fun v w' => Below w.heap.size w w' ∧ OutN z (3 * L) v w' := by
  obtain ⟨n1, a1, m1, c1, xs, e1, A1, l1⟩ := h
  refine does_call has_nof _ (by simp only [List.map_toArray, List.map_cons, List.map_nil, e1]) ((Dm.nof_z w _ _ _ _ xs z A1 (by omega)).mono ?_)
  rintro e w' ⟨ng, ao, cap, rs, rfl, G, l, hb⟩
  exact ⟨_, rfl, hb, _, _, _, _, rfl, G, by omega⟩
theorem has_nint : Has Try.prog 48 := by unfold Has; kernel_rfl
theorem op_nint {v : Int} (h1 : -9223372036854775808 ≤ v) (h2 : v ≤ 9223372036854775807) :
    Does Try.prog { dst, op := .call { callee := .value (.func 48), args := #[.const (.int .i64 v)], argTypes := ats }, type := ty, pos, after, guard } a.eval w fun v' w' => Below w.heap.size w w' ∧ OutN v 5 v' w' := by
  refine does_call has_nint _ (by simp only [List.map_toArray, List.map_cons, List.map_nil, Act.eval]) ((Dm.nint_any w v h1 h2).mono ?_)
  rintro e w' ⟨ng, ao, cap, rs, rfl, G, l, hb⟩
  exact ⟨_, rfl, hb, _, _, _, _, rfl, G, l⟩
theorem has_nsign : Has Try.prog 50 := by unfold Has; kernel_rfl
theorem op_nsign (h : OutN z L (a.eval (.tmp i)) w) :
    Does Try.prog { dst, op := .call { callee := .value (.func 50), args := #[.tmp i], argTypes := ats }, type := ty, pos, after, guard } a.eval w fun v w' => Below w.heap.size w w' ∧ Eqs (.int .i64 (Int.sign z)) v w' := by
  obtain ⟨ng, ao, cap, rs, e1, W, l⟩ := h
  refine does_call has_nsign _ (by simp only [List.map_toArray, List.map_cons, List.map_nil, e1]) ((Dm.nsign_z w _ _ _ _ _ W).mono ?_)
  rintro e w' ⟨rfl, hb⟩
  exact ⟨_, rfl, hb, rfl⟩
theorem has_nminus : Has Try.prog 85 := by unfold Has; kernel_rfl
theorem op_nminus (h : OutN z L (a.eval (.tmp i)) w) (hL : L ≤ 1000000) :
    Does Try.prog { dst, op := .call { callee := .value (.func 85), args := #[.tmp i], argTypes := ats }, type := ty, pos, after, guard } a.eval w fun v w' => Below w.heap.size w w' ∧ OutN (-z) L v w' := by
  obtain ⟨ng, ao, cap, rs, e1, W, l⟩ := h
  refine does_call has_nminus _ (by simp only [List.map_toArray, List.map_cons, List.map_nil, e1]) ((Dm.minus_g w _ _ _ _ _ W (by omega)).mono ?_)
  rintro e w' ⟨ng, ao, cap, rs, rfl, G, l, hb⟩
  exact ⟨_, rfl, hb, _, _, _, _, rfl, G, by omega⟩
theorem has_ngcd : Has Try.prog 86 := by unfold Has; kernel_rfl
theorem op_ngcd (h1 : OutN x L1 (a.eval (.tmp i)) w) (h2 : OutN y L2 (a.eval (.tmp j)) w) (hL : L1 ≤ 300000) (hL' : L2 ≤ 300000) :
    Does Try.prog { dst, op := .call { callee := .value (.func 86), args := #[.tmp i, .tmp j], argTypes := ats }, type := ty, pos, after, guard } a.eval w fun v w' => Below w.heap.size w w' ∧ OutN ((Int.gcd x y : Nat) : Int) (L1 + L2) v w' := by
  obtain ⟨ng, ao, cap, rs, e1, W, l⟩ := h1
  obtain ⟨mg, bo, dap, ss, e2, W', l'⟩ := h2
  refine does_call has_ngcd _ (by simp only [List.map_toArray, List.map_cons, List.map_nil, e1, e2]) ((Dm.ngcd_g w ng ao cap rs _ W.1 mg bo dap ss _ W'.1 (by omega) (by omega)).mono ?_)
  rintro e w' ⟨ng, ao, cap, rs, rfl, G, l, hb⟩
  rw [Dm.gcd_abs] at G
  exact ⟨_, rfl, hb, _, _, _, _, rfl, G, by omega⟩
theorem has_ndivided : Has Try.prog 81 := by unfold Has; kernel_rfl
theorem op_ndivided (h1 : OutN x L1 (a.eval (.tmp i)) w) (h2 : OutN y L2 (a.eval (.tmp j)) w) (hL : L1 ≤ 300000) (hL' : L2 ≤ 300000) (h0 : y ≠ 0) :
    Does Try.prog { dst, op := .call { callee := .value (.func 81), args := #[.tmp i, .tmp j], argTypes := ats }, type := ty, pos, after, guard } a.eval w fun v w' => Below w.heap.size w w' ∧ Tup2 (OutN ((x.natAbs : Int) / (y.natAbs : Int)) L1) (OutN ((x.natAbs : Int) % (y.natAbs : Int)) L2) v w' := by
  obtain ⟨ng, ao, cap, rs, e1, W, l⟩ := h1
  obtain ⟨mg, bo, dap, ss, e2, W', l'⟩ := h2
  refine does_call has_ndivided _ (by simp only [List.map_toArray, List.map_cons, List.map_nil, e1, e2]) ((Dm.divided_g w ng ao cap rs _ W.1 mg bo dap ss _ W'.1 (by omega) (by omega) (W'.some h0)).mono ?_)
  rintro e w' ⟨nq, pq, qq, Q, nr, pr, qr, R, rfl, G, G', l1, l2, hb⟩
  exact ⟨_, rfl, hb, _, _, rfl, ⟨_, _, _, _, rfl, G, by omega⟩, ⟨_, _, _, _, rfl, G', by omega⟩⟩
theorem has_ntold : Has Try.prog 49 := by unfold Has; kernel_rfl
theorem op_ntold (h : OutN z L (a.eval (.tmp i)) w) (hL : L ≤ 1000000) :
    Does Try.prog { dst, op := .call { callee := .value (.func 49), args := #[.tmp i], argTypes := ats }, type := ty, pos, after, guard } a.eval w fun v w' => Below w.heap.size w w' ∧ OutW z L v w' := by
  obtain ⟨ng, ao, cap, rs, e1, W, l⟩ := h
  refine does_call has_ntold _ (by simp only [List.map_toArray, List.map_cons, List.map_nil, e1]) ((Dm.told_g w _ _ _ _ _ W L (W.bound l) hL (by omega)).mono ?_)
  rintro e w' ⟨bo, dap, ls, rfl, F, l2, hb⟩
  exact ⟨_, rfl, hb, _, _, _, _, rfl, F.wh, l2⟩
theorem has_nlimbs : Has Try.prog 79 := by unfold Has; kernel_rfl
theorem op_nlimbs (h : OutN z L (a.eval (.tmp i)) w) (hL : L ≤ 1000000) (hz : 0 < z) :
    Does Try.prog { dst, op := .call { callee := .value (.func 79), args := #[.tmp i], argTypes := ats }, type := ty, pos, after, guard } a.eval w fun v w' => Below w.heap.size w w' ∧ OutL z L v w' := by
  obtain ⟨ng, ao, cap, rs, e1, W, l⟩ := h
  have hb := W.bound l
  refine does_call has_nlimbs _ (by simp only [List.map_toArray, List.map_cons, List.map_nil, e1]) ((Dm.limbs_loop w ng ao cap rs _ W.1 L hb hL (by omega) (W.some (by omega))).mono ?_)
  rintro e w' ⟨v, rfl, I, hb'⟩
  obtain ⟨ao, cap, rs, rfl, G⟩ := I.got
  have e3 : ((z.natAbs : Nat) : Int) = z := by omega
  refine ⟨_, rfl, hb', _, _, _, rfl, e3 ▸ G, canon_len G.canon (by rw [G.val]; exact hb)⟩
end

end Lm
end Go.Proofs.Ytkdcgnooeojjgab

namespace Go.Proofs.Ytkdcgnooeojjgab
namespace Lm

/-- Both by the greatest common divisor. -/
theorem low_parts (p : Int) {q : Int} (hq : q ≠ 0) : ∃ g a b : Int, 0 < g ∧ p = g * a ∧ q = g * b ∧ b ≠ 0 ∧ Int.gcd a b = 1 ∧ nm p q = Int.sign b * a ∧ dn p q = Int.sign b * b := by
  have hg := gcd_pos_right (p := p) hq
  obtain ⟨a, ha⟩ : ((Int.gcd p q : Nat) : Int) ∣ p := Int.gcd_dvd_left p q
  obtain ⟨b, hb⟩ : ((Int.gcd p q : Nat) : Int) ∣ q := Int.gcd_dvd_right p q
  have ea : p / ((Int.gcd p q : Nat) : Int) = a := by
    conv => lhs; lhs; rw [ha]
    exact Int.mul_ediv_cancel_left _ (by omega)
  have eb : q / ((Int.gcd p q : Nat) : Int) = b := by
    conv => lhs; lhs; rw [hb]
    exact Int.mul_ediv_cancel_left _ (by omega)
  have hs : Int.sign q = Int.sign b := by
    rw [hb, Int.sign_mul, Int.sign_eq_one_of_pos hg, Int.one_mul]
  have hc : Int.gcd a b = 1 := by
    have := Int.gcd_ediv_gcd_ediv_gcd (i := p) (j := q) (by omega)
    rwa [ea, eb] at this
  refine ⟨_, a, b, hg, ha, hb, ?_, hc, ?_, ?_⟩
  · rintro rfl
    rw [Int.mul_zero] at hb
    exact hq hb
  · unfold nm
    rw [ea, hs]
  · unfold dn
    rw [eb, hs]

theorem sign_self_pos {b : Int} (h : b ≠ 0) : 0 < Int.sign b * b := by
  rcases Int.lt_trichotomy b 0 with h1 | h1 | h1
  · rw [Int.sign_eq_neg_one_of_neg h1]; omega
  · exact absurd h1 h
  · rw [Int.sign_eq_one_of_pos h1]; omega

theorem dn_pos (p : Int) {q : Int} (hq : q ≠ 0) : 0 < dn p q := by
  obtain ⟨g, a, b, _, _, _, hb, _, _, e⟩ := low_parts p hq
  rw [e]
  exact sign_self_pos hb
theorem dn_ne (p : Int) {q : Int} (hq : q ≠ 0) : dn p q ≠ 0 := by
  have := dn_pos p hq
  omega
theorem low_cross (p : Int) {q : Int} (hq : q ≠ 0) : nm p q * q = p * dn p q := by
  obtain ⟨g, a, b, _, hp, hq', _, _, e1, e2⟩ := low_parts p hq
  rw [e1, e2]
  grind
theorem low_cop (p : Int) {q : Int} (hq : q ≠ 0) : Int.gcd (nm p q) (dn p q) = 1 := by
  obtain ⟨g, a, b, _, _, _, hb, hc, e1, e2⟩ := low_parts p hq
  rw [e1, e2]
  rcases Int.lt_trichotomy b 0 with h1 | h1 | h1
  · rw [Int.sign_eq_neg_one_of_neg h1]; simpa using hc
  · exact absurd h1 hb
  · rw [Int.sign_eq_one_of_pos h1]; simpa using hc

theorem dvd_cop {n d k : Int} (hc : Int.gcd n d = 1) (h : d ∣ n * k) : d ∣ k := by
  have h1 : d.natAbs ∣ n.natAbs * k.natAbs := by rw [← Int.natAbs_mul]; exact Int.natAbs_dvd_natAbs.2 h
  have hc' : Nat.Coprime d.natAbs n.natAbs := by
    unfold Nat.Coprime
    rw [Nat.gcd_comm]
    exact hc
  exact Int.natAbs_dvd_natAbs.1 (hc'.dvd_of_dvd_mul_left h1)

/-- Fractions that are one number are told alike. -/
theorem low_eq {p q p' q' : Int} (hq : q ≠ 0) (hq' : q' ≠ 0) (h : p * q' = p' * q) : nm p q = nm p' q' ∧ dn p q = dn p' q' := by
  have c1 := low_cross p hq
  have c2 := low_cross p' hq'
  have d1 := dn_pos p hq
  have d2 := dn_pos p' hq'
  have hx : nm p q * dn p' q' = nm p' q' * dn p q := by
    apply Int.eq_of_mul_eq_mul_right (Int.mul_ne_zero hq hq')
    grind
  have e1 : dn p q ∣ dn p' q' := dvd_cop (low_cop p hq) ⟨nm p' q', by rw [hx, Int.mul_comm]⟩
  have e2 : dn p' q' ∣ dn p q := dvd_cop (low_cop p' hq') ⟨nm p q, by rw [← hx, Int.mul_comm]⟩
  have e : dn p q = dn p' q' := Int.dvd_antisymm (by omega) (by omega) e1 e2
  refine ⟨?_, e⟩
  rw [e] at hx
  exact Int.eq_of_mul_eq_mul_right (by omega) hx

theorem low_eq_iff {p q p' q' : Int} (hq : q ≠ 0) (hq' : q' ≠ 0) : (nm p q = nm p' q' ∧ dn p q = dn p' q') ↔ p * q' = p' * q := by
  refine ⟨fun ⟨h1, h2⟩ => ?_, low_eq hq hq'⟩
  have c1 := low_cross p hq
  have c2 := low_cross p' hq'
  have d2 := dn_ne p' hq'
  rw [h1, h2] at c1
  apply Int.eq_of_mul_eq_mul_right d2
  grind

theorem tp_low (p : Int) {q : Int} (hq : q ≠ 0) : tp (nm p q) (dn p q) = nm p q := by rw [tp, if_neg (dn_ne p hq)]
theorem tq_low (p : Int) {q : Int} (hq : q ≠ 0) : tq (dn p q) = dn p q := by rw [tq, if_neg (dn_ne p hq)]

end Lm
end Go.Proofs.Ytkdcgnooeojjgab

namespace Go.Proofs.Ytkdcgnooeojjgab
namespace Lm

theorem fld_addc {P1 Q1 P2 Q2 : Int} (h1 : Q1 ≠ 0) (h2 : Q2 ≠ 0) : nm (P1 * Q2 + P2 * Q1) (Q1 * Q2) = nm (P2 * Q1 + P1 * Q2) (Q2 * Q1) ∧ dn (P1 * Q2 + P2 * Q1) (Q1 * Q2) = dn (P2 * Q1 + P1 * Q2) (Q2 * Q1) := by
  refine low_eq (by simp_all) (by simp_all) ?_
  grind

theorem fld_mulc {P1 Q1 P2 Q2 : Int} (h1 : Q1 ≠ 0) (h2 : Q2 ≠ 0) : nm (P1 * P2) (Q1 * Q2) = nm (P2 * P1) (Q2 * Q1) ∧ dn (P1 * P2) (Q1 * Q2) = dn (P2 * P1) (Q2 * Q1) := by
  refine low_eq (by simp_all) (by simp_all) ?_
  grind

theorem fld_adda {P1 Q1 P2 Q2 P3 Q3 : Int} (h1 : Q1 ≠ 0) (h2 : Q2 ≠ 0) (h3 : Q3 ≠ 0) : nm (tp (nm (P1 * Q2 + P2 * Q1) (Q1 * Q2)) (dn (P1 * Q2 + P2 * Q1) (Q1 * Q2)) * Q3 + P3 * tq (dn (P1 * Q2 + P2 * Q1) (Q1 * Q2))) (tq (dn (P1 * Q2 + P2 * Q1) (Q1 * Q2)) * Q3) = nm (P1 * tq (dn (P2 * Q3 + P3 * Q2) (Q2 * Q3)) + tp (nm (P2 * Q3 + P3 * Q2) (Q2 * Q3)) (dn (P2 * Q3 + P3 * Q2) (Q2 * Q3)) * Q1) (Q1 * tq (dn (P2 * Q3 + P3 * Q2) (Q2 * Q3))) ∧ dn (tp (nm (P1 * Q2 + P2 * Q1) (Q1 * Q2)) (dn (P1 * Q2 + P2 * Q1) (Q1 * Q2)) * Q3 + P3 * tq (dn (P1 * Q2 + P2 * Q1) (Q1 * Q2))) (tq (dn (P1 * Q2 + P2 * Q1) (Q1 * Q2)) * Q3) = dn (P1 * tq (dn (P2 * Q3 + P3 * Q2) (Q2 * Q3)) + tp (nm (P2 * Q3 + P3 * Q2) (Q2 * Q3)) (dn (P2 * Q3 + P3 * Q2) (Q2 * Q3)) * Q1) (Q1 * tq (dn (P2 * Q3 + P3 * Q2) (Q2 * Q3))) := by
  have b0 : Q1 * Q2 ≠ 0 := (Int.mul_ne_zero h1 h2)
  have c0 := low_cross (P1 * Q2 + P2 * Q1) b0
  have d0 := dn_ne (P1 * Q2 + P2 * Q1) b0
  rw [tp_low (P1 * Q2 + P2 * Q1) b0, tq_low (P1 * Q2 + P2 * Q1) b0]
  have b1 : Q2 * Q3 ≠ 0 := (Int.mul_ne_zero h2 h3)
  have c1 := low_cross (P2 * Q3 + P3 * Q2) b1
  have d1 := dn_ne (P2 * Q3 + P3 * Q2) b1
  rw [tp_low (P2 * Q3 + P3 * Q2) b1, tq_low (P2 * Q3 + P3 * Q2) b1]
  generalize nm (P1 * Q2 + P2 * Q1) (Q1 * Q2) = N0 at *
  generalize dn (P1 * Q2 + P2 * Q1) (Q1 * Q2) = D0 at *
  generalize nm (P2 * Q3 + P3 * Q2) (Q2 * Q3) = N1 at *
  generalize dn (P2 * Q3 + P3 * Q2) (Q2 * Q3) = D1 at *
  refine low_eq (by simp_all) (by simp_all) ?_
  apply Int.eq_of_mul_eq_mul_right (show Q1 * Q2 * Q3 ≠ 0 from (Int.mul_ne_zero (Int.mul_ne_zero h1 h2) h3))
  grind

theorem fld_mula {P1 Q1 P2 Q2 P3 Q3 : Int} (h1 : Q1 ≠ 0) (h2 : Q2 ≠ 0) (h3 : Q3 ≠ 0) : nm (tp (nm (P1 * P2) (Q1 * Q2)) (dn (P1 * P2) (Q1 * Q2)) * P3) (tq (dn (P1 * P2) (Q1 * Q2)) * Q3) = nm (P1 * tp (nm (P2 * P3) (Q2 * Q3)) (dn (P2 * P3) (Q2 * Q3))) (Q1 * tq (dn (P2 * P3) (Q2 * Q3))) ∧ dn (tp (nm (P1 * P2) (Q1 * Q2)) (dn (P1 * P2) (Q1 * Q2)) * P3) (tq (dn (P1 * P2) (Q1 * Q2)) * Q3) = dn (P1 * tp (nm (P2 * P3) (Q2 * Q3)) (dn (P2 * P3) (Q2 * Q3))) (Q1 * tq (dn (P2 * P3) (Q2 * Q3))) := by
  have b0 : Q1 * Q2 ≠ 0 := (Int.mul_ne_zero h1 h2)
  have c0 := low_cross (P1 * P2) b0
  have d0 := dn_ne (P1 * P2) b0
  rw [tp_low (P1 * P2) b0, tq_low (P1 * P2) b0]
  have b1 : Q2 * Q3 ≠ 0 := (Int.mul_ne_zero h2 h3)
  have c1 := low_cross (P2 * P3) b1
  have d1 := dn_ne (P2 * P3) b1
  rw [tp_low (P2 * P3) b1, tq_low (P2 * P3) b1]
  generalize nm (P1 * P2) (Q1 * Q2) = N0 at *
  generalize dn (P1 * P2) (Q1 * Q2) = D0 at *
  generalize nm (P2 * P3) (Q2 * Q3) = N1 at *
  generalize dn (P2 * P3) (Q2 * Q3) = D1 at *
  refine low_eq (by simp_all) (by simp_all) ?_
  apply Int.eq_of_mul_eq_mul_right (show Q1 * Q2 * Q3 ≠ 0 from (Int.mul_ne_zero (Int.mul_ne_zero h1 h2) h3))
  grind

theorem fld_dist {P1 Q1 P2 Q2 P3 Q3 : Int} (h1 : Q1 ≠ 0) (h2 : Q2 ≠ 0) (h3 : Q3 ≠ 0) : nm (P1 * tp (nm (P2 * Q3 + P3 * Q2) (Q2 * Q3)) (dn (P2 * Q3 + P3 * Q2) (Q2 * Q3))) (Q1 * tq (dn (P2 * Q3 + P3 * Q2) (Q2 * Q3))) = nm (tp (nm (P1 * P2) (Q1 * Q2)) (dn (P1 * P2) (Q1 * Q2)) * tq (dn (P1 * P3) (Q1 * Q3)) + tp (nm (P1 * P3) (Q1 * Q3)) (dn (P1 * P3) (Q1 * Q3)) * tq (dn (P1 * P2) (Q1 * Q2))) (tq (dn (P1 * P2) (Q1 * Q2)) * tq (dn (P1 * P3) (Q1 * Q3))) ∧ dn (P1 * tp (nm (P2 * Q3 + P3 * Q2) (Q2 * Q3)) (dn (P2 * Q3 + P3 * Q2) (Q2 * Q3))) (Q1 * tq (dn (P2 * Q3 + P3 * Q2) (Q2 * Q3))) = dn (tp (nm (P1 * P2) (Q1 * Q2)) (dn (P1 * P2) (Q1 * Q2)) * tq (dn (P1 * P3) (Q1 * Q3)) + tp (nm (P1 * P3) (Q1 * Q3)) (dn (P1 * P3) (Q1 * Q3)) * tq (dn (P1 * P2) (Q1 * Q2))) (tq (dn (P1 * P2) (Q1 * Q2)) * tq (dn (P1 * P3) (Q1 * Q3))) := by
  have b0 : Q2 * Q3 ≠ 0 := (Int.mul_ne_zero h2 h3)
  have c0 := low_cross (P2 * Q3 + P3 * Q2) b0
  have d0 := dn_ne (P2 * Q3 + P3 * Q2) b0
  rw [tp_low (P2 * Q3 + P3 * Q2) b0, tq_low (P2 * Q3 + P3 * Q2) b0]
  have b1 : Q1 * Q2 ≠ 0 := (Int.mul_ne_zero h1 h2)
  have c1 := low_cross (P1 * P2) b1
  have d1 := dn_ne (P1 * P2) b1
  rw [tp_low (P1 * P2) b1, tq_low (P1 * P2) b1]
  have b2 : Q1 * Q3 ≠ 0 := (Int.mul_ne_zero h1 h3)
  have c2 := low_cross (P1 * P3) b2
  have d2 := dn_ne (P1 * P3) b2
  rw [tp_low (P1 * P3) b2, tq_low (P1 * P3) b2]
  generalize nm (P2 * Q3 + P3 * Q2) (Q2 * Q3) = N0 at *
  generalize dn (P2 * Q3 + P3 * Q2) (Q2 * Q3) = D0 at *
  generalize nm (P1 * P2) (Q1 * Q2) = N1 at *
  generalize dn (P1 * P2) (Q1 * Q2) = D1 at *
  generalize nm (P1 * P3) (Q1 * Q3) = N2 at *
  generalize dn (P1 * P3) (Q1 * Q3) = D2 at *
  refine low_eq (by simp_all) (by simp_all) ?_
  apply Int.eq_of_mul_eq_mul_right (show Q1 * Q2 * Q3 * Q1 ≠ 0 from (Int.mul_ne_zero (Int.mul_ne_zero (Int.mul_ne_zero h1 h2) h3) h1))
  grind

theorem fld_sub {P1 Q1 P2 Q2 : Int} (h1 : Q1 ≠ 0) (h2 : Q2 ≠ 0) : nm (tp (nm (P1 * Q2 + P2 * Q1) (Q1 * Q2)) (dn (P1 * Q2 + P2 * Q1) (Q1 * Q2)) * Q2 - P2 * tq (dn (P1 * Q2 + P2 * Q1) (Q1 * Q2))) (tq (dn (P1 * Q2 + P2 * Q1) (Q1 * Q2)) * Q2) = nm (P1) (Q1) ∧ dn (tp (nm (P1 * Q2 + P2 * Q1) (Q1 * Q2)) (dn (P1 * Q2 + P2 * Q1) (Q1 * Q2)) * Q2 - P2 * tq (dn (P1 * Q2 + P2 * Q1) (Q1 * Q2))) (tq (dn (P1 * Q2 + P2 * Q1) (Q1 * Q2)) * Q2) = dn (P1) (Q1) := by
  have b0 : Q1 * Q2 ≠ 0 := (Int.mul_ne_zero h1 h2)
  have c0 := low_cross (P1 * Q2 + P2 * Q1) b0
  have d0 := dn_ne (P1 * Q2 + P2 * Q1) b0
  rw [tp_low (P1 * Q2 + P2 * Q1) b0, tq_low (P1 * Q2 + P2 * Q1) b0]
  generalize nm (P1 * Q2 + P2 * Q1) (Q1 * Q2) = N0 at *
  generalize dn (P1 * Q2 + P2 * Q1) (Q1 * Q2) = D0 at *
  refine low_eq (by simp_all) (by simp_all) ?_
  apply Int.eq_of_mul_eq_mul_right (show Q1 * Q2 ≠ 0 from (Int.mul_ne_zero h1 h2))
  grind

theorem fld_div {P1 Q1 P2 Q2 : Int} (h1 : Q1 ≠ 0) (h2 : Q2 ≠ 0) (hp : P2 ≠ 0) : nm (tp (nm (P1 * P2) (Q1 * Q2)) (dn (P1 * P2) (Q1 * Q2)) * Q2) (tq (dn (P1 * P2) (Q1 * Q2)) * P2) = nm (P1) (Q1) ∧ dn (tp (nm (P1 * P2) (Q1 * Q2)) (dn (P1 * P2) (Q1 * Q2)) * Q2) (tq (dn (P1 * P2) (Q1 * Q2)) * P2) = dn (P1) (Q1) := by
  have b0 : Q1 * Q2 ≠ 0 := (Int.mul_ne_zero h1 h2)
  have c0 := low_cross (P1 * P2) b0
  have d0 := dn_ne (P1 * P2) b0
  rw [tp_low (P1 * P2) b0, tq_low (P1 * P2) b0]
  generalize nm (P1 * P2) (Q1 * Q2) = N0 at *
  generalize dn (P1 * P2) (Q1 * Q2) = D0 at *
  refine low_eq (by simp_all) (by simp_all) ?_
  apply Int.eq_of_mul_eq_mul_right (show Q1 * Q2 ≠ 0 from (Int.mul_ne_zero h1 h2))
  grind

theorem fld_neg {P1 Q1 : Int} (h1 : Q1 ≠ 0) : Int.sign (tp (nm (P1 * tq (dn (-(P1)) (Q1)) + tp (nm (-(P1)) (Q1)) (dn (-(P1)) (Q1)) * Q1) (Q1 * tq (dn (-(P1)) (Q1)))) (dn (P1 * tq (dn (-(P1)) (Q1)) + tp (nm (-(P1)) (Q1)) (dn (-(P1)) (Q1)) * Q1) (Q1 * tq (dn (-(P1)) (Q1))))) = 0 := by
  have c0 := low_cross (-P1) h1
  have d0 := dn_ne (-P1) h1
  rw [tp_low (-P1) h1, tq_low (-P1) h1]
  generalize nm (-P1) Q1 = N0 at *
  generalize dn (-P1) Q1 = D0 at *
  have b : Q1 * D0 ≠ 0 := Int.mul_ne_zero h1 d0
  rw [tp_low _ b]
  have e : P1 * D0 + N0 * Q1 = 0 := by grind
  rw [e]
  simp [nm]

end Lm
end Go.Proofs.Ytkdcgnooeojjgab

namespace Go.Proofs.Ytkdcgnooeojjgab
namespace Dm
open Go.RowKit
open Lm (hide lt_of_cell lt_of_heap div_of info32)

/-- What a list says as a number of 64 bits: 0, if it is longer. -/
def u64 (x : Int) : Int := if x < 18446744073709551616 then x else 0
def u64ok (x : Int) : Bool := decide (x < 18446744073709551616)

theorem long_val {rs : List Int} (h : Lm.Canon rs) (h2 : 2 < rs.length) : ¬ Lm.val rs < 18446744073709551616 := by
  have h1 := Lm.canon_low h (by intro e; subst e; simp at h2)
  have h3 := Lm.pw_mono (m := 2) (n := rs.length - 1) (by omega)
  rw [show Lm.pw 2 = 18446744073709551616 from by decide] at h3
  omega

theorem short_val {rs : List Int} (h : Lm.Limb rs) (h2 : ¬ 2 < rs.length) : Lm.val rs < 18446744073709551616 := by
  have h1 := (Lm.val_bounds h).2
  have h3 := Lm.pw_mono (m := rs.length) (n := 2) (by omega)
  rw [show Lm.pw 2 = 18446744073709551616 from by decide] at h3
  omega

theorem ret2_u64 {a b : Int} {c d : Bool} (h : a = b) (h' : c = d) : Ending.returned (.tuple #[.int .u64 a, .bool c]) = .returned (.tuple #[.int .u64 b, .bool d]) := by rw [h, h']

end Dm
end Go.Proofs.Ytkdcgnooeojjgab

namespace Go.Proofs.Ytkdcgnooeojjgab
namespace Lm
open Go.RowKit
open Dm (u64 u64ok long_val short_val ret2_u64)

theorem row_cells {w : World} {b off : Nat} {zs : List Int} (hc : ∀ i, i < zs.length → w.cell? ⟨b, off + i, none⟩ = some (.int .u32 (zs.getD i 0))) : ∀ j u, (zs.map (Value.int .u32))[j]? = some u → w.cell? ((⟨b, off, none⟩ : Addr).add j) = some u := by
  intro j u hu
  rw [List.getElem?_map] at hu
  have hj : j < zs.length := by
    apply Classical.byContradiction
    intro hn
    rw [List.getElem?_eq_none (by omega)] at hu
    cases hu
  rw [List.getElem?_eq_getElem hj] at hu
  have hcj := hc j hj
  rw [List.getD_eq_getElem?_getD, List.getElem?_eq_getElem hj] at hcj
  rw [show ((⟨b, off, none⟩ : Addr).add j) = ⟨b, off + j, none⟩ from by simp [Addr.add], hcj]
  exact hu

theorem row_one (zs : List Int) : ∀ u ∈ zs.map (Value.int .u32), u.oneCell' = true := by
  intro u hu
  obtain ⟨z, _, rfl⟩ := List.mem_map.1 hu
  rfl

set_option maxRecDepth 20000 in
set_option maxHeartbeats 400000 in
theorem copy_any (w : World) (ao : Option Addr) (n cap : Nat) (xs : List Int) (hx : Sl w (.slice ao n cap) xs) (hl : xs.length ≤ 1000000) :
    Calls Try.prog 57 #[.slice ao n cap] w fun e w' => ∃ v, e = .returned v ∧ Ow w.heap.size w' v xs ∧ Below w.heap.size w w' := by
  obtain ⟨rfl, h1, h2, h3⟩ := hx.parts
  obtain ⟨i0, hi, hz0, hz1, hz2⟩ := info_parts info32
  by_cases h0 : 0 < xs.length
  · obtain ⟨b, off, rfl, hc⟩ := hx.cells h0
    have hcells := row_cells hc
    have H3 := hide h3
    clear hc h3 hx
    go_enter Try.func57, Try.ntmps57
    go_wp2_with (at_builtin; refine wpList_append_own _ rfl (.const (.slice none 0 0)) (.tmp 3) 22 rfl w.heap.size 73 i0 (.int .u32 0) 1 4 Try.underlying22 hi hz0 hz1 hz2 rfl (by decide) _ _ _ rfl (World.ownsRow_nil _ _ _ _) ⟨b, off, none⟩ xs.length cap (xs.map (Value.int .u32)) rfl (by simp) hcells (row_one xs) (by unfold maxLen; omega) (by omega) (by simp) ?_)
    intro v' w1 hown hgrow _
    have hb1 : Below w.heap.size w w1 := (Below.refl w.heap.size w).grown hgrow (by simp) (by intro k hk; simp [Value.ownBlock] at hk)
    have how := ow_of_row (zs := xs) (by simpa using hown) H3.out
    clear hown hgrow
    go_wp2
    go_ret
    exact ⟨_, rfl, how, hb1⟩
  · have e : xs = [] := List.eq_nil_of_length_eq_zero (by omega)
    subst e
    cases ao with
    | none =>
      go_enter Try.func57, Try.ntmps57
      go_wp2
      go_ret
      exact ⟨_, rfl, ⟨none, 0, rfl, Nat.le_refl _, by simp [maxLen], limb_nil, .inl rfl⟩, Below.refl _ _⟩
    | some ad =>
      go_enter Try.func57, Try.ntmps57
      go_wp2
      go_ret
      exact ⟨_, rfl, ⟨none, 0, rfl, Nat.le_refl _, by simp [maxLen], limb_nil, .inl rfl⟩, Below.refl _ _⟩

theorem two_val {rs : List Int} (h : ¬ 2 < rs.length) : rs.getD 1 0 * 4294967296 + rs.getD 0 0 = val rs := by
  match rs, h with
  | [], _ => rfl
  | [x], _ => simp [val]
  | [x, y], _ => simp [val]; omega
  | _ :: _ :: _ :: _, h => simp at h

set_option maxRecDepth 20000 in
set_option maxHeartbeats 400000 in
theorem uint_any (w : World) (ao : Option Addr) (n cap : Nat) (xs : List Int) (hx : Sl w (.slice ao n cap) xs) :
    Calls Try.prog 96 #[.slice ao n cap] w fun e w' => e = .returned (.tuple #[.int .u64 (u64 (val xs)), .bool (u64ok (val xs))]) ∧ Below w.heap.size w w' := by
  obtain ⟨rfl, h1, h2, h3⟩ := hx.parts
  have t1 := tl_le xs
  have kc := hide (cut_any w ao _ cap xs hx)
  have hcn := canon_trim h3
  have hX : (xs.take (tl xs)).length = tl xs := by simp; omega
  by_cases hh : 2 < tl xs
  · have HL := long_val hcn (by omega)
    rw [val_take_tl] at HL
    have E1 : Hid (u64 (val xs) = 0) := by simp [Hid, u64, HL]
    have E2 : Hid (u64ok (val xs) = false) := by simp [Hid, u64ok]; omega
    have h2' : (2 : Int) < ((tl xs : Nat) : Int) := by omega
    clear HL hcn hX
    go_enter Try.func96, Try.ntmps96
    go_wp2_with fail
    refine (kc.out).mono ?_
    rintro e w' ⟨rfl, rfl⟩
    go_wp2
    go_ret2
    exact ⟨by rw [E1.out, E2.out]; rfl, Below.refl _ _⟩
  · have HL := short_val hcn.1 (by omega)
    rw [val_take_tl] at HL
    have E1 : Hid (u64 (val xs) = val (xs.take (tl xs))) := by rw [val_take_tl]; simp [Hid, u64, HL]
    have E2 : Hid (u64ok (val xs) = true) := by simp [Hid, u64ok]; omega
    have h2' : ¬ (2 : Int) < ((tl xs : Nat) : Int) := by omega
    have E3 := hide (two_val (rs := xs.take (tl xs)) (by omega))
    have b1 := limb_getD hcn.1 1
    have b0 := limb_getD hcn.1 0
    have k1 := limb_nat w _ _ hx.cut 1
    have k0 := limb_nat w _ _ hx.cut 0
    generalize (xs.take (tl xs)).getD 1 0 = y1 at E3 b1 k1
    generalize (xs.take (tl xs)).getD 0 0 = y0 at E3 b0 k0
    have K1 := hide k1
    have K0 := hide k0
    have hor : bits .or .u64 (y1 * 4294967296) y0 = y1 * 4294967296 + y0 := or_join y1 y0 b1.1 b1.2 b0.1 b0.2
    clear HL hcn hX k1 k0
    go_enter Try.func96, Try.ntmps96
    go_wp2_with fail
    refine (kc.out).mono ?_
    rintro e w' ⟨rfl, rfl⟩
    go_wp2_with fail
    refine (K1.out).mono ?_
    rintro e w' ⟨rfl, rfl⟩
    go_wp2_with fail
    refine (K0.out).mono ?_
    rintro e w' ⟨rfl, rfl⟩
    go_wp2
    go_ret2
    exact ⟨ret2_u64 (by rw [E1.out, E3.out]) E2.out.symm, Below.refl _ _⟩

theorem small_g (w : World) (n : Int) (h0 : 0 ≤ n) (h1 : n < 18446744073709551616) :
    Calls Try.prog 61 #[.int .u64 n] w fun e w' => ∃ ao cap rs, e = .returned (.slice ao rs.length cap) ∧ Got w' ao cap rs n ∧ rs.length ≤ 2 ∧ Below w.heap.size w w' := by
  refine (small_any w n h0 h1).mono ?_
  rintro e w' ⟨v, rfl, hi, hb⟩
  obtain ⟨ao, cap, rs, rfl, hg⟩ := hi.got
  refine ⟨ao, cap, rs, rfl, hg, canon_len hg.canon ?_, hb⟩
  rw [hg.val, show pw 2 = 18446744073709551616 from by decide]
  exact h1

end Lm
end Go.Proofs.Ytkdcgnooeojjgab

namespace Go.Proofs.Ytkdcgnooeojjgab
namespace Lm
open Go Go.RowKit

/-- A quotient of magnitudes with its sign. -/
def ov (x y : Int) : Int := sg (decide (x < 0) != decide (y < 0)) ((x.natAbs : Int) / (y.natAbs : Int))
theorem gcd_ne (x : Int) {y : Int} (h : y ≠ 0) : ((Int.gcd x y : Nat) : Int) ≠ 0 := by
  have := gcd_pos_right (p := x) h
  omega
theorem ov_exact {x g : Int} (hg : 0 < g) (hd : g ∣ x) : ov x g = x / g := by
  obtain ⟨k, rfl⟩ := hd
  have h1 : decide (g < 0) = false := decide_eq_false (by omega)
  have h2 : ((g.natAbs : Nat) : Int) = g := by omega
  rw [Int.mul_ediv_cancel_left _ (by omega)]
  unfold ov
  rw [h1, h2, Int.natAbs_mul]
  have h3 : ((g.natAbs * k.natAbs : Nat) : Int) = g * (k.natAbs : Int) := by
    rw [Int.natCast_mul, h2]
  rw [h3, Int.mul_ediv_cancel_left _ (by omega)]
  by_cases hk : k < 0
  · have : g * k < 0 := Int.mul_neg_of_pos_of_neg hg hk
    simp [sg, this]
    omega
  · have : ¬ g * k < 0 := by
      have := Int.mul_nonneg (show 0 ≤ g by omega) (show 0 ≤ k by omega)
      omega
    simp [sg, this]
    omega
theorem mk_pos {x y : Int} (hy : 0 < y) : ov x ((Int.gcd x y : Nat) : Int) = nm x y ∧ ov y ((Int.gcd x y : Nat) : Int) = dn x y := by
  have hg := gcd_pos_right (p := x) (show y ≠ 0 by omega)
  rw [ov_exact hg (Int.gcd_dvd_left x y), ov_exact hg (Int.gcd_dvd_right x y), nm, dn, Int.sign_eq_one_of_pos hy]
  simp
theorem mk_neg {x y : Int} (hy : y < 0) : ov (-x) ((Int.gcd (-x) (-y) : Nat) : Int) = nm x y ∧ ov (-y) ((Int.gcd (-x) (-y) : Nat) : Int) = dn x y := by
  have h := mk_pos (x := -x) (y := -y) (by omega)
  rw [h.1, h.2]
  exact low_eq (by omega) (by omega) (by grind)
/-- A copy. -/
def CopyL (xs : List Int) : Says := fun v w => ∃ ao n cap, v = .slice ao n cap ∧ Sl w (.slice ao n cap) xs
theorem CopyL.mono4 (xs : List Int) : Mono4 (CopyL xs) := fun _ _ _ hr ⟨ao, n, cap, e, h⟩ => ⟨ao, n, cap, e, h.rl hr⟩
section
variable {dst : Option Tmp} {ty : TypeId} {pos : String} {after : Array Edge} {guard : Option (Nat × Bool)} {a : Act} {w : World} {ats : Array TypeId} {i j : Nat}
theorem has_lcopy : Has Try.prog 57 := by unfold Has; kernel_rfl
theorem op_lcopy {ao : Option Addr} {n c : Nat} {xs : List Int} (h : a.eval (.tmp i) = .slice ao n c) (hs : Sl w (.slice ao n c) xs) (hl : xs.length ≤ 1000000) :
    Does Try.prog { dst, op := .call { callee := .value (.func 57), args := #[.tmp i], argTypes := ats }, type := ty, pos, after, guard } a.eval w fun v w' => Below w.heap.size w w' ∧ CopyL xs v w' := by
  refine does_call has_lcopy _ (by simp only [List.map_toArray, List.map_cons, List.map_nil, h]) ((copy_any w ao n c xs hs hl).mono ?_)
  rintro e w' ⟨v, rfl, O, hb⟩
  obtain ⟨ao', cap', hv, h1⟩ := O.sl
  exact ⟨_, rfl, hb, ao', _, cap', hv, hv ▸ O.sl⟩
theorem op_bWc {b : Bool} {xs : List Int} {z : Int} {L : Nat} (h1 : a.eval (.tmp i) = .bool b) (h2 : CopyL xs (a.eval (.tmp j)) w) (hz : sg b (val xs) = z) (hl : xs.length ≤ L) : Does Try.prog { dst, op := .build 24 #[(0, .tmp i), (1, .tmp j)], type := ty, pos, after, guard } a.eval w fun v' w' => Below w.heap.size w w' ∧ IsW z L v' w' := by
  obtain ⟨ao, n, cap, e, hs⟩ := h2
  exact (op_bW2 h1 e).mono (fun v w' ⟨hb, e⟩ => ⟨hb, isw_eq e ⟨hs.below hb, hz⟩ hl⟩)
end

set_option maxRecDepth 20000 in
set_option maxHeartbeats 2000000 in
theorem nover_z (w : World) (Bx : Nat) (nx : Bool) (ax : Option Addr) (cx : Nat) (xs : List Int) (zx : Int) (Gx : Dm.Wh w nx ax cx xs zx) (Lx : xs.length ≤ Bx) (By : Nat) (ny : Bool) (ay : Option Addr) (cy : Nat) (ys : List Int) (zy : Int) (Gy : Dm.Wh w ny ay cy ys zy) (Ly : ys.length ≤ By) (hL : Bx ≤ 300000) (hL2 : By ≤ 300000) (hy : zy ≠ 0) :
    Calls Try.prog 87 #[.agg #[.bool nx, .slice ax xs.length cx], .agg #[.bool ny, .slice ay ys.length cy]] w fun e w' => ∃ v, e = .returned v ∧ (OutN (ov zx zy) Bx) v w' ∧ Below w.heap.size w w' := by
  go_enter Try.func87, Try.ntmps87
  generalize hA : (Act.mk _ _) = aa
  have hn : aa.tmps.size = 21 := by rw [← hA]; rfl
  have hd : aa.defers = [] := by rw [← hA]
  have f0 : aa.eval (.tmp 0) = .agg #[.bool nx, .slice ax xs.length cx] := by rw [← hA]; rfl
  have f1 : aa.eval (.tmp 1) = .agg #[.bool ny, .slice ay ys.length cy] := by rw [← hA]; rfl
  clear hA
  have HB : Below w.heap.size w w := Below.refl _ _
  refine wp_seq ?_
  refine region4 [some 2, some 3, some 4] [(fun _ _ => True), (fun _ _ => True), (fun _ _ => True)] [⟨N2, some 0, 0, 2, .agg #[.bool nx, .slice ax xs.length cx], none, []⟩, ⟨N2, some 1, 0, 3, .agg #[.bool ny, .slice ay ys.length cy], none, []⟩, ⟨N2, some 2, 0, 4, .agg #[.bool false, .slice none 0 0], none, []⟩] [] (by kernel_rfl) hn rfl (by kernel_rfl) (by kernel_rfl) (by kernel_rfl) (by kernel_rfl) (by kernel_rfl) (by kernel_rfl) ⟨True.mono4, True.mono4, True.mono4, trivial⟩ (ok_cons N2ok (ok_cons N2ok (ok_cons N2ok ok_nil))) (IsOld.all (bx := [⟨N2, some 0, 0, 2, .agg #[.bool nx, .slice ax xs.length cx], none, []⟩, ⟨N2, some 1, 0, 3, .agg #[.bool ny, .slice ay ys.length cy], none, []⟩, ⟨N2, some 2, 0, 4, .agg #[.bool false, .slice none 0 0], none, []⟩]) ⟨someNe, someNe, someNe, trivial⟩) (DisOld.all (bx := [⟨N2, some 0, 0, 2, .agg #[.bool nx, .slice ax xs.length cx], none, []⟩, ⟨N2, some 1, 0, 3, .agg #[.bool ny, .slice ay ys.length cy], none, []⟩, ⟨N2, some 2, 0, 4, .agg #[.bool false, .slice none 0 0], none, []⟩]) ⟨someNe, someNe, someNe, trivial⟩) ?_ ?_
  · exact ⟨.alloc 0 _ rfl rfl (.inr ⟨_, rfl, n2_cs, fun a_ hR => (hR 0 rfl).trans f0⟩) rfl rfl rfl rfl rfl,
      .alloc 1 _ rfl rfl (.inr ⟨_, rfl, n2_cs, fun a_ hR => (hR 1 rfl).trans f1⟩) rfl rfl rfl rfl rfl,
      .alloc 2 _ rfl rfl (.inl ⟨rfl, rfl⟩) rfl rfl rfl rfl rfl,
      trivial⟩
  · intro a1 w1 gs1 hn1 hd1 hBt hr hR hP hX hU
    replace hn := hn1; replace hd := hd1.trans hd
    have ne2_4 : gs1 0 ≠ gs1 2 := hU 0 2 (by simp) (by simp) (by decide)
    have ne3_4 : gs1 1 ≠ gs1 2 := hU 1 2 (by simp) (by simp) (by decide)
    have b2 : BoxV N2 w1 (gs1 0) (.agg #[.bool nx, .slice ax xs.length cx]) := (hX 0 _ rfl).2.2.2
    have f2 := (hX 0 _ rfl).1
    have u2 : w.heap.size ≤ gs1 0 := Nat.le_trans HB.size ((hX 0 _ rfl).2.2.1 (by simp))
    have b3 : BoxV N2 w1 (gs1 1) (.agg #[.bool ny, .slice ay ys.length cy]) := (hX 1 _ rfl).2.2.2
    have f3 := (hX 1 _ rfl).1
    have u3 : w.heap.size ≤ gs1 1 := Nat.le_trans HB.size ((hX 1 _ rfl).2.2.1 (by simp))
    have b4 : BoxV N2 w1 (gs1 2) (.agg #[.bool false, .slice none 0 0]) := (hX 2 _ rfl).2.2.2
    have f4 := (hX 2 _ rfl).1
    have u4 : w.heap.size ≤ gs1 2 := Nat.le_trans HB.size ((hX 2 _ rfl).2.2.1 (by simp))
    replace Gx := Gx.rl hr
    replace Gy := Gy.rl hr
    replace HB := HB.trans (hBt.below HB.size (UpOld.all (bx := [⟨N2, some 0, 0, 2, .agg #[.bool nx, .slice ax xs.length cx], none, []⟩, ⟨N2, some 1, 0, 3, .agg #[.bool ny, .slice ay ys.length cy], none, []⟩, ⟨N2, some 2, 0, 4, .agg #[.bool false, .slice none 0 0], none, []⟩]) ⟨someNe, someNe, someNe, trivial⟩))
    clear hBt hr hR hP hX hU
    refine wp_seq ?_
    refine region4 [some 8, some 9, some 10, some 7, some 11, some 12, some 5, some 6, none, none] [Eqs (.agg #[.bool nx, .slice ax xs.length cx]), Eqs (.agg #[.bool ny, .slice ay ys.length cy]), Tup2 (OutN ((((zx).natAbs : Int) / ((zy).natAbs : Int))) (Bx)) (OutN ((((zx).natAbs : Int) % ((zy).natAbs : Int))) (By)), Tup2 (OutN ((((zx).natAbs : Int) / ((zy).natAbs : Int))) (Bx)) (OutN ((((zx).natAbs : Int) % ((zy).natAbs : Int))) (By)), OutN ((((zx).natAbs : Int) / ((zy).natAbs : Int))) (Bx), OutN ((((zx).natAbs : Int) % ((zy).natAbs : Int))) (By), (fun _ _ => True), (fun _ _ => True), (fun _ _ => True), (fun _ _ => True)] [⟨N2, some 6, 0, 5, .agg #[.bool false, .slice none 0 0], some (8, 11, 4), []⟩, ⟨N2, some 7, 0, 6, .agg #[.bool false, .slice none 0 0], some (9, 12, 5), []⟩] [] (by kernel_rfl) hn rfl (by kernel_rfl) (by kernel_rfl) (by kernel_rfl) (by kernel_rfl) (by kernel_rfl) (by kernel_rfl) ⟨Eqs.mono4 _, Eqs.mono4 _, Tup2.mono4 (OutN.mono4 _ _) (OutN.mono4 _ _), Tup2.mono4 (OutN.mono4 _ _) (OutN.mono4 _ _), OutN.mono4 _ _, OutN.mono4 _ _, True.mono4, True.mono4, True.mono4, True.mono4, trivial⟩ (ok_cons N2ok (ok_cons N2ok ok_nil)) (IsOld.all (bx := [⟨N2, some 6, 0, 5, .agg #[.bool false, .slice none 0 0], some (8, 11, 4), []⟩, ⟨N2, some 7, 0, 6, .agg #[.bool false, .slice none 0 0], some (9, 12, 5), []⟩]) ⟨someNe, someNe, trivial⟩) (DisOld.all (bx := [⟨N2, some 6, 0, 5, .agg #[.bool false, .slice none 0 0], some (8, 11, 4), []⟩, ⟨N2, some 7, 0, 6, .agg #[.bool false, .slice none 0 0], some (9, 12, 5), []⟩]) ⟨someNe, someNe, trivial⟩) ?_ ?_
    · exact ⟨.norm 8 rfl rfl rfl (fun a_ w_ hn_ hBt hr hR hD hO hS => op_loadv N2ok ((hR 2 rfl).trans f2) (b2.keep hBt ⟨someNe, someNe, trivial⟩)),
        .norm 9 rfl rfl rfl (fun a_ w_ hn_ hBt hr hR hD hO hS => op_loadv N2ok ((hR 3 rfl).trans f3) (b3.keep hBt ⟨someNe, someNe, trivial⟩)),
        .norm 10 rfl rfl rfl (fun a_ w_ hn_ hBt hr hR hD hO hS => op_ndivided (outn_eq (show a_.eval (.tmp 8) = .agg #[.bool nx, .slice ax xs.length cx] from hD 0 rfl) (Gx.rl hr) Lx) (outn_eq (show a_.eval (.tmp 9) = .agg #[.bool ny, .slice ay ys.length cy] from hD 1 rfl) (Gy.rl hr) Ly) (by omega) (by omega) hy),
        .norm 7 rfl rfl rfl (fun a_ w_ hn_ hBt hr hR hD hO hS => op_mvp (p := Tup2 (OutN ((((zx).natAbs : Int) / ((zy).natAbs : Int))) (Bx)) (OutN ((((zx).natAbs : Int) % ((zy).natAbs : Int))) (By))) (show Tup2 (OutN ((((zx).natAbs : Int) / ((zy).natAbs : Int))) (Bx)) (OutN ((((zx).natAbs : Int) % ((zy).natAbs : Int))) (By)) (a_.eval (.tmp 10)) w_ from hD 2 rfl)),
        .norm 11 rfl rfl rfl (fun a_ w_ hn_ hBt hr hR hD hO hS => op_ex20 (show Tup2 (OutN ((((zx).natAbs : Int) / ((zy).natAbs : Int))) (Bx)) (OutN ((((zx).natAbs : Int) % ((zy).natAbs : Int))) (By)) (a_.eval (.tmp 7)) w_ from hD 3 rfl)),
        .norm 12 rfl rfl rfl (fun a_ w_ hn_ hBt hr hR hD hO hS => op_ex21 (show Tup2 (OutN ((((zx).natAbs : Int) / ((zy).natAbs : Int))) (Bx)) (OutN ((((zx).natAbs : Int) % ((zy).natAbs : Int))) (By)) (a_.eval (.tmp 7)) w_ from hD 3 rfl)),
        .alloc 0 _ rfl rfl (.inl ⟨rfl, rfl⟩) rfl rfl rfl rfl rfl,
        .alloc 1 _ rfl rfl (.inl ⟨rfl, rfl⟩) rfl rfl rfl rfl rfl,
        .store 0 _ _ _ rfl rfl rfl rfl rfl rfl rfl (fun ia h => by cases h; rfl) rfl rfl rfl OutN.cs,
        .store 1 _ _ _ rfl rfl rfl rfl rfl rfl rfl (fun ia h => by cases h; rfl) rfl rfl rfl OutN.cs,
        trivial⟩
    · intro a2 w2 gs2 hn2 hd2 hBt hr hR hP hX hU
      replace hn := hn2; replace hd := hd2.trans hd
      have ne2_5 : (gs1 0) ≠ gs2 0 := by have h1 := b2.lt; have h2 := (hX 0 _ rfl).2.2.1 (by simp); omega
      have ne3_5 : (gs1 1) ≠ gs2 0 := by have h1 := b3.lt; have h2 := (hX 0 _ rfl).2.2.1 (by simp); omega
      have ne4_5 : (gs1 2) ≠ gs2 0 := by have h1 := b4.lt; have h2 := (hX 0 _ rfl).2.2.1 (by simp); omega
      replace b2 := b2.keep hBt ⟨someNe, someNe, trivial⟩
      replace b3 := b3.keep hBt ⟨someNe, someNe, trivial⟩
      replace b4 := b4.keep hBt ⟨someNe, someNe, trivial⟩
      obtain ⟨n_3, a_3, c_3, r_3, e11, G3, l3⟩ : OutN ((((zx).natAbs : Int) / ((zy).natAbs : Int))) (Bx) (a2.eval (.tmp 11)) w2 := hP 4 (by decide)
      have b5 : BoxV N2 w2 (gs2 0) (.agg #[.bool n_3, .slice a_3 r_3.length c_3]) := boxv_of (hX 0 _ rfl).2.2.2 e11
      have f5 := (hX 0 _ rfl).1
      have u5 : w.heap.size ≤ gs2 0 := Nat.le_trans HB.size ((hX 0 _ rfl).2.2.1 (by simp))
      replace f2 := (hR 2 rfl).trans f2
      replace f3 := (hR 3 rfl).trans f3
      replace f4 := (hR 4 rfl).trans f4
      replace Gx := Gx.rl hr
      replace Gy := Gy.rl hr
      replace HB := HB.trans (hBt.below HB.size (UpOld.all (bx := [⟨N2, some 6, 0, 5, .agg #[.bool false, .slice none 0 0], some (8, 11, 4), []⟩, ⟨N2, some 7, 0, 6, .agg #[.bool false, .slice none 0 0], some (9, 12, 5), []⟩]) ⟨someNe, someNe, trivial⟩))
      clear hBt hr hR hP hX hU
      refine wp_seq ?_
      refine wp_seq ?_
      refine region4 [some 13, some 14, some 15, some 16, some 17] [Eqs (.pointer (some ⟨gs1 0, 0, none⟩)), Eqs (.bool nx), Eqs (.pointer (some ⟨gs1 1, 0, none⟩)), Eqs (.bool ny), Eqs (.bool (nx != ny))] [] [] (by kernel_rfl) hn rfl (by kernel_rfl) (by kernel_rfl) (by kernel_rfl) (by kernel_rfl) (by kernel_rfl) (by kernel_rfl) ⟨Eqs.mono4 _, Eqs.mono4 _, Eqs.mono4 _, Eqs.mono4 _, Eqs.mono4 _, trivial⟩ ok_nil (IsOld.all (bx := []) trivial) (DisOld.all (bx := []) trivial) ?_ ?_
      · exact ⟨.norm 13 rfl rfl rfl (fun a_ w_ hn_ hBt hr hR hD hO hS => op_faN fa_nneg ((hR 2 rfl).trans f2)),
          .norm 14 rfl rfl rfl (fun a_ w_ hn_ hBt hr hR hD hO hS => op_ldnneg (show a_.eval (.tmp 13) = .pointer (some ⟨gs1 0, 0, none⟩) from hD 0 rfl) (b2.keep hBt trivial)),
          .norm 15 rfl rfl rfl (fun a_ w_ hn_ hBt hr hR hD hO hS => op_faN fa_nneg ((hR 3 rfl).trans f3)),
          .norm 16 rfl rfl rfl (fun a_ w_ hn_ hBt hr hR hD hO hS => op_ldnneg (show a_.eval (.tmp 15) = .pointer (some ⟨gs1 1, 0, none⟩) from hD 2 rfl) (b3.keep hBt trivial)),
          .norm 17 rfl rfl rfl (fun a_ w_ hn_ hBt hr hR hD hO hS => op_neqb (show a_.eval (.tmp 14) = .bool nx from hD 1 rfl) (show a_.eval (.tmp 16) = .bool ny from hD 3 rfl)),
          trivial⟩
      · intro a4 w4 gs4 hn4 hd4 hBt hr hR hP hX hU
        replace hn := hn4; replace hd := hd4.trans hd
        replace b4 := b4.keep hBt trivial
        replace b5 := b5.keep hBt trivial
        replace f4 := (hR 4 rfl).trans f4
        replace f5 := (hR 5 rfl).trans f5
        have e17 : a4.eval (.tmp 17) = .bool (nx != ny) := hP 4 (by decide)
        have f17 := e17
        replace Gx := Gx.rl hr
        replace Gy := Gy.rl hr
        replace G3 := G3.rl hr
        replace HB := HB.trans (hBt.below HB.size (UpOld.all (bx := []) trivial))
        clear hBt hr hR hP hX hU
        refine wp_cond_split f17 (fun hc17 => ?_) (fun hc17 => ?_)
        · skip
          refine region4 [some 18, some 19, none] [Eqs (.agg #[.bool n_3, .slice a_3 r_3.length c_3]), OutN ((-(((zx).natAbs : Int) / ((zy).natAbs : Int)))) (Bx), (fun _ _ => True)] [⟨N2, none, (gs2 0), 5, .agg #[.bool n_3, .slice a_3 r_3.length c_3], some (2, 19, 1), [0]⟩] [] (by kernel_rfl) hn rfl (by kernel_rfl) (by kernel_rfl) (by kernel_rfl) (by kernel_rfl) (by kernel_rfl) (by kernel_rfl) ⟨Eqs.mono4 _, OutN.mono4 _ _, True.mono4, trivial⟩ (ok_cons N2ok ok_nil) (IsOld.all (bx := [⟨N2, none, (gs2 0), 5, .agg #[.bool n_3, .slice a_3 r_3.length c_3], some (2, 19, 1), [0]⟩]) ⟨fun _ => ⟨f5, b5⟩, trivial⟩) (DisOld.all (bx := [⟨N2, none, (gs2 0), 5, .agg #[.bool n_3, .slice a_3 r_3.length c_3], some (2, 19, 1), [0]⟩]) ⟨fun _ => trivial, trivial⟩) ?_ ?_
          · exact ⟨.norm 18 rfl rfl rfl (fun a_ w_ hn_ hBt hr hR hD hO hS => op_loadv N2ok ((hR 5 rfl).trans f5) (hO 0 _ rfl rfl rfl)),
              .norm 19 rfl rfl rfl (fun a_ w_ hn_ hBt hr hR hD hO hS => op_nminus (outn_eq (show a_.eval (.tmp 18) = .agg #[.bool n_3, .slice a_3 r_3.length c_3] from hD 0 rfl) (G3.rl hr) l3) (by omega)),
              .store 0 _ _ _ rfl rfl rfl rfl rfl rfl rfl (fun ia h => by cases h) rfl rfl rfl OutN.cs,
              trivial⟩
          · intro a5 w5 gs5 hn5 hd5 hBt hr hR hP hX hU
            replace hn := hn5; replace hd := hd5.trans hd
            replace b4 := b4.keep hBt ⟨fun _ => ne4_5.symm, trivial⟩
            obtain ⟨n_6, a_6, c_6, r_6, e19, G6, l6⟩ : OutN ((-(((zx).natAbs : Int) / ((zy).natAbs : Int)))) (Bx) (a5.eval (.tmp 19)) w5 := hP 1 (by decide)
            have b5 : BoxV N2 w5 ((gs2 0)) (.agg #[.bool n_6, .slice a_6 r_6.length c_6]) := boxv_old ((hX 0 _ rfl).2.1 rfl) (hX 0 _ rfl).2.2.2 e19
            replace f5 : a5.eval (.tmp 5) = _ := (hR 5 rfl).trans f5
            replace f4 := (hR 4 rfl).trans f4
            replace Gx := Gx.rl hr
            replace Gy := Gy.rl hr
            replace G3 := G3.rl hr
            replace HB := HB.trans (hBt.below HB.size (UpOld.all (bx := [⟨N2, none, (gs2 0), 5, .agg #[.bool n_3, .slice a_3 r_3.length c_3], some (2, 19, 1), [0]⟩]) ⟨fun _ => u5, trivial⟩))
            clear hBt hr hR hP hX hU
            refine wp_seq ?_
            refine region4 [some 20, none] [Eqs (.agg #[.bool n_6, .slice a_6 r_6.length c_6]), (fun _ _ => True)] [⟨N2, none, (gs1 2), 4, .agg #[.bool false, .slice none 0 0], some (1, 20, 0), []⟩] [] (by kernel_rfl) hn rfl (by kernel_rfl) (by kernel_rfl) (by kernel_rfl) (by kernel_rfl) (by kernel_rfl) (by kernel_rfl) ⟨Eqs.mono4 _, True.mono4, trivial⟩ (ok_cons N2ok ok_nil) (IsOld.all (bx := [⟨N2, none, (gs1 2), 4, .agg #[.bool false, .slice none 0 0], some (1, 20, 0), []⟩]) ⟨fun _ => ⟨f4, b4⟩, trivial⟩) (DisOld.all (bx := [⟨N2, none, (gs1 2), 4, .agg #[.bool false, .slice none 0 0], some (1, 20, 0), []⟩]) ⟨fun _ => trivial, trivial⟩) ?_ ?_
            · exact ⟨.norm 20 rfl rfl rfl (fun a_ w_ hn_ hBt hr hR hD hO hS => op_loadv N2ok ((hR 5 rfl).trans f5) (b5.keep hBt ⟨fun _ => ne4_5, trivial⟩)),
                .store 0 _ _ _ rfl rfl rfl rfl rfl rfl rfl (fun ia h => by cases h) rfl rfl rfl (eqs_cs n2_cs),
                trivial⟩
            · intro a7 w7 gs7 hn7 hd7 hBt hr hR hP hX hU
              replace hn := hn7; replace hd := hd7.trans hd
              have e20 : a7.eval (.tmp 20) = .agg #[.bool n_6, .slice a_6 r_6.length c_6] := hP 0 (by decide)
              have b4 : BoxV N2 w7 ((gs1 2)) (.agg #[.bool n_6, .slice a_6 r_6.length c_6]) := boxv_old ((hX 0 _ rfl).2.1 rfl) (hX 0 _ rfl).2.2.2 e20
              replace f4 : a7.eval (.tmp 4) = _ := (hR 4 rfl).trans f4
              replace Gx := Gx.rl hr
              replace Gy := Gy.rl hr
              replace G3 := G3.rl hr
              replace G6 := G6.rl hr
              replace HB := HB.trans (hBt.below HB.size (UpOld.all (bx := [⟨N2, none, (gs1 2), 4, .agg #[.bool false, .slice none 0 0], some (1, 20, 0), []⟩]) ⟨fun _ => u4, trivial⟩))
              clear hBt hr hR hP hX hU
              refine wp_ret ?_
              repeat (first | refine then_ret ?_ | refine scope_ret ?_ | refine block_ret ?_)
              exact bodyPost_ret (v := .agg #[.bool n_6, .slice a_6 r_6.length c_6]) (res_c rfl f4 (lv_N2 b4)) hd ⟨_, rfl, OutN.to (outn_eq rfl G6 l6) (by rw [ov, ← Gx.2, ← Gy.2, hc17]; rfl) (by omega), HB⟩
        · skip
          refine wp_skip ?_
          refine wp_seq ?_
          refine region4 [some 20, none] [Eqs (.agg #[.bool n_3, .slice a_3 r_3.length c_3]), (fun _ _ => True)] [⟨N2, none, (gs1 2), 4, .agg #[.bool false, .slice none 0 0], some (1, 20, 0), []⟩] [] (by kernel_rfl) hn rfl (by kernel_rfl) (by kernel_rfl) (by kernel_rfl) (by kernel_rfl) (by kernel_rfl) (by kernel_rfl) ⟨Eqs.mono4 _, True.mono4, trivial⟩ (ok_cons N2ok ok_nil) (IsOld.all (bx := [⟨N2, none, (gs1 2), 4, .agg #[.bool false, .slice none 0 0], some (1, 20, 0), []⟩]) ⟨fun _ => ⟨f4, b4⟩, trivial⟩) (DisOld.all (bx := [⟨N2, none, (gs1 2), 4, .agg #[.bool false, .slice none 0 0], some (1, 20, 0), []⟩]) ⟨fun _ => trivial, trivial⟩) ?_ ?_
          · exact ⟨.norm 20 rfl rfl rfl (fun a_ w_ hn_ hBt hr hR hD hO hS => op_loadv N2ok ((hR 5 rfl).trans f5) (b5.keep hBt ⟨fun _ => ne4_5, trivial⟩)),
              .store 0 _ _ _ rfl rfl rfl rfl rfl rfl rfl (fun ia h => by cases h) rfl rfl rfl (eqs_cs n2_cs),
              trivial⟩
          · intro a8 w8 gs8 hn8 hd8 hBt hr hR hP hX hU
            replace hn := hn8; replace hd := hd8.trans hd
            have e20 : a8.eval (.tmp 20) = .agg #[.bool n_3, .slice a_3 r_3.length c_3] := hP 0 (by decide)
            have b4 : BoxV N2 w8 ((gs1 2)) (.agg #[.bool n_3, .slice a_3 r_3.length c_3]) := boxv_old ((hX 0 _ rfl).2.1 rfl) (hX 0 _ rfl).2.2.2 e20
            replace f4 : a8.eval (.tmp 4) = _ := (hR 4 rfl).trans f4
            replace Gx := Gx.rl hr
            replace Gy := Gy.rl hr
            replace G3 := G3.rl hr
            replace HB := HB.trans (hBt.below HB.size (UpOld.all (bx := [⟨N2, none, (gs1 2), 4, .agg #[.bool false, .slice none 0 0], some (1, 20, 0), []⟩]) ⟨fun _ => u4, trivial⟩))
            clear hBt hr hR hP hX hU
            refine wp_ret ?_
            repeat (first | refine then_ret ?_ | refine scope_ret ?_ | refine block_ret ?_)
            exact bodyPost_ret (v := .agg #[.bool n_3, .slice a_3 r_3.length c_3]) (res_c rfl f4 (lv_N2 b4)) hd ⟨_, rfl, OutN.to (outn_eq rfl G3 l3) (by rw [ov, ← Gx.2, ← Gy.2, hc17]; rfl) (by omega), HB⟩

theorem has_nover : Has Try.prog 87 := by unfold Has; kernel_rfl
theorem op_nover {dst : Option Tmp} {ty : TypeId} {pos : String} {after : Array Edge} {guard : Option (Nat × Bool)} {a : Act} {w : World} {ats : Array TypeId} {i j : Nat} {Bx : Nat} {zx : Int} (Hx : OutN zx Bx (a.eval (.tmp i)) w) {By : Nat} {zy : Int} (Hy : OutN zy By (a.eval (.tmp j)) w) (hL : Bx ≤ 300000) (hL2 : By ≤ 300000) (hy : zy ≠ 0) :
    Does Try.prog { dst, op := .call { callee := .value (.func 87), args := #[.tmp i, .tmp j], argTypes := ats }, type := ty, pos, after, guard } a.eval w fun v w' => Below w.heap.size w w' ∧ (OutN (ov zx zy) Bx) v w' := by
  obtain ⟨nx, ax, cx, xs, ex, Gx, Lx⟩ := Hx
  obtain ⟨ny, ay, cy, ys, ey, Gy, Ly⟩ := Hy
  refine does_call has_nover _ (by simp only [List.map_toArray, List.map_cons, List.map_nil, ex, ey]) ((nover_z w Bx _ _ _ _ _ Gx Lx By _ _ _ _ _ Gy Ly hL hL2 hy).mono ?_)
  rintro e w' ⟨v, rfl, h1, hb⟩
  exact ⟨_, rfl, hb, h1⟩

set_option maxRecDepth 20000 in
set_option maxHeartbeats 2000000 in
theorem qmake_z (w : World) (Bx : Nat) (nx : Bool) (ax : Option Addr) (cx : Nat) (xs : List Int) (zx : Int) (Gx : Dm.Wh w nx ax cx xs zx) (Lx : xs.length ≤ Bx) (By : Nat) (ny : Bool) (ay : Option Addr) (cy : Nat) (ys : List Int) (zy : Int) (Gy : Dm.Wh w ny ay cy ys zy) (Ly : ys.length ≤ By) (hL : Bx + By ≤ 300000) (hy : zy ≠ 0) :
    Calls Try.prog 59 #[.agg #[.bool nx, .slice ax xs.length cx], .agg #[.bool ny, .slice ay ys.length cy]] w fun e w' => ∃ v, e = .returned v ∧ (OutQ (nm zx zy) (dn zx zy) (Bx + By)) v w' ∧ Below w.heap.size w w' := by
  go_enter Try.func59, Try.ntmps59
  generalize hA : (Act.mk _ _) = aa
  have hn : aa.tmps.size = 22 := by rw [← hA]; rfl
  have hd : aa.defers = [] := by rw [← hA]
  have f0 : aa.eval (.tmp 0) = .agg #[.bool nx, .slice ax xs.length cx] := by rw [← hA]; rfl
  have f1 : aa.eval (.tmp 1) = .agg #[.bool ny, .slice ay ys.length cy] := by rw [← hA]; rfl
  clear hA
  have HB : Below w.heap.size w w := Below.refl _ _
  refine wp_seq ?_
  refine region4 [some 2, some 3, some 4] [(fun _ _ => True), (fun _ _ => True), (fun _ _ => True)] [⟨N2, some 0, 0, 2, .agg #[.bool nx, .slice ax xs.length cx], none, []⟩, ⟨N2, some 1, 0, 3, .agg #[.bool ny, .slice ay ys.length cy], none, []⟩, ⟨Q4, some 2, 0, 4, .agg #[.bool false, .slice none 0 0, .bool false, .slice none 0 0], none, []⟩] [] (by kernel_rfl) hn rfl (by kernel_rfl) (by kernel_rfl) (by kernel_rfl) (by kernel_rfl) (by kernel_rfl) (by kernel_rfl) ⟨True.mono4, True.mono4, True.mono4, trivial⟩ (ok_cons N2ok (ok_cons N2ok (ok_cons Q4ok ok_nil))) (IsOld.all (bx := [⟨N2, some 0, 0, 2, .agg #[.bool nx, .slice ax xs.length cx], none, []⟩, ⟨N2, some 1, 0, 3, .agg #[.bool ny, .slice ay ys.length cy], none, []⟩, ⟨Q4, some 2, 0, 4, .agg #[.bool false, .slice none 0 0, .bool false, .slice none 0 0], none, []⟩]) ⟨someNe, someNe, someNe, trivial⟩) (DisOld.all (bx := [⟨N2, some 0, 0, 2, .agg #[.bool nx, .slice ax xs.length cx], none, []⟩, ⟨N2, some 1, 0, 3, .agg #[.bool ny, .slice ay ys.length cy], none, []⟩, ⟨Q4, some 2, 0, 4, .agg #[.bool false, .slice none 0 0, .bool false, .slice none 0 0], none, []⟩]) ⟨someNe, someNe, someNe, trivial⟩) ?_ ?_
  · exact ⟨.alloc 0 _ rfl rfl (.inr ⟨_, rfl, n2_cs, fun a_ hR => (hR 0 rfl).trans f0⟩) rfl rfl rfl rfl rfl,
      .alloc 1 _ rfl rfl (.inr ⟨_, rfl, n2_cs, fun a_ hR => (hR 1 rfl).trans f1⟩) rfl rfl rfl rfl rfl,
      .alloc 2 _ rfl rfl (.inl ⟨rfl, rfl⟩) rfl rfl rfl rfl rfl,
      trivial⟩
  · intro a1 w1 gs1 hn1 hd1 hBt hr hR hP hX hU
    replace hn := hn1; replace hd := hd1.trans hd
    have ne2_3 : gs1 0 ≠ gs1 1 := hU 0 1 (by simp) (by simp) (by decide)
    have ne2_4 : gs1 0 ≠ gs1 2 := hU 0 2 (by simp) (by simp) (by decide)
    have ne3_4 : gs1 1 ≠ gs1 2 := hU 1 2 (by simp) (by simp) (by decide)
    have b2 : BoxV N2 w1 (gs1 0) (.agg #[.bool nx, .slice ax xs.length cx]) := (hX 0 _ rfl).2.2.2
    have f2 := (hX 0 _ rfl).1
    have u2 : w.heap.size ≤ gs1 0 := Nat.le_trans HB.size ((hX 0 _ rfl).2.2.1 (by simp))
    have b3 : BoxV N2 w1 (gs1 1) (.agg #[.bool ny, .slice ay ys.length cy]) := (hX 1 _ rfl).2.2.2
    have f3 := (hX 1 _ rfl).1
    have u3 : w.heap.size ≤ gs1 1 := Nat.le_trans HB.size ((hX 1 _ rfl).2.2.1 (by simp))
    have b4 : BoxV Q4 w1 (gs1 2) (.agg #[.bool false, .slice none 0 0, .bool false, .slice none 0 0]) := (hX 2 _ rfl).2.2.2
    have f4 := (hX 2 _ rfl).1
    have u4 : w.heap.size ≤ gs1 2 := Nat.le_trans HB.size ((hX 2 _ rfl).2.2.1 (by simp))
    replace Gx := Gx.rl hr
    replace Gy := Gy.rl hr
    replace HB := HB.trans (hBt.below HB.size (UpOld.all (bx := [⟨N2, some 0, 0, 2, .agg #[.bool nx, .slice ax xs.length cx], none, []⟩, ⟨N2, some 1, 0, 3, .agg #[.bool ny, .slice ay ys.length cy], none, []⟩, ⟨Q4, some 2, 0, 4, .agg #[.bool false, .slice none 0 0, .bool false, .slice none 0 0], none, []⟩]) ⟨someNe, someNe, someNe, trivial⟩))
    clear hBt hr hR hP hX hU
    refine wp_seq ?_
    refine wp_seq ?_
    refine region4 [some 6, some 7] [Eqs (.pointer (some ⟨gs1 1, 0, none⟩)), Eqs (.bool ny)] [] [] (by kernel_rfl) hn rfl (by kernel_rfl) (by kernel_rfl) (by kernel_rfl) (by kernel_rfl) (by kernel_rfl) (by kernel_rfl) ⟨Eqs.mono4 _, Eqs.mono4 _, trivial⟩ ok_nil (IsOld.all (bx := []) trivial) (DisOld.all (bx := []) trivial) ?_ ?_
    · exact ⟨.norm 6 rfl rfl rfl (fun a_ w_ hn_ hBt hr hR hD hO hS => op_faN fa_nneg ((hR 3 rfl).trans f3)),
        .norm 7 rfl rfl rfl (fun a_ w_ hn_ hBt hr hR hD hO hS => op_ldnneg (show a_.eval (.tmp 6) = .pointer (some ⟨gs1 1, 0, none⟩) from hD 0 rfl) (b3.keep hBt trivial)),
        trivial⟩
    · intro a2 w2 gs2 hn2 hd2 hBt hr hR hP hX hU
      replace hn := hn2; replace hd := hd2.trans hd
      replace b2 := b2.keep hBt trivial
      replace b3 := b3.keep hBt trivial
      replace b4 := b4.keep hBt trivial
      replace f2 := (hR 2 rfl).trans f2
      replace f3 := (hR 3 rfl).trans f3
      replace f4 := (hR 4 rfl).trans f4
      have e7 : a2.eval (.tmp 7) = .bool ny := hP 1 (by decide)
      have f7 := e7
      replace Gx := Gx.rl hr
      replace Gy := Gy.rl hr
      replace HB := HB.trans (hBt.below HB.size (UpOld.all (bx := []) trivial))
      clear hBt hr hR hP hX hU
      refine wp_cond_split f7 (fun hc7 => ?_) (fun hc7 => ?_)
      · skip
        have hc7' : zy < 0 := by have h := Gy.2; rw [hc7] at h; exact of_decide_eq_true h.symm
        refine wp_seq ?_
        refine region4 [some 8, some 9, none] [Eqs (.agg #[.bool nx, .slice ax xs.length cx]), OutN ((-zx)) (Bx), (fun _ _ => True)] [⟨N2, none, (gs1 0), 2, .agg #[.bool nx, .slice ax xs.length cx], some (2, 9, 1), [0]⟩] [] (by kernel_rfl) hn rfl (by kernel_rfl) (by kernel_rfl) (by kernel_rfl) (by kernel_rfl) (by kernel_rfl) (by kernel_rfl) ⟨Eqs.mono4 _, OutN.mono4 _ _, True.mono4, trivial⟩ (ok_cons N2ok ok_nil) (IsOld.all (bx := [⟨N2, none, (gs1 0), 2, .agg #[.bool nx, .slice ax xs.length cx], some (2, 9, 1), [0]⟩]) ⟨fun _ => ⟨f2, b2⟩, trivial⟩) (DisOld.all (bx := [⟨N2, none, (gs1 0), 2, .agg #[.bool nx, .slice ax xs.length cx], some (2, 9, 1), [0]⟩]) ⟨fun _ => trivial, trivial⟩) ?_ ?_
        · exact ⟨.norm 8 rfl rfl rfl (fun a_ w_ hn_ hBt hr hR hD hO hS => op_loadv N2ok ((hR 2 rfl).trans f2) (hO 0 _ rfl rfl rfl)),
            .norm 9 rfl rfl rfl (fun a_ w_ hn_ hBt hr hR hD hO hS => op_nminus (outn_eq (show a_.eval (.tmp 8) = .agg #[.bool nx, .slice ax xs.length cx] from hD 0 rfl) (Gx.rl hr) Lx) (by omega)),
            .store 0 _ _ _ rfl rfl rfl rfl rfl rfl rfl (fun ia h => by cases h) rfl rfl rfl OutN.cs,
            trivial⟩
        · intro a3 w3 gs3 hn3 hd3 hBt hr hR hP hX hU
          replace hn := hn3; replace hd := hd3.trans hd
          replace b3 := b3.keep hBt ⟨fun _ => ne2_3, trivial⟩
          replace b4 := b4.keep hBt ⟨fun _ => ne2_4, trivial⟩
          obtain ⟨n_4, a_4, c_4, r_4, e9, G4, l4⟩ : OutN ((-zx)) (Bx) (a3.eval (.tmp 9)) w3 := hP 1 (by decide)
          have b2 : BoxV N2 w3 ((gs1 0)) (.agg #[.bool n_4, .slice a_4 r_4.length c_4]) := boxv_old ((hX 0 _ rfl).2.1 rfl) (hX 0 _ rfl).2.2.2 e9
          replace f2 : a3.eval (.tmp 2) = _ := (hR 2 rfl).trans f2
          replace f3 := (hR 3 rfl).trans f3
          replace f4 := (hR 4 rfl).trans f4
          replace Gx := Gx.rl hr
          replace Gy := Gy.rl hr
          replace HB := HB.trans (hBt.below HB.size (UpOld.all (bx := [⟨N2, none, (gs1 0), 2, .agg #[.bool nx, .slice ax xs.length cx], some (2, 9, 1), [0]⟩]) ⟨fun _ => u2, trivial⟩))
          clear hBt hr hR hP hX hU
          refine region4 [some 10, some 11, none] [Eqs (.agg #[.bool ny, .slice ay ys.length cy]), OutN ((-zy)) (By), (fun _ _ => True)] [⟨N2, none, (gs1 1), 3, .agg #[.bool ny, .slice ay ys.length cy], some (2, 11, 1), [0]⟩] [] (by kernel_rfl) hn rfl (by kernel_rfl) (by kernel_rfl) (by kernel_rfl) (by kernel_rfl) (by kernel_rfl) (by kernel_rfl) ⟨Eqs.mono4 _, OutN.mono4 _ _, True.mono4, trivial⟩ (ok_cons N2ok ok_nil) (IsOld.all (bx := [⟨N2, none, (gs1 1), 3, .agg #[.bool ny, .slice ay ys.length cy], some (2, 11, 1), [0]⟩]) ⟨fun _ => ⟨f3, b3⟩, trivial⟩) (DisOld.all (bx := [⟨N2, none, (gs1 1), 3, .agg #[.bool ny, .slice ay ys.length cy], some (2, 11, 1), [0]⟩]) ⟨fun _ => trivial, trivial⟩) ?_ ?_
          · exact ⟨.norm 10 rfl rfl rfl (fun a_ w_ hn_ hBt hr hR hD hO hS => op_loadv N2ok ((hR 3 rfl).trans f3) (hO 0 _ rfl rfl rfl)),
              .norm 11 rfl rfl rfl (fun a_ w_ hn_ hBt hr hR hD hO hS => op_nminus (outn_eq (show a_.eval (.tmp 10) = .agg #[.bool ny, .slice ay ys.length cy] from hD 0 rfl) (Gy.rl hr) Ly) (by omega)),
              .store 0 _ _ _ rfl rfl rfl rfl rfl rfl rfl (fun ia h => by cases h) rfl rfl rfl OutN.cs,
              trivial⟩
          · intro a5 w5 gs5 hn5 hd5 hBt hr hR hP hX hU
            replace hn := hn5; replace hd := hd5.trans hd
            replace b2 := b2.keep hBt ⟨fun _ => ne2_3.symm, trivial⟩
            replace b4 := b4.keep hBt ⟨fun _ => ne3_4, trivial⟩
            obtain ⟨n_6, a_6, c_6, r_6, e11, G6, l6⟩ : OutN ((-zy)) (By) (a5.eval (.tmp 11)) w5 := hP 1 (by decide)
            have b3 : BoxV N2 w5 ((gs1 1)) (.agg #[.bool n_6, .slice a_6 r_6.length c_6]) := boxv_old ((hX 0 _ rfl).2.1 rfl) (hX 0 _ rfl).2.2.2 e11
            replace f3 : a5.eval (.tmp 3) = _ := (hR 3 rfl).trans f3
            replace f2 := (hR 2 rfl).trans f2
            replace f4 := (hR 4 rfl).trans f4
            replace Gx := Gx.rl hr
            replace Gy := Gy.rl hr
            replace G4 := G4.rl hr
            replace HB := HB.trans (hBt.below HB.size (UpOld.all (bx := [⟨N2, none, (gs1 1), 3, .agg #[.bool ny, .slice ay ys.length cy], some (2, 11, 1), [0]⟩]) ⟨fun _ => u3, trivial⟩))
            clear hBt hr hR hP hX hU
            refine wp_seq ?_
            refine region4 [some 12, some 13, some 14, some 5, none] [Eqs (.agg #[.bool n_4, .slice a_4 r_4.length c_4]), Eqs (.agg #[.bool n_6, .slice a_6 r_6.length c_6]), OutN (((Int.gcd (-zx) (-zy) : Nat) : Int)) ((Bx) + (By)), (fun _ _ => True), (fun _ _ => True)] [⟨N2, some 3, 0, 5, .agg #[.bool false, .slice none 0 0], some (4, 14, 2), []⟩] [] (by kernel_rfl) hn rfl (by kernel_rfl) (by kernel_rfl) (by kernel_rfl) (by kernel_rfl) (by kernel_rfl) (by kernel_rfl) ⟨Eqs.mono4 _, Eqs.mono4 _, OutN.mono4 _ _, True.mono4, True.mono4, trivial⟩ (ok_cons N2ok ok_nil) (IsOld.all (bx := [⟨N2, some 3, 0, 5, .agg #[.bool false, .slice none 0 0], some (4, 14, 2), []⟩]) ⟨someNe, trivial⟩) (DisOld.all (bx := [⟨N2, some 3, 0, 5, .agg #[.bool false, .slice none 0 0], some (4, 14, 2), []⟩]) ⟨someNe, trivial⟩) ?_ ?_
            · exact ⟨.norm 12 rfl rfl rfl (fun a_ w_ hn_ hBt hr hR hD hO hS => op_loadv N2ok ((hR 2 rfl).trans f2) (b2.keep hBt ⟨someNe, trivial⟩)),
                .norm 13 rfl rfl rfl (fun a_ w_ hn_ hBt hr hR hD hO hS => op_loadv N2ok ((hR 3 rfl).trans f3) (b3.keep hBt ⟨someNe, trivial⟩)),
                .norm 14 rfl rfl rfl (fun a_ w_ hn_ hBt hr hR hD hO hS => op_ngcd (L1 := Bx) (L2 := By) (outn_eq (show a_.eval (.tmp 12) = .agg #[.bool n_4, .slice a_4 r_4.length c_4] from hD 0 rfl) (G4.rl hr) l4) (outn_eq (show a_.eval (.tmp 13) = .agg #[.bool n_6, .slice a_6 r_6.length c_6] from hD 1 rfl) (G6.rl hr) l6) (by omega) (by omega)),
                .alloc 0 _ rfl rfl (.inl ⟨rfl, rfl⟩) rfl rfl rfl rfl rfl,
                .store 0 _ _ _ rfl rfl rfl rfl rfl rfl rfl (fun ia h => by cases h; rfl) rfl rfl rfl OutN.cs,
                trivial⟩
            · intro a7 w7 gs7 hn7 hd7 hBt hr hR hP hX hU
              replace hn := hn7; replace hd := hd7.trans hd
              have ne4_5 : (gs1 2) ≠ gs7 0 := by have h1 := b4.lt; have h2 := (hX 0 _ rfl).2.2.1 (by simp); omega
              replace b2 := b2.keep hBt ⟨someNe, trivial⟩
              replace b3 := b3.keep hBt ⟨someNe, trivial⟩
              replace b4 := b4.keep hBt ⟨someNe, trivial⟩
              obtain ⟨n_8, a_8, c_8, r_8, e14, G8, l8⟩ : OutN (((Int.gcd (-zx) (-zy) : Nat) : Int)) ((Bx) + (By)) (a7.eval (.tmp 14)) w7 := hP 2 (by decide)
              have b5 : BoxV N2 w7 (gs7 0) (.agg #[.bool n_8, .slice a_8 r_8.length c_8]) := boxv_of (hX 0 _ rfl).2.2.2 e14
              have f5 := (hX 0 _ rfl).1
              have u5 : w.heap.size ≤ gs7 0 := Nat.le_trans HB.size ((hX 0 _ rfl).2.2.1 (by simp))
              replace f2 := (hR 2 rfl).trans f2
              replace f3 := (hR 3 rfl).trans f3
              replace f4 := (hR 4 rfl).trans f4
              replace Gx := Gx.rl hr
              replace Gy := Gy.rl hr
              replace G4 := G4.rl hr
              replace G6 := G6.rl hr
              replace HB := HB.trans (hBt.below HB.size (UpOld.all (bx := [⟨N2, some 3, 0, 5, .agg #[.bool false, .slice none 0 0], some (4, 14, 2), []⟩]) ⟨someNe, trivial⟩))
              clear hBt hr hR hP hX hU
              refine wp_seq ?_
              refine region4 [some 15, some 16, some 17, some 18, some 19, some 20, some 21, none] [Eqs (.agg #[.bool n_4, .slice a_4 r_4.length c_4]), Eqs (.agg #[.bool n_8, .slice a_8 r_8.length c_8]), OutN ((ov (-zx) ((Int.gcd (-zx) (-zy) : Nat) : Int))) (Bx), Eqs (.agg #[.bool n_6, .slice a_6 r_6.length c_6]), Eqs (.agg #[.bool n_8, .slice a_8 r_8.length c_8]), OutN ((ov (-zy) ((Int.gcd (-zx) (-zy) : Nat) : Int))) (By), OutQ ((ov (-zx) ((Int.gcd (-zx) (-zy) : Nat) : Int))) ((ov (-zy) ((Int.gcd (-zx) (-zy) : Nat) : Int))) ((Bx) + (By)), (fun _ _ => True)] [⟨Q4, none, (gs1 2), 4, .agg #[.bool false, .slice none 0 0, .bool false, .slice none 0 0], some (7, 21, 6), []⟩] [] (by kernel_rfl) hn rfl (by kernel_rfl) (by kernel_rfl) (by kernel_rfl) (by kernel_rfl) (by kernel_rfl) (by kernel_rfl) ⟨Eqs.mono4 _, Eqs.mono4 _, OutN.mono4 _ _, Eqs.mono4 _, Eqs.mono4 _, OutN.mono4 _ _, OutQ.mono4 _ _ _, True.mono4, trivial⟩ (ok_cons Q4ok ok_nil) (IsOld.all (bx := [⟨Q4, none, (gs1 2), 4, .agg #[.bool false, .slice none 0 0, .bool false, .slice none 0 0], some (7, 21, 6), []⟩]) ⟨fun _ => ⟨f4, b4⟩, trivial⟩) (DisOld.all (bx := [⟨Q4, none, (gs1 2), 4, .agg #[.bool false, .slice none 0 0, .bool false, .slice none 0 0], some (7, 21, 6), []⟩]) ⟨fun _ => trivial, trivial⟩) ?_ ?_
              · exact ⟨.norm 15 rfl rfl rfl (fun a_ w_ hn_ hBt hr hR hD hO hS => op_loadv N2ok ((hR 2 rfl).trans f2) (b2.keep hBt ⟨fun _ => ne2_4.symm, trivial⟩)),
                  .norm 16 rfl rfl rfl (fun a_ w_ hn_ hBt hr hR hD hO hS => op_loadv N2ok ((hR 5 rfl).trans f5) (b5.keep hBt ⟨fun _ => ne4_5, trivial⟩)),
                  .norm 17 rfl rfl rfl (fun a_ w_ hn_ hBt hr hR hD hO hS => op_nover (outn_eq (show a_.eval (.tmp 15) = .agg #[.bool n_4, .slice a_4 r_4.length c_4] from hD 0 rfl) (G4.rl hr) l4) (outn_eq (show a_.eval (.tmp 16) = .agg #[.bool n_8, .slice a_8 r_8.length c_8] from hD 1 rfl) (G8.rl hr) l8) (by omega) (by omega) (gcd_ne _ (by omega))),
                  .norm 18 rfl rfl rfl (fun a_ w_ hn_ hBt hr hR hD hO hS => op_loadv N2ok ((hR 3 rfl).trans f3) (b3.keep hBt ⟨fun _ => ne3_4.symm, trivial⟩)),
                  .norm 19 rfl rfl rfl (fun a_ w_ hn_ hBt hr hR hD hO hS => op_loadv N2ok ((hR 5 rfl).trans f5) (b5.keep hBt ⟨fun _ => ne4_5, trivial⟩)),
                  .norm 20 rfl rfl rfl (fun a_ w_ hn_ hBt hr hR hD hO hS => op_nover (outn_eq (show a_.eval (.tmp 18) = .agg #[.bool n_6, .slice a_6 r_6.length c_6] from hD 3 rfl) (G6.rl hr) l6) (outn_eq (show a_.eval (.tmp 19) = .agg #[.bool n_8, .slice a_8 r_8.length c_8] from hD 4 rfl) (G8.rl hr) l8) (by omega) (by omega) (gcd_ne _ (by omega))),
                  .norm 21 rfl rfl rfl (fun a_ w_ hn_ hBt hr hR hD hO hS => op_bQ (L := (Bx) + (By)) ((show OutN ((ov (-zx) ((Int.gcd (-zx) (-zy) : Nat) : Int))) (Bx) (a_.eval (.tmp 17)) w_ from hD 2 rfl).to rfl (by omega)) ((show OutN ((ov (-zy) ((Int.gcd (-zx) (-zy) : Nat) : Int))) (By) (a_.eval (.tmp 20)) w_ from hD 5 rfl).to rfl (by omega))),
                  .store 0 _ _ _ rfl rfl rfl rfl rfl rfl rfl (fun ia h => by cases h) rfl rfl rfl OutQ.cs,
                  trivial⟩
              · intro a9 w9 gs9 hn9 hd9 hBt hr hR hP hX hU
                replace hn := hn9; replace hd := hd9.trans hd
                obtain ⟨n_10, a_10, c_10, r_10, o_10, b_10, d_10, s_10, e21, G10, K10, l10, k10⟩ : OutQ ((ov (-zx) ((Int.gcd (-zx) (-zy) : Nat) : Int))) ((ov (-zy) ((Int.gcd (-zx) (-zy) : Nat) : Int))) ((Bx) + (By)) (a9.eval (.tmp 21)) w9 := hP 6 (by decide)
                have b4 : BoxV Q4 w9 ((gs1 2)) (.agg #[.bool n_10, .slice a_10 r_10.length c_10, .bool o_10, .slice b_10 s_10.length d_10]) := boxv_old ((hX 0 _ rfl).2.1 rfl) (hX 0 _ rfl).2.2.2 e21
                replace f4 : a9.eval (.tmp 4) = _ := (hR 4 rfl).trans f4
                replace Gx := Gx.rl hr
                replace Gy := Gy.rl hr
                replace G4 := G4.rl hr
                replace G6 := G6.rl hr
                replace G8 := G8.rl hr
                replace HB := HB.trans (hBt.below HB.size (UpOld.all (bx := [⟨Q4, none, (gs1 2), 4, .agg #[.bool false, .slice none 0 0, .bool false, .slice none 0 0], some (7, 21, 6), []⟩]) ⟨fun _ => u4, trivial⟩))
                clear hBt hr hR hP hX hU
                refine wp_ret ?_
                repeat (first | refine then_ret ?_ | refine scope_ret ?_ | refine block_ret ?_)
                exact bodyPost_ret (v := .agg #[.bool n_10, .slice a_10 r_10.length c_10, .bool o_10, .slice b_10 s_10.length d_10]) (res_c rfl f4 (lv_Q4 b4)) hd ⟨_, rfl, OutQ.to (outq_eq rfl G10 K10 l10 k10) (mk_neg hc7').1 (mk_neg hc7').2 (by omega), HB⟩
      · skip
        have hc7' : 0 < zy := by have h := Gy.2; rw [hc7] at h; have h2 := of_decide_eq_false h.symm; omega
        refine wp_skip ?_
        refine wp_seq ?_
        refine region4 [some 12, some 13, some 14, some 5, none] [Eqs (.agg #[.bool nx, .slice ax xs.length cx]), Eqs (.agg #[.bool ny, .slice ay ys.length cy]), OutN (((Int.gcd zx zy : Nat) : Int)) ((Bx) + (By)), (fun _ _ => True), (fun _ _ => True)] [⟨N2, some 3, 0, 5, .agg #[.bool false, .slice none 0 0], some (4, 14, 2), []⟩] [] (by kernel_rfl) hn rfl (by kernel_rfl) (by kernel_rfl) (by kernel_rfl) (by kernel_rfl) (by kernel_rfl) (by kernel_rfl) ⟨Eqs.mono4 _, Eqs.mono4 _, OutN.mono4 _ _, True.mono4, True.mono4, trivial⟩ (ok_cons N2ok ok_nil) (IsOld.all (bx := [⟨N2, some 3, 0, 5, .agg #[.bool false, .slice none 0 0], some (4, 14, 2), []⟩]) ⟨someNe, trivial⟩) (DisOld.all (bx := [⟨N2, some 3, 0, 5, .agg #[.bool false, .slice none 0 0], some (4, 14, 2), []⟩]) ⟨someNe, trivial⟩) ?_ ?_
        · exact ⟨.norm 12 rfl rfl rfl (fun a_ w_ hn_ hBt hr hR hD hO hS => op_loadv N2ok ((hR 2 rfl).trans f2) (b2.keep hBt ⟨someNe, trivial⟩)),
            .norm 13 rfl rfl rfl (fun a_ w_ hn_ hBt hr hR hD hO hS => op_loadv N2ok ((hR 3 rfl).trans f3) (b3.keep hBt ⟨someNe, trivial⟩)),
            .norm 14 rfl rfl rfl (fun a_ w_ hn_ hBt hr hR hD hO hS => op_ngcd (L1 := Bx) (L2 := By) (outn_eq (show a_.eval (.tmp 12) = .agg #[.bool nx, .slice ax xs.length cx] from hD 0 rfl) (Gx.rl hr) Lx) (outn_eq (show a_.eval (.tmp 13) = .agg #[.bool ny, .slice ay ys.length cy] from hD 1 rfl) (Gy.rl hr) Ly) (by omega) (by omega)),
            .alloc 0 _ rfl rfl (.inl ⟨rfl, rfl⟩) rfl rfl rfl rfl rfl,
            .store 0 _ _ _ rfl rfl rfl rfl rfl rfl rfl (fun ia h => by cases h; rfl) rfl rfl rfl OutN.cs,
            trivial⟩
        · intro a11 w11 gs11 hn11 hd11 hBt hr hR hP hX hU
          replace hn := hn11; replace hd := hd11.trans hd
          have ne4_5 : (gs1 2) ≠ gs11 0 := by have h1 := b4.lt; have h2 := (hX 0 _ rfl).2.2.1 (by simp); omega
          replace b2 := b2.keep hBt ⟨someNe, trivial⟩
          replace b3 := b3.keep hBt ⟨someNe, trivial⟩
          replace b4 := b4.keep hBt ⟨someNe, trivial⟩
          obtain ⟨n_12, a_12, c_12, r_12, e14, G12, l12⟩ : OutN (((Int.gcd zx zy : Nat) : Int)) ((Bx) + (By)) (a11.eval (.tmp 14)) w11 := hP 2 (by decide)
          have b5 : BoxV N2 w11 (gs11 0) (.agg #[.bool n_12, .slice a_12 r_12.length c_12]) := boxv_of (hX 0 _ rfl).2.2.2 e14
          have f5 := (hX 0 _ rfl).1
          have u5 : w.heap.size ≤ gs11 0 := Nat.le_trans HB.size ((hX 0 _ rfl).2.2.1 (by simp))
          replace f2 := (hR 2 rfl).trans f2
          replace f3 := (hR 3 rfl).trans f3
          replace f4 := (hR 4 rfl).trans f4
          replace Gx := Gx.rl hr
          replace Gy := Gy.rl hr
          replace HB := HB.trans (hBt.below HB.size (UpOld.all (bx := [⟨N2, some 3, 0, 5, .agg #[.bool false, .slice none 0 0], some (4, 14, 2), []⟩]) ⟨someNe, trivial⟩))
          clear hBt hr hR hP hX hU
          refine wp_seq ?_
          refine region4 [some 15, some 16, some 17, some 18, some 19, some 20, some 21, none] [Eqs (.agg #[.bool nx, .slice ax xs.length cx]), Eqs (.agg #[.bool n_12, .slice a_12 r_12.length c_12]), OutN ((ov zx ((Int.gcd zx zy : Nat) : Int))) (Bx), Eqs (.agg #[.bool ny, .slice ay ys.length cy]), Eqs (.agg #[.bool n_12, .slice a_12 r_12.length c_12]), OutN ((ov zy ((Int.gcd zx zy : Nat) : Int))) (By), OutQ ((ov zx ((Int.gcd zx zy : Nat) : Int))) ((ov zy ((Int.gcd zx zy : Nat) : Int))) ((Bx) + (By)), (fun _ _ => True)] [⟨Q4, none, (gs1 2), 4, .agg #[.bool false, .slice none 0 0, .bool false, .slice none 0 0], some (7, 21, 6), []⟩] [] (by kernel_rfl) hn rfl (by kernel_rfl) (by kernel_rfl) (by kernel_rfl) (by kernel_rfl) (by kernel_rfl) (by kernel_rfl) ⟨Eqs.mono4 _, Eqs.mono4 _, OutN.mono4 _ _, Eqs.mono4 _, Eqs.mono4 _, OutN.mono4 _ _, OutQ.mono4 _ _ _, True.mono4, trivial⟩ (ok_cons Q4ok ok_nil) (IsOld.all (bx := [⟨Q4, none, (gs1 2), 4, .agg #[.bool false, .slice none 0 0, .bool false, .slice none 0 0], some (7, 21, 6), []⟩]) ⟨fun _ => ⟨f4, b4⟩, trivial⟩) (DisOld.all (bx := [⟨Q4, none, (gs1 2), 4, .agg #[.bool false, .slice none 0 0, .bool false, .slice none 0 0], some (7, 21, 6), []⟩]) ⟨fun _ => trivial, trivial⟩) ?_ ?_
          · exact ⟨.norm 15 rfl rfl rfl (fun a_ w_ hn_ hBt hr hR hD hO hS => op_loadv N2ok ((hR 2 rfl).trans f2) (b2.keep hBt ⟨fun _ => ne2_4.symm, trivial⟩)),
              .norm 16 rfl rfl rfl (fun a_ w_ hn_ hBt hr hR hD hO hS => op_loadv N2ok ((hR 5 rfl).trans f5) (b5.keep hBt ⟨fun _ => ne4_5, trivial⟩)),
              .norm 17 rfl rfl rfl (fun a_ w_ hn_ hBt hr hR hD hO hS => op_nover (outn_eq (show a_.eval (.tmp 15) = .agg #[.bool nx, .slice ax xs.length cx] from hD 0 rfl) (Gx.rl hr) Lx) (outn_eq (show a_.eval (.tmp 16) = .agg #[.bool n_12, .slice a_12 r_12.length c_12] from hD 1 rfl) (G12.rl hr) l12) (by omega) (by omega) (gcd_ne _ (by omega))),
              .norm 18 rfl rfl rfl (fun a_ w_ hn_ hBt hr hR hD hO hS => op_loadv N2ok ((hR 3 rfl).trans f3) (b3.keep hBt ⟨fun _ => ne3_4.symm, trivial⟩)),
              .norm 19 rfl rfl rfl (fun a_ w_ hn_ hBt hr hR hD hO hS => op_loadv N2ok ((hR 5 rfl).trans f5) (b5.keep hBt ⟨fun _ => ne4_5, trivial⟩)),
              .norm 20 rfl rfl rfl (fun a_ w_ hn_ hBt hr hR hD hO hS => op_nover (outn_eq (show a_.eval (.tmp 18) = .agg #[.bool ny, .slice ay ys.length cy] from hD 3 rfl) (Gy.rl hr) Ly) (outn_eq (show a_.eval (.tmp 19) = .agg #[.bool n_12, .slice a_12 r_12.length c_12] from hD 4 rfl) (G12.rl hr) l12) (by omega) (by omega) (gcd_ne _ (by omega))),
              .norm 21 rfl rfl rfl (fun a_ w_ hn_ hBt hr hR hD hO hS => op_bQ (L := (Bx) + (By)) ((show OutN ((ov zx ((Int.gcd zx zy : Nat) : Int))) (Bx) (a_.eval (.tmp 17)) w_ from hD 2 rfl).to rfl (by omega)) ((show OutN ((ov zy ((Int.gcd zx zy : Nat) : Int))) (By) (a_.eval (.tmp 20)) w_ from hD 5 rfl).to rfl (by omega))),
              .store 0 _ _ _ rfl rfl rfl rfl rfl rfl rfl (fun ia h => by cases h) rfl rfl rfl OutQ.cs,
              trivial⟩
          · intro a13 w13 gs13 hn13 hd13 hBt hr hR hP hX hU
            replace hn := hn13; replace hd := hd13.trans hd
            obtain ⟨n_14, a_14, c_14, r_14, o_14, b_14, d_14, s_14, e21, G14, K14, l14, k14⟩ : OutQ ((ov zx ((Int.gcd zx zy : Nat) : Int))) ((ov zy ((Int.gcd zx zy : Nat) : Int))) ((Bx) + (By)) (a13.eval (.tmp 21)) w13 := hP 6 (by decide)
            have b4 : BoxV Q4 w13 ((gs1 2)) (.agg #[.bool n_14, .slice a_14 r_14.length c_14, .bool o_14, .slice b_14 s_14.length d_14]) := boxv_old ((hX 0 _ rfl).2.1 rfl) (hX 0 _ rfl).2.2.2 e21
            replace f4 : a13.eval (.tmp 4) = _ := (hR 4 rfl).trans f4
            replace Gx := Gx.rl hr
            replace Gy := Gy.rl hr
            replace G12 := G12.rl hr
            replace HB := HB.trans (hBt.below HB.size (UpOld.all (bx := [⟨Q4, none, (gs1 2), 4, .agg #[.bool false, .slice none 0 0, .bool false, .slice none 0 0], some (7, 21, 6), []⟩]) ⟨fun _ => u4, trivial⟩))
            clear hBt hr hR hP hX hU
            refine wp_ret ?_
            repeat (first | refine then_ret ?_ | refine scope_ret ?_ | refine block_ret ?_)
            exact bodyPost_ret (v := .agg #[.bool n_14, .slice a_14 r_14.length c_14, .bool o_14, .slice b_14 s_14.length d_14]) (res_c rfl f4 (lv_Q4 b4)) hd ⟨_, rfl, OutQ.to (outq_eq rfl G14 K14 l14 k14) (mk_pos hc7').1 (mk_pos hc7').2 (by omega), HB⟩

theorem has_qmake : Has Try.prog 59 := by unfold Has; kernel_rfl
theorem op_qmake {dst : Option Tmp} {ty : TypeId} {pos : String} {after : Array Edge} {guard : Option (Nat × Bool)} {a : Act} {w : World} {ats : Array TypeId} {i j : Nat} {Bx : Nat} {zx : Int} (Hx : OutN zx Bx (a.eval (.tmp i)) w) {By : Nat} {zy : Int} (Hy : OutN zy By (a.eval (.tmp j)) w) (hL : Bx + By ≤ 300000) (hy : zy ≠ 0) :
    Does Try.prog { dst, op := .call { callee := .value (.func 59), args := #[.tmp i, .tmp j], argTypes := ats }, type := ty, pos, after, guard } a.eval w fun v w' => Below w.heap.size w w' ∧ (OutQ (nm zx zy) (dn zx zy) (Bx + By)) v w' := by
  obtain ⟨nx, ax, cx, xs, ex, Gx, Lx⟩ := Hx
  obtain ⟨ny, ay, cy, ys, ey, Gy, Ly⟩ := Hy
  refine does_call has_qmake _ (by simp only [List.map_toArray, List.map_cons, List.map_nil, ex, ey]) ((qmake_z w Bx _ _ _ _ _ Gx Lx By _ _ _ _ _ Gy Ly hL hy).mono ?_)
  rintro e w' ⟨v, rfl, h1, hb⟩
  exact ⟨_, rfl, hb, h1⟩

set_option maxRecDepth 20000 in
set_option maxHeartbeats 2000000 in
theorem qtold_z (w : World) (Bx : Nat) (nx : Bool) (ax : Option Addr) (cx : Nat) (xs : List Int) (px : Int) (Gx : Dm.Wh w nx ax cx xs px) (Lx : xs.length ≤ Bx) (ox : Bool) (bx : Option Addr) (dx : Nat) (xt : List Int) (qx : Int) (Kx : Dm.Wh w ox bx dx xt qx) (Mx : xt.length ≤ Bx) (hL : Bx ≤ 400000) (hq : 0 < qx) :
    Calls Try.prog 53 #[.agg #[.bool nx, .slice ax xs.length cx, .bool ox, .slice bx xt.length dx]] w fun e w' => ∃ v, e = .returned v ∧ (OutR px qx (2 * Bx)) v w' ∧ Below w.heap.size w w' := by
  go_enter Try.func53, Try.ntmps53
  generalize hA : (Act.mk _ _) = aa
  have hn : aa.tmps.size = 10 := by rw [← hA]; rfl
  have hd : aa.defers = [] := by rw [← hA]
  have f0 : aa.eval (.tmp 0) = .agg #[.bool nx, .slice ax xs.length cx, .bool ox, .slice bx xt.length dx] := by rw [← hA]; rfl
  clear hA
  have HB : Below w.heap.size w w := Below.refl _ _
  refine wp_seq ?_
  refine region4 [some 1, some 2] [(fun _ _ => True), (fun _ _ => True)] [⟨Q4, some 0, 0, 1, .agg #[.bool nx, .slice ax xs.length cx, .bool ox, .slice bx xt.length dx], none, []⟩, ⟨R3, some 1, 0, 2, .agg #[.bool false, .slice none 0 0, .slice none 0 0], none, []⟩] [] (by kernel_rfl) hn rfl (by kernel_rfl) (by kernel_rfl) (by kernel_rfl) (by kernel_rfl) (by kernel_rfl) (by kernel_rfl) ⟨True.mono4, True.mono4, trivial⟩ (ok_cons Q4ok (ok_cons R3ok ok_nil)) (IsOld.all (bx := [⟨Q4, some 0, 0, 1, .agg #[.bool nx, .slice ax xs.length cx, .bool ox, .slice bx xt.length dx], none, []⟩, ⟨R3, some 1, 0, 2, .agg #[.bool false, .slice none 0 0, .slice none 0 0], none, []⟩]) ⟨someNe, someNe, trivial⟩) (DisOld.all (bx := [⟨Q4, some 0, 0, 1, .agg #[.bool nx, .slice ax xs.length cx, .bool ox, .slice bx xt.length dx], none, []⟩, ⟨R3, some 1, 0, 2, .agg #[.bool false, .slice none 0 0, .slice none 0 0], none, []⟩]) ⟨someNe, someNe, trivial⟩) ?_ ?_
  · exact ⟨.alloc 0 _ rfl rfl (.inr ⟨_, rfl, q4_cs, fun a_ hR => (hR 0 rfl).trans f0⟩) rfl rfl rfl rfl rfl,
      .alloc 1 _ rfl rfl (.inl ⟨rfl, rfl⟩) rfl rfl rfl rfl rfl,
      trivial⟩
  · intro a1 w1 gs1 hn1 hd1 hBt hr hR hP hX hU
    replace hn := hn1; replace hd := hd1.trans hd
    have ne1_2 : gs1 0 ≠ gs1 1 := hU 0 1 (by simp) (by simp) (by decide)
    have b1 : BoxV Q4 w1 (gs1 0) (.agg #[.bool nx, .slice ax xs.length cx, .bool ox, .slice bx xt.length dx]) := (hX 0 _ rfl).2.2.2
    have f1 := (hX 0 _ rfl).1
    have u1 : w.heap.size ≤ gs1 0 := Nat.le_trans HB.size ((hX 0 _ rfl).2.2.1 (by simp))
    have b2 : BoxV R3 w1 (gs1 1) (.agg #[.bool false, .slice none 0 0, .slice none 0 0]) := (hX 1 _ rfl).2.2.2
    have f2 := (hX 1 _ rfl).1
    have u2 : w.heap.size ≤ gs1 1 := Nat.le_trans HB.size ((hX 1 _ rfl).2.2.1 (by simp))
    replace Gx := Gx.rl hr
    replace Kx := Kx.rl hr
    replace HB := HB.trans (hBt.below HB.size (UpOld.all (bx := [⟨Q4, some 0, 0, 1, .agg #[.bool nx, .slice ax xs.length cx, .bool ox, .slice bx xt.length dx], none, []⟩, ⟨R3, some 1, 0, 2, .agg #[.bool false, .slice none 0 0, .slice none 0 0], none, []⟩]) ⟨someNe, someNe, trivial⟩))
    clear hBt hr hR hP hX hU
    refine wp_seq ?_
    refine region4 [some 3, some 4, some 5, some 6, some 7, some 8, some 9, none] [Eqs (.pointer (some ⟨gs1 0, 0, none⟩)), Eqs (.agg #[.bool nx, .slice ax xs.length cx]), OutW (px) (Bx), Eqs (.pointer (some ⟨gs1 0, 2, none⟩)), Eqs (.agg #[.bool ox, .slice bx xt.length dx]), OutL (qx) (Bx), OutR (px) (qx) ((Bx) + (Bx)), (fun _ _ => True)] [⟨R3, none, (gs1 1), 2, .agg #[.bool false, .slice none 0 0, .slice none 0 0], some (7, 9, 6), []⟩] [] (by kernel_rfl) hn rfl (by kernel_rfl) (by kernel_rfl) (by kernel_rfl) (by kernel_rfl) (by kernel_rfl) (by kernel_rfl) ⟨Eqs.mono4 _, Eqs.mono4 _, OutW.mono4 _ _, Eqs.mono4 _, Eqs.mono4 _, OutL.mono4 _ _, OutR.mono4 _ _ _, True.mono4, trivial⟩ (ok_cons R3ok ok_nil) (IsOld.all (bx := [⟨R3, none, (gs1 1), 2, .agg #[.bool false, .slice none 0 0, .slice none 0 0], some (7, 9, 6), []⟩]) ⟨fun _ => ⟨f2, b2⟩, trivial⟩) (DisOld.all (bx := [⟨R3, none, (gs1 1), 2, .agg #[.bool false, .slice none 0 0, .slice none 0 0], some (7, 9, 6), []⟩]) ⟨fun _ => trivial, trivial⟩) ?_ ?_
    · exact ⟨.norm 3 rfl rfl rfl (fun a_ w_ hn_ hBt hr hR hD hO hS => op_faQ fa_q0 ((hR 1 rfl).trans f1)),
        .norm 4 rfl rfl rfl (fun a_ w_ hn_ hBt hr hR hD hO hS => op_ldq0 (show a_.eval (.tmp 3) = .pointer (some ⟨gs1 0, 0, none⟩) from hD 0 rfl) (b1.keep hBt ⟨fun _ => ne1_2.symm, trivial⟩)),
        .norm 5 rfl rfl rfl (fun a_ w_ hn_ hBt hr hR hD hO hS => op_ntold (outn_eq (show a_.eval (.tmp 4) = .agg #[.bool nx, .slice ax xs.length cx] from hD 1 rfl) (Gx.rl hr) Lx) (by omega)),
        .norm 6 rfl rfl rfl (fun a_ w_ hn_ hBt hr hR hD hO hS => op_faQ fa_q1 ((hR 1 rfl).trans f1)),
        .norm 7 rfl rfl rfl (fun a_ w_ hn_ hBt hr hR hD hO hS => op_ldq1 (show a_.eval (.tmp 6) = .pointer (some ⟨gs1 0, 2, none⟩) from hD 3 rfl) (b1.keep hBt ⟨fun _ => ne1_2.symm, trivial⟩)),
        .norm 8 rfl rfl rfl (fun a_ w_ hn_ hBt hr hR hD hO hS => op_nlimbs (outn_eq (show a_.eval (.tmp 7) = .agg #[.bool ox, .slice bx xt.length dx] from hD 4 rfl) (Kx.rl hr) Mx) (by omega) hq),
        .norm 9 rfl rfl rfl (fun a_ w_ hn_ hBt hr hR hD hO hS => op_bRo ((show OutW (px) (Bx) (a_.eval (.tmp 5)) w_ from hD 2 rfl).to rfl (by omega)) ((show OutL (qx) (Bx) (a_.eval (.tmp 8)) w_ from hD 5 rfl).to (by omega))),
        .store 0 _ _ _ rfl rfl rfl rfl rfl rfl rfl (fun ia h => by cases h) rfl rfl rfl OutR.cs,
        trivial⟩
    · intro a2 w2 gs2 hn2 hd2 hBt hr hR hP hX hU
      replace hn := hn2; replace hd := hd2.trans hd
      obtain ⟨n_3, a_3, c_3, r_3, b_3, d_3, s_3, e9, G3, K3, l3, k3⟩ : OutR (px) (qx) ((Bx) + (Bx)) (a2.eval (.tmp 9)) w2 := hP 6 (by decide)
      have A3 := G3.ag; have S3 := K3.sl; have V3 := K3.val
      have b2 : BoxV R3 w2 ((gs1 1)) (.agg #[.bool n_3, .slice a_3 r_3.length c_3, .slice b_3 s_3.length d_3]) := boxv_old ((hX 0 _ rfl).2.1 rfl) (hX 0 _ rfl).2.2.2 e9
      replace f2 : a2.eval (.tmp 2) = _ := (hR 2 rfl).trans f2
      replace Gx := Gx.rl hr
      replace Kx := Kx.rl hr
      replace HB := HB.trans (hBt.below HB.size (UpOld.all (bx := [⟨R3, none, (gs1 1), 2, .agg #[.bool false, .slice none 0 0, .slice none 0 0], some (7, 9, 6), []⟩]) ⟨fun _ => u2, trivial⟩))
      clear hBt hr hR hP hX hU
      refine wp_ret ?_
      repeat (first | refine then_ret ?_ | refine scope_ret ?_ | refine block_ret ?_)
      exact bodyPost_ret (v := .agg #[.bool n_3, .slice a_3 r_3.length c_3, .slice b_3 s_3.length d_3]) (res_c rfl f2 (lv_R3 b2)) hd ⟨_, rfl, OutR.to (outr_eq rfl G3 K3 l3 k3) rfl rfl (by omega), HB⟩

theorem has_qtold : Has Try.prog 53 := by unfold Has; kernel_rfl
theorem op_qtold {dst : Option Tmp} {ty : TypeId} {pos : String} {after : Array Edge} {guard : Option (Nat × Bool)} {a : Act} {w : World} {ats : Array TypeId} {i : Nat} {Bx : Nat} {px qx : Int} (Hx : OutQ px qx Bx (a.eval (.tmp i)) w) (hL : Bx ≤ 400000) (hq : 0 < qx) :
    Does Try.prog { dst, op := .call { callee := .value (.func 53), args := #[.tmp i], argTypes := ats }, type := ty, pos, after, guard } a.eval w fun v w' => Below w.heap.size w w' ∧ (OutR px qx (2 * Bx)) v w' := by
  obtain ⟨nx, ax, cx, xs, ox, bx, dx, xt, ex, Gx, Kx, Lx, Mx⟩ := Hx
  refine does_call has_qtold _ (by simp only [List.map_toArray, List.map_cons, List.map_nil, ex]) ((qtold_z w Bx _ _ _ _ _ Gx Lx _ _ _ _ _ Kx Mx hL hq).mono ?_)
  rintro e w' ⟨v, rfl, h1, hb⟩
  exact ⟨_, rfl, hb, h1⟩

set_option maxRecDepth 20000 in
set_option maxHeartbeats 2000000 in
theorem qof_z (w : World) (Bx : Nat) (nx : Bool) (ax : Option Addr) (mx cx : Nat) (xs : List Int) (zx : Int) (Ax : Ag w nx ax mx cx xs zx) (Lx : xs.length ≤ Bx) (By : Nat) (ny : Bool) (ay : Option Addr) (my cy : Nat) (ys : List Int) (zy : Int) (Ay : Ag w ny ay my cy ys zy) (Ly : ys.length ≤ By) (hL : Bx + By ≤ 10000) (hy : zy ≠ 0) :
    Calls Try.prog 30 #[.agg #[.bool nx, .slice ax mx cx], .agg #[.bool ny, .slice ay my cy]] w fun e w' => ∃ v, e = .returned v ∧ (Tup2 (OutR (nm zx zy) (dn zx zy) (6 * (Bx + By))) (Eqs (.int .i64 0))) v w' ∧ Below w.heap.size w w' := by
  go_enter Try.func30, Try.ntmps30
  generalize hA : (Act.mk _ _) = aa
  have hn : aa.tmps.size = 18 := by rw [← hA]; rfl
  have hd : aa.defers = [] := by rw [← hA]
  have f0 : aa.eval (.tmp 0) = .agg #[.bool nx, .slice ax mx cx] := by rw [← hA]; rfl
  have f1 : aa.eval (.tmp 1) = .agg #[.bool ny, .slice ay my cy] := by rw [← hA]; rfl
  clear hA
  have HB : Below w.heap.size w w := Below.refl _ _
  have Tx := Ax.sl
  have Ty := Ay.sl
  refine wp_seq ?_
  refine region4 [some 2, some 3, some 4, some 5] [(fun _ _ => True), (fun _ _ => True), (fun _ _ => True), Eqs ((.int .i64 0))] [⟨W2, some 0, 0, 2, .agg #[.bool nx, .slice ax mx cx], none, []⟩, ⟨W2, some 1, 0, 3, .agg #[.bool ny, .slice ay my cy], none, []⟩, ⟨R3, some 2, 0, 4, .agg #[.bool false, .slice none 0 0, .slice none 0 0], none, []⟩] [] (by kernel_rfl) hn rfl (by kernel_rfl) (by kernel_rfl) (by kernel_rfl) (by kernel_rfl) (by kernel_rfl) (by kernel_rfl) ⟨True.mono4, True.mono4, True.mono4, Eqs.mono4 _, trivial⟩ (ok_cons W2ok (ok_cons W2ok (ok_cons R3ok ok_nil))) (IsOld.all (bx := [⟨W2, some 0, 0, 2, .agg #[.bool nx, .slice ax mx cx], none, []⟩, ⟨W2, some 1, 0, 3, .agg #[.bool ny, .slice ay my cy], none, []⟩, ⟨R3, some 2, 0, 4, .agg #[.bool false, .slice none 0 0, .slice none 0 0], none, []⟩]) ⟨someNe, someNe, someNe, trivial⟩) (DisOld.all (bx := [⟨W2, some 0, 0, 2, .agg #[.bool nx, .slice ax mx cx], none, []⟩, ⟨W2, some 1, 0, 3, .agg #[.bool ny, .slice ay my cy], none, []⟩, ⟨R3, some 2, 0, 4, .agg #[.bool false, .slice none 0 0, .slice none 0 0], none, []⟩]) ⟨someNe, someNe, someNe, trivial⟩) ?_ ?_
  · exact ⟨.alloc 0 _ rfl rfl (.inr ⟨_, rfl, w2_cs, fun a_ hR => (hR 0 rfl).trans f0⟩) rfl rfl rfl rfl rfl,
      .alloc 1 _ rfl rfl (.inr ⟨_, rfl, w2_cs, fun a_ hR => (hR 1 rfl).trans f1⟩) rfl rfl rfl rfl rfl,
      .alloc 2 _ rfl rfl (.inl ⟨rfl, rfl⟩) rfl rfl rfl rfl rfl,
      .norm 5 rfl rfl rfl (fun a_ w_ hn_ hBt hr hR hD hO hS => op_assign rfl),
      trivial⟩
  · intro a1 w1 gs1 hn1 hd1 hBt hr hR hP hX hU
    replace hn := hn1; replace hd := hd1.trans hd
    have ne2_4 : gs1 0 ≠ gs1 2 := hU 0 2 (by simp) (by simp) (by decide)
    have ne3_4 : gs1 1 ≠ gs1 2 := hU 1 2 (by simp) (by simp) (by decide)
    have b2 : BoxV W2 w1 (gs1 0) (.agg #[.bool nx, .slice ax mx cx]) := (hX 0 _ rfl).2.2.2
    have f2 := (hX 0 _ rfl).1
    have u2 : w.heap.size ≤ gs1 0 := Nat.le_trans HB.size ((hX 0 _ rfl).2.2.1 (by simp))
    have b3 : BoxV W2 w1 (gs1 1) (.agg #[.bool ny, .slice ay my cy]) := (hX 1 _ rfl).2.2.2
    have f3 := (hX 1 _ rfl).1
    have u3 : w.heap.size ≤ gs1 1 := Nat.le_trans HB.size ((hX 1 _ rfl).2.2.1 (by simp))
    have b4 : BoxV R3 w1 (gs1 2) (.agg #[.bool false, .slice none 0 0, .slice none 0 0]) := (hX 2 _ rfl).2.2.2
    have f4 := (hX 2 _ rfl).1
    have u4 : w.heap.size ≤ gs1 2 := Nat.le_trans HB.size ((hX 2 _ rfl).2.2.1 (by simp))
    have e5 : a1.eval (.tmp 5) = (.int .i64 0) := hP 3 (by decide)
    have f5 := e5
    replace Ax := Ax.rl hr
    replace Tx := Tx.rl hr
    replace Ay := Ay.rl hr
    replace Ty := Ty.rl hr
    replace HB := HB.trans (hBt.below HB.size (UpOld.all (bx := [⟨W2, some 0, 0, 2, .agg #[.bool nx, .slice ax mx cx], none, []⟩, ⟨W2, some 1, 0, 3, .agg #[.bool ny, .slice ay my cy], none, []⟩, ⟨R3, some 2, 0, 4, .agg #[.bool false, .slice none 0 0, .slice none 0 0], none, []⟩]) ⟨someNe, someNe, someNe, trivial⟩))
    clear hBt hr hR hP hX hU
    refine wp_seq ?_
    refine region4 [some 7, some 8, some 6, none] [Eqs (.agg #[.bool ny, .slice ay my cy]), OutN (zy) (3 * (By)), (fun _ _ => True), (fun _ _ => True)] [⟨N2, some 2, 0, 6, .agg #[.bool false, .slice none 0 0], some (3, 8, 1), []⟩] [] (by kernel_rfl) hn rfl (by kernel_rfl) (by kernel_rfl) (by kernel_rfl) (by kernel_rfl) (by kernel_rfl) (by kernel_rfl) ⟨Eqs.mono4 _, OutN.mono4 _ _, True.mono4, True.mono4, trivial⟩ (ok_cons N2ok ok_nil) (IsOld.all (bx := [⟨N2, some 2, 0, 6, .agg #[.bool false, .slice none 0 0], some (3, 8, 1), []⟩]) ⟨someNe, trivial⟩) (DisOld.all (bx := [⟨N2, some 2, 0, 6, .agg #[.bool false, .slice none 0 0], some (3, 8, 1), []⟩]) ⟨someNe, trivial⟩) ?_ ?_
    · exact ⟨.norm 7 rfl rfl rfl (fun a_ w_ hn_ hBt hr hR hD hO hS => op_loadv W2ok ((hR 3 rfl).trans f3) (b3.keep hBt ⟨someNe, trivial⟩)),
        .norm 8 rfl rfl rfl (fun a_ w_ hn_ hBt hr hR hD hO hS => op_nof (L := By) (isw_eq (show a_.eval (.tmp 7) = .agg #[.bool ny, .slice ay my cy] from hD 0 rfl) (Ay.rl hr) Ly) (by omega)),
        .alloc 0 _ rfl rfl (.inl ⟨rfl, rfl⟩) rfl rfl rfl rfl rfl,
        .store 0 _ _ _ rfl rfl rfl rfl rfl rfl rfl (fun ia h => by cases h; rfl) rfl rfl rfl OutN.cs,
        trivial⟩
    · intro a2 w2 gs2 hn2 hd2 hBt hr hR hP hX hU
      replace hn := hn2; replace hd := hd2.trans hd
      have ne4_6 : (gs1 2) ≠ gs2 0 := by have h1 := b4.lt; have h2 := (hX 0 _ rfl).2.2.1 (by simp); omega
      replace b2 := b2.keep hBt ⟨someNe, trivial⟩
      replace b4 := b4.keep hBt ⟨someNe, trivial⟩
      obtain ⟨n_3, a_3, c_3, r_3, e8, G3, l3⟩ : OutN (zy) (3 * (By)) (a2.eval (.tmp 8)) w2 := hP 1 (by decide)
      have b6 : BoxV N2 w2 (gs2 0) (.agg #[.bool n_3, .slice a_3 r_3.length c_3]) := boxv_of (hX 0 _ rfl).2.2.2 e8
      have f6 := (hX 0 _ rfl).1
      have u6 : w.heap.size ≤ gs2 0 := Nat.le_trans HB.size ((hX 0 _ rfl).2.2.1 (by simp))
      replace f2 := (hR 2 rfl).trans f2
      replace f4 := (hR 4 rfl).trans f4
      replace f5 := (hR 5 rfl).trans f5
      replace Ax := Ax.rl hr
      replace Tx := Tx.rl hr
      replace Ay := Ay.rl hr
      replace Ty := Ty.rl hr
      replace HB := HB.trans (hBt.below HB.size (UpOld.all (bx := [⟨N2, some 2, 0, 6, .agg #[.bool false, .slice none 0 0], some (3, 8, 1), []⟩]) ⟨someNe, trivial⟩))
      clear hBt hr hR hP hX hU
      refine wp_seq ?_
      refine wp_seq ?_
      refine region4 [some 9, some 10, some 11] [Eqs (.agg #[.bool n_3, .slice a_3 r_3.length c_3]), Eqs (.int .i64 (Int.sign zy)), Eqs (.bool (decide ((Int.sign zy) = 0)))] [] [] (by kernel_rfl) hn rfl (by kernel_rfl) (by kernel_rfl) (by kernel_rfl) (by kernel_rfl) (by kernel_rfl) (by kernel_rfl) ⟨Eqs.mono4 _, Eqs.mono4 _, Eqs.mono4 _, trivial⟩ ok_nil (IsOld.all (bx := []) trivial) (DisOld.all (bx := []) trivial) ?_ ?_
      · exact ⟨.norm 9 rfl rfl rfl (fun a_ w_ hn_ hBt hr hR hD hO hS => op_loadv N2ok ((hR 6 rfl).trans f6) (b6.keep hBt trivial)),
          .norm 10 rfl rfl rfl (fun a_ w_ hn_ hBt hr hR hD hO hS => op_nsign (outn_eq (show a_.eval (.tmp 9) = .agg #[.bool n_3, .slice a_3 r_3.length c_3] from hD 0 rfl) (G3.rl hr) l3)),
          .norm 11 rfl rfl rfl (fun a_ w_ hn_ hBt hr hR hD hO hS => op_eqlk (show a_.eval (.tmp 10) = .int .i64 (Int.sign zy) from hD 1 rfl)),
          trivial⟩
      · intro a4 w4 gs4 hn4 hd4 hBt hr hR hP hX hU
        replace hn := hn4; replace hd := hd4.trans hd
        replace b2 := b2.keep hBt trivial
        replace b4 := b4.keep hBt trivial
        replace b6 := b6.keep hBt trivial
        replace f2 := (hR 2 rfl).trans f2
        replace f4 := (hR 4 rfl).trans f4
        replace f5 := (hR 5 rfl).trans f5
        replace f6 := (hR 6 rfl).trans f6
        have e11 : a4.eval (.tmp 11) = .bool (decide ((Int.sign zy) = 0)) := hP 2 (by decide)
        have f11 := e11
        replace Ax := Ax.rl hr
        replace Tx := Tx.rl hr
        replace Ay := Ay.rl hr
        replace Ty := Ty.rl hr
        replace G3 := G3.rl hr
        replace HB := HB.trans (hBt.below HB.size (UpOld.all (bx := []) trivial))
        clear hBt hr hR hP hX hU
        refine wp_cond_split f11 (fun hc11 => ?_) (fun hc11 => ?_)
        · skip
          exact absurd (sign_zero_iff.1 (of_decide_eq_true hc11)) hy
        · skip
          refine wp_skip ?_
          refine wp_seq ?_
          refine region4 [some 13, some 14, some 15, some 16, some 17, none, some 5] [Eqs (.agg #[.bool nx, .slice ax mx cx]), OutN (zx) (3 * (Bx)), Eqs (.agg #[.bool n_3, .slice a_3 r_3.length c_3]), OutQ ((nm zx zy)) ((dn zx zy)) ((3 * (Bx)) + (3 * (By))), OutR ((nm zx zy)) ((dn zx zy)) (2 * ((3 * (Bx)) + (3 * (By)))), (fun _ _ => True), Eqs ((.int .i64 0))] [⟨R3, none, (gs1 2), 4, .agg #[.bool false, .slice none 0 0, .slice none 0 0], some (5, 17, 4), []⟩] [] (by kernel_rfl) hn rfl (by kernel_rfl) (by kernel_rfl) (by kernel_rfl) (by kernel_rfl) (by kernel_rfl) (by kernel_rfl) ⟨Eqs.mono4 _, OutN.mono4 _ _, Eqs.mono4 _, OutQ.mono4 _ _ _, OutR.mono4 _ _ _, True.mono4, Eqs.mono4 _, trivial⟩ (ok_cons R3ok ok_nil) (IsOld.all (bx := [⟨R3, none, (gs1 2), 4, .agg #[.bool false, .slice none 0 0, .slice none 0 0], some (5, 17, 4), []⟩]) ⟨fun _ => ⟨f4, b4⟩, trivial⟩) (DisOld.all (bx := [⟨R3, none, (gs1 2), 4, .agg #[.bool false, .slice none 0 0, .slice none 0 0], some (5, 17, 4), []⟩]) ⟨fun _ => trivial, trivial⟩) ?_ ?_
          · exact ⟨.norm 13 rfl rfl rfl (fun a_ w_ hn_ hBt hr hR hD hO hS => op_loadv W2ok ((hR 2 rfl).trans f2) (b2.keep hBt ⟨fun _ => ne2_4.symm, trivial⟩)),
              .norm 14 rfl rfl rfl (fun a_ w_ hn_ hBt hr hR hD hO hS => op_nof (L := Bx) (isw_eq (show a_.eval (.tmp 13) = .agg #[.bool nx, .slice ax mx cx] from hD 0 rfl) (Ax.rl hr) Lx) (by omega)),
              .norm 15 rfl rfl rfl (fun a_ w_ hn_ hBt hr hR hD hO hS => op_loadv N2ok ((hR 6 rfl).trans f6) (b6.keep hBt ⟨fun _ => ne4_6, trivial⟩)),
              .norm 16 rfl rfl rfl (fun a_ w_ hn_ hBt hr hR hD hO hS => op_qmake (Bx := 3 * (Bx)) (By := 3 * (By)) (show OutN (zx) (3 * (Bx)) (a_.eval (.tmp 14)) w_ from hD 1 rfl) (outn_eq (show a_.eval (.tmp 15) = .agg #[.bool n_3, .slice a_3 r_3.length c_3] from hD 2 rfl) (G3.rl hr) l3) (by omega) hy),
              .norm 17 rfl rfl rfl (fun a_ w_ hn_ hBt hr hR hD hO hS => op_qtold (Bx := (3 * (Bx)) + (3 * (By))) (show OutQ ((nm zx zy)) ((dn zx zy)) ((3 * (Bx)) + (3 * (By))) (a_.eval (.tmp 16)) w_ from hD 3 rfl) (by omega) (dn_pos _ hy)),
              .store 0 _ _ _ rfl rfl rfl rfl rfl rfl rfl (fun ia h => by cases h) rfl rfl rfl OutR.cs,
              .norm 5 rfl rfl rfl (fun a_ w_ hn_ hBt hr hR hD hO hS => op_assign rfl),
              trivial⟩
          · intro a5 w5 gs5 hn5 hd5 hBt hr hR hP hX hU
            replace hn := hn5; replace hd := hd5.trans hd
            obtain ⟨n_6, a_6, c_6, r_6, b_6, d_6, s_6, e17, G6, K6, l6, k6⟩ : OutR ((nm zx zy)) ((dn zx zy)) (2 * ((3 * (Bx)) + (3 * (By)))) (a5.eval (.tmp 17)) w5 := hP 4 (by decide)
            have A6 := G6.ag; have S6 := K6.sl; have V6 := K6.val
            have b4 : BoxV R3 w5 ((gs1 2)) (.agg #[.bool n_6, .slice a_6 r_6.length c_6, .slice b_6 s_6.length d_6]) := boxv_old ((hX 0 _ rfl).2.1 rfl) (hX 0 _ rfl).2.2.2 e17
            replace f4 : a5.eval (.tmp 4) = _ := (hR 4 rfl).trans f4
            have e5 : a5.eval (.tmp 5) = (.int .i64 0) := hP 6 (by decide)
            have f5 := e5
            replace Ax := Ax.rl hr
            replace Tx := Tx.rl hr
            replace Ay := Ay.rl hr
            replace Ty := Ty.rl hr
            replace G3 := G3.rl hr
            replace HB := HB.trans (hBt.below HB.size (UpOld.all (bx := [⟨R3, none, (gs1 2), 4, .agg #[.bool false, .slice none 0 0, .slice none 0 0], some (5, 17, 4), []⟩]) ⟨fun _ => u4, trivial⟩))
            clear hBt hr hR hP hX hU
            refine wp_ret ?_
            repeat (first | refine then_ret ?_ | refine scope_ret ?_ | refine block_ret ?_)
            exact bodyPost_ret (v := .tuple #[.agg #[.bool n_6, .slice a_6 r_6.length c_6, .slice b_6 s_6.length d_6], (.int .i64 0)]) (res_ct rfl f4 (lv_R3 b4) f5) hd ⟨_, rfl, ⟨_, _, rfl, OutR.to (outr_eq rfl G6 K6 l6 k6) rfl rfl (by omega), rfl⟩, HB⟩

theorem has_qof : Has Try.prog 30 := by unfold Has; kernel_rfl
theorem op_qof {dst : Option Tmp} {ty : TypeId} {pos : String} {after : Array Edge} {guard : Option (Nat × Bool)} {a : Act} {w : World} {ats : Array TypeId} {i j : Nat} {Bx : Nat} {zx : Int} (Hx : IsW zx Bx (a.eval (.tmp i)) w) {By : Nat} {zy : Int} (Hy : IsW zy By (a.eval (.tmp j)) w) (hL : Bx + By ≤ 10000) (hy : zy ≠ 0) :
    Does Try.prog { dst, op := .call { callee := .value (.func 30), args := #[.tmp i, .tmp j], argTypes := ats }, type := ty, pos, after, guard } a.eval w fun v w' => Below w.heap.size w w' ∧ (Tup2 (OutR (nm zx zy) (dn zx zy) (6 * (Bx + By))) (Eqs (.int .i64 0))) v w' := by
  obtain ⟨nx, ax, mx, cx, xs, ex, Ax, Lx⟩ := Hx
  obtain ⟨ny, ay, my, cy, ys, ey, Ay, Ly⟩ := Hy
  refine does_call has_qof _ (by simp only [List.map_toArray, List.map_cons, List.map_nil, ex, ey]) ((qof_z w Bx _ _ _ _ _ _ Ax Lx By _ _ _ _ _ _ Ay Ly hL hy).mono ?_)
  rintro e w' ⟨v, rfl, h1, hb⟩
  exact ⟨_, rfl, hb, h1⟩

set_option maxRecDepth 20000 in
set_option maxHeartbeats 2000000 in
theorem qof0_z (w : World) (Bx : Nat) (nx : Bool) (ax : Option Addr) (mx cx : Nat) (xs : List Int) (zx : Int) (Ax : Ag w nx ax mx cx xs zx) (Lx : xs.length ≤ Bx) (By : Nat) (ny : Bool) (ay : Option Addr) (my cy : Nat) (ys : List Int) (zy : Int) (Ay : Ag w ny ay my cy ys zy) (Ly : ys.length ≤ By) (hL : Bx + By ≤ 10000) (hy : zy = 0) :
    Calls Try.prog 30 #[.agg #[.bool nx, .slice ax mx cx], .agg #[.bool ny, .slice ay my cy]] w fun e w' => ∃ v, e = .returned v ∧ (Tup2 (Eqs (.agg #[.bool false, .slice none 0 0, .slice none 0 0])) (Eqs (.int .i64 20))) v w' ∧ Below w.heap.size w w' := by
  go_enter Try.func30, Try.ntmps30
  generalize hA : (Act.mk _ _) = aa
  have hn : aa.tmps.size = 18 := by rw [← hA]; rfl
  have hd : aa.defers = [] := by rw [← hA]
  have f0 : aa.eval (.tmp 0) = .agg #[.bool nx, .slice ax mx cx] := by rw [← hA]; rfl
  have f1 : aa.eval (.tmp 1) = .agg #[.bool ny, .slice ay my cy] := by rw [← hA]; rfl
  clear hA
  have HB : Below w.heap.size w w := Below.refl _ _
  have Tx := Ax.sl
  have Ty := Ay.sl
  refine wp_seq ?_
  refine region4 [some 2, some 3, some 4, some 5] [(fun _ _ => True), (fun _ _ => True), (fun _ _ => True), Eqs ((.int .i64 0))] [⟨W2, some 0, 0, 2, .agg #[.bool nx, .slice ax mx cx], none, []⟩, ⟨W2, some 1, 0, 3, .agg #[.bool ny, .slice ay my cy], none, []⟩, ⟨R3, some 2, 0, 4, .agg #[.bool false, .slice none 0 0, .slice none 0 0], none, []⟩] [] (by kernel_rfl) hn rfl (by kernel_rfl) (by kernel_rfl) (by kernel_rfl) (by kernel_rfl) (by kernel_rfl) (by kernel_rfl) ⟨True.mono4, True.mono4, True.mono4, Eqs.mono4 _, trivial⟩ (ok_cons W2ok (ok_cons W2ok (ok_cons R3ok ok_nil))) (IsOld.all (bx := [⟨W2, some 0, 0, 2, .agg #[.bool nx, .slice ax mx cx], none, []⟩, ⟨W2, some 1, 0, 3, .agg #[.bool ny, .slice ay my cy], none, []⟩, ⟨R3, some 2, 0, 4, .agg #[.bool false, .slice none 0 0, .slice none 0 0], none, []⟩]) ⟨someNe, someNe, someNe, trivial⟩) (DisOld.all (bx := [⟨W2, some 0, 0, 2, .agg #[.bool nx, .slice ax mx cx], none, []⟩, ⟨W2, some 1, 0, 3, .agg #[.bool ny, .slice ay my cy], none, []⟩, ⟨R3, some 2, 0, 4, .agg #[.bool false, .slice none 0 0, .slice none 0 0], none, []⟩]) ⟨someNe, someNe, someNe, trivial⟩) ?_ ?_
  · exact ⟨.alloc 0 _ rfl rfl (.inr ⟨_, rfl, w2_cs, fun a_ hR => (hR 0 rfl).trans f0⟩) rfl rfl rfl rfl rfl,
      .alloc 1 _ rfl rfl (.inr ⟨_, rfl, w2_cs, fun a_ hR => (hR 1 rfl).trans f1⟩) rfl rfl rfl rfl rfl,
      .alloc 2 _ rfl rfl (.inl ⟨rfl, rfl⟩) rfl rfl rfl rfl rfl,
      .norm 5 rfl rfl rfl (fun a_ w_ hn_ hBt hr hR hD hO hS => op_assign rfl),
      trivial⟩
  · intro a1 w1 gs1 hn1 hd1 hBt hr hR hP hX hU
    replace hn := hn1; replace hd := hd1.trans hd
    have ne2_4 : gs1 0 ≠ gs1 2 := hU 0 2 (by simp) (by simp) (by decide)
    have ne3_4 : gs1 1 ≠ gs1 2 := hU 1 2 (by simp) (by simp) (by decide)
    have b2 : BoxV W2 w1 (gs1 0) (.agg #[.bool nx, .slice ax mx cx]) := (hX 0 _ rfl).2.2.2
    have f2 := (hX 0 _ rfl).1
    have u2 : w.heap.size ≤ gs1 0 := Nat.le_trans HB.size ((hX 0 _ rfl).2.2.1 (by simp))
    have b3 : BoxV W2 w1 (gs1 1) (.agg #[.bool ny, .slice ay my cy]) := (hX 1 _ rfl).2.2.2
    have f3 := (hX 1 _ rfl).1
    have u3 : w.heap.size ≤ gs1 1 := Nat.le_trans HB.size ((hX 1 _ rfl).2.2.1 (by simp))
    have b4 : BoxV R3 w1 (gs1 2) (.agg #[.bool false, .slice none 0 0, .slice none 0 0]) := (hX 2 _ rfl).2.2.2
    have f4 := (hX 2 _ rfl).1
    have u4 : w.heap.size ≤ gs1 2 := Nat.le_trans HB.size ((hX 2 _ rfl).2.2.1 (by simp))
    have e5 : a1.eval (.tmp 5) = (.int .i64 0) := hP 3 (by decide)
    have f5 := e5
    replace Ax := Ax.rl hr
    replace Tx := Tx.rl hr
    replace Ay := Ay.rl hr
    replace Ty := Ty.rl hr
    replace HB := HB.trans (hBt.below HB.size (UpOld.all (bx := [⟨W2, some 0, 0, 2, .agg #[.bool nx, .slice ax mx cx], none, []⟩, ⟨W2, some 1, 0, 3, .agg #[.bool ny, .slice ay my cy], none, []⟩, ⟨R3, some 2, 0, 4, .agg #[.bool false, .slice none 0 0, .slice none 0 0], none, []⟩]) ⟨someNe, someNe, someNe, trivial⟩))
    clear hBt hr hR hP hX hU
    refine wp_seq ?_
    refine region4 [some 7, some 8, some 6, none] [Eqs (.agg #[.bool ny, .slice ay my cy]), OutN (zy) (3 * (By)), (fun _ _ => True), (fun _ _ => True)] [⟨N2, some 2, 0, 6, .agg #[.bool false, .slice none 0 0], some (3, 8, 1), []⟩] [] (by kernel_rfl) hn rfl (by kernel_rfl) (by kernel_rfl) (by kernel_rfl) (by kernel_rfl) (by kernel_rfl) (by kernel_rfl) ⟨Eqs.mono4 _, OutN.mono4 _ _, True.mono4, True.mono4, trivial⟩ (ok_cons N2ok ok_nil) (IsOld.all (bx := [⟨N2, some 2, 0, 6, .agg #[.bool false, .slice none 0 0], some (3, 8, 1), []⟩]) ⟨someNe, trivial⟩) (DisOld.all (bx := [⟨N2, some 2, 0, 6, .agg #[.bool false, .slice none 0 0], some (3, 8, 1), []⟩]) ⟨someNe, trivial⟩) ?_ ?_
    · exact ⟨.norm 7 rfl rfl rfl (fun a_ w_ hn_ hBt hr hR hD hO hS => op_loadv W2ok ((hR 3 rfl).trans f3) (b3.keep hBt ⟨someNe, trivial⟩)),
        .norm 8 rfl rfl rfl (fun a_ w_ hn_ hBt hr hR hD hO hS => op_nof (L := By) (isw_eq (show a_.eval (.tmp 7) = .agg #[.bool ny, .slice ay my cy] from hD 0 rfl) (Ay.rl hr) Ly) (by omega)),
        .alloc 0 _ rfl rfl (.inl ⟨rfl, rfl⟩) rfl rfl rfl rfl rfl,
        .store 0 _ _ _ rfl rfl rfl rfl rfl rfl rfl (fun ia h => by cases h; rfl) rfl rfl rfl OutN.cs,
        trivial⟩
    · intro a2 w2 gs2 hn2 hd2 hBt hr hR hP hX hU
      replace hn := hn2; replace hd := hd2.trans hd
      have ne4_6 : (gs1 2) ≠ gs2 0 := by have h1 := b4.lt; have h2 := (hX 0 _ rfl).2.2.1 (by simp); omega
      replace b2 := b2.keep hBt ⟨someNe, trivial⟩
      replace b4 := b4.keep hBt ⟨someNe, trivial⟩
      obtain ⟨n_3, a_3, c_3, r_3, e8, G3, l3⟩ : OutN (zy) (3 * (By)) (a2.eval (.tmp 8)) w2 := hP 1 (by decide)
      have b6 : BoxV N2 w2 (gs2 0) (.agg #[.bool n_3, .slice a_3 r_3.length c_3]) := boxv_of (hX 0 _ rfl).2.2.2 e8
      have f6 := (hX 0 _ rfl).1
      have u6 : w.heap.size ≤ gs2 0 := Nat.le_trans HB.size ((hX 0 _ rfl).2.2.1 (by simp))
      replace f2 := (hR 2 rfl).trans f2
      replace f4 := (hR 4 rfl).trans f4
      replace f5 := (hR 5 rfl).trans f5
      replace Ax := Ax.rl hr
      replace Tx := Tx.rl hr
      replace Ay := Ay.rl hr
      replace Ty := Ty.rl hr
      replace HB := HB.trans (hBt.below HB.size (UpOld.all (bx := [⟨N2, some 2, 0, 6, .agg #[.bool false, .slice none 0 0], some (3, 8, 1), []⟩]) ⟨someNe, trivial⟩))
      clear hBt hr hR hP hX hU
      refine wp_seq ?_
      refine wp_seq ?_
      refine region4 [some 9, some 10, some 11] [Eqs (.agg #[.bool n_3, .slice a_3 r_3.length c_3]), Eqs (.int .i64 (Int.sign zy)), Eqs (.bool (decide ((Int.sign zy) = 0)))] [] [] (by kernel_rfl) hn rfl (by kernel_rfl) (by kernel_rfl) (by kernel_rfl) (by kernel_rfl) (by kernel_rfl) (by kernel_rfl) ⟨Eqs.mono4 _, Eqs.mono4 _, Eqs.mono4 _, trivial⟩ ok_nil (IsOld.all (bx := []) trivial) (DisOld.all (bx := []) trivial) ?_ ?_
      · exact ⟨.norm 9 rfl rfl rfl (fun a_ w_ hn_ hBt hr hR hD hO hS => op_loadv N2ok ((hR 6 rfl).trans f6) (b6.keep hBt trivial)),
          .norm 10 rfl rfl rfl (fun a_ w_ hn_ hBt hr hR hD hO hS => op_nsign (outn_eq (show a_.eval (.tmp 9) = .agg #[.bool n_3, .slice a_3 r_3.length c_3] from hD 0 rfl) (G3.rl hr) l3)),
          .norm 11 rfl rfl rfl (fun a_ w_ hn_ hBt hr hR hD hO hS => op_eqlk (show a_.eval (.tmp 10) = .int .i64 (Int.sign zy) from hD 1 rfl)),
          trivial⟩
      · intro a4 w4 gs4 hn4 hd4 hBt hr hR hP hX hU
        replace hn := hn4; replace hd := hd4.trans hd
        replace b2 := b2.keep hBt trivial
        replace b4 := b4.keep hBt trivial
        replace b6 := b6.keep hBt trivial
        replace f2 := (hR 2 rfl).trans f2
        replace f4 := (hR 4 rfl).trans f4
        replace f5 := (hR 5 rfl).trans f5
        replace f6 := (hR 6 rfl).trans f6
        have e11 : a4.eval (.tmp 11) = .bool (decide ((Int.sign zy) = 0)) := hP 2 (by decide)
        have f11 := e11
        replace Ax := Ax.rl hr
        replace Tx := Tx.rl hr
        replace Ay := Ay.rl hr
        replace Ty := Ty.rl hr
        replace G3 := G3.rl hr
        replace HB := HB.trans (hBt.below HB.size (UpOld.all (bx := []) trivial))
        clear hBt hr hR hP hX hU
        refine wp_cond_split f11 (fun hc11 => ?_) (fun hc11 => ?_)
        · skip
          refine wp_seq ?_
          refine region4 [some 12, none, some 5] [Eqs (.agg #[.bool false, .slice none 0 0, .slice none 0 0]), (fun _ _ => True), Eqs ((.int .i64 20))] [⟨R3, none, (gs1 2), 4, .agg #[.bool false, .slice none 0 0, .slice none 0 0], some (1, 12, 0), []⟩] [] (by kernel_rfl) hn rfl (by kernel_rfl) (by kernel_rfl) (by kernel_rfl) (by kernel_rfl) (by kernel_rfl) (by kernel_rfl) ⟨Eqs.mono4 _, True.mono4, Eqs.mono4 _, trivial⟩ (ok_cons R3ok ok_nil) (IsOld.all (bx := [⟨R3, none, (gs1 2), 4, .agg #[.bool false, .slice none 0 0, .slice none 0 0], some (1, 12, 0), []⟩]) ⟨fun _ => ⟨f4, b4⟩, trivial⟩) (DisOld.all (bx := [⟨R3, none, (gs1 2), 4, .agg #[.bool false, .slice none 0 0, .slice none 0 0], some (1, 12, 0), []⟩]) ⟨fun _ => trivial, trivial⟩) ?_ ?_
          · exact ⟨.norm 12 rfl rfl rfl (fun a_ w_ hn_ hBt hr hR hD hO hS => op_bR0),
              .store 0 _ _ _ rfl rfl rfl rfl rfl rfl rfl (fun ia h => by cases h) rfl rfl rfl (eqs_cs r3_cs),
              .norm 5 rfl rfl rfl (fun a_ w_ hn_ hBt hr hR hD hO hS => op_assign rfl),
              trivial⟩
          · intro a5 w5 gs5 hn5 hd5 hBt hr hR hP hX hU
            replace hn := hn5; replace hd := hd5.trans hd
            replace b2 := b2.keep hBt ⟨fun _ => ne2_4.symm, trivial⟩
            replace b6 := b6.keep hBt ⟨fun _ => ne4_6, trivial⟩
            have e12 : a5.eval (.tmp 12) = .agg #[.bool false, .slice none 0 0, .slice none 0 0] := hP 0 (by decide)
            have b4 : BoxV R3 w5 ((gs1 2)) (.agg #[.bool false, .slice none 0 0, .slice none 0 0]) := boxv_old ((hX 0 _ rfl).2.1 rfl) (hX 0 _ rfl).2.2.2 e12
            replace f4 : a5.eval (.tmp 4) = _ := (hR 4 rfl).trans f4
            replace f2 := (hR 2 rfl).trans f2
            replace f6 := (hR 6 rfl).trans f6
            have e5 : a5.eval (.tmp 5) = (.int .i64 20) := hP 2 (by decide)
            have f5 := e5
            replace Ax := Ax.rl hr
            replace Tx := Tx.rl hr
            replace Ay := Ay.rl hr
            replace Ty := Ty.rl hr
            replace G3 := G3.rl hr
            replace HB := HB.trans (hBt.below HB.size (UpOld.all (bx := [⟨R3, none, (gs1 2), 4, .agg #[.bool false, .slice none 0 0, .slice none 0 0], some (1, 12, 0), []⟩]) ⟨fun _ => u4, trivial⟩))
            clear hBt hr hR hP hX hU
            refine wp_ret ?_
            repeat (first | refine then_ret ?_ | refine scope_ret ?_ | refine block_ret ?_)
            exact bodyPost_ret (v := .tuple #[.agg #[.bool false, .slice none 0 0, .slice none 0 0], (.int .i64 20)]) (res_ct rfl f4 (lv_R3 b4) f5) hd ⟨_, rfl, ⟨_, _, rfl, rfl, rfl⟩, HB⟩
        · skip
          exact absurd (sign_zero_iff.2 hy) (of_decide_eq_false hc11)

theorem op_qof0 {dst : Option Tmp} {ty : TypeId} {pos : String} {after : Array Edge} {guard : Option (Nat × Bool)} {a : Act} {w : World} {ats : Array TypeId} {i j : Nat} {Bx : Nat} {zx : Int} (Hx : IsW zx Bx (a.eval (.tmp i)) w) {By : Nat} {zy : Int} (Hy : IsW zy By (a.eval (.tmp j)) w) (hL : Bx + By ≤ 10000) (hy : zy = 0) :
    Does Try.prog { dst, op := .call { callee := .value (.func 30), args := #[.tmp i, .tmp j], argTypes := ats }, type := ty, pos, after, guard } a.eval w fun v w' => Below w.heap.size w w' ∧ (Tup2 (Eqs (.agg #[.bool false, .slice none 0 0, .slice none 0 0])) (Eqs (.int .i64 20))) v w' := by
  obtain ⟨nx, ax, mx, cx, xs, ex, Ax, Lx⟩ := Hx
  obtain ⟨ny, ay, my, cy, ys, ey, Ay, Ly⟩ := Hy
  refine does_call has_qof _ (by simp only [List.map_toArray, List.map_cons, List.map_nil, ex, ey]) ((qof0_z w Bx _ _ _ _ _ _ Ax Lx By _ _ _ _ _ _ Ay Ly hL hy).mono ?_)
  rintro e w' ⟨v, rfl, h1, hb⟩
  exact ⟨_, rfl, hb, h1⟩

set_option maxRecDepth 20000 in
set_option maxHeartbeats 2000000 in
theorem qfrom_z (w : World) (Bx : Nat) (nx : Bool) (ax : Option Addr) (mx cx : Nat) (xs : List Int) (zx : Int) (Ax : Ag w nx ax mx cx xs zx) (Lx : xs.length ≤ Bx) (hL : Bx ≤ 10000) :
    Calls Try.prog 33 #[.agg #[.bool nx, .slice ax mx cx]] w fun e w' => ∃ v, e = .returned v ∧ (OutR zx 1 (6 * Bx + 10)) v w' ∧ Below w.heap.size w w' := by
  go_enter Try.func33, Try.ntmps33
  generalize hA : (Act.mk _ _) = aa
  have hn : aa.tmps.size = 8 := by rw [← hA]; rfl
  have hd : aa.defers = [] := by rw [← hA]
  have f0 : aa.eval (.tmp 0) = .agg #[.bool nx, .slice ax mx cx] := by rw [← hA]; rfl
  clear hA
  have HB : Below w.heap.size w w := Below.refl _ _
  have Tx := Ax.sl
  refine wp_seq ?_
  refine region4 [some 1, some 2] [(fun _ _ => True), (fun _ _ => True)] [⟨W2, some 0, 0, 1, .agg #[.bool nx, .slice ax mx cx], none, []⟩, ⟨R3, some 1, 0, 2, .agg #[.bool false, .slice none 0 0, .slice none 0 0], none, []⟩] [] (by kernel_rfl) hn rfl (by kernel_rfl) (by kernel_rfl) (by kernel_rfl) (by kernel_rfl) (by kernel_rfl) (by kernel_rfl) ⟨True.mono4, True.mono4, trivial⟩ (ok_cons W2ok (ok_cons R3ok ok_nil)) (IsOld.all (bx := [⟨W2, some 0, 0, 1, .agg #[.bool nx, .slice ax mx cx], none, []⟩, ⟨R3, some 1, 0, 2, .agg #[.bool false, .slice none 0 0, .slice none 0 0], none, []⟩]) ⟨someNe, someNe, trivial⟩) (DisOld.all (bx := [⟨W2, some 0, 0, 1, .agg #[.bool nx, .slice ax mx cx], none, []⟩, ⟨R3, some 1, 0, 2, .agg #[.bool false, .slice none 0 0, .slice none 0 0], none, []⟩]) ⟨someNe, someNe, trivial⟩) ?_ ?_
  · exact ⟨.alloc 0 _ rfl rfl (.inr ⟨_, rfl, w2_cs, fun a_ hR => (hR 0 rfl).trans f0⟩) rfl rfl rfl rfl rfl,
      .alloc 1 _ rfl rfl (.inl ⟨rfl, rfl⟩) rfl rfl rfl rfl rfl,
      trivial⟩
  · intro a1 w1 gs1 hn1 hd1 hBt hr hR hP hX hU
    replace hn := hn1; replace hd := hd1.trans hd
    have ne1_2 : gs1 0 ≠ gs1 1 := hU 0 1 (by simp) (by simp) (by decide)
    have b1 : BoxV W2 w1 (gs1 0) (.agg #[.bool nx, .slice ax mx cx]) := (hX 0 _ rfl).2.2.2
    have f1 := (hX 0 _ rfl).1
    have u1 : w.heap.size ≤ gs1 0 := Nat.le_trans HB.size ((hX 0 _ rfl).2.2.1 (by simp))
    have b2 : BoxV R3 w1 (gs1 1) (.agg #[.bool false, .slice none 0 0, .slice none 0 0]) := (hX 1 _ rfl).2.2.2
    have f2 := (hX 1 _ rfl).1
    have u2 : w.heap.size ≤ gs1 1 := Nat.le_trans HB.size ((hX 1 _ rfl).2.2.1 (by simp))
    replace Ax := Ax.rl hr
    replace Tx := Tx.rl hr
    replace HB := HB.trans (hBt.below HB.size (UpOld.all (bx := [⟨W2, some 0, 0, 1, .agg #[.bool nx, .slice ax mx cx], none, []⟩, ⟨R3, some 1, 0, 2, .agg #[.bool false, .slice none 0 0, .slice none 0 0], none, []⟩]) ⟨someNe, someNe, trivial⟩))
    clear hBt hr hR hP hX hU
    refine wp_seq ?_
    refine region4 [some 3, some 4, some 5, some 6, some 7, none] [Eqs (.agg #[.bool nx, .slice ax mx cx]), OutN (zx) (3 * (Bx)), OutN (1) (5), OutQ (zx) (1) ((3 * (Bx)) + (5)), OutR (zx) (1) (2 * ((3 * (Bx)) + (5))), (fun _ _ => True)] [⟨R3, none, (gs1 1), 2, .agg #[.bool false, .slice none 0 0, .slice none 0 0], some (5, 7, 4), []⟩] [] (by kernel_rfl) hn rfl (by kernel_rfl) (by kernel_rfl) (by kernel_rfl) (by kernel_rfl) (by kernel_rfl) (by kernel_rfl) ⟨Eqs.mono4 _, OutN.mono4 _ _, OutN.mono4 _ _, OutQ.mono4 _ _ _, OutR.mono4 _ _ _, True.mono4, trivial⟩ (ok_cons R3ok ok_nil) (IsOld.all (bx := [⟨R3, none, (gs1 1), 2, .agg #[.bool false, .slice none 0 0, .slice none 0 0], some (5, 7, 4), []⟩]) ⟨fun _ => ⟨f2, b2⟩, trivial⟩) (DisOld.all (bx := [⟨R3, none, (gs1 1), 2, .agg #[.bool false, .slice none 0 0, .slice none 0 0], some (5, 7, 4), []⟩]) ⟨fun _ => trivial, trivial⟩) ?_ ?_
    · exact ⟨.norm 3 rfl rfl rfl (fun a_ w_ hn_ hBt hr hR hD hO hS => op_loadv W2ok ((hR 1 rfl).trans f1) (b1.keep hBt ⟨fun _ => ne1_2.symm, trivial⟩)),
        .norm 4 rfl rfl rfl (fun a_ w_ hn_ hBt hr hR hD hO hS => op_nof (L := Bx) (isw_eq (show a_.eval (.tmp 3) = .agg #[.bool nx, .slice ax mx cx] from hD 0 rfl) (Ax.rl hr) Lx) (by omega)),
        .norm 5 rfl rfl rfl (fun a_ w_ hn_ hBt hr hR hD hO hS => op_nint (by omega) (by omega)),
        .norm 6 rfl rfl rfl (fun a_ w_ hn_ hBt hr hR hD hO hS => op_bQ (L := (3 * (Bx)) + (5)) ((show OutN (zx) (3 * (Bx)) (a_.eval (.tmp 4)) w_ from hD 1 rfl).to rfl (by omega)) ((show OutN (1) (5) (a_.eval (.tmp 5)) w_ from hD 2 rfl).to rfl (by omega))),
        .norm 7 rfl rfl rfl (fun a_ w_ hn_ hBt hr hR hD hO hS => op_qtold (Bx := (3 * (Bx)) + (5)) (show OutQ (zx) (1) ((3 * (Bx)) + (5)) (a_.eval (.tmp 6)) w_ from hD 3 rfl) (by omega) (by omega)),
        .store 0 _ _ _ rfl rfl rfl rfl rfl rfl rfl (fun ia h => by cases h) rfl rfl rfl OutR.cs,
        trivial⟩
    · intro a2 w2 gs2 hn2 hd2 hBt hr hR hP hX hU
      replace hn := hn2; replace hd := hd2.trans hd
      obtain ⟨n_3, a_3, c_3, r_3, b_3, d_3, s_3, e7, G3, K3, l3, k3⟩ : OutR (zx) (1) (2 * ((3 * (Bx)) + (5))) (a2.eval (.tmp 7)) w2 := hP 4 (by decide)
      have A3 := G3.ag; have S3 := K3.sl; have V3 := K3.val
      have b2 : BoxV R3 w2 ((gs1 1)) (.agg #[.bool n_3, .slice a_3 r_3.length c_3, .slice b_3 s_3.length d_3]) := boxv_old ((hX 0 _ rfl).2.1 rfl) (hX 0 _ rfl).2.2.2 e7
      replace f2 : a2.eval (.tmp 2) = _ := (hR 2 rfl).trans f2
      replace Ax := Ax.rl hr
      replace Tx := Tx.rl hr
      replace HB := HB.trans (hBt.below HB.size (UpOld.all (bx := [⟨R3, none, (gs1 1), 2, .agg #[.bool false, .slice none 0 0, .slice none 0 0], some (5, 7, 4), []⟩]) ⟨fun _ => u2, trivial⟩))
      clear hBt hr hR hP hX hU
      refine wp_ret ?_
      repeat (first | refine then_ret ?_ | refine scope_ret ?_ | refine block_ret ?_)
      exact bodyPost_ret (v := .agg #[.bool n_3, .slice a_3 r_3.length c_3, .slice b_3 s_3.length d_3]) (res_c rfl f2 (lv_R3 b2)) hd ⟨_, rfl, OutR.to (outr_eq rfl G3 K3 l3 k3) rfl rfl (by omega), HB⟩

theorem has_qfrom : Has Try.prog 33 := by unfold Has; kernel_rfl
theorem op_qfrom {dst : Option Tmp} {ty : TypeId} {pos : String} {after : Array Edge} {guard : Option (Nat × Bool)} {a : Act} {w : World} {ats : Array TypeId} {i : Nat} {Bx : Nat} {zx : Int} (Hx : IsW zx Bx (a.eval (.tmp i)) w) (hL : Bx ≤ 10000) :
    Does Try.prog { dst, op := .call { callee := .value (.func 33), args := #[.tmp i], argTypes := ats }, type := ty, pos, after, guard } a.eval w fun v w' => Below w.heap.size w w' ∧ (OutR zx 1 (6 * Bx + 10)) v w' := by
  obtain ⟨nx, ax, mx, cx, xs, ex, Ax, Lx⟩ := Hx
  refine does_call has_qfrom _ (by simp only [List.map_toArray, List.map_cons, List.map_nil, ex]) ((qfrom_z w Bx _ _ _ _ _ _ Ax Lx hL).mono ?_)
  rintro e w' ⟨v, rfl, h1, hb⟩
  exact ⟨_, rfl, hb, h1⟩

set_option maxRecDepth 20000 in
set_option maxHeartbeats 2000000 in
theorem copyw_z (w : World) (Bx : Nat) (nx : Bool) (ax : Option Addr) (mx cx : Nat) (xs : List Int) (zx : Int) (Ax : Ag w nx ax mx cx xs zx) (Lx : xs.length ≤ Bx) (hL : Bx ≤ 100000) :
    Calls Try.prog 29 #[.agg #[.bool nx, .slice ax mx cx]] w fun e w' => ∃ v, e = .returned v ∧ (IsW zx Bx) v w' ∧ Below w.heap.size w w' := by
  go_enter Try.func29, Try.ntmps29
  generalize hA : (Act.mk _ _) = aa
  have hn : aa.tmps.size = 9 := by rw [← hA]; rfl
  have hd : aa.defers = [] := by rw [← hA]
  have f0 : aa.eval (.tmp 0) = .agg #[.bool nx, .slice ax mx cx] := by rw [← hA]; rfl
  clear hA
  have HB : Below w.heap.size w w := Below.refl _ _
  have Tx := Ax.sl
  have hwx := Ax.worth
  refine wp_seq ?_
  refine region4 [some 1, some 2] [(fun _ _ => True), (fun _ _ => True)] [⟨W2, some 0, 0, 1, .agg #[.bool nx, .slice ax mx cx], none, []⟩, ⟨W2, some 1, 0, 2, .agg #[.bool false, .slice none 0 0], none, []⟩] [] (by kernel_rfl) hn rfl (by kernel_rfl) (by kernel_rfl) (by kernel_rfl) (by kernel_rfl) (by kernel_rfl) (by kernel_rfl) ⟨True.mono4, True.mono4, trivial⟩ (ok_cons W2ok (ok_cons W2ok ok_nil)) (IsOld.all (bx := [⟨W2, some 0, 0, 1, .agg #[.bool nx, .slice ax mx cx], none, []⟩, ⟨W2, some 1, 0, 2, .agg #[.bool false, .slice none 0 0], none, []⟩]) ⟨someNe, someNe, trivial⟩) (DisOld.all (bx := [⟨W2, some 0, 0, 1, .agg #[.bool nx, .slice ax mx cx], none, []⟩, ⟨W2, some 1, 0, 2, .agg #[.bool false, .slice none 0 0], none, []⟩]) ⟨someNe, someNe, trivial⟩) ?_ ?_
  · exact ⟨.alloc 0 _ rfl rfl (.inr ⟨_, rfl, w2_cs, fun a_ hR => (hR 0 rfl).trans f0⟩) rfl rfl rfl rfl rfl,
      .alloc 1 _ rfl rfl (.inl ⟨rfl, rfl⟩) rfl rfl rfl rfl rfl,
      trivial⟩
  · intro a1 w1 gs1 hn1 hd1 hBt hr hR hP hX hU
    replace hn := hn1; replace hd := hd1.trans hd
    have ne1_2 : gs1 0 ≠ gs1 1 := hU 0 1 (by simp) (by simp) (by decide)
    have b1 : BoxV W2 w1 (gs1 0) (.agg #[.bool nx, .slice ax mx cx]) := (hX 0 _ rfl).2.2.2
    have f1 := (hX 0 _ rfl).1
    have u1 : w.heap.size ≤ gs1 0 := Nat.le_trans HB.size ((hX 0 _ rfl).2.2.1 (by simp))
    have b2 : BoxV W2 w1 (gs1 1) (.agg #[.bool false, .slice none 0 0]) := (hX 1 _ rfl).2.2.2
    have f2 := (hX 1 _ rfl).1
    have u2 : w.heap.size ≤ gs1 1 := Nat.le_trans HB.size ((hX 1 _ rfl).2.2.1 (by simp))
    replace Ax := Ax.rl hr
    replace Tx := Tx.rl hr
    replace HB := HB.trans (hBt.below HB.size (UpOld.all (bx := [⟨W2, some 0, 0, 1, .agg #[.bool nx, .slice ax mx cx], none, []⟩, ⟨W2, some 1, 0, 2, .agg #[.bool false, .slice none 0 0], none, []⟩]) ⟨someNe, someNe, trivial⟩))
    clear hBt hr hR hP hX hU
    refine wp_seq ?_
    refine region4 [some 3, some 4, some 5, some 6, some 7, some 8, none] [Eqs (.pointer (some ⟨gs1 0, 0, none⟩)), Eqs (.bool nx), Eqs (.pointer (some ⟨gs1 0, 1, none⟩)), Eqs (.slice ax mx cx), CopyL xs, IsW (zx) (Bx), (fun _ _ => True)] [⟨W2, none, (gs1 1), 2, .agg #[.bool false, .slice none 0 0], some (6, 8, 5), []⟩] [] (by kernel_rfl) hn rfl (by kernel_rfl) (by kernel_rfl) (by kernel_rfl) (by kernel_rfl) (by kernel_rfl) (by kernel_rfl) ⟨Eqs.mono4 _, Eqs.mono4 _, Eqs.mono4 _, Eqs.mono4 _, CopyL.mono4 _, IsW.mono4 _ _, True.mono4, trivial⟩ (ok_cons W2ok ok_nil) (IsOld.all (bx := [⟨W2, none, (gs1 1), 2, .agg #[.bool false, .slice none 0 0], some (6, 8, 5), []⟩]) ⟨fun _ => ⟨f2, b2⟩, trivial⟩) (DisOld.all (bx := [⟨W2, none, (gs1 1), 2, .agg #[.bool false, .slice none 0 0], some (6, 8, 5), []⟩]) ⟨fun _ => trivial, trivial⟩) ?_ ?_
    · exact ⟨.norm 3 rfl rfl rfl (fun a_ w_ hn_ hBt hr hR hD hO hS => op_fa fa_neg ((hR 1 rfl).trans f1)),
        .norm 4 rfl rfl rfl (fun a_ w_ hn_ hBt hr hR hD hO hS => op_ldneg (show a_.eval (.tmp 3) = .pointer (some ⟨gs1 0, 0, none⟩) from hD 0 rfl) (b1.keep hBt ⟨fun _ => ne1_2.symm, trivial⟩)),
        .norm 5 rfl rfl rfl (fun a_ w_ hn_ hBt hr hR hD hO hS => op_fa fa_mag ((hR 1 rfl).trans f1)),
        .norm 6 rfl rfl rfl (fun a_ w_ hn_ hBt hr hR hD hO hS => op_ldmag (show a_.eval (.tmp 5) = .pointer (some ⟨gs1 0, 1, none⟩) from hD 2 rfl) (b1.keep hBt ⟨fun _ => ne1_2.symm, trivial⟩)),
        .norm 7 rfl rfl rfl (fun a_ w_ hn_ hBt hr hR hD hO hS => op_lcopy (show a_.eval (.tmp 6) = .slice ax mx cx from hD 3 rfl) (Tx.rl hr) (by omega)),
        .norm 8 rfl rfl rfl (fun a_ w_ hn_ hBt hr hR hD hO hS => op_bWc (show a_.eval (.tmp 4) = .bool nx from hD 1 rfl) (show CopyL xs (a_.eval (.tmp 7)) w_ from hD 4 rfl) hwx Lx),
        .store 0 _ _ _ rfl rfl rfl rfl rfl rfl rfl (fun ia h => by cases h) rfl rfl rfl IsW.cs,
        trivial⟩
    · intro a2 w2 gs2 hn2 hd2 hBt hr hR hP hX hU
      replace hn := hn2; replace hd := hd2.trans hd
      obtain ⟨n_3, a_3, m_3, c_3, r_3, e8, A3, l3⟩ : IsW (zx) (Bx) (a2.eval (.tmp 8)) w2 := hP 5 (by decide)
      have b2 : BoxV W2 w2 ((gs1 1)) (.agg #[.bool n_3, .slice a_3 m_3 c_3]) := boxv_old ((hX 0 _ rfl).2.1 rfl) (hX 0 _ rfl).2.2.2 e8
      replace f2 : a2.eval (.tmp 2) = _ := (hR 2 rfl).trans f2
      replace Ax := Ax.rl hr
      replace Tx := Tx.rl hr
      replace HB := HB.trans (hBt.below HB.size (UpOld.all (bx := [⟨W2, none, (gs1 1), 2, .agg #[.bool false, .slice none 0 0], some (6, 8, 5), []⟩]) ⟨fun _ => u2, trivial⟩))
      clear hBt hr hR hP hX hU
      refine wp_ret ?_
      repeat (first | refine then_ret ?_ | refine scope_ret ?_ | refine block_ret ?_)
      exact bodyPost_ret (v := .agg #[.bool n_3, .slice a_3 m_3 c_3]) (res_c rfl f2 (lv_W2 b2)) hd ⟨_, rfl, isw_eq rfl A3 l3, HB⟩

theorem has_copyw : Has Try.prog 29 := by unfold Has; kernel_rfl
theorem op_copyw {dst : Option Tmp} {ty : TypeId} {pos : String} {after : Array Edge} {guard : Option (Nat × Bool)} {a : Act} {w : World} {ats : Array TypeId} {i : Nat} {Bx : Nat} {zx : Int} (Hx : IsW zx Bx (a.eval (.tmp i)) w) (hL : Bx ≤ 100000) :
    Does Try.prog { dst, op := .call { callee := .value (.func 29), args := #[.tmp i], argTypes := ats }, type := ty, pos, after, guard } a.eval w fun v w' => Below w.heap.size w w' ∧ (IsW zx Bx) v w' := by
  obtain ⟨nx, ax, mx, cx, xs, ex, Ax, Lx⟩ := Hx
  refine does_call has_copyw _ (by simp only [List.map_toArray, List.map_cons, List.map_nil, ex]) ((copyw_z w Bx _ _ _ _ _ _ Ax Lx hL).mono ?_)
  rintro e w' ⟨v, rfl, h1, hb⟩
  exact ⟨_, rfl, hb, h1⟩

end Lm
end Go.Proofs.Ytkdcgnooeojjgab
