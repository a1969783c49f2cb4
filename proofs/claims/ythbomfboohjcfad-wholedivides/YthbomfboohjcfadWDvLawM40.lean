/-
  Answers of one call, and of several, that have nothing in common. The contracts of DivMod and Gcd on whole numbers, with the memory in which the answers lie. The contract of Lender's Back. The contract of Book's Done.
-/
import Derived.Test.YthbomfboohjcfadWDvLawM39
import Derived.Test.YthbomfboohjcfadDivL
import Derived.Test.YthbomfboohjcfadWF
namespace Go.Proofs.Ythbomfboohjcfad
namespace Lm
open Go.RowKit

theorem Is.tight {B : Nat} {w : World} {v : Value} {x : Int} (h : Is B w v x) (hB : B ≤ w.heap.size) : ∃ ao cap rs B1 T1, v = .slice ao rs.length cap ∧ Fr B1 T1 w ao cap rs x ∧ B ≤ B1 ∧ T1 ≤ w.heap.size ∧ ((cap = 0 ∧ T1 = B1) ∨ (0 < cap ∧ T1 = B1 + 1 ∧ ∃ off, ao = some ⟨B1, off, none⟩)) := by
  obtain ⟨rs, ho, hc, hv⟩ := h
  obtain ⟨ao, cap, rfl, h1, h2, h3, h4⟩ := ho
  by_cases h0 : cap = 0
  · exact ⟨ao, cap, rs, B, B, rfl, ⟨⟨ao, cap, rfl, h1, h2, h3, .inl h0⟩, hc, hv, fun h => by omega⟩, Nat.le_refl _, hB, .inl ⟨h0, rfl⟩⟩
  · rcases h4 with h4 | ⟨g, off, cur, rfl, hg, hh, hs, ha⟩
    · exact absurd h4 h0
    · refine ⟨_, cap, rs, g, g + 1, rfl, ⟨⟨_, cap, rfl, h1, h2, h3, .inr ⟨g, off, cur, rfl, Nat.le_refl _, hh, hs, ha⟩⟩, hc, hv, fun _ g' off' e => ?_⟩, hg, lt_of_heap hh, .inr ⟨by omega, rfl, off, rfl⟩⟩
      simp only [Option.some.injEq, Addr.mk.injEq] at e
      omega

/-- Two answers of one call that have nothing in common. -/
theorem Is.two {B : Nat} {w : World} {v1 v2 : Value} {x1 x2 : Int} (h1 : Is B w v1 x1) (h2 : Is B w v2 x2) (hs : Sep v1 v2) (hB : B ≤ w.heap.size) : ∃ ao cap rs bo dap ss B1 T1 B2 T2, v1 = .slice ao rs.length cap ∧ v2 = .slice bo ss.length dap ∧ Fr B1 T1 w ao cap rs x1 ∧ Fr B2 T2 w bo dap ss x2 ∧ B ≤ B1 ∧ T1 ≤ w.heap.size ∧ B ≤ B2 ∧ T2 ≤ w.heap.size ∧ (∀ j, B1 ≤ j → j < T1 → j < B2 ∨ T2 ≤ j) := by
  obtain ⟨ao, cap, rs, B1, T1, rfl, f1, b1, t1, c1⟩ := h1.tight hB
  obtain ⟨bo, dap, ss, B2, T2, rfl, f2, b2, t2, c2⟩ := h2.tight hB
  refine ⟨ao, cap, rs, bo, dap, ss, B1, T1, B2, T2, rfl, rfl, f1, f2, b1, t1, b2, t2, fun j hj1 hj2 => ?_⟩
  rcases c1 with ⟨_, c1⟩ | ⟨p1, c1, off1, rfl⟩
  · omega
  · rcases c2 with ⟨_, c2⟩ | ⟨p2, c2, off2, rfl⟩
    · omega
    · have := hs _ _ _ _ _ _ rfl rfl
      simp only at this
      omega

/-- Where a list lies, its room too. -/
structure Li (B T : Nat) (w : World) (ao : Option Addr) (cap : Nat) (rs : List Int) : Prop where
  ow : Ow B w (.slice ao rs.length cap) rs
  lies : 0 < cap → ∀ g off, ao = some ⟨g, off, none⟩ → B ≤ g ∧ g < T

theorem Fr.li {B T : Nat} {w : World} {ao : Option Addr} {cap : Nat} {rs : List Int} {x : Int} (h : Fr B T w ao cap rs x) : Li B T w ao cap rs := ⟨h.ow, h.lies⟩
theorem Li.fr {B T : Nat} {w : World} {ao : Option Addr} {cap : Nat} {rs : List Int} {x : Int} (h : Li B T w ao cap rs) (hg : Got w ao cap rs x) : Fr B T w ao cap rs x := ⟨h.ow, hg.canon, hg.val, h.lies⟩
theorem Li.kept {B T : Nat} {w w' : World} {ao : Option Addr} {cap : Nat} {rs : List Int} (h : Li B T w ao cap rs) (hk : ∀ g, g < w.heap.size → B ≤ g → g < T → w'.heap[g]? = w.heap[g]?) : Li B T w' ao cap rs := by
  obtain ⟨ho, hl⟩ := h
  refine ⟨?_, hl⟩
  obtain ⟨ao', cap', hv', h1, h2, h3, h4⟩ := ho
  obtain ⟨rfl, _, rfl⟩ := (Value.slice.injEq .. ▸ hv')
  refine ⟨ao, cap, rfl, h1, h2, h3, ?_⟩
  rcases h4 with h4 | ⟨g, off, cur, rfl, hB, hh, r⟩
  · exact .inl h4
  · by_cases h0 : 0 < cap
    · have := hl h0 g off rfl
      exact .inr ⟨g, off, cur, rfl, hB, (hk g (lt_of_heap hh) this.1 this.2).trans hh, r⟩
    · exact .inl (by omega)
theorem Li.below {B T : Nat} {w w' : World} {ao : Option Addr} {cap : Nat} {rs : List Int} (h : Li B T w ao cap rs) (hb : Below w.heap.size w w') : Li B T w' ao cap rs := h.kept fun g hg _ _ => hb.block g hg
theorem Li.set2 {B T : Nat} {w : World} {ao : Option Addr} {cap : Nat} {rs : List Int} (h : Li B T w ao cap rs) (k : Nat) (hk : k < B ∨ T ≤ k) (b u : Value) : Li B T ((w.setCell ⟨k, 0, none⟩ b).setCell ⟨k, 1, none⟩ u) ao cap rs :=
  h.kept fun g _ h1 h2 => by
    have hne : g ≠ k := by omega
    rw [heap_setCell_other _ ⟨k, 1, none⟩ g _ hne, heap_setCell_other _ ⟨k, 0, none⟩ g _ hne]

theorem divmod_o (w : World) (a1 a2 : Option Addr) (n1 n2 c1 c2 : Nat) (xs ys : List Int) (hx : Sl w (.slice a1 n1 c1) xs) (hy : Sl w (.slice a2 n2 c2) ys) (hm1 : xs.length ≤ 500000) (h0 : val ys ≠ 0) :
    Calls Try.prog 30 #[.slice a1 n1 c1, .slice a2 n2 c2] w fun e w' => ∃ ao cap rs bo dap ss B1 T1 B2 T2, e = .returned (.tuple #[.slice ao rs.length cap, .slice bo ss.length dap, .bool true]) ∧ Got w' ao cap rs (val xs / val ys) ∧ Got w' bo dap ss (val xs % val ys) ∧ rs.length ≤ xs.length ∧ ss.length ≤ ys.length ∧ Li B1 T1 w' ao cap rs ∧ Li B2 T2 w' bo dap ss ∧ (w.heap.size ≤ B1 ∧ T1 ≤ w'.heap.size ∧ w.heap.size ≤ B2 ∧ T2 ≤ w'.heap.size ∧ ∀ j, B1 ≤ j → j < T1 → j < B2 ∨ T2 ≤ j) ∧ Below w.heap.size w w' := by
  refine (divmod_any w a1 a2 n1 n2 c1 c2 xs ys hx hy hm1 h0).mono ?_
  rintro e w' ⟨v1, v2, rfl, hi1, hi2, hsep, hb⟩
  obtain ⟨ao, cap, rs, bo, dap, ss, B1, T1, B2, T2, rfl, rfl, f1, f2, x1, x2, x3, x4, x5⟩ := hi1.two hi2 hsep hb.size
  have lx := hx.parts.2.2.2
  have ly := hy.parts.2.2.2
  have bx := val_bounds lx
  have bY := val_bounds ly
  refine ⟨ao, cap, rs, bo, dap, ss, B1, T1, B2, T2, rfl, f1.got, f2.got, le_len lx f1.canon (by rw [f1.val]; exact Int.ediv_le_self _ bx.1), le_len ly f2.canon (by rw [f2.val]; exact Int.le_of_lt (Int.emod_lt_of_pos _ (by omega))), f1.li, f2.li, ⟨x1, x2, x3, x4, x5⟩, hb⟩

theorem add_o (w : World) (a1 a2 : Option Addr) (n1 n2 c1 c2 : Nat) (xs ys : List Int) (hx : Sl w (.slice a1 n1 c1) xs) (hy : Sl w (.slice a2 n2 c2) ys) (hm1 : xs.length ≤ 1000000) (hm2 : ys.length ≤ 1000000) :
    Calls Try.prog 31 #[.slice a1 n1 c1, .slice a2 n2 c2] w fun e w' => ∃ ao cap rs, e = .returned (.slice ao rs.length cap) ∧ Got w' ao cap rs (val xs + val ys) ∧ rs.length ≤ xs.length + ys.length + 1 ∧ Li w.heap.size w'.heap.size w' ao cap rs ∧ Below w.heap.size w w' := by
  refine (add_any w a1 a2 n1 n2 c1 c2 xs ys hx hy hm1 hm2).mono ?_
  rintro e w' ⟨v, rfl, hi, hb⟩
  obtain ⟨ao, cap, rs, rfl, f⟩ := hi.fr
  exact ⟨ao, cap, rs, rfl, f.got, add_len hx.parts.2.2.2 hy.parts.2.2.2 f.canon f.val, f.li, hb⟩

theorem sub_o (w : World) (a1 a2 : Option Addr) (n1 n2 c1 c2 : Nat) (xs ys : List Int) (hx : Sl w (.slice a1 n1 c1) xs) (hy : Sl w (.slice a2 n2 c2) ys) (hm1 : xs.length ≤ 1000000) (hge : val ys ≤ val xs) :
    Calls Try.prog 33 #[.slice a1 n1 c1, .slice a2 n2 c2] w fun e w' => ∃ ao cap rs, e = .returned (.tuple #[.slice ao rs.length cap, .bool true]) ∧ Got w' ao cap rs (val xs - val ys) ∧ rs.length ≤ xs.length ∧ Li w.heap.size w'.heap.size w' ao cap rs ∧ Below w.heap.size w w' := by
  refine (sub_yes w a1 a2 n1 n2 c1 c2 xs ys hx hy hm1 hge).mono ?_
  rintro e w' ⟨v, rfl, hi, hb⟩
  obtain ⟨ao, cap, rs, rfl, f⟩ := hi.fr
  have := (val_bounds hy.parts.2.2.2).1
  exact ⟨ao, cap, rs, rfl, f.got, le_len hx.parts.2.2.2 f.canon (by rw [f.val]; omega), f.li, hb⟩

end Lm
end Go.Proofs.Ythbomfboohjcfad

namespace Go.Proofs.Ythbomfboohjcfad
namespace Lm
open Go.RowKit

set_option maxRecDepth 20000 in
set_option maxHeartbeats 1000000 in
theorem wdivmod_poso (w : World) (a1 : Option Addr) (n1 c1 : Nat) (xs : List Int) (hx : Sl w (.slice a1 n1 c1) xs) (ny : Bool) (a2 : Option Addr) (n2 c2 : Nat) (ys : List Int) (hy : Sl w (.slice a2 n2 c2) ys) (hm1 : xs.length ≤ 400000) (hm2 : ys.length ≤ 400000) (h0 : val ys ≠ 0) :
    Calls Try.prog 11 #[.agg #[.bool false, .slice a1 n1 c1], .agg #[.bool ny, .slice a2 n2 c2]] w fun e w' => ∃ nq aq cq qs nr ar cr rs B1 T1 B2 T2, e = .returned (.tuple #[.agg #[.bool nq, .slice aq qs.length cq], .agg #[.bool nr, .slice ar rs.length cr], .bool true]) ∧ Wh w' nq aq cq qs (sg false (val xs) / sg ny (val ys)) ∧ Wh w' nr ar cr rs (sg false (val xs) % sg ny (val ys)) ∧ qs.length ≤ xs.length + 4 ∧ rs.length ≤ ys.length ∧ Li B1 T1 w' aq cq qs ∧ Li B2 T2 w' ar cr rs ∧ (w.heap.size ≤ B1 ∧ T1 ≤ w'.heap.size ∧ w.heap.size ≤ B2 ∧ T2 ≤ w'.heap.size ∧ ∀ j, B1 ≤ j → j < T1 → j < B2 ∨ T2 ≤ j) ∧ Below w.heap.size w w' := by
  obtain ⟨w0, e0, bx, by', bq, br, hb0, hs0⟩ := boxed4 w false (.slice a1 n1 c1) ny (.slice a2 n2 c2)
  have E0 := hide e0
  have hx0 := hx.below hb0
  have hy0 := hy.below hb0
  have HS0 := hide hs0
  clear e0 hs0
  have PY : Hid (0 < val ys) := by have := (val_bounds hy.parts.2.2.2).1; show _ < _; omega
  have LY := hide hy.parts.2.2.2
  have H0 := hide h0
  clear h0
  go_enter Try.func11, Try.ntmps11
  go_wp2_with fail
  rw [E0.out]
  refine (divmod_o _ _ _ _ _ _ _ xs ys hx0 hy0 (by omega) H0.out).mono ?_
  rintro e w1 ⟨p1, q1, r1, p2, q2, r2, B1, T1, B2, T2, rfl, G1, G2, l1, l2, o1, o2, oo, hb1⟩
  have HB : Below w0.heap.size w0 w1 := hb1
  obtain ⟨xa, xb, xc, xd⟩ := (bx.below HB).facts
  obtain ⟨ya, yb, yc, yd⟩ := (by'.below HB).facts
  go_wp2_with fail
  refine (signed_g _ _ _ _ r1 _ G1 (by omega)).mono ?_
  rintro e w7 ⟨ng7, rfl, G7, hb7⟩
  replace HB := HB.trans (hb7.mono HB.size)
  have G2' := G2.below hb7
  clear xa xb xc xd ya yb yc yd
  obtain ⟨xa, xb, xc, xd⟩ := (bx.below HB).facts
  obtain ⟨ya, yb, yc, yd⟩ := (by'.below HB).facts
  go_wp2_with fail
  refine (signed_g _ _ _ _ r2 _ G2' (by omega)).mono ?_
  rintro e w8 ⟨ng8, rfl, G8, hb8⟩
  replace HB := HB.trans (hb8.mono HB.size)
  replace G7 := G7.below hb8
  clear xa xb xc xd ya yb yc yd
  have bq8 := bq.below HB
  have br8 := br.below HB
  obtain ⟨qa, qb, qc, qd⟩ := bq8.facts
  obtain ⟨ra, rb, rc, rd⟩ := br8.facts
  have VQ : Hid (sg ny (val xs / val ys) = sg false (val xs) / sg ny (val ys) ∧ sg false (val xs % val ys) = sg false (val xs) % sg ny (val ys)) := by have h := wdiv_pos ny (val xs) (val ys); rwa [show (false != ny) = ny by cases ny <;> rfl] at h
  have Y1 := hide ((br8.other (show w.heap.size + 1 + 1 + 1 ≠ w.heap.size + 1 + 1 by omega) (.bool ng7) (.slice p1 r1.length q1)).wh ng8 (.slice p2 r2.length q2) (bq8.wh ng7 (.slice p1 r1.length q1) G7))
  have Y2 := hide ((br8.other (show w.heap.size + 1 + 1 + 1 ≠ w.heap.size + 1 + 1 by omega) (.bool ng7) (.slice p1 r1.length q1)).wh ng8 (.slice p2 r2.length q2) (bq8.wh ng7 (.slice p1 r1.length q1) G8))
  have F := hide (box_two (nq := ng7) (vq := .slice p1 r1.length q1) (nr := ng8) (vr := .slice p2 r2.length q2) bq8 br8 (by omega))
  have Z := hide (hb0.trans (HB.mono hb0.size))
  have Z2 := hide (below_set2 (below_set2 Z.out (show w.heap.size ≤ w.heap.size + 1 + 1 by omega) (.bool ng7) (.slice p1 r1.length q1)) (show w.heap.size ≤ w.heap.size + 1 + 1 + 1 by omega) (.bool ng8) (.slice p2 r2.length q2))
  have hs9 := HS0.out
  have s_hb1 := hb1.size
  have s_hb7 := hb7.size
  have s_hb8 := hb8.size
  obtain ⟨oo1, oo2, oo3, oo4, oo5⟩ := oo
  have O1 := hide ((((o1.below hb7).below hb8).set2 (w.heap.size + 1 + 1) (by omega) (.bool ng7) (.slice p1 r1.length q1)).set2 (w.heap.size + 1 + 1 + 1) (by omega) (.bool ng8) (.slice p2 r2.length q2))
  have O2 := hide ((((o2.below hb7).below hb8).set2 (w.heap.size + 1 + 1) (by omega) (.bool ng7) (.slice p1 r1.length q1)).set2 (w.heap.size + 1 + 1 + 1) (by omega) (.bool ng8) (.slice p2 r2.length q2))
  have hsz : ((((w8.setCell ⟨w.heap.size + 1 + 1, 0, none⟩ (.bool ng7)).setCell ⟨w.heap.size + 1 + 1, 1, none⟩ (.slice p1 r1.length q1)).setCell ⟨w.heap.size + 1 + 1 + 1, 0, none⟩ (.bool ng8)).setCell ⟨w.heap.size + 1 + 1 + 1, 1, none⟩ (.slice p2 r2.length q2)).heap.size = w8.heap.size := by simp [World.setCell]
  have OO : Hid (B1 ≥ w.heap.size ∧ T1 ≤ w8.heap.size ∧ B2 ≥ w.heap.size ∧ T2 ≤ w8.heap.size ∧ ∀ j, B1 ≤ j → j < T1 → j < B2 ∨ T2 ≤ j) := ⟨by omega, by omega, by omega, by omega, oo5⟩
  rw [← hsz] at OO
  clear hsz
  go_wp2
  refine bodyPost_ret (v := .tuple #[.agg #[.bool ng7, .slice p1 r1.length q1], .agg #[.bool ng8, .slice p2 r2.length q2], .bool true]) ?_ rfl ⟨ng7, p1, q1, r1, ng8, p2, q2, r2, B1, T1, B2, T2, rfl, by rw [← VQ.out.1]; exact Y1.out, by rw [← VQ.out.2]; exact Y2.out, by omega, by omega, O1.out, O2.out, OO.out, Z2.out⟩
  simp [results, Try.results11, go_sem, F.out.1.facts.1, F.out.1.facts.2.1, F.out.2.facts.1, F.out.2.facts.2.1]

set_option maxRecDepth 20000 in
set_option maxHeartbeats 1000000 in
theorem wdivmod_eveno (w : World) (a1 : Option Addr) (n1 c1 : Nat) (xs : List Int) (hx : Sl w (.slice a1 n1 c1) xs) (ny : Bool) (a2 : Option Addr) (n2 c2 : Nat) (ys : List Int) (hy : Sl w (.slice a2 n2 c2) ys) (hm1 : xs.length ≤ 400000) (_hm2 : ys.length ≤ 400000) (h0 : val ys ≠ 0) (hev : val xs % val ys = 0) :
    Calls Try.prog 11 #[.agg #[.bool true, .slice a1 n1 c1], .agg #[.bool ny, .slice a2 n2 c2]] w fun e w' => ∃ nq aq cq qs nr ar cr rs B1 T1 B2 T2, e = .returned (.tuple #[.agg #[.bool nq, .slice aq qs.length cq], .agg #[.bool nr, .slice ar rs.length cr], .bool true]) ∧ Wh w' nq aq cq qs (sg true (val xs) / sg ny (val ys)) ∧ Wh w' nr ar cr rs (sg true (val xs) % sg ny (val ys)) ∧ qs.length ≤ xs.length + 4 ∧ rs.length ≤ ys.length ∧ Li B1 T1 w' aq cq qs ∧ Li B2 T2 w' ar cr rs ∧ (w.heap.size ≤ B1 ∧ T1 ≤ w'.heap.size ∧ w.heap.size ≤ B2 ∧ T2 ≤ w'.heap.size ∧ ∀ j, B1 ≤ j → j < T1 → j < B2 ∨ T2 ≤ j) ∧ Below w.heap.size w w' := by
  obtain ⟨w0, e0, bx, by', bq, br, hb0, hs0⟩ := boxed4 w true (.slice a1 n1 c1) ny (.slice a2 n2 c2)
  have E0 := hide e0
  have hx0 := hx.below hb0
  have hy0 := hy.below hb0
  have HS0 := hide hs0
  clear e0 hs0
  have PY : Hid (0 < val ys) := by have := (val_bounds hy.parts.2.2.2).1; show _ < _; omega
  have LY := hide hy.parts.2.2.2
  have H0 := hide h0
  have HE := hide hev
  clear hev
  clear h0
  go_enter Try.func11, Try.ntmps11
  go_wp2_with fail
  rw [E0.out]
  refine (divmod_o _ _ _ _ _ _ _ xs ys hx0 hy0 (by omega) H0.out).mono ?_
  rintro e w1 ⟨p1, q1, r1, p2, q2, r2, B1, T1, B2, T2, rfl, G1, G2, l1, l2, o1, o2, oo, hb1⟩
  have HB : Below w0.heap.size w0 w1 := hb1
  have hr2 : ¬ 0 < (r2.length : Int) := by
    have h9 : r2 = [] := (canon_zero G2.canon).1 (by rw [G2.val]; exact HE.out)
    rw [h9]; simp
  obtain ⟨xa, xb, xc, xd⟩ := (bx.below HB).facts
  obtain ⟨ya, yb, yc, yd⟩ := (by'.below HB).facts
  go_wp2_with fail
  refine (signed_g _ _ _ _ r1 _ G1 (by omega)).mono ?_
  rintro e w7 ⟨ng7, rfl, G7, hb7⟩
  replace HB := HB.trans (hb7.mono HB.size)
  have G2' := G2.below hb7
  clear xa xb xc xd ya yb yc yd
  obtain ⟨xa, xb, xc, xd⟩ := (bx.below HB).facts
  obtain ⟨ya, yb, yc, yd⟩ := (by'.below HB).facts
  go_wp2_with fail
  refine (signed_g _ _ _ _ r2 _ G2' (by omega)).mono ?_
  rintro e w8 ⟨ng8, rfl, G8, hb8⟩
  replace HB := HB.trans (hb8.mono HB.size)
  replace G7 := G7.below hb8
  clear xa xb xc xd ya yb yc yd
  have bq8 := bq.below HB
  have br8 := br.below HB
  obtain ⟨qa, qb, qc, qd⟩ := bq8.facts
  obtain ⟨ra, rb, rc, rd⟩ := br8.facts
  have VQ : Hid (sg (!ny) (val xs / val ys) = sg true (val xs) / sg ny (val ys) ∧ sg false (val xs % val ys) = sg true (val xs) % sg ny (val ys)) := by have h := wdiv_even true ny PY.out HE.out; rwa [show (true != ny) = !ny by cases ny <;> rfl] at h
  have Y1 := hide ((br8.other (show w.heap.size + 1 + 1 + 1 ≠ w.heap.size + 1 + 1 by omega) (.bool ng7) (.slice p1 r1.length q1)).wh ng8 (.slice p2 r2.length q2) (bq8.wh ng7 (.slice p1 r1.length q1) G7))
  have Y2 := hide ((br8.other (show w.heap.size + 1 + 1 + 1 ≠ w.heap.size + 1 + 1 by omega) (.bool ng7) (.slice p1 r1.length q1)).wh ng8 (.slice p2 r2.length q2) (bq8.wh ng7 (.slice p1 r1.length q1) G8))
  have F := hide (box_two (nq := ng7) (vq := .slice p1 r1.length q1) (nr := ng8) (vr := .slice p2 r2.length q2) bq8 br8 (by omega))
  have Z := hide (hb0.trans (HB.mono hb0.size))
  have Z2 := hide (below_set2 (below_set2 Z.out (show w.heap.size ≤ w.heap.size + 1 + 1 by omega) (.bool ng7) (.slice p1 r1.length q1)) (show w.heap.size ≤ w.heap.size + 1 + 1 + 1 by omega) (.bool ng8) (.slice p2 r2.length q2))
  have hs9 := HS0.out
  have s_hb1 := hb1.size
  have s_hb7 := hb7.size
  have s_hb8 := hb8.size
  obtain ⟨oo1, oo2, oo3, oo4, oo5⟩ := oo
  have O1 := hide ((((o1.below hb7).below hb8).set2 (w.heap.size + 1 + 1) (by omega) (.bool ng7) (.slice p1 r1.length q1)).set2 (w.heap.size + 1 + 1 + 1) (by omega) (.bool ng8) (.slice p2 r2.length q2))
  have O2 := hide ((((o2.below hb7).below hb8).set2 (w.heap.size + 1 + 1) (by omega) (.bool ng7) (.slice p1 r1.length q1)).set2 (w.heap.size + 1 + 1 + 1) (by omega) (.bool ng8) (.slice p2 r2.length q2))
  have hsz : ((((w8.setCell ⟨w.heap.size + 1 + 1, 0, none⟩ (.bool ng7)).setCell ⟨w.heap.size + 1 + 1, 1, none⟩ (.slice p1 r1.length q1)).setCell ⟨w.heap.size + 1 + 1 + 1, 0, none⟩ (.bool ng8)).setCell ⟨w.heap.size + 1 + 1 + 1, 1, none⟩ (.slice p2 r2.length q2)).heap.size = w8.heap.size := by simp [World.setCell]
  have OO : Hid (B1 ≥ w.heap.size ∧ T1 ≤ w8.heap.size ∧ B2 ≥ w.heap.size ∧ T2 ≤ w8.heap.size ∧ ∀ j, B1 ≤ j → j < T1 → j < B2 ∨ T2 ≤ j) := ⟨by omega, by omega, by omega, by omega, oo5⟩
  rw [← hsz] at OO
  clear hsz
  go_wp2
  refine bodyPost_ret (v := .tuple #[.agg #[.bool ng7, .slice p1 r1.length q1], .agg #[.bool ng8, .slice p2 r2.length q2], .bool true]) ?_ rfl ⟨ng7, p1, q1, r1, ng8, p2, q2, r2, B1, T1, B2, T2, rfl, by rw [← VQ.out.1]; exact Y1.out, by rw [← VQ.out.2]; exact Y2.out, by omega, by omega, O1.out, O2.out, OO.out, Z2.out⟩
  simp [results, Try.results11, go_sem, F.out.1.facts.1, F.out.1.facts.2.1, F.out.2.facts.1, F.out.2.facts.2.1]

set_option maxRecDepth 20000 in
set_option maxHeartbeats 1000000 in
theorem wdivmod_oddo (w : World) (a1 : Option Addr) (n1 c1 : Nat) (xs : List Int) (hx : Sl w (.slice a1 n1 c1) xs) (ny : Bool) (a2 : Option Addr) (n2 c2 : Nat) (ys : List Int) (hy : Sl w (.slice a2 n2 c2) ys) (hm1 : xs.length ≤ 400000) (hm2 : ys.length ≤ 400000) (h0 : val ys ≠ 0) (hod : val xs % val ys ≠ 0) :
    Calls Try.prog 11 #[.agg #[.bool true, .slice a1 n1 c1], .agg #[.bool ny, .slice a2 n2 c2]] w fun e w' => ∃ nq aq cq qs nr ar cr rs B1 T1 B2 T2, e = .returned (.tuple #[.agg #[.bool nq, .slice aq qs.length cq], .agg #[.bool nr, .slice ar rs.length cr], .bool true]) ∧ Wh w' nq aq cq qs (sg true (val xs) / sg ny (val ys)) ∧ Wh w' nr ar cr rs (sg true (val xs) % sg ny (val ys)) ∧ qs.length ≤ xs.length + 4 ∧ rs.length ≤ ys.length ∧ Li B1 T1 w' aq cq qs ∧ Li B2 T2 w' ar cr rs ∧ (w.heap.size ≤ B1 ∧ T1 ≤ w'.heap.size ∧ w.heap.size ≤ B2 ∧ T2 ≤ w'.heap.size ∧ ∀ j, B1 ≤ j → j < T1 → j < B2 ∨ T2 ≤ j) ∧ Below w.heap.size w w' := by
  obtain ⟨w0, e0, bx, by', bq, br, hb0, hs0⟩ := boxed4 w true (.slice a1 n1 c1) ny (.slice a2 n2 c2)
  have E0 := hide e0
  have hx0 := hx.below hb0
  have hy0 := hy.below hb0
  have HS0 := hide hs0
  clear e0 hs0
  have PY : Hid (0 < val ys) := by have := (val_bounds hy.parts.2.2.2).1; show _ < _; omega
  have LY := hide hy.parts.2.2.2
  have H0 := hide h0
  have HE := hide hod
  clear hod
  clear h0
  go_enter Try.func11, Try.ntmps11
  go_wp2_with fail
  rw [E0.out]
  refine (divmod_o _ _ _ _ _ _ _ xs ys hx0 hy0 (by omega) H0.out).mono ?_
  rintro e w1 ⟨p1, q1, r1, p2, q2, r2, B1, T1, B2, T2, rfl, G1, G2, l1, l2, o1, o2, oo, hb1⟩
  have HB : Below w0.heap.size w0 w1 := hb1
  have hr2 : 0 < (r2.length : Int) := by
    have h9 : r2 ≠ [] := fun e => HE.out (by rw [← G2.val]; exact (canon_zero G2.canon).2 e)
    have h8 : r2.length ≠ 0 := fun e => h9 (List.eq_nil_of_length_eq_zero e)
    omega
  obtain ⟨xa, xb, xc, xd⟩ := (bx.below HB).facts
  go_wp2_with fail
  refine (small_any _ 1 (by omega) (by omega)).mono ?_
  rintro e w3 ⟨v3, rfl, hi3, hb3⟩
  obtain ⟨p3, q3, r3, rfl, G3, l3⟩ := got_small hi3 (by omega)
  clear hi3
  replace HB := HB.trans (hb3.mono HB.size)
  replace G1 := G1.below hb3
  replace G2 := G2.below hb3
  go_wp2_with fail
  refine (add_o _ _ _ _ _ _ _ r1 r3 G1.sl G3.sl (by omega) (by omega)).mono ?_
  rintro e w4 ⟨p4, q4, r4, rfl, G4, l4, o4, hb4⟩
  replace HB := HB.trans (hb4.mono HB.size)
  replace G2 := G2.below hb4
  rw [G1.val, G3.val] at G4
  have hy4 := hy0.below HB
  obtain ⟨ya, yb, yc, yd⟩ := (by'.below HB).facts
  go_wp2_with fail
  refine (sub_o _ _ _ _ _ _ _ ys r2 hy4 G2.sl (by omega) (by rw [G2.val]; exact Int.le_of_lt (Int.emod_lt_of_pos _ PY.out))).mono ?_
  rintro e w5 ⟨p5, q5, r5, rfl, G5, l5, o5, hb5⟩
  replace HB := HB.trans (hb5.mono HB.size)
  replace G4 := G4.below hb5
  rw [G2.val] at G5
  clear xa xb xc xd ya yb yc yd G1 G2 G3 hy4
  obtain ⟨xa, xb, xc, xd⟩ := (bx.below HB).facts
  obtain ⟨ya, yb, yc, yd⟩ := (by'.below HB).facts
  go_wp2_with fail
  refine (signed_g _ _ _ _ r4 _ G4 (by omega)).mono ?_
  rintro e w7 ⟨ng7, rfl, G7, hb7⟩
  replace HB := HB.trans (hb7.mono HB.size)
  have G2' := G5.below hb7
  clear xa xb xc xd ya yb yc yd
  obtain ⟨xa, xb, xc, xd⟩ := (bx.below HB).facts
  obtain ⟨ya, yb, yc, yd⟩ := (by'.below HB).facts
  go_wp2_with fail
  refine (signed_g _ _ _ _ r5 _ G2' (by omega)).mono ?_
  rintro e w8 ⟨ng8, rfl, G8, hb8⟩
  replace HB := HB.trans (hb8.mono HB.size)
  replace G7 := G7.below hb8
  clear xa xb xc xd ya yb yc yd
  have bq8 := bq.below HB
  have br8 := br.below HB
  obtain ⟨qa, qb, qc, qd⟩ := bq8.facts
  obtain ⟨ra, rb, rc, rd⟩ := br8.facts
  have VQ : Hid (sg (!ny) (val xs / val ys + 1) = sg true (val xs) / sg ny (val ys) ∧ sg false (val ys - val xs % val ys) = sg true (val xs) % sg ny (val ys)) := by have h := wdiv_odd ny PY.out HE.out; rwa [show (true != ny) = !ny by cases ny <;> rfl] at h
  have Y1 := hide ((br8.other (show w.heap.size + 1 + 1 + 1 ≠ w.heap.size + 1 + 1 by omega) (.bool ng7) (.slice p4 r4.length q4)).wh ng8 (.slice p5 r5.length q5) (bq8.wh ng7 (.slice p4 r4.length q4) G7))
  have Y2 := hide ((br8.other (show w.heap.size + 1 + 1 + 1 ≠ w.heap.size + 1 + 1 by omega) (.bool ng7) (.slice p4 r4.length q4)).wh ng8 (.slice p5 r5.length q5) (bq8.wh ng7 (.slice p4 r4.length q4) G8))
  have F := hide (box_two (nq := ng7) (vq := .slice p4 r4.length q4) (nr := ng8) (vr := .slice p5 r5.length q5) bq8 br8 (by omega))
  have Z := hide (hb0.trans (HB.mono hb0.size))
  have Z2 := hide (below_set2 (below_set2 Z.out (show w.heap.size ≤ w.heap.size + 1 + 1 by omega) (.bool ng7) (.slice p4 r4.length q4)) (show w.heap.size ≤ w.heap.size + 1 + 1 + 1 by omega) (.bool ng8) (.slice p5 r5.length q5))
  have hs9 := HS0.out
  have s_hb1 := hb1.size
  have s_hb7 := hb7.size
  have s_hb8 := hb8.size
  have s_hb3 := hb3.size
  have s_hb4 := hb4.size
  have s_hb5 := hb5.size
  have O1 := hide (((((o4.below hb5).below hb7).below hb8).set2 (w.heap.size + 1 + 1) (by omega) (.bool ng7) (.slice p4 r4.length q4)).set2 (w.heap.size + 1 + 1 + 1) (by omega) (.bool ng8) (.slice p5 r5.length q5))
  have O2 := hide ((((o5.below hb7).below hb8).set2 (w.heap.size + 1 + 1) (by omega) (.bool ng7) (.slice p4 r4.length q4)).set2 (w.heap.size + 1 + 1 + 1) (by omega) (.bool ng8) (.slice p5 r5.length q5))
  have hsz : ((((w8.setCell ⟨w.heap.size + 1 + 1, 0, none⟩ (.bool ng7)).setCell ⟨w.heap.size + 1 + 1, 1, none⟩ (.slice p4 r4.length q4)).setCell ⟨w.heap.size + 1 + 1 + 1, 0, none⟩ (.bool ng8)).setCell ⟨w.heap.size + 1 + 1 + 1, 1, none⟩ (.slice p5 r5.length q5)).heap.size = w8.heap.size := by simp [World.setCell]
  have OO : Hid (w3.heap.size ≥ w.heap.size ∧ w4.heap.size ≤ w8.heap.size ∧ w4.heap.size ≥ w.heap.size ∧ w5.heap.size ≤ w8.heap.size ∧ ∀ j, w3.heap.size ≤ j → j < w4.heap.size → j < w4.heap.size ∨ w5.heap.size ≤ j) := ⟨by omega, by omega, by omega, by omega, fun j h1 h2 => by omega⟩
  rw [← hsz] at OO
  clear hsz
  go_wp2
  refine bodyPost_ret (v := .tuple #[.agg #[.bool ng7, .slice p4 r4.length q4], .agg #[.bool ng8, .slice p5 r5.length q5], .bool true]) ?_ rfl ⟨ng7, p4, q4, r4, ng8, p5, q5, r5, w3.heap.size, w4.heap.size, w4.heap.size, w5.heap.size, rfl, by rw [← VQ.out.1]; exact Y1.out, by rw [← VQ.out.2]; exact Y2.out, by omega, by omega, O1.out, O2.out, OO.out, Z2.out⟩
  simp [results, Try.results11, go_sem, F.out.1.facts.1, F.out.1.facts.2.1, F.out.2.facts.1, F.out.2.facts.2.1]

theorem wdivmod_o (w : World) (nx : Bool) (a1 : Option Addr) (n1 c1 : Nat) (xs : List Int) (hx : Sl w (.slice a1 n1 c1) xs) (ny : Bool) (a2 : Option Addr) (n2 c2 : Nat) (ys : List Int) (hy : Sl w (.slice a2 n2 c2) ys) (hm1 : xs.length ≤ 400000) (hm2 : ys.length ≤ 400000) (h0 : val ys ≠ 0) :
    Calls Try.prog 11 #[.agg #[.bool nx, .slice a1 n1 c1], .agg #[.bool ny, .slice a2 n2 c2]] w fun e w' => ∃ nq aq cq qs nr ar cr rs B1 T1 B2 T2, e = .returned (.tuple #[.agg #[.bool nq, .slice aq qs.length cq], .agg #[.bool nr, .slice ar rs.length cr], .bool true]) ∧ Wh w' nq aq cq qs (sg nx (val xs) / sg ny (val ys)) ∧ Wh w' nr ar cr rs (sg nx (val xs) % sg ny (val ys)) ∧ qs.length ≤ xs.length + 4 ∧ rs.length ≤ ys.length ∧ Li B1 T1 w' aq cq qs ∧ Li B2 T2 w' ar cr rs ∧ (w.heap.size ≤ B1 ∧ T1 ≤ w'.heap.size ∧ w.heap.size ≤ B2 ∧ T2 ≤ w'.heap.size ∧ ∀ j, B1 ≤ j → j < T1 → j < B2 ∨ T2 ≤ j) ∧ Below w.heap.size w w' := by
  cases nx with
  | false => exact wdivmod_poso w a1 n1 c1 xs hx ny a2 n2 c2 ys hy hm1 hm2 h0
  | true =>
    by_cases he : val xs % val ys = 0
    · exact wdivmod_eveno w a1 n1 c1 xs hx ny a2 n2 c2 ys hy hm1 hm2 h0 he
    · exact wdivmod_oddo w a1 n1 c1 xs hx ny a2 n2 c2 ys hy hm1 hm2 h0 he

theorem gcd_o (w : World) (a1 a2 : Option Addr) (n1 n2 c1 c2 : Nat) (xs ys : List Int) (hx : Sl w (.slice a1 n1 c1) xs) (hy : Sl w (.slice a2 n2 c2) ys) (hm1 : xs.length ≤ 400000) (hm2 : ys.length ≤ 400000) :
    Calls Try.prog 35 #[.slice a1 n1 c1, .slice a2 n2 c2] w fun e w' => ∃ ao cap rs, e = .returned (.slice ao rs.length cap) ∧ Got w' ao cap rs (Int.gcd (val xs) (val ys)) ∧ rs.length ≤ xs.length + ys.length + 1 ∧ Li w.heap.size w'.heap.size w' ao cap rs ∧ Below w.heap.size w w' := by
  refine (gcd_any w a1 a2 n1 n2 c1 c2 xs ys hx hy hm1 hm2).mono ?_
  rintro e w' ⟨v, rfl, hi, hb⟩
  obtain ⟨ao, cap, rs, rfl, hg⟩ := hi.fr
  refine ⟨ao, cap, rs, rfl, hg.got, canon_len hg.canon ?_, hg.li, hb⟩
  rw [hg.val]
  have b1 := val_bounds hx.parts.2.2.2
  have b2 := val_bounds hy.parts.2.2.2
  have h1 := gcd_small b1.1 b2.1
  have m1 := pw_mono (m := xs.length) (n := xs.length + ys.length) (by omega)
  have m2 := pw_mono (m := ys.length) (n := xs.length + ys.length) (by omega)
  rw [pw]
  have := pw_pos (xs.length + ys.length)
  omega

set_option maxRecDepth 20000 in
set_option maxHeartbeats 1000000 in
theorem wgcd_o (w : World) (nx : Bool) (a1 : Option Addr) (n1 c1 : Nat) (xs : List Int) (hx : Sl w (.slice a1 n1 c1) xs) (ny : Bool) (a2 : Option Addr) (n2 c2 : Nat) (ys : List Int) (hy : Sl w (.slice a2 n2 c2) ys) (hm1 : xs.length ≤ 400000) (hm2 : ys.length ≤ 400000) :
    Calls Try.prog 12 #[.agg #[.bool nx, .slice a1 n1 c1], .agg #[.bool ny, .slice a2 n2 c2]] w fun e w' => ∃ ng' ao cap rs, e = .returned (.agg #[.bool ng', .slice ao rs.length cap]) ∧ Wh w' ng' ao cap rs (((Int.gcd (sg nx (val xs)) (sg ny (val ys)) : Nat) : Int)) ∧ rs.length ≤ xs.length + ys.length + 1 ∧ Li w.heap.size w'.heap.size w' ao cap rs ∧ Below w.heap.size w w' := by
  obtain ⟨w0, e0, bx, by', br, hb0, hs0⟩ := boxed3 w nx (.slice a1 n1 c1) ny (.slice a2 n2 c2)
  have E0 := hide e0
  have hx0 := hx.below hb0
  have hy0 := hy.below hb0
  have HS0 := hide hs0
  clear e0 hs0
  go_enter Try.func12, Try.ntmps12
  go_wp2_with fail
  rw [E0.out]
  obtain ⟨ca, cb, cc, cd⟩ := bx.facts
  obtain ⟨ea, eb, ec, ed⟩ := by'.facts
  obtain ⟨da, db, dc, dd⟩ := br.facts
  refine (gcd_o _ _ _ _ _ _ _ xs ys hx0 hy0 (by omega) (by omega)).mono ?_
  rintro e w1 ⟨p1, q1, r1, rfl, G1, l1, o1, hb1⟩
  go_wp2_with fail
  refine (signed_g _ false _ _ r1 _ G1 (by omega)).mono ?_
  rintro e w2 ⟨ng2, rfl, G2, hb2⟩
  have br2 := (br.below hb1).below hb2
  obtain ⟨ka, kb, kc, kd⟩ := br2.facts
  have SGF : Hid (sg false ((Int.gcd (val xs) (val ys) : Nat) : Int) = ((Int.gcd (sg nx (val xs)) (sg ny (val ys)) : Nat) : Int)) := by show _ = _; rw [gcd_sg]; rfl
  have X := hide (br2.set ng2 (.slice p1 r1.length q1)).facts
  have Y := hide (br2.wh ng2 (.slice p1 r1.length q1) G2)
  have Z := hide (below_set2 (hb0.trans ((hb1.trans (hb2.mono hb1.size)).mono hb0.size)) (Nat.le_add_right _ 2) (.bool ng2) (.slice p1 r1.length q1))
  skip
  have hs9 := HS0.out
  have s_1 := hb1.size
  have s_2 := hb2.size
  have O1 := hide ((o1.below hb2).set2 (w.heap.size + 1 + 1) (by omega) (.bool ng2) (.slice p1 r1.length q1))
  have O2 := hide (show Li w.heap.size _ _ p1 q1 r1 from ⟨O1.out.ow.mono (by omega), fun h0 g off e => by have := O1.out.lies h0 g off e; exact ⟨by omega, Nat.lt_of_lt_of_le this.2 (show w1.heap.size ≤ ((w2.setCell ⟨w.heap.size + 1 + 1, 0, none⟩ (.bool ng2)).setCell ⟨w.heap.size + 1 + 1, 1, none⟩ (.slice p1 r1.length q1)).heap.size by simp [World.setCell]; exact s_2)⟩⟩)
  clear O1
  go_wp2
  refine bodyPost_ret (v := .agg #[.bool ng2, .slice p1 r1.length q1]) ?_ rfl ⟨ng2, p1, q1, r1, rfl, by rw [← SGF.out]; exact Y.out, by omega, O2.out, Z.out⟩
  simp [results, Try.results12, go_sem, X.out.1, X.out.2.1]

end Lm
end Go.Proofs.Ythbomfboohjcfad

namespace Go.Proofs.Ythbomfboohjcfad
namespace Lm
open Go.RowKit

theorem limb_lent {xs : List Int} (hl : Limb xs) (hm : xs.length ≤ 100000) {i : Nat} (hi : i < xs.length + 10) : 0 ≤ (lent xs).getD i 0 ∧ (lent xs).getD i 0 < 4294967296 := by
  by_cases h1 : i < 5
  · rw [lent_low h1]; omega
  · by_cases h2 : i < 5 + xs.length
    · rw [lent_mid (by omega) h2]; exact limb_getD hl _
    · rw [lent_high (by omega) hi]; omega

set_option maxRecDepth 20000 in
set_option maxHeartbeats 2000000 in
theorem back_any (w : World) (L g : Nat) (a1 : Option Addr) (n c1 : Nat) (xs : List Int) (hs : LendS w L g xs) (hLg : L ≠ g) (hx : Sl w (.slice a1 n c1) xs) (hm : xs.length ≤ 100000)
    (hne : 0 < xs.length → ∀ b off, a1 = some ⟨b, off, none⟩ → b ≠ g) :
    Calls Try.prog 14 #[.pointer (some ⟨L, 0, none⟩), .slice a1 n c1] w fun e w' => e = .returned (.bool true) ∧ Touch w w' g := by
  obtain ⟨rfl, h1, h2, h3⟩ := hx.parts
  obtain ⟨hL, cur, hh, hcs, hat, _⟩ := hs
  have dL := (cell_of_row w L 1 _ _ (0, 0) hL).trans (show (#[.slice (some ⟨g, 0, none⟩) (xs.length + 10) (xs.length + 10), .int .i64 xs.length] : Array Value)[1]? = some _ from rfl)
  have H3 := hide h3
  have HL := hide hL
  have HH := hide hh
  have HS := hide hcs
  have HA := hide hat
  clear h3 hL hh hcs hat
  go_enter Try.func14, Try.ntmps14
  go_wp2
  go_loopw [5, 6] (fun ok i wr => ∃ (k : Nat) (cur' : Array Value), k ≤ xs.length + 10 ∧ ok = .bool true ∧ i = .int .i64 k ∧ Wr w wr g cur' 47 ∧ cur'.size = xs.length + 10 ∧ (∀ j, k ≤ j → j < xs.length + 10 → cur'[j]? = some (.int .u32 ((lent xs).getD j 0)))) (fun _ i _ => xs.length + 10 - (intOf i).toNat)
  case atStart => exact ⟨0, cur, Nat.zero_le _, rfl, rfl, Wr.refl HH.out, HS.out, fun j _ hj => by have := HA.out j (by rw [lent_length]; exact hj); rwa [Nat.zero_add] at this⟩
  case round =>
    obtain ⟨k, cur', hk, rfl, rfl, hwr, hcs, hat⟩ := hrel
    have HW := hide hwr
    have HC := hide hcs
    have HT := hide hat
    have hLr : wr.heap[L]? = some (.cells #[.slice (some ⟨g, 0, none⟩) (xs.length + 10) (xs.length + 10), .int .i64 xs.length] 28 (0, 0)) := by
      rw [hwr.other L hLg]; exact HL.out
    have cLr := (cell_of_row wr L 0 _ _ (0, 0) hLr).trans (show (#[.slice (some ⟨g, 0, none⟩) (xs.length + 10) (xs.length + 10), .int .i64 xs.length] : Array Value)[0]? = some _ from rfl)
    clear hwr hcs hat hLr
    by_cases hlt : k < xs.length + 10
    · have hcell : wr.cell? ⟨g, k, none⟩ = some (.int .u32 ((lent xs).getD k 0)) := by
        rw [cell_of_row wr g k cur' _ (0, 0) HW.out.here]; exact HT.out k (Nat.le_refl _) hlt
      have hbl := limb_lent H3.out hm hlt
      have hfree := HW.out.free k
      have HN : Hid (∀ (u : Value) (j : Nat), k + 1 ≤ j → j < xs.length + 10 → (cur'.setIfInBounds k u)[j]? = some (.int .u32 ((lent xs).getD j 0))) := by
        intro u j hj hj2
        rw [Array.getElem?_setIfInBounds, if_neg (by omega)]
        exact HT.out j (by omega) hj2
      by_cases h5 : k < 5
      · rw [lent_low h5] at hcell
        have d5 : decide ((5 : Int) ≤ (k : Int)) = false := by simp; omega
        go_wp2
        go_region
        all_goals go_wp2
        go_roundw
        case rel => exact ⟨k + 1, _, by omega, rfl, by go_num, (HW.out.set k _).drew, by simpa using HC.out, HN.out _⟩
        case measure => simp [intOf]; omega
      · by_cases h6 : k < 5 + xs.length
        · obtain ⟨m, rfl⟩ : ∃ m, k = m + 5 := ⟨k - 5, by omega⟩
          rw [lent_mid (by omega) h6, Nat.add_sub_cancel] at hcell
          have sx := hx.touch HW.out.touch hne
          obtain ⟨b, off, rfl, hcx⟩ := sx.cells (by omega)
          have cx := hcx m (by omega)
          generalize xs.getD m 0 = z at hcell cx
          have hm5 : ((m + 5 : Nat) : Int) = (m : Int) + 5 := by omega
          rw [hm5]
          have d5 : decide ((5 : Int) ≤ (m : Int) + 5) = true := decide_eq_true (by omega)
          have d6 : decide ((m : Int) + 5 < 5 + (xs.length : Int)) = true := by simp; omega
          have d7 : (m : Int) + 5 < 5 + (xs.length : Int) := by omega
          clear sx hcx hbl hm5
          go_wp2
          go_region
          all_goals go_wp2
          go_roundw
          case rel => exact ⟨m + 5 + 1, _, by omega, rfl, by go_num, (HW.out.set (m + 5) _).drew, by simpa using HC.out, HN.out _⟩
          case measure => simp [intOf]; omega
        · rw [lent_high (by omega) hlt] at hcell
          have d5 : decide ((5 : Int) ≤ (k : Int)) = true := by simp; omega
          have d6 : decide ((k : Int) < 5 + (xs.length : Int)) = false := by simp; omega
          have d7 : ¬ (k : Int) < 5 + (xs.length : Int) := by omega
          have d8 : (5 : Int) ≤ (k : Int) := by omega
          go_wp2
          go_region
          all_goals go_wp2
          go_roundw
          case rel => exact ⟨k + 1, _, by omega, rfl, by go_num, (HW.out.set k _).drew, by simpa using HC.out, HN.out _⟩
          case measure => simp [intOf]; omega
    · have hkn : k = xs.length + 10 := by omega
      subst hkn
      go_wp2
      go_ret
      exact ⟨rfl, HW.out.touch⟩

end Lm
end Go.Proofs.Ythbomfboohjcfad

namespace Go.Proofs.Ythbomfboohjcfad
namespace Lm
open Go.RowKit

/-- The cells of a row. -/
theorem owns_cell {w : World} {B e n : Nat} {a : Option Addr} {c : Nat} {xs : List Value} (h : w.ownsRow B e 1 (.slice a n c) n xs) {i : Nat} (hi : i < n) : ∃ g u, a = some ⟨g, 0, none⟩ ∧ xs[i]? = some u ∧ w.cell? ⟨g, i, none⟩ = some u := by
  have hl := h.1
  rcases h.2 with ⟨e, rfl⟩ | ⟨g, cap, cur, e, _, hh, h1, h2, hs, ht⟩
  · omega
  · simp only [Value.slice.injEq] at e
    obtain ⟨rfl, _, rfl⟩ := e
    have hx : xs[i]? = some (xs[i]'(by omega)) := List.getElem?_eq_getElem (by omega)
    refine ⟨g, _, rfl, hx, ?_⟩
    rw [cell_of_row w g i cur _ (0, 0) hh, ← Array.getElem?_toList, ← hx, ← ht, List.getElem?_take, if_pos (by omega)]

set_option maxRecDepth 20000 in
set_option maxHeartbeats 1000000 in
theorem done_any (w : World) (p Q : Nat) (bs : List Nat) (rv : List Value) (lv mv : Value) (hk : Bk w p Q bs rv rv.length lv mv) (_hr : rv.length ≤ 1000) :
    Calls Try.prog 18 #[.pointer (some ⟨p, 0, none⟩)] w fun e w' => e = .returned (.bool true) ∧ Below w.heap.size w w' := by
  obtain ⟨al, cl, rfl, al1, al2⟩ := owns_shape hk.lists
  obtain ⟨am, cm, rfl, am1, am2⟩ := owns_shape hk.marks
  go_enter Try.func18, Try.ntmps18
  go_wp2
  go_loopw [3] (fun iv wr => ∃ i : Nat, i ≤ rv.length ∧ iv = .int .i64 i ∧ Below w.heap.size w wr) (fun iv _ => rv.length - (intOf iv).toNat)
  case atStart => exact ⟨0, Nat.zero_le _, rfl, Below.refl _ _⟩
  case round =>
    obtain ⟨i, hi, rfl, hbel⟩ := hrel
    obtain ⟨k0, k1, k2, k3⟩ := (hk.below hbel).facts
    by_cases hlt : i < rv.length
    · have dI : (i : Int) < (rv.length : Int) := by omega
      have HBL := hide hbel
      clear hbel
      go_wp2
      clear k0 k1 k2 k3
      obtain ⟨g1, u, rfl, hu, hc1⟩ := owns_cell hk.lists hlt
      obtain ⟨g2, u2, rfl, hu2, hc2⟩ := owns_cell hk.marks hlt
      rw [bmks_get hlt] at hu2
      simp only [Option.some.injEq] at hu2
      subst hu2
      obtain ⟨ao, n, cap, rfl, n1, n2, n3, n4⟩ := hk.rooms i u hu
      have C1 := hide hc1
      have C2 := hide hc2
      have N4 := hide n4
      clear hc1 hc2 n4 hu
      go_loopw [4] (fun kv wr => ∃ k : Nat, k ≤ n ∧ kv = .int .i64 k ∧ Below w.heap.size w wr) (fun kv _ => n - (intOf kv).toNat)
      case atStart => exact ⟨0, Nat.zero_le _, rfl, HBL.out⟩
      case round =>
        clear HBL
        obtain ⟨k, hkn, rfl, hbel⟩ := hrel
        obtain ⟨k0, k1, k2, k3⟩ := (hk.below hbel).facts
        have c1 := (hbel.cell (p := ⟨g1, i, none⟩) (lt_of_cell C1.out)).trans C1.out
        have c2 := (hbel.cell (p := ⟨g2, i, none⟩) (lt_of_cell C2.out)).trans C2.out
        by_cases hlt2 : k < n
        · have dK : (k : Int) < (n : Int) := by omega
          rcases N4.out with h0 | ⟨g, off, rfl, _, _, _, hc⟩
          · omega
          have c3 := (hbel.cell (p := ⟨g, off + k, none⟩) (lt_of_cell (hc k hlt2))).trans (hc k hlt2)
          clear hc N4
          simp only [bmk] at c2 c3
          go_wp2
          go_quiet (fail)
          go_wp2
          go_roundw
          case rel => exact ⟨k + 1, by omega, by go_num, below_drewN hbel _⟩
          case measure => simp [intOf]; omega
        · have dK : ¬ (k : Int) < (n : Int) := by omega
          go_wp2
          go_roundw
          case rel => exact ⟨i + 1, by omega, by go_num, hbel⟩
          case measure => simp [intOf]; omega
    · have dI : ¬ (i : Int) < (rv.length : Int) := by omega
      go_wp2
      go_ret
      exact ⟨rfl, hbel⟩

theorem done_b (w : World) (p Q n : Nat) (bs : List Nat) (hb : Bs w p Q bs n) (hn : n ≤ 1000) :
    Calls Try.prog 18 #[.pointer (some ⟨p, 0, none⟩)] w fun e w' => e = .returned (.bool true) ∧ Below w.heap.size w w' := by
  obtain ⟨rv, lv, mv, rfl, hk⟩ := hb
  exact done_any w p Q bs rv lv mv hk hn

end Lm
end Go.Proofs.Ythbomfboohjcfad
