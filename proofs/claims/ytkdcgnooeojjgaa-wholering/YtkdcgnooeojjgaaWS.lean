/-
  Whole numbers: the contract of Sum, of three.
-/
import Derived.Test.YtkdcgnooeojjgaaWG
namespace Go.Proofs.Ytkdcgnooeojjgaa
namespace Lm
open Go.RowKit

theorem box_other {w : World} {g h : Nat} {ng : Bool} {v : Value} (H : Box w g ng v) (hn : g ≠ h) (b u : Value) : Box ((w.setCell ⟨h, 0, none⟩ b).setCell ⟨h, 1, none⟩ u) g ng v :=
  (heap_setCell_other _ ⟨h, 1, none⟩ g u hn).trans ((heap_setCell_other w ⟨h, 0, none⟩ g b hn).trans H)

set_option maxRecDepth 20000 in
set_option maxHeartbeats 1000000 in
theorem sum3_z (w : World) (g : Nat) (nx : Bool) (a1 : Option Addr) (n1 c1 : Nat) (xs : List Int) (x : Int) (hx : Ag w nx a1 n1 c1 xs x) (ny : Bool) (a2 : Option Addr) (n2 c2 : Nat) (ys : List Int) (y : Int) (hy : Ag w ny a2 n2 c2 ys y) (nz : Bool) (a3 : Option Addr) (n3 c3 : Nat) (us : List Int) (z : Int) (hz : Ag w nz a3 n3 c3 us z) (hm1 : xs.length ≤ 100000) (hm2 : ys.length ≤ 100000) (hm3 : us.length ≤ 100000)
    (hh : w.heap[g]? = some (.cells #[.bool nx, .slice a1 n1 c1, .bool ny, .slice a2 n2 c2, .bool nz, .slice a3 n3 c3] 24 (0, 0))) :
    Calls Try.prog 37 #[.slice (some ⟨g, 0, none⟩) 3 3] w fun e w' => ∃ ng' ao cap rs, e = .returned (.agg #[.bool ng', .slice ao rs.length cap]) ∧ Wh w' ng' ao cap rs (x + y + z) ∧ rs.length ≤ 400000 ∧ Below w.heap.size w w' := by
  obtain ⟨w0, e0, br0, bt0, hb0, hs0⟩ := boxed2 w false (.slice none 0 0) false (.slice none 0 0)
  have E0 := hide e0
  have hlg := lt_of_heap hh
  have HH := hide hh
  clear e0 hs0 hh
  go_enter Try.func37, Try.ntmps37
  go_wp2
  rw [E0.out]
  go_loopw [8] (fun i wr => ∃ (k : Nat) (nt : Bool) (pt : Option Addr) (qt : Nat) (rt : List Int) (zt : Int), k ≤ 3 ∧ i = .int .i64 k ∧ Box wr (w.heap.size + 1) nt (.slice pt rt.length qt) ∧ Wh wr nt pt qt rt zt ∧ Box wr w.heap.size false (.slice none 0 0) ∧ Below w.heap.size w wr ∧ rt.length ≤ 100001 * k ∧ ((k = 0 ∧ zt = 0) ∨ (k = 1 ∧ zt = x) ∨ (k = 2 ∧ zt = x + y) ∨ (k = 3 ∧ zt = x + y + z))) (fun i _ => 3 - (intOf i).toNat)
  case atStart => exact ⟨0, false, none, 0, [], 0, by omega, rfl, bt0, ⟨⟨sl_nil _, canon_nil, rfl⟩, rfl⟩, br0, hb0, by simp, .inl ⟨rfl, rfl⟩⟩
  case round =>
    obtain ⟨k, nt, pt, qt, rt, zt, hk, rfl, bt, hW, br, HB, hl, hcase⟩ := hrel
    have hg : wr.heap[g]? = some (.cells #[.bool nx, .slice a1 n1 c1, .bool ny, .slice a2 n2 c2, .bool nz, .slice a3 n3 c3] 24 (0, 0)) := (HB.block g hlg).trans HH.out
    rcases hcase with ⟨hk0, hzt⟩ | ⟨hk0, hzt⟩ | ⟨hk0, hzt⟩ | ⟨hk0, hzt⟩
    all_goals
      subst hk0
      have HZ := hide hzt
      clear hzt
    · skip
      -- element 0
      · have hA := hx.below HB
        obtain ⟨wa, ea, be, hba, hsa⟩ := boxed0 wr nx (.slice a1 n1 c1)
        have E := hide ea
        have hT := hW.below hba
        have hA' := hA.below hba
        have bt' := bt.below hba
        have br' := br.below hba
        have HB' := HB.trans (hba.mono HB.size)
        obtain ⟨ta, tb, tc, td⟩ := bt'.facts
        rw [← ea] at ta tb tc td
        have ga : wr.cell? ⟨g, 0, none⟩ = some (.bool nx) := by rw [cell_of_row _ _ _ _ _ (0, 0) hg]; rfl
        have gb : wr.cell? ⟨g, 1, none⟩ = some (.slice a1 n1 c1) := by rw [cell_of_row _ _ _ _ _ (0, 0) hg]; rfl
        clear ea hsa
        go_wp2_with fail
        rw [E.out]
        refine (add_z _ _ _ _ _ _ _ hT.ag _ _ _ _ _ _ hA' (by omega) (by omega)).mono ?_
        rintro e w1 ⟨n9, p9, q9, r9, rfl, G9, l9, hb9⟩
        have bt9 := bt'.below hb9
        have br9 := br'.below hb9
        have HB9 := HB'.trans (hb9.mono HB'.size)
        obtain ⟨ka, kb, kc, kd⟩ := bt9.facts
        have X := hide (bt9.set n9 (.slice p9 r9.length q9))
        have Y := hide (bt9.wh n9 (.slice p9 r9.length q9) G9)
        have Z := hide (below_set2 HB9 (Nat.le_succ _) (.bool n9) (.slice p9 r9.length q9))
        have R := hide (box_other br9 (show w.heap.size ≠ w.heap.size + 1 by omega) (.bool n9) (.slice p9 r9.length q9))
        clear ta tb tc td ga gb E
        go_wp2
        go_roundw
        case rel => exact ⟨1, n9, p9, q9, r9, _, by omega, rfl, X.out, Y.out, R.out, Z.out, by omega, .inr (.inl ⟨rfl, by have := HZ.out; omega⟩)⟩
        case measure => simp [intOf]
    · skip
      -- element 1
      · have hA := hy.below HB
        obtain ⟨wa, ea, be, hba, hsa⟩ := boxed0 wr ny (.slice a2 n2 c2)
        have E := hide ea
        have hT := hW.below hba
        have hA' := hA.below hba
        have bt' := bt.below hba
        have br' := br.below hba
        have HB' := HB.trans (hba.mono HB.size)
        obtain ⟨ta, tb, tc, td⟩ := bt'.facts
        rw [← ea] at ta tb tc td
        have ga : wr.cell? ⟨g, 2, none⟩ = some (.bool ny) := by rw [cell_of_row _ _ _ _ _ (0, 0) hg]; rfl
        have gb : wr.cell? ⟨g, 3, none⟩ = some (.slice a2 n2 c2) := by rw [cell_of_row _ _ _ _ _ (0, 0) hg]; rfl
        clear ea hsa
        go_wp2_with fail
        rw [E.out]
        refine (add_z _ _ _ _ _ _ _ hT.ag _ _ _ _ _ _ hA' (by omega) (by omega)).mono ?_
        rintro e w1 ⟨n9, p9, q9, r9, rfl, G9, l9, hb9⟩
        have bt9 := bt'.below hb9
        have br9 := br'.below hb9
        have HB9 := HB'.trans (hb9.mono HB'.size)
        obtain ⟨ka, kb, kc, kd⟩ := bt9.facts
        have X := hide (bt9.set n9 (.slice p9 r9.length q9))
        have Y := hide (bt9.wh n9 (.slice p9 r9.length q9) G9)
        have Z := hide (below_set2 HB9 (Nat.le_succ _) (.bool n9) (.slice p9 r9.length q9))
        have R := hide (box_other br9 (show w.heap.size ≠ w.heap.size + 1 by omega) (.bool n9) (.slice p9 r9.length q9))
        clear ta tb tc td ga gb E
        go_wp2
        go_roundw
        case rel => exact ⟨2, n9, p9, q9, r9, _, by omega, rfl, X.out, Y.out, R.out, Z.out, by omega, .inr (.inr (.inl ⟨rfl, by have := HZ.out; omega⟩))⟩
        case measure => simp [intOf]
    · skip
      -- element 2
      · have hA := hz.below HB
        obtain ⟨wa, ea, be, hba, hsa⟩ := boxed0 wr nz (.slice a3 n3 c3)
        have E := hide ea
        have hT := hW.below hba
        have hA' := hA.below hba
        have bt' := bt.below hba
        have br' := br.below hba
        have HB' := HB.trans (hba.mono HB.size)
        obtain ⟨ta, tb, tc, td⟩ := bt'.facts
        rw [← ea] at ta tb tc td
        have ga : wr.cell? ⟨g, 4, none⟩ = some (.bool nz) := by rw [cell_of_row _ _ _ _ _ (0, 0) hg]; rfl
        have gb : wr.cell? ⟨g, 5, none⟩ = some (.slice a3 n3 c3) := by rw [cell_of_row _ _ _ _ _ (0, 0) hg]; rfl
        clear ea hsa
        go_wp2_with fail
        rw [E.out]
        refine (add_z _ _ _ _ _ _ _ hT.ag _ _ _ _ _ _ hA' (by omega) (by omega)).mono ?_
        rintro e w1 ⟨n9, p9, q9, r9, rfl, G9, l9, hb9⟩
        have bt9 := bt'.below hb9
        have br9 := br'.below hb9
        have HB9 := HB'.trans (hb9.mono HB'.size)
        obtain ⟨ka, kb, kc, kd⟩ := bt9.facts
        have X := hide (bt9.set n9 (.slice p9 r9.length q9))
        have Y := hide (bt9.wh n9 (.slice p9 r9.length q9) G9)
        have Z := hide (below_set2 HB9 (Nat.le_succ _) (.bool n9) (.slice p9 r9.length q9))
        have R := hide (box_other br9 (show w.heap.size ≠ w.heap.size + 1 by omega) (.bool n9) (.slice p9 r9.length q9))
        clear ta tb tc td ga gb E
        go_wp2
        go_roundw
        case rel => exact ⟨3, n9, p9, q9, r9, _, by omega, rfl, X.out, Y.out, R.out, Z.out, by omega, .inr (.inr (.inr ⟨rfl, by have := HZ.out; omega⟩))⟩
        case measure => simp [intOf]
    · obtain ⟨ta, tb, tc, td⟩ := bt.facts
      obtain ⟨ra, rb, rc, rd⟩ := br.facts
      have X := hide (br.set nt (.slice pt rt.length qt)).facts
      have Y := hide (br.wh nt (.slice pt rt.length qt) hW)
      have Z := hide (below_set2 HB (Nat.le_refl _) (.bool nt) (.slice pt rt.length qt))
      go_wp2
      refine bodyPost_ret (v := .agg #[.bool nt, .slice pt rt.length qt]) ?_ rfl ⟨nt, pt, qt, rt, rfl, by rw [← HZ.out]; exact Y.out, by omega, Z.out⟩
      simp [results, Try.results37, go_sem, X.out.1, X.out.2.1]

end Lm
end Go.Proofs.Ytkdcgnooeojjgaa
