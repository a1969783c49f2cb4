/-
  The contract of guessLimb.
-/
import Derived.Test.YtjhhjefobbhdlaaWrap
import Derived.Deep.QuietTactic
import Derived.BigQuiet
namespace Go.Proofs.Ytjhhjefobbhdlaa
namespace Lm
open Go.RowKit

theorem guess_start {v1 v2 u2 U g r : Int} (h2 : 0 ≤ v2) (h3 : u2 < 4294967296) (hg : U = g * v1 + r) (hr : r < v1) (hg0 : 0 ≤ g) : U * 4294967296 + u2 < (g + 1) * (v1 * 4294967296 + v2) := by
  have e1 : (g + 1) * (v1 * 4294967296 + v2) = (g * v1 + v1) * 4294967296 + (g + 1) * v2 := by
    rw [Int.mul_add, ← Int.mul_assoc, Int.add_mul, Int.one_mul]
  have e2 : 0 ≤ (g + 1) * v2 := Int.mul_nonneg (by omega) h2
  rw [e1]
  omega

theorem guess_le {v1 v2 u2 U g r : Int} (hg : g * v1 + r = U) (h : g * v2 ≤ r * 4294967296 + u2) : g * (v1 * 4294967296 + v2) ≤ U * 4294967296 + u2 := by
  rw [Int.mul_add, ← Int.mul_assoc, ← hg]
  omega

theorem guess_gt {v1 v2 u2 U g r : Int} (hg : g * v1 + r = U) (h : r * 4294967296 + u2 < g * v2) : U * 4294967296 + u2 < g * (v1 * 4294967296 + v2) := by
  rw [Int.mul_add, ← Int.mul_assoc, ← hg]
  omega

theorem guess_break {v1 v2 u2 U g r : Int} (hv : 0 ≤ v2 ∧ v2 < 4294967296) (hu : 0 ≤ u2) (hg : g * v1 + r = U) (hr : 4294967296 ≤ r) (hg0 : 0 ≤ g) (hg1 : g < 4294967296) : g * (v1 * 4294967296 + v2) ≤ U * 4294967296 + u2 := by
  apply guess_le hg
  have h1 : g * v2 ≤ 4294967295 * v2 := Int.mul_le_mul_of_nonneg_right (by omega) hv.1
  omega

theorem guess_top {v1 U g r : Int} (hv : 2147483648 ≤ v1) (hU : U ≤ v1 * 4294967296 + 4294967295) (hg : g * v1 + r = U) (_hr : 0 ≤ r) (hb : 4294967296 ≤ r + v1) : g ≤ 4294967296 := by
  apply Classical.byContradiction
  intro hn
  have h1 : 4294967297 * v1 ≤ g * v1 := Int.mul_le_mul_of_nonneg_right (by omega) (by omega)
  omega

theorem guess_max {v1 U g r : Int} (hv : 2147483648 ≤ v1) (hU : U ≤ v1 * 4294967296 + 4294967295) (hg : g * v1 + r = U) (hr : 0 ≤ r) : g ≤ 4294967297 := by
  apply Classical.byContradiction
  intro hn
  have h1 : 4294967298 * v1 ≤ g * v1 := Int.mul_le_mul_of_nonneg_right (by omega) (by omega)
  omega

set_option maxRecDepth 20000 in
set_option maxHeartbeats 2000000 in
theorem guess_any (w : World) (a1 a2 : Option Addr) (n c1 c2 : Nat) (ps Y : List Int) (hp : Sl w (.slice a1 (n + 2 + 1) c1) ps) (hy : Sl w (.slice a2 (n + 2) c2) Y)
    (htop : 2147483648 ≤ Y.getD (n + 1) 0) (hu : ps.getD (n + 2) 0 ≤ Y.getD (n + 1) 0) :
    Calls Try.prog 93 #[.slice a1 (n + 2 + 1) c1, .slice a2 (n + 2) c2] w fun e w' => ∃ g : Int, e = .returned (.int .u32 g) ∧ (0 ≤ g ∧ g < 4294967296) ∧ g * (Y.getD (n + 1) 0 * 4294967296 + Y.getD n 0) ≤ (ps.getD (n + 2) 0 * 4294967296 + ps.getD (n + 1) 0) * 4294967296 + ps.getD n 0 ∧ (4294967296 ≤ g + 1 ∨ (ps.getD (n + 2) 0 * 4294967296 + ps.getD (n + 1) 0) * 4294967296 + ps.getD n 0 < (g + 1) * (Y.getD (n + 1) 0 * 4294967296 + Y.getD n 0)) ∧ ∃ q, w' = w.drewN q := by
  obtain ⟨hpl, p1, p2, p3⟩ := hp.parts
  obtain ⟨hyl, y1, y2, y3⟩ := hy.parts
  obtain ⟨b, off, rfl, hc⟩ := hp.cells (by omega)
  obtain ⟨b', off', rfl, hc'⟩ := hy.cells (by omega)
  have f0 := hc (n + 2) (by omega)
  have f1 := hc (n + 1) (by omega)
  have f2 := hc n (by omega)
  have e1 := hc' (n + 1) (by omega)
  have e2 := hc' n (by omega)
  have bu0 := limb_getD p3 (n + 2)
  have bu1 := limb_getD p3 (n + 1)
  have bu2 := limb_getD p3 n
  have bv1 := limb_getD y3 (n + 1)
  have bv2 := limb_getD y3 n
  generalize ps.getD (n + 2) 0 = u0 at *
  generalize ps.getD (n + 1) 0 = u1 at *
  generalize ps.getD n 0 = u2 at *
  generalize Y.getD (n + 1) 0 = v1 at *
  generalize Y.getD n 0 = v2 at *
  have hN : n + 3 ≤ 9223372036854775807 := by omega
  have hor1 := or_join u0 u1 bu0.1 bu0.2 bu1.1 bu1.2
  obtain ⟨U, hU⟩ : ∃ U, U = u0 * 4294967296 + u1 := ⟨_, rfl⟩
  rw [← hU] at hor1 ⊢
  have hU0 : 0 ≤ U := by omega
  have hUb : U < 18446744073709551616 := by omega
  have hUm : U ≤ v1 * 4294967296 + 4294967295 := by omega
  have HU := hide hU
  clear hc hc' p3 y3 hpl hyl hU
  go_enter Try.func93, Try.ntmps93
  go_wp2
  go_quiet (fail)
  go_wp2
  replace f0 : (w.drewN nq).cell? _ = _ := f0
  replace f1 : (w.drewN nq).cell? _ = _ := f1
  replace f2 : (w.drewN nq).cell? _ = _ := f2
  replace e1 : (w.drewN nq).cell? _ = _ := e1
  replace e2 : (w.drewN nq).cell? _ = _ := e2
  generalize hwq : w.drewN nq = wq at f0 f1 f2 e1 e2 ⊢
  have HQ : Hid (∃ q, wq = w.drewN q) := ⟨_, hwq.symm⟩
  clear hwq
  go_quiet (fail)
  go_wp2
  replace f2 : (wq.drewN nq).cell? _ = _ := f2
  replace HQ : Hid (∃ q, wq.drewN nq = w.drewN q) := by
    obtain ⟨q, hq⟩ := HQ.out
    exact ⟨q + nq, by rw [hq]; simp [World.drewN]; omega⟩
  generalize wq.drewN nq = wz at f2 HQ ⊢
  have hv0 : 0 < v1 := by omega
  have hq0 : 0 ≤ U / v1 := Int.ediv_nonneg hU0 (by omega)
  have hqm := Int.mul_ediv_add_emod U v1
  have hr0 := Int.emod_nonneg U (show v1 ≠ 0 by omega)
  have hr1 := Int.emod_lt_of_pos U hv0
  have hq1 : U / v1 ≤ 4294967297 := guess_max htop hUm (by rw [Int.mul_comm]; exact hqm) hr0
  have t1 : U.tdiv v1 = U / v1 := Int.tdiv_eq_ediv_of_nonneg hU0
  have t2 : IntKind.u64.wrap (U / v1) = U / v1 := by rw [IntKind.wrap_u64]; exact Int.emod_eq_of_lt hq0 (by omega)
  have t3 : U.tmod v1 = U % v1 := Int.tmod_eq_emod_of_nonneg hU0
  have HQM := hide hqm
  clear hqm
  go_quiet (fail)
  go_wp2
  replace f2 : (wz.drewN nq).cell? _ = _ := f2
  replace HQ : Hid (∃ q, wz.drewN nq = w.drewN q) := by
    obtain ⟨q, hq⟩ := HQ.out
    exact ⟨q + nq, by rw [hq]; simp [World.drewN]; omega⟩
  generalize wz.drewN nq = wl at f2 HQ ⊢
  go_loop [9, 10] (fun gv rv => ∃ gu rs : Int, gv = .int .u64 gu ∧ rv = .int .u64 rs ∧ 0 ≤ gu ∧ gu ≤ 4294967297 ∧ 0 ≤ rs ∧ rs < 4294967296 ∧ gu * v1 + rs = U ∧ (4294967296 ≤ gu + 1 ∨ U * 4294967296 + u2 < (gu + 1) * (v1 * 4294967296 + v2))) (fun gv _ => (intOf gv).toNat)
  case atStart => exact ⟨U / v1, U % v1, rfl, rfl, hq0, hq1, hr0, by omega, by rw [Int.mul_comm]; exact HQM.out, .inr (guess_start bv2.1 bu2.2 (by rw [Int.mul_comm]; exact HQM.out.symm) hr1 hq0)⟩
  case round =>
    obtain ⟨gu, rs, rfl, rfl, hg0, hg1, hs0, hs1, hgs, hgb⟩ := hrel
    have HGS := hide hgs
    have HGB := hide hgb
    have hor2 := or_join rs u2 hs0 hs1 bu2.1 bu2.2
    clear hgs hgb t1 t2 t3 hor1
    by_cases hbig : 4294967296 ≤ gu
    · have hne : (gu / 4294967296 != 0) = true := by rw [bne_iff_ne]; omega
      have HN : Hid ((gu - 1) * v1 + (rs + v1) = U) := by have h9 := HGS.out; show _ = _; rw [Int.sub_mul]; omega
      by_cases hbr : 4294967296 ≤ rs + v1
      · have hne2 : ((rs + v1) / 4294967296 != 0) = true := by rw [bne_iff_ne]; omega
        have hgl := guess_top htop hUm HGS.out hs0 hbr
        have HF := hide (guess_break bv2 bu2.1 HN.out hbr (by omega) (by omega))
        go_wp2
        go_ret
        exact ⟨gu - 1, rfl, by omega, HF.out, .inl (by omega), HQ.out⟩
      · have hne2 : ((rs + v1) / 4294967296 != 0) = false := by rw [bne_eq_false_iff_eq]; omega
        go_wp2
        go_round
        case rel => exact ⟨gu - 1, rs + v1, rfl, rfl, by omega, by omega, by omega, by omega, HN.out, .inl (by omega)⟩
        case measure => simp [intOf]; omega
    · have hne : (gu / 4294967296 != 0) = false := by rw [bne_eq_false_iff_eq]; omega
      have hmb := mul_bound (show 0 ≤ gu ∧ gu < 4294967296 by omega) bv2
      by_cases hgt : rs * 4294967296 + u2 < gu * v2
      · have hd : decide (rs * 4294967296 + u2 < gu * v2) = true := decide_eq_true hgt
        have hgu1 : 1 ≤ gu := by
          apply Classical.byContradiction
          intro hn
          have h0 : gu = 0 := by omega
          rw [h0, Int.zero_mul] at hgt
          omega
        have HN : Hid ((gu - 1) * v1 + (rs + v1) = U) := by have h9 := HGS.out; show _ = _; rw [Int.sub_mul]; omega
        have HB2 := hide (guess_gt HGS.out hgt)
        by_cases hbr : 4294967296 ≤ rs + v1
        · have hne2 : ((rs + v1) / 4294967296 != 0) = true := by rw [bne_iff_ne]; omega
          have HF := hide (guess_break bv2 bu2.1 HN.out hbr (by omega) (by omega))
          go_wp2
          go_ret
          exact ⟨gu - 1, rfl, by omega, HF.out, .inr (by rw [Int.sub_add_cancel]; exact HB2.out), HQ.out⟩
        · have hne2 : ((rs + v1) / 4294967296 != 0) = false := by rw [bne_eq_false_iff_eq]; omega
          go_wp2
          go_round
          case rel => exact ⟨gu - 1, rs + v1, rfl, rfl, by omega, by omega, by omega, by omega, HN.out, .inr (by rw [Int.sub_add_cancel]; exact HB2.out)⟩
          case measure => simp [intOf]; omega
      · have hd : decide (rs * 4294967296 + u2 < gu * v2) = false := decide_eq_false hgt
        have HF := hide (guess_le HGS.out (show gu * v2 ≤ rs * 4294967296 + u2 by omega))
        go_wp2
        go_ret
        exact ⟨gu, rfl, by omega, HF.out, HGB.out, HQ.out⟩

end Lm
end Go.Proofs.Ytjhhjefobbhdlaa
