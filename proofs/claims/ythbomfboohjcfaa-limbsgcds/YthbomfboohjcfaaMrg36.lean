/-
  The contract of guessLimb. Plain facts on the long division: what the guess of a limb is worth. No program is named here.
-/
import Derived.Test.YthbomfboohjcfaaWrap
import Derived.Deep.QuietTactic
import Derived.BigQuiet
import Derived.Test.YthbomfboohjcfaaPlain
namespace Go.Proofs.Ythbomfboohjcfaa
namespace Lm
open Go.RowKit

theorem guess_start {v1 v2 u2 U g r : Int} (h2 : 0 ≤ v2) (h3 : u2 < 4294967296) (hg : U = g * v1 + r) (hr : r < v1) (hg0 : 0 ≤ g) : U * 4294967296 + u2 < (g + 1) * (v1 * 4294967296 + v2) := by
  have e1 : (g + 1) * (v1 * 4294967296 + v2) = (g * v1 + v1) * 4294967296 + (g + 1) * v2 := by
    rw [Int.mul_add, ← Int.mul_assoc, Int.add_mul, Int.one_mul]
  have e2 : 0 ≤ (g + 1) * v2 := Int.mul_nonneg (by omega) h2
  rw [e1]
  omega

theorem guess_le {v1 v2 u2 U g r : Int} (hg : g * v1 + r = U) (h : g * v2 ≤ r * 4294967296 + u2) : g * (v1 * 4294967296 + v2) ≤ U * 4294967296 + u2 := by
  rw [Int.mul_add, ← Int.mul_assoc, ← hg]
  omega

theorem guess_gt {v1 v2 u2 U g r : Int} (hg : g * v1 + r = U) (h : r * 4294967296 + u2 < g * v2) : U * 4294967296 + u2 < g * (v1 * 4294967296 + v2) := by
  rw [Int.mul_add, ← Int.mul_assoc, ← hg]
  omega

theorem guess_break {v1 v2 u2 U g r : Int} (hv : 0 ≤ v2 ∧ v2 < 4294967296) (hu : 0 ≤ u2) (hg : g * v1 + r = U) (hr : 4294967296 ≤ r) (hg0 : 0 ≤ g) (hg1 : g < 4294967296) : g * (v1 * 4294967296 + v2) ≤ U * 4294967296 + u2 := by
  apply guess_le hg
  have h1 : g * v2 ≤ 4294967295 * v2 := Int.mul_le_mul_of_nonneg_right (by omega) hv.1
  omega

theorem guess_top {v1 U g r : Int} (hv : 2147483648 ≤ v1) (hU : U ≤ v1 * 4294967296 + 4294967295) (hg : g * v1 + r = U) (_hr : 0 ≤ r) (hb : 4294967296 ≤ r + v1) : g ≤ 4294967296 := by
  apply Classical.byContradiction
  intro hn
  have h1 : 4294967297 * v1 ≤ g * v1 := Int.mul_le_mul_of_nonneg_right (by omega) (by omega)
  omega

theorem guess_max {v1 U g r : Int} (hv : 2147483648 ≤ v1) (hU : U ≤ v1 * 4294967296 + 4294967295) (hg : g * v1 + r = U) (hr : 0 ≤ r) : g ≤ 4294967297 := by
  apply Classical.byContradiction
  intro hn
  have h1 : 4294967298 * v1 ≤ g * v1 := Int.mul_le_mul_of_nonneg_right (by omega) (by omega)
  omega

set_option maxRecDepth 20000 in
set_option maxHeartbeats 2000000 in
theorem guess_any (w : World) (a1 a2 : Option Addr) (n c1 c2 : Nat) (ps Y : List Int) (hp : Sl w (.slice a1 (n + 2 + 1) c1) ps) (hy : Sl w (.slice a2 (n + 2) c2) Y)
    (htop : 2147483648 ≤ Y.getD (n + 1) 0) (hu : ps.getD (n + 2) 0 ≤ Y.getD (n + 1) 0) :
    Calls Try.prog 75 #[.slice a1 (n + 2 + 1) c1, .slice a2 (n + 2) c2] w fun e w' => ∃ g : Int, e = .returned (.int .u32 g) ∧ (0 ≤ g ∧ g < 4294967296) ∧ g * (Y.getD (n + 1) 0 * 4294967296 + Y.getD n 0) ≤ (ps.getD (n + 2) 0 * 4294967296 + ps.getD (n + 1) 0) * 4294967296 + ps.getD n 0 ∧ (4294967296 ≤ g + 1 ∨ (ps.getD (n + 2) 0 * 4294967296 + ps.getD (n + 1) 0) * 4294967296 + ps.getD n 0 < (g + 1) * (Y.getD (n + 1) 0 * 4294967296 + Y.getD n 0)) ∧ ∃ q, w' = w.drewN q := by
  obtain ⟨hpl, p1, p2, p3⟩ := hp.parts
  obtain ⟨hyl, y1, y2, y3⟩ := hy.parts
  obtain ⟨b, off, rfl, hc⟩ := hp.cells (by omega)
  obtain ⟨b', off', rfl, hc'⟩ := hy.cells (by omega)
  have f0 := hc (n + 2) (by omega)
  have f1 := hc (n + 1) (by omega)
  have f2 := hc n (by omega)
  have e1 := hc' (n + 1) (by omega)
  have e2 := hc' n (by omega)
  have bu0 := limb_getD p3 (n + 2)
  have bu1 := limb_getD p3 (n + 1)
  have bu2 := limb_getD p3 n
  have bv1 := limb_getD y3 (n + 1)
  have bv2 := limb_getD y3 n
  generalize ps.getD (n + 2) 0 = u0 at *
  generalize ps.getD (n + 1) 0 = u1 at *
  generalize ps.getD n 0 = u2 at *
  generalize Y.getD (n + 1) 0 = v1 at *
  generalize Y.getD n 0 = v2 at *
  have hN : n + 3 ≤ 9223372036854775807 := by omega
  have hor1 := or_join u0 u1 bu0.1 bu0.2 bu1.1 bu1.2
  obtain ⟨U, hU⟩ : ∃ U, U = u0 * 4294967296 + u1 := ⟨_, rfl⟩
  rw [← hU] at hor1 ⊢
  have hU0 : 0 ≤ U := by omega
  have hUb : U < 18446744073709551616 := by omega
  have hUm : U ≤ v1 * 4294967296 + 4294967295 := by omega
  have HU := hide hU
  clear hc hc' p3 y3 hpl hyl hU
  go_enter Try.func75, Try.ntmps75
  go_wp2
  go_quiet (fail)
  go_wp2
  replace f0 : (w.drewN nq).cell? _ = _ := f0
  replace f1 : (w.drewN nq).cell? _ = _ := f1
  replace f2 : (w.drewN nq).cell? _ = _ := f2
  replace e1 : (w.drewN nq).cell? _ = _ := e1
  replace e2 : (w.drewN nq).cell? _ = _ := e2
  generalize hwq : w.drewN nq = wq at f0 f1 f2 e1 e2 ⊢
  have HQ : Hid (∃ q, wq = w.drewN q) := ⟨_, hwq.symm⟩
  clear hwq
  go_quiet (fail)
  go_wp2
  replace f2 : (wq.drewN nq).cell? _ = _ := f2
  replace HQ : Hid (∃ q, wq.drewN nq = w.drewN q) := by
    obtain ⟨q, hq⟩ := HQ.out
    exact ⟨q + nq, by rw [hq]; simp [World.drewN]; omega⟩
  generalize wq.drewN nq = wz at f2 HQ ⊢
  have hv0 : 0 < v1 := by omega
  have hq0 : 0 ≤ U / v1 := Int.ediv_nonneg hU0 (by omega)
  have hqm := Int.mul_ediv_add_emod U v1
  have hr0 := Int.emod_nonneg U (show v1 ≠ 0 by omega)
  have hr1 := Int.emod_lt_of_pos U hv0
  have hq1 : U / v1 ≤ 4294967297 := guess_max htop hUm (by rw [Int.mul_comm]; exact hqm) hr0
  have t1 : U.tdiv v1 = U / v1 := Int.tdiv_eq_ediv_of_nonneg hU0
  have t2 : IntKind.u64.wrap (U / v1) = U / v1 := by rw [IntKind.wrap_u64]; exact Int.emod_eq_of_lt hq0 (by omega)
  have t3 : U.tmod v1 = U % v1 := Int.tmod_eq_emod_of_nonneg hU0
  have HQM := hide hqm
  clear hqm
  go_quiet (fail)
  go_wp2
  replace f2 : (wz.drewN nq).cell? _ = _ := f2
  replace HQ : Hid (∃ q, wz.drewN nq = w.drewN q) := by
    obtain ⟨q, hq⟩ := HQ.out
    exact ⟨q + nq, by rw [hq]; simp [World.drewN]; omega⟩
  generalize wz.drewN nq = wl at f2 HQ ⊢
  go_loop [9, 10] (fun gv rv => ∃ gu rs : Int, gv = .int .u64 gu ∧ rv = .int .u64 rs ∧ 0 ≤ gu ∧ gu ≤ 4294967297 ∧ 0 ≤ rs ∧ rs < 4294967296 ∧ gu * v1 + rs = U ∧ (4294967296 ≤ gu + 1 ∨ U * 4294967296 + u2 < (gu + 1) * (v1 * 4294967296 + v2))) (fun gv _ => (intOf gv).toNat)
  case atStart => exact ⟨U / v1, U % v1, rfl, rfl, hq0, hq1, hr0, by omega, by rw [Int.mul_comm]; exact HQM.out, .inr (guess_start bv2.1 bu2.2 (by rw [Int.mul_comm]; exact HQM.out.symm) hr1 hq0)⟩
  case round =>
    obtain ⟨gu, rs, rfl, rfl, hg0, hg1, hs0, hs1, hgs, hgb⟩ := hrel
    have HGS := hide hgs
    have HGB := hide hgb
    have hor2 := or_join rs u2 hs0 hs1 bu2.1 bu2.2
    clear hgs hgb t1 t2 t3 hor1
    by_cases hbig : 4294967296 ≤ gu
    · have hne : (gu / 4294967296 != 0) = true := by rw [bne_iff_ne]; omega
      have HN : Hid ((gu - 1) * v1 + (rs + v1) = U) := by have h9 := HGS.out; show _ = _; rw [Int.sub_mul]; omega
      by_cases hbr : 4294967296 ≤ rs + v1
      · have hne2 : ((rs + v1) / 4294967296 != 0) = true := by rw [bne_iff_ne]; omega
        have hgl := guess_top htop hUm HGS.out hs0 hbr
        have HF := hide (guess_break bv2 bu2.1 HN.out hbr (by omega) (by omega))
        go_wp2
        go_ret
        exact ⟨gu - 1, rfl, by omega, HF.out, .inl (by omega), HQ.out⟩
      · have hne2 : ((rs + v1) / 4294967296 != 0) = false := by rw [bne_eq_false_iff_eq]; omega
        go_wp2
        go_round
        case rel => exact ⟨gu - 1, rs + v1, rfl, rfl, by omega, by omega, by omega, by omega, HN.out, .inl (by omega)⟩
        case measure => simp [intOf]; omega
    · have hne : (gu / 4294967296 != 0) = false := by rw [bne_eq_false_iff_eq]; omega
      have hmb := mul_bound (show 0 ≤ gu ∧ gu < 4294967296 by omega) bv2
      by_cases hgt : rs * 4294967296 + u2 < gu * v2
      · have hd : decide (rs * 4294967296 + u2 < gu * v2) = true := decide_eq_true hgt
        have hgu1 : 1 ≤ gu := by
          apply Classical.byContradiction
          intro hn
          have h0 : gu = 0 := by omega
          rw [h0, Int.zero_mul] at hgt
          omega
        have HN : Hid ((gu - 1) * v1 + (rs + v1) = U) := by have h9 := HGS.out; show _ = _; rw [Int.sub_mul]; omega
        have HB2 := hide (guess_gt HGS.out hgt)
        by_cases hbr : 4294967296 ≤ rs + v1
        · have hne2 : ((rs + v1) / 4294967296 != 0) = true := by rw [bne_iff_ne]; omega
          have HF := hide (guess_break bv2 bu2.1 HN.out hbr (by omega) (by omega))
          go_wp2
          go_ret
          exact ⟨gu - 1, rfl, by omega, HF.out, .inr (by rw [Int.sub_add_cancel]; exact HB2.out), HQ.out⟩
        · have hne2 : ((rs + v1) / 4294967296 != 0) = false := by rw [bne_eq_false_iff_eq]; omega
          go_wp2
          go_round
          case rel => exact ⟨gu - 1, rs + v1, rfl, rfl, by omega, by omega, by omega, by omega, HN.out, .inr (by rw [Int.sub_add_cancel]; exact HB2.out)⟩
          case measure => simp [intOf]; omega
      · have hd : decide (rs * 4294967296 + u2 < gu * v2) = false := decide_eq_false hgt
        have HF := hide (guess_le HGS.out (show gu * v2 ≤ rs * 4294967296 + u2 by omega))
        go_wp2
        go_ret
        exact ⟨gu, rfl, by omega, HF.out, HGB.out, HQ.out⟩

end Lm
end Go.Proofs.Ythbomfboohjcfaa

namespace Go.Proofs.Ythbomfboohjcfaa
namespace Lm

/-- The list's value by its upper limb. -/
theorem val_top {zs : List Int} {n : Nat} (hl : zs.length = n + 1) : val zs = val (zs.take n) + pw n * zs.getD n 0 := by
  have e1 : zs = zs.take n ++ [zs.getD n 0] := by
    rw [← take_succ_getD zs n (by omega), List.take_of_length_le (by omega)]
  have e2 := val_append (zs.take n) [zs.getD n 0]
  rw [← e1, List.length_take, Nat.min_eq_left (by omega)] at e2
  rw [e2]
  simp [val]

/-- Two upper limbs. -/
theorem val_top2 {zs : List Int} {n : Nat} (hl : zs.length = n + 2) : val zs = val (zs.take n) + pw n * (zs.getD (n + 1) 0 * 4294967296 + zs.getD n 0) := by
  rw [val_top (n := n + 1) hl, val_top (zs := zs.take (n + 1)) (n := n) (by rw [List.length_take]; omega), List.take_take, Nat.min_eq_left (by omega)]
  have e : (zs.take (n + 1)).getD n 0 = zs.getD n 0 := by
    rw [List.getD_eq_getElem?_getD, List.getD_eq_getElem?_getD, List.getElem?_take, if_pos (by omega)]
  rw [e, pw, Int.mul_add, Int.mul_comm (zs.getD (n + 1) 0) 4294967296, ← Int.mul_assoc, Int.mul_comm (pw n) 4294967296]
  omega

/-- Three upper limbs. -/
theorem val_top3 {zs : List Int} {n : Nat} (hl : zs.length = n + 3) : val zs = val (zs.take n) + pw n * ((zs.getD (n + 2) 0 * 4294967296 + zs.getD (n + 1) 0) * 4294967296 + zs.getD n 0) := by
  rw [val_top (n := n + 2) hl, val_top2 (zs := zs.take (n + 2)) (n := n) (by rw [List.length_take]; omega), List.take_take, Nat.min_eq_left (by omega)]
  have e : ∀ i, i < n + 2 → (zs.take (n + 2)).getD i 0 = zs.getD i 0 := by
    intro i hi
    rw [List.getD_eq_getElem?_getD, List.getD_eq_getElem?_getD, List.getElem?_take, if_pos hi]
  rw [e (n + 1) (by omega), e n (by omega)]
  have e2 : pw (n + 2) = pw n * (4294967296 * 4294967296) := by
    simp only [pw]
    rw [Int.mul_comm (pw n), Int.mul_assoc]
  have e3 : pw n * ((zs.getD (n + 2) 0 * 4294967296 + zs.getD (n + 1) 0) * 4294967296 + zs.getD n 0) = pw n * (4294967296 * 4294967296) * zs.getD (n + 2) 0 + pw n * (zs.getD (n + 1) 0 * 4294967296 + zs.getD n 0) := by
    rw [Int.mul_assoc, ← Int.mul_add]
    congr 1
    omega
  rw [e2, e3]
  omega

theorem top_le {W Y : List Int} {n : Nat} (hW : Limb W) (hY : Limb Y) (h1 : W.length = n + 1) (h2 : Y.length = n + 1) (h : val W < val Y) : W.getD n 0 ≤ Y.getD n 0 := by
  apply Classical.byContradiction
  intro hn
  rw [val_top h1, val_top h2] at h
  have b1 := val_bounds (limb_take hW n)
  have b2 := val_bounds (limb_take hY n)
  rw [List.length_take, Nat.min_eq_left (by omega)] at b1 b2
  have hp := pw_pos n
  have e : pw n * (Y.getD n 0 + 1) ≤ pw n * W.getD n 0 := Int.mul_le_mul_of_nonneg_left (by omega) (by omega)
  rw [Int.mul_add] at e
  omega

/-- The guess is the limb of the quotient, or one more. -/
theorem guess_near {ps Y : List Int} {n : Nat} {g P U : Int} (hp : Limb ps) (hy : Limb Y) (h1 : ps.length = n + 3) (h2 : Y.length = n + 2) (hP : val ps = P) (hU : val Y = U) (htop : 1 ≤ Y.getD (n + 1) 0) (hlt : P < 4294967296 * U) (hg : 0 ≤ g ∧ g < 4294967296)
    (hA : g * (Y.getD (n + 1) 0 * 4294967296 + Y.getD n 0) ≤ (ps.getD (n + 2) 0 * 4294967296 + ps.getD (n + 1) 0) * 4294967296 + ps.getD n 0)
    (hB : 4294967296 ≤ g + 1 ∨ (ps.getD (n + 2) 0 * 4294967296 + ps.getD (n + 1) 0) * 4294967296 + ps.getD n 0 < (g + 1) * (Y.getD (n + 1) 0 * 4294967296 + Y.getD n 0)) :
    P < (g + 1) * U ∧ (g - 1) * U ≤ P := by
  have eP := val_top3 h1
  have eU := val_top2 h2
  have bP := val_bounds (limb_take hp n)
  have bU := val_bounds (limb_take hy n)
  rw [List.length_take, Nat.min_eq_left (by omega)] at bP bU
  rw [hP] at eP
  rw [hU] at eU
  have hv2 := (limb_getD hy n).1
  generalize (ps.getD (n + 2) 0 * 4294967296 + ps.getD (n + 1) 0) * 4294967296 + ps.getD n 0 = P3 at *
  have hU2 : 4294967296 ≤ Y.getD (n + 1) 0 * 4294967296 + Y.getD n 0 := by omega
  generalize Y.getD (n + 1) 0 * 4294967296 + Y.getD n 0 = U2 at *
  generalize val (ps.take n) = Pl at *
  generalize val (Y.take n) = Ul at *
  have hp1 := pw_pos n
  have hUp : 4294967296 * pw n ≤ pw n * U2 := by
    have : pw n * 4294967296 ≤ pw n * U2 := Int.mul_le_mul_of_nonneg_left hU2 (by omega)
    omega
  constructor
  · rcases hB with hB | hB
    · have : 4294967296 * U ≤ (g + 1) * U := Int.mul_le_mul_of_nonneg_right (by omega) (by omega)
      omega
    · have e1 : pw n * (P3 + 1) ≤ pw n * ((g + 1) * U2) := Int.mul_le_mul_of_nonneg_left (by omega) (by omega)
      have e2 : (g + 1) * U = (g + 1) * Ul + pw n * ((g + 1) * U2) := by
        rw [eU, Int.mul_add, ← Int.mul_assoc (g + 1) (pw n), Int.mul_comm (g + 1) (pw n), Int.mul_assoc]
      have e3 : 0 ≤ (g + 1) * Ul := Int.mul_nonneg (by omega) bU.1
      rw [Int.mul_add] at e1
      omega
  · have e1 : pw n * (g * U2) ≤ pw n * P3 := Int.mul_le_mul_of_nonneg_left hA (by omega)
    have e2 : g * U = g * Ul + pw n * (g * U2) := by
      rw [eU, Int.mul_add, ← Int.mul_assoc g (pw n), Int.mul_comm g (pw n), Int.mul_assoc]
    have e3 : g * Ul ≤ 4294967295 * Ul := Int.mul_le_mul_of_nonneg_right (by omega) bU.1
    rw [Int.sub_mul]
    omega

/-- What is left is below the divisor, whether or not it was taken back. -/
theorem rest_near {P U g A b p A2 c : Int} (_hU : 0 < U) (_hp : U < p) (hlow : P < (g + 1) * U) (hhigh : (g - 1) * U ≤ P) (hA : 0 ≤ A ∧ A < p) (_hb : 0 ≤ b ∧ b ≤ 1) (h : A - p * b = P - g * U) :
    (b = 0 → 0 ≤ A ∧ A < U ∧ P = g * U + A) ∧ (b = 1 → 0 ≤ A2 ∧ A2 < p → 0 ≤ c ∧ c ≤ 1 → A2 + p * c = A + U → 0 ≤ A2 ∧ A2 < U ∧ P = (g - 1) * U + A2) := by
  rw [Int.add_mul] at hlow
  rw [Int.sub_mul] at hhigh ⊢
  constructor
  · intro hb0
    rw [hb0, Int.mul_zero] at h
    omega
  · intro hb1 hA2 hc hs
    rw [hb1, Int.mul_one] at h
    have hc01 : c = 0 ∨ c = 1 := by omega
    rcases hc01 with hc0 | hc0
    · rw [hc0, Int.mul_zero] at hs; omega
    · rw [hc0, Int.mul_one] at hs; omega

/-- The window's value is below the base times the divisor. -/
theorem part_lt {W : List Int} {x U : Int} (hx : x < 4294967296) (h : val W < U) : val (x :: W) < 4294967296 * U := by
  rw [val]
  omega

/-- One round of the long division keeps the whole. -/
theorem long_step {lo W W' Q : List Int} {x q U T : Int} (hinv : val (lo ++ [x]) + pw (lo.length + 1) * val W + U * (pw (lo.length + 1) * val Q) = T) (hp : val (x :: W) = q * U + val W') :
    val lo + pw lo.length * val W' + U * (pw lo.length * val (q :: Q)) = T := by
  rw [val_append] at hinv
  have e1 : val [x] = x := by simp [val]
  rw [e1] at hinv
  rw [val] at hp ⊢
  rw [pw] at hinv
  generalize pw lo.length = p at *
  have e2 : p * (x + 4294967296 * val W) = p * (q * U + val W') := by rw [hp]
  have e3 : 4294967296 * p * val W = p * (4294967296 * val W) := by rw [Int.mul_comm 4294967296 p, Int.mul_assoc]
  have e4 : U * (p * (q + 4294967296 * val Q)) = p * (q * U) + U * (4294967296 * p * val Q) := by
    rw [Int.mul_add, Int.mul_add, Int.mul_comm 4294967296 p, Int.mul_assoc p 4294967296, ← Int.mul_assoc U p q, Int.mul_comm U p, Int.mul_assoc p U q, Int.mul_comm U q]
  rw [Int.mul_add, Int.mul_add] at e2
  omega

/-- What is below a power has a nought on top. -/
theorem top_zero {W : List Int} {n : Nat} (hW : Limb W) (hl : W.length = n + 1) (h : val W < pw n) : val (W.take n) = val W ∧ W.getD n 0 = 0 := by
  have e := val_top hl
  have b := val_bounds (limb_take hW n)
  have h0 := (limb_getD hW n).1
  have hp := pw_pos n
  have hz : W.getD n 0 = 0 := by
    apply Classical.byContradiction
    intro hn
    have : pw n * 1 ≤ pw n * W.getD n 0 := Int.mul_le_mul_of_nonneg_left (by omega) (by omega)
    omega
  rw [hz, Int.mul_zero] at e
  exact ⟨by omega, hz⟩

end Lm
end Go.Proofs.Ythbomfboohjcfaa
