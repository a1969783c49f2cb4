/-
  The contract of the reference's Bits.
-/
import Derived.Test.YtfokkkcegkbomaaDTrim
namespace Go.Proofs.Ytfokkkcegkbomaa
namespace Dm
open Go.RowKit
open Lm (hide p2 IsBits bits_top isBits_zero)

theorem half_bits {z u : Int} {j : Nat} (h : p2 j * u ≤ z ∧ z < p2 j * (u + 1)) : p2 (j + 1) * (u / 2) ≤ z ∧ z < p2 (j + 1) * (u / 2 + 1) := by
  simp only [p2]
  have hp := Lm.p2_pos j
  have e : u = 2 * (u / 2) + u % 2 := by omega
  have hu : u % 2 = 0 ∨ u % 2 = 1 := by omega
  generalize u / 2 = q at *
  have e1 : 2 * p2 j * q = p2 j * (2 * q) := by rw [Int.mul_comm 2, Int.mul_assoc]
  have e2 : 2 * p2 j * (q + 1) = p2 j * (2 * q + 2) := by rw [Int.mul_comm 2, Int.mul_assoc, Int.mul_add 2]; rfl
  rw [e1, e2]
  rcases hu with hu | hu
  · rw [hu] at e
    have eu : u = 2 * q := by omega
    rw [eu] at h
    refine ⟨h.1, ?_⟩
    have : p2 j * (2 * q + 1) ≤ p2 j * (2 * q + 2) := Int.mul_le_mul_of_nonneg_left (by omega) (by omega)
    omega
  · rw [hu] at e
    have eu : u = 2 * q + 1 := by omega
    rw [eu] at h
    refine ⟨?_, by rw [show 2 * q + 2 = 2 * q + 1 + 1 by omega]; exact h.2⟩
    have : p2 j * (2 * q) ≤ p2 j * (2 * q + 1) := Int.mul_le_mul_of_nonneg_left (by omega) (by omega)
    omega

theorem end_bits {z : Int} {j : Nat} (hz : 0 < z) (h : z < p2 j) (hl : ∀ i, j = i + 1 → p2 i ≤ z) : IsBits z j := by
  refine ⟨h, ?_⟩
  cases j with
  | zero => simp [p2] at h; omega
  | succ j => exact .inr (hl j rfl)

theorem ret_nat {a : Int} {k : Nat} (h : a = (k : Int)) : Ending.returned (.int .i64 a) = .returned (.int .i64 (k : Int)) := by rw [h]

set_option maxHeartbeats 1000000 in
theorem rbits_any (w : World) (ao : Option Addr) (n cap : Nat) (xs : List Int) (hx : Lm.Sl w (.slice ao n cap) xs) (hl : xs.length ≤ 300000) :
    Calls Try.prog 18 #[.slice ao n cap] w fun e w' => ∃ k : Nat, e = .returned (.int .i64 k) ∧ IsBits (Lm.val xs) k ∧ Below w.heap.size w w' := by
  go_enter Try.func18, Try.ntmps18
  go_wp2_with fail
  refine (rtrim_g w ao n cap xs hx hl).mono ?_
  rintro e w1 ⟨p1, q1, rs, rfl, hg, hrl, hb1⟩
  obtain ⟨_, g1, g2, _⟩ := hg.sl.parts
  by_cases h0 : rs.length = 0
  · have e0 : rs = [] := List.eq_nil_of_length_eq_zero h0
    have HB : Hid (IsBits (Lm.val xs) 0) := by rw [← hg.val, e0]; exact ⟨by decide, .inl rfl⟩
    have h0' : (((rs.length : Nat) : Int) == 0) = true := by simp [e0]
    clear hg e0 h0
    go_wp2
    go_ret
    exact ⟨0, rfl, HB.out, hb1⟩
  · obtain ⟨b, off, rfl, hc⟩ := hg.sl.cells (by omega)
    have hcell := hc (rs.length - 1) (by omega)
    have hbz := Lm.limb_getD hg.canon.1 (rs.length - 1)
    have hpos : 0 < rs.getD (rs.length - 1) 0 := by
      have : rs.getD (rs.length - 1) 0 ≠ 0 := fun e0 => by
        have := Lm.tl_le_of_zero (zs := rs) (n := rs.length - 1) (by have := Lm.tl_le rs; omega) e0
        have := hg.canon.2
        omega
      omega
    have HB : Hid (∀ l, IsBits (rs.getD (rs.length - 1) 0) l → IsBits (Lm.val xs) (32 * (rs.length - 1) + l)) := by
      intro l hl2
      rw [← hg.val]
      exact bits_top hg.canon (by omega) hl2 hpos
    have hne : (((rs.length : Nat) : Int) == 0) = false := beq_eq_false_iff_ne.2 (by omega)
    have hm1 : 1 ≤ rs.length := by omega
    generalize rs.getD (rs.length - 1) 0 = z at hcell hbz hpos HB
    clear hg hc h0
    go_wp2
    go_loop [4, 5] (fun kv v => ∃ (j : Nat) (u : Int), j ≤ 32 ∧ kv = .int .i64 (32 * ((rs.length : Int) - 1) + j) ∧ v = .int .u32 u ∧ 0 ≤ u ∧ u < 4294967296 ∧ (p2 j * u ≤ z ∧ z < p2 j * (u + 1)) ∧ (∀ i, j = i + 1 → p2 i ≤ z)) (fun _ v => (intOf v).toNat)
    case atStart => exact ⟨0, z, by omega, by simp, rfl, hbz.1, hbz.2, by simp [p2]; omega, fun i hi => by omega⟩
    case round =>
      obtain ⟨j, u, hj, rfl, rfl, hu0, hu1, hp, hlow⟩ := hrel
      have HP := hide hp
      have HLow := hide hlow
      clear hp hlow
      by_cases hu : 0 < u
      · have hz2 : p2 j ≤ z := by
          have h7 : p2 j * 1 ≤ p2 j * u := Int.mul_le_mul_of_nonneg_left (by omega) (by have := Lm.p2_pos j; omega)
          have := HP.out.1
          omega
        have hj32 : j < 32 := by
          apply Classical.byContradiction
          intro hn
          have h8 := Lm.p2_mono (m := 32) (n := j) (by omega)
          rw [show p2 32 = 4294967296 from by decide] at h8
          omega
        have HP' := hide (half_bits HP.out)
        have HLo : Hid (∀ i, j + 1 = i + 1 → p2 i ≤ z) := by
          intro i hi
          have hij : i = j := by omega
          rw [hij]; exact hz2
        clear hz2
        go_wp2
        go_round
        case rel => exact ⟨j + 1, u / 2, by omega, by go_num, rfl, by omega, by omega, HP'.out, HLo.out⟩
        case measure => simp [intOf]; omega
      · have hu2 : u = 0 := by omega
        have HF : Hid (IsBits (Lm.val xs) (32 * (rs.length - 1) + j)) := by
          refine HB.out j (end_bits hpos ?_ HLow.out)
          have := HP.out.2
          rw [hu2] at this
          simpa using this
        clear hu2
        go_wp2
        go_ret
        exact ⟨_, ret_nat (by omega), HF.out, hb1⟩

end Dm
end Go.Proofs.Ytfokkkcegkbomaa
