/-
  LimbsShifts answers true, whatever list of limbs and number it is handed.
-/
import Derived.Test.YthbomfboohjcfacShift
namespace Go.Proofs.Ythbomfboohjcfac
namespace Lm
open Go.RowKit

theorem and_mask (k : Int) : 0 ≤ bits .and .i64 k 4611686018427387903 ∧ bits .and .i64 k 4611686018427387903 ≤ 4611686018427387903 := by
  have e : bits .and .i64 k 4611686018427387903 = IntKind.i64.wrap ((BitVec.ofInt 64 k &&& BitVec.ofInt 64 4611686018427387903).toNat : Int) := rfl
  have h1 : (BitVec.ofInt 64 k &&& BitVec.ofInt 64 4611686018427387903).toNat ≤ 4611686018427387903 := by
    rw [BitVec.toNat_and]
    exact Nat.le_trans Nat.and_le_right (by decide)
  generalize (BitVec.ofInt 64 k &&& BitVec.ofInt 64 4611686018427387903).toNat = x at e h1
  have e2 : IntKind.i64.wrap (x : Int) = x := by
    simp [IntKind.wrap, IntKind.bits, IntKind.signed]
    omega
  rw [e, e2]
  omega

theorem isBits_p2 (k : Nat) : IsBits (p2 k) (k + 1) := by
  have := p2_pos k
  exact ⟨by simp only [p2]; omega, .inr (by simp)⟩

theorem one_val : val [1] = 1 := by simp [val]

set_option maxRecDepth 20000 in
set_option maxHeartbeats 400000 in
theorem shifts_long (w : World) (a0 : Option Addr) (n0 c0 : Nat) (k : Int) (h : 1500 < (n0 : Int)) (_b0 : n0 ≤ 35184372088832) :
    Calls Try.prog 3 #[.slice a0 n0 c0, .int .i64 k] w fun e w' => e = .returned (.bool true) ∧ Below w.heap.size w w' := by
  go_enter Try.func3, Try.ntmps3
  go_wp2_with fail
  refine (awake_any _).mono ?_
  rintro e w1 ⟨rfl, hb⟩
  go_wp2
  go_ret
  exact ⟨rfl, hb⟩

theorem left_g (w : World) (ao : Option Addr) (n cap : Nat) (xs : List Int) (hx : Sl w (.slice ao n cap) xs) (hm : xs.length ≤ 500000) (k : Nat) (hk : k ≤ 4096) :
    Calls Try.prog 10 #[.slice ao n cap, .int .i64 k] w fun e w' => ∃ ao cap rs, e = .returned (.tuple #[.slice ao rs.length cap, .int .i64 0]) ∧ Got w' ao cap rs (val xs * p2 k) ∧ rs.length ≤ xs.length + 129 ∧ Below w.heap.size w w' := by
  refine (left_any w ao n cap xs hx hm k hk).mono ?_
  rintro e w' ⟨v, rfl, hi, hb⟩
  obtain ⟨ao, cap, rs, rfl, hg⟩ := hi.got
  refine ⟨ao, cap, rs, rfl, hg, canon_len hg.canon ?_, hb⟩
  rw [hg.val, pw_add]
  have h1 := val_bounds hx.parts.2.2.2
  have h2 := p2_mono (m := k) (n := 32 * 129) (by omega)
  rw [← pw_p2] at h2
  have h3 := p2_pos k
  have h4 : val xs * p2 k ≤ val xs * pw 129 := Int.mul_le_mul_of_nonneg_left h2 h1.1
  have h5 : val xs * pw 129 < pw xs.length * pw 129 := Int.mul_lt_mul_of_pos_right h1.2 (by have := pw_pos 129; omega)
  omega

theorem right_g (w : World) (ao : Option Addr) (n cap : Nat) (xs : List Int) (hx : Sl w (.slice ao n cap) xs) (hm : xs.length ≤ 500000) (k : Nat) (hk : k ≤ 9223372036854775807) :
    Calls Try.prog 11 #[.slice ao n cap, .int .i64 k] w fun e w' => ∃ ao cap rs, e = .returned (.tuple #[.slice ao rs.length cap, .int .i64 0]) ∧ Got w' ao cap rs (val xs / p2 k) ∧ rs.length ≤ xs.length ∧ Below w.heap.size w w' := by
  refine (right_any w ao n cap xs hx hm k hk).mono ?_
  rintro e w' ⟨v, rfl, hi, hb⟩
  obtain ⟨ao, cap, rs, rfl, hg⟩ := hi.got
  refine ⟨ao, cap, rs, rfl, hg, le_len hx.parts.2.2.2 hg.canon ?_, hb⟩
  rw [hg.val]
  exact Int.ediv_le_self _ (val_bounds hx.parts.2.2.2).1

set_option maxRecDepth 20000 in
set_option maxHeartbeats 1000000 in
theorem shifts_short (w : World) (a0 : Option Addr) (n0 c0 : Nat) (xs : List Int) (k : Int) (hx : Sl w (.slice a0 n0 c0) xs) (h : ¬ 1500 < (n0 : Int)) :
    Calls Try.prog 3 #[.slice a0 n0 c0, .int .i64 k] w fun e w' => e = .returned (.bool true) ∧ Below w.heap.size w w' := by
  obtain ⟨rfl, _, _, lx⟩ := hx.parts
  have hmk := and_mask k
  obtain ⟨K, eK, hK⟩ : ∃ K : Nat, (bits .and .i64 k 4611686018427387903).tmod 4097 = (K : Int) ∧ K ≤ 4096 := by
    generalize bits .and .i64 k 4611686018427387903 = M at hmk
    refine ⟨(M % 4097).toNat, ?_, ?_⟩
    · rw [Int.tmod_eq_emod_of_nonneg hmk.1]; omega
    · omega
  have HB := Below.refl w.heap.size w
  have hp := hide (p2_pos K)
  clear lx hmk
  go_enter Try.func3, Try.ntmps3
  go_wp2_with fail
  refine (awake_any _).mono ?_
  rintro e w1 ⟨rfl, hb1⟩
  replace HB := HB.trans (hb1.mono HB.size)
  replace hx := hx.below hb1
  go_wp2_with fail
  have s1 := sl_one w1 1 (limb_lits (by decide))
  have hb1' : Below w1.heap.size w1 (w1.alloc (.cells #[.int .u32 1] 27)) := (Below.refl _ _).alloc (Nat.le_refl _) _
  replace HB := HB.trans (hb1'.mono HB.size)
  replace hx := hx.below hb1'
  go_wp2_with fail
  refine (left_g _ _ _ _ [1] s1 (by simp) K hK).mono ?_
  rintro e w2 ⟨p2, q2, r2, rfl, G2, l2, hb2⟩
  replace HB := HB.trans (hb2.mono HB.size)
  replace hx := hx.below hb2
  clear s1 hb1'
  go_wp2_with fail
  refine (left_g _ _ _ _ xs hx (by omega) K hK).mono ?_
  rintro e w3 ⟨p3, q3, r3, rfl, G3, l3, hb3⟩
  replace HB := HB.trans (hb3.mono HB.size)
  replace hx := hx.below hb3
  replace G2 := G2.below hb3
  go_wp2_with fail
  refine (right_g _ _ _ _ r3 G3.sl (by omega) K (by omega)).mono ?_
  rintro e w4 ⟨p4, q4, r4, rfl, G4, l4, hb4⟩
  replace HB := HB.trans (hb4.mono HB.size)
  replace hx := hx.below hb4
  replace G2 := G2.below hb4
  replace G3 := G3.below hb4
  go_wp2_with fail
  refine (right_g _ _ _ _ xs hx (by omega) K (by omega)).mono ?_
  rintro e w5 ⟨p5, q5, r5, rfl, G5, l5, hb5⟩
  replace HB := HB.trans (hb5.mono HB.size)
  replace hx := hx.below hb5
  replace G2 := G2.below hb5
  replace G3 := G3.below hb5
  replace G4 := G4.below hb5
  have V2 : Hid (val r2 = Lm.p2 K) := by show _ = _; rw [G2.val]; simp [val]
  go_wp2_with fail
  refine (divmod_g _ _ _ _ _ _ _ xs r2 hx G2.sl (by omega) (by rw [V2.out]; have := hp.out; omega)).mono ?_
  rintro e w6 ⟨p6, q6, r6, p7, q7, r7, rfl, G6, G7, l6, l7, hb6⟩
  replace HB := HB.trans (hb6.mono HB.size)
  replace hx := hx.below hb6
  replace G2 := G2.below hb6
  replace G3 := G3.below hb6
  replace G4 := G4.below hb6
  replace G5 := G5.below hb6
  go_wp2_with fail
  refine (mul_g _ _ _ _ _ _ _ xs r2 hx G2.sl (by omega) (by simp at l2; omega)).mono ?_
  rintro e w8 ⟨p8, q8, r8, rfl, G8, l8, hb8⟩
  replace HB := HB.trans (hb8.mono HB.size)
  replace hx := hx.below hb8
  replace G2 := G2.below hb8
  replace G3 := G3.below hb8
  replace G4 := G4.below hb8
  replace G5 := G5.below hb8
  replace G6 := G6.below hb8
  go_wp2_with fail
  refine (same_g _ _ _ _ _ r3 r8 _ _ G3 G8 (by rw [V2.out])).mono ?_
  rintro e w9 ⟨rfl, hb9⟩
  replace HB := HB.trans (hb9.mono HB.size)
  replace hx := hx.below hb9
  replace G2 := G2.below hb9
  replace G4 := G4.below hb9
  replace G5 := G5.below hb9
  replace G6 := G6.below hb9
  go_wp2_with fail
  refine (trim_g _ _ _ _ xs hx (by omega)).mono ?_
  rintro e w10 ⟨p10, q10, r10, rfl, G10, l10, hb10⟩
  replace HB := HB.trans (hb10.mono HB.size)
  replace G2 := G2.below hb10
  replace G4 := G4.below hb10
  replace G5 := G5.below hb10
  replace G6 := G6.below hb10
  go_wp2_with fail
  refine (same_g _ _ _ _ _ r4 r10 _ _ G4 G10 (by rw [G3.val]; exact Int.mul_ediv_cancel _ (by have := hp.out; omega))).mono ?_
  rintro e w11 ⟨rfl, hb11⟩
  replace HB := HB.trans (hb11.mono HB.size)
  replace G2 := G2.below hb11
  replace G5 := G5.below hb11
  replace G6 := G6.below hb11
  go_wp2_with fail
  refine (same_g _ _ _ _ _ r5 r6 _ _ G5 G6 (by rw [V2.out])).mono ?_
  rintro e w12 ⟨rfl, hb12⟩
  replace HB := HB.trans (hb12.mono HB.size)
  replace G2 := G2.below hb12
  go_wp2_with fail
  refine (bits_any _ _ _ _ r2 G2.sl (by simp at l2; omega)).mono ?_
  rintro e w13 ⟨lb, rfl, t1, rfl⟩
  rw [V2.out] at t1
  have hlb := isBits_one t1 (isBits_p2 K)
  subst hlb
  clear t1
  go_wp2
  go_ret
  exact ⟨rfl, HB⟩

theorem shifts_law (w : World) (a0 : Option Addr) (n0 c0 : Nat) (xs : List Int) (k : Int)
    (hx : Sl w (.slice a0 n0 c0) xs) (b0 : n0 ≤ 35184372088832) (_hk : (Lit.int .i64 k).wf = true) :
    Calls Try.prog 3 #[.slice a0 n0 c0, .int .i64 k] w fun e w' => e = .returned (.bool true) ∧ Below w.heap.size w w' := by
  by_cases h : 1500 < (n0 : Int)
  · exact shifts_long w a0 n0 c0 k h b0
  · exact shifts_short w a0 n0 c0 xs k hx h

end Lm
end Go.Proofs.Ythbomfboohjcfac
