/-
  The statements' awake answers true. The contract of window. The contract of combine. Plain facts on Lehmer's steps: what the upper bits tell of two numbers. No program is named here.
-/
import Derived.Test.YtkdcgnooeojjgacWG
import Derived.Test.YtkdcgnooeojjgacRLwLawM42
import Derived.Deep.QuietTactic
import Derived.BigQuiet
namespace Go.Proofs.Ytkdcgnooeojjgac
namespace Lm
open Go.RowKit

theorem divmod_z (w : World) (nx : Bool) (a1 : Option Addr) (n1 c1 : Nat) (xs : List Int) (x : Int) (hx : Ag w nx a1 n1 c1 xs x) (ny : Bool) (a2 : Option Addr) (n2 c2 : Nat) (ys : List Int) (y : Int) (hy : Ag w ny a2 n2 c2 ys y) (hm1 : xs.length ≤ 400000) (hm2 : ys.length ≤ 400000) (h0 : y ≠ 0) :
    Calls Try.prog 61 #[.agg #[.bool nx, .slice a1 n1 c1], .agg #[.bool ny, .slice a2 n2 c2]] w fun e w' => ∃ nq aq cq qs nr ar cr rs, e = .returned (.tuple #[.agg #[.bool nq, .slice aq qs.length cq], .agg #[.bool nr, .slice ar rs.length cr], .bool true]) ∧ Wh w' nq aq cq qs (x / y) ∧ Wh w' nr ar cr rs (x % y) ∧ qs.length ≤ xs.length + 4 ∧ rs.length ≤ ys.length ∧ Below w.heap.size w w' := by
  have h := wdivmod_g w nx a1 n1 c1 xs hx.sl ny a2 n2 c2 ys hy.sl hm1 hm2 (fun e => h0 (by rw [← hy.worth, e]; cases ny <;> simp [sg]))
  rw [hx.worth, hy.worth] at h
  exact h

theorem dec12 : IsDec [49, 50] 12 := by
  refine ⟨?_, by decide, .inr ⟨49, _, rfl, by decide⟩⟩
  intro c hc
  simp at hc
  omega

theorem text12 (w : World) (ng : Bool) (ao : Option Addr) (cap : Nat) (rs : List Int) (h : Wh w ng ao cap rs (-12)) (hl : rs.length ≤ 2) :
    Calls Try.prog 49 #[.agg #[.bool ng, .slice ao rs.length cap]] w fun e w' => e = .returned (.string ⟨#[45, 49, 50]⟩) ∧ Below w.heap.size w w' := by
  refine (wtext_neg w ng ao _ cap rs h.sl (by omega) (by rw [h.worth]; decide)).mono ?_
  rintro e w' ⟨ds, rfl, hd, hb⟩
  have e2 := isDec_one hd (show IsDec [49, 50] (val rs) by rw [h.1.val]; exact dec12)
  subst e2
  exact ⟨rfl, hb⟩

end Lm
end Go.Proofs.Ytkdcgnooeojjgac

namespace Go.Proofs.Ytkdcgnooeojjgac
namespace Lm
open Go.RowKit

/-- Two limbs are what is left of the list's value above them, but for what lies higher. -/
theorem two_limbs {zs : List Int} (hz : Limb zs) (i : Nat) : ∃ t : Int, val zs / pw i = (zs.getD (i + 1) 0 * 4294967296 + zs.getD i 0) + 18446744073709551616 * t := by
  have h0 : val zs / pw i = val (zs.drop i) := by
    by_cases hi : i ≤ zs.length
    · have e := val_append (zs.take i) (zs.drop i)
      rw [List.take_append_drop, List.length_take, Nat.min_eq_left hi] at e
      have b := val_bounds (limb_take hz i)
      rw [List.length_take, Nat.min_eq_left hi] at b
      exact (div_of (a := val zs) (b := pw i) (by have := pw_pos i; omega) (by rw [e, Int.mul_comm]; omega) b.1 b.2).1
    · rw [List.drop_of_length_le (by omega)]
      have b := val_bounds hz
      have hm := pw_mono (m := zs.length) (n := i) (by omega)
      exact Int.ediv_eq_zero_of_lt b.1 (by omega)
  refine ⟨val (zs.drop (i + 2)), ?_⟩
  rw [h0]
  by_cases h1 : i < zs.length
  · rw [drop_getD zs i h1, val]
    by_cases h2 : i + 1 < zs.length
    · rw [drop_getD zs (i + 1) h2, val, show i + 2 = i + 1 + 1 from rfl]
      omega
    · have e1 : zs.drop (i + 1) = [] := List.drop_of_length_le (by omega)
      have e2 : zs.drop (i + 2) = [] := List.drop_of_length_le (by omega)
      have e3 : zs.getD (i + 1) 0 = 0 := by rw [List.getD_eq_getElem?_getD, List.getElem?_eq_none (by omega)]; rfl
      rw [e1, e2, e3]
      simp [val]
  · have e1 : zs.drop i = [] := List.drop_of_length_le (by omega)
    have e2 : zs.drop (i + 2) = [] := List.drop_of_length_le (by omega)
    have e3 : zs.getD (i + 1) 0 = 0 := by rw [List.getD_eq_getElem?_getD, List.getElem?_eq_none (by omega)]; rfl
    have e4 : zs.getD i 0 = 0 := by rw [List.getD_eq_getElem?_getD, List.getElem?_eq_none (by omega)]; rfl
    rw [e1, e2, e3, e4]
    simp [val]

theorem mask30 {x : Int} (h0 : 0 ≤ x) (h1 : x < 4294967296) : bits .and .u32 x 1073741823 = x % 1073741824 := by
  rw [u32_and _ _ h0 h1 (by omega) (by omega)]
  have : (1073741823 : Int).toNat = 2 ^ 30 - 1 := by decide
  rw [this, Nat.and_two_pow_sub_one_eq_mod]
  omega

/-- The bits from 32 i + s on, of which 30 are wanted. -/
theorem window_val {V r t : Int} {s : Nat} (hs : s ≤ 31) (hV : V = r + 18446744073709551616 * t) : r / p2 s % 4294967296 % 1073741824 = V / p2 s % 1073741824 := by
  have hp := p2_pos s
  have e1 : (18446744073709551616 : Int) = p2 s * (1073741824 * p2 (34 - s)) := by
    have h9 : p2 s * (p2 30 * p2 (34 - s)) = p2 64 := by rw [← p2_add, ← p2_add, show s + (30 + (34 - s)) = 64 by omega]
    rw [show p2 30 = 1073741824 from by decide, show p2 64 = 18446744073709551616 from by decide] at h9
    exact h9.symm
  have e2 : V / p2 s = r / p2 s + 1073741824 * (p2 (34 - s) * t) := by
    rw [hV, e1, Int.mul_assoc, Int.add_mul_ediv_left _ _ (by omega), Int.mul_assoc]
  rw [e2, Int.add_mul_emod_self_left]
  omega

set_option maxRecDepth 20000 in
set_option maxHeartbeats 400000 in
theorem window_any (w : World) (ao : Option Addr) (n cap : Nat) (zs : List Int) (h : Sl w (.slice ao n cap) zs) (low : Nat) (hlow : low ≤ 100000000) :
    Calls Try.prog 55 #[.slice ao n cap, .int .i64 low] w fun e w' => e = .returned (.int .u32 (val zs / p2 low % 1073741824)) ∧ w' = w := by
  obtain ⟨rfl, x1, x2, x3⟩ := h.parts
  obtain ⟨i, hi⟩ : ∃ i, i = low / 32 := ⟨_, rfl⟩
  obtain ⟨s, hs⟩ : ∃ s, s = low % 32 := ⟨_, rfl⟩
  have e1 : (low : Int) / 32 = (i : Nat) := by omega
  have e2 : (low : Int) % 32 = (s : Nat) := by omega
  have hs31 : s ≤ 31 := by omega
  have hib : i ≤ 100000000 := by omega
  have HPL : Hid (p2 low = pw i * p2 s) := by
    show _ = _
    rw [pw_p2, ← p2_add]
    congr 1
    omega
  have bA := limb_getD x3 i
  have bC := limb_getD x3 (i + 1)
  obtain ⟨t, ht⟩ := two_limbs x3 i
  have k1 : Hid (∀ w' : World, Sl w' (.slice ao zs.length cap) zs → Calls Try.prog 59 #[.slice ao zs.length cap, .int .i64 ((i : Int) + 1)] w' fun e w'' => e = .returned (.int .u32 (zs.getD (i + 1) 0)) ∧ w'' = w') := by
    intro w' h'
    have h9 := limb_any w' _ zs h' ((i : Int) + 1) (by omega)
    rwa [show ((i : Int) + 1).toNat = i + 1 by omega] at h9
  have k2 : Hid (∀ w' : World, Sl w' (.slice ao zs.length cap) zs → Calls Try.prog 59 #[.slice ao zs.length cap, .int .i64 (i : Int)] w' fun e w'' => e = .returned (.int .u32 (zs.getD i 0)) ∧ w'' = w') := fun w' h' => limb_nat w' _ zs h' i
  have HT := hide ht
  generalize zs.getD (i + 1) 0 = C at bC k1 HT
  generalize zs.getD i 0 = A at bA k2 HT
  have hor := or_join C A bC.1 bC.2 bA.1 bA.2
  obtain ⟨M, hM⟩ : ∃ M, M = C * 4294967296 + A := ⟨_, rfl⟩
  rw [← hM] at hor HT
  have hM0 : 0 ≤ M := by omega
  have hM1 : M < 18446744073709551616 := by omega
  have hpw := p2_pow s
  have hp1 := p2_pos s
  have hd0 : 0 ≤ M / p2 s := Int.ediv_nonneg hM0 (by omega)
  have hmk : bits .and .u32 (M / p2 s % 4294967296) 1073741823 = M / p2 s % 4294967296 % 1073741824 := mask30 (by omega) (by omega)
  have HV : Hid (M / p2 s % 1073741824 = val zs / p2 low % 1073741824) := by
    have h9 := window_val hs31 HT.out
    rw [Int.ediv_ediv_of_nonneg (by have := pw_pos i; omega), ← HPL.out] at h9
    show _ = _
    omega
  clear x3 ht hM hi hs
  go_enter Try.func55, Try.ntmps55
  go_wp2_with fail
  refine (k1.out _ h).mono ?_
  rintro e w1 ⟨rfl, rfl⟩
  go_wp2_with fail
  refine (k2.out _ h).mono ?_
  rintro e w1 ⟨rfl, rfl⟩
  go_wp2
  go_ret
  exact ⟨by rw [← HV.out]; rfl, rfl⟩

end Lm
end Go.Proofs.Ytkdcgnooeojjgac

namespace Go.Proofs.Ytkdcgnooeojjgac
namespace Lm
open Go.RowKit

theorem com_val {xs ys os : List Int} {k : Nat} {p q x y c s : Int} (hk : os.length = k) (hx : xs.getD k 0 = x) (hy : ys.getD k 0 = y) (hs : s = p * x + q * y + c) (h : val os + pw k * c = p * vf xs k + q * vf ys k) :
    val (os ++ [s % 4294967296]) + pw (k + 1) * (s / 4294967296) = p * vf xs (k + 1) + q * vf ys (k + 1) := by
  rw [val_snoc, vf, vf, hx, hy, hk, pw]
  have e : s = s % 4294967296 + 4294967296 * (s / 4294967296) := by omega
  have e2 : pw k * (s % 4294967296) + 4294967296 * pw k * (s / 4294967296) = pw k * s := by
    rw [Int.mul_comm 4294967296 (pw k), Int.mul_assoc, ← Int.mul_add, ← e]
  have e3 : p * (pw k * x) = pw k * (p * x) := by rw [← Int.mul_assoc, Int.mul_comm p, Int.mul_assoc]
  have e4 : q * (pw k * y) = pw k * (q * y) := by rw [← Int.mul_assoc, Int.mul_comm q, Int.mul_assoc]
  rw [Int.add_assoc, e2, hs, Int.mul_add, Int.mul_add, Int.mul_add, Int.mul_add, e3, e4]
  omega

theorem com_bound {p x : Int} (hp : -1073741824 ≤ p ∧ p ≤ 1073741824) (hx : 0 ≤ x ∧ x < 4294967296) : -4611686018427387904 ≤ p * x ∧ p * x ≤ 4611686018427387904 := by
  have h1 : p * x ≤ 1073741824 * x := Int.mul_le_mul_of_nonneg_right hp.2 hx.1
  have h2 : -1073741824 * x ≤ p * x := Int.mul_le_mul_of_nonneg_right hp.1 hx.1
  omega

/-- Two factors of unlike signs. -/
theorem com_two {p q x y : Int} (hp : -1073741824 ≤ p ∧ p ≤ 1073741824) (hq : -1073741824 ≤ q ∧ q ≤ 1073741824) (hs : (0 ≤ p ∧ q ≤ 0) ∨ (p ≤ 0 ∧ 0 ≤ q)) (hx : 0 ≤ x ∧ x < 4294967296) (hy : 0 ≤ y ∧ y < 4294967296) : -4611686018427387904 ≤ p * x + q * y ∧ p * x + q * y ≤ 4611686018427387904 := by
  have b1 := com_bound hp hx
  have b2 := com_bound hq hy
  rcases hs with ⟨h1, h2⟩ | ⟨h1, h2⟩
  · have p1 : 0 ≤ p * x := Int.mul_nonneg h1 hx.1
    have p2 : 0 ≤ (-q) * y := Int.mul_nonneg (by omega) hy.1
    rw [Int.neg_mul] at p2
    omega
  · have p1 : 0 ≤ (-p) * x := Int.mul_nonneg (by omega) hx.1
    have p2 : 0 ≤ q * y := Int.mul_nonneg h2 hy.1
    rw [Int.neg_mul] at p1
    omega

set_option maxRecDepth 20000 in
set_option maxHeartbeats 1000000 in
theorem combine_any (w : World) (a1 a2 : Option Addr) (n1 n2 c1 c2 : Nat) (xs ys : List Int) (hx : Sl w (.slice a1 n1 c1) xs) (hy : Sl w (.slice a2 n2 c2) ys) (hm : xs.length ≤ 1000000) (hl : ys.length ≤ xs.length) (p q : Int) (hp : -1073741824 ≤ p ∧ p ≤ 1073741824) (hq : -1073741824 ≤ q ∧ q ≤ 1073741824) (hs : (0 ≤ p ∧ q ≤ 0) ∨ (p ≤ 0 ∧ 0 ≤ q)) (h0 : 0 ≤ p * val xs + q * val ys) (h1 : p * val xs + q * val ys < pw xs.length) :
    Calls Try.prog 56 #[.int .i64 p, .slice a1 n1 c1, .int .i64 q, .slice a2 n2 c2] w fun e w' => ∃ v, e = .returned v ∧ Is w.heap.size w' v (p * val xs + q * val ys) ∧ Below w.heap.size w w' := by
  obtain ⟨rfl, x1, x2, x3⟩ := hx.parts
  obtain ⟨rfl, y1, y2, y3⟩ := hy.parts
  obtain ⟨i0, hi, hz0, hz1, hz2⟩ := info_parts info32
  have X3 := hide x3
  have Y3 := hide y3
  have H0 := hide h0
  have H1 := hide h1
  have HP := hide hp
  have HQ := hide hq
  have HS := hide hs
  clear x3 y3 h0 h1 hp hq hs
  go_enter Try.func56, Try.ntmps56
  go_wp2_with (refine wpList_make_full _ rfl (.tmp 14) (.tmp 14) 22 rfl w.heap.size 32 i0 (.int .u32 0) 1 Try.underlying22 hi hz0 hz1 .i64 .i64 _ _ xs.length rfl rfl (by omega) (by omega) (by rw [hz2]; omega) (by unfold maxLen; omega) (Nat.le_refl _) ?hK)
  case hK =>
    intro w1 hown hgrow
    obtain ⟨_, cur, hh, hcs, hat⟩ := block_of_made hown
    have hb1 : Below w.heap.size w w1 := (Below.refl w.heap.size w).grown hgrow (Nat.le_refl _) (by simp)
    have HH := hide hh
    have HC0 := hide hcs
    have HA := hide hat
    clear hown hgrow hh hcs hat
    go_wp2
    go_loopw [10, 18] (fun cv i wr => ∃ (k : Nat) (c : Int) (os : List Int) (cur' : Array Value), k ≤ xs.length ∧ cv = .int .i64 c ∧ i = .int .i64 k ∧ (-1073741826 ≤ c ∧ c ≤ 1073741826) ∧ os.length = k ∧ Limb os ∧ val os + pw k * c = p * vf xs k + q * vf ys k ∧ Wr w1 wr w.heap.size cur' 32 ∧ cur'.size = xs.length ∧ At cur' .u32 0 (os ++ (List.replicate xs.length 0).drop k)) (fun _ i _ => xs.length - (intOf i).toNat)
    case atStart => exact ⟨0, 0, [], cur, Nat.zero_le _, rfl, rfl, by omega, rfl, limb_nil, by simp [val, vf, pw], Wr.refl HH.out, HC0.out, by simpa using HA.out⟩
    case round =>
      obtain ⟨k, c, os, cur', hk, rfl, rfl, hc, hol, ho, hval, hwr, hcs, hat⟩ := hrel
      have HOL := hide hol
      have HO := hide ho
      have HV := hide hval
      have HW := hide hwr
      have HC := hide hcs
      have HT := hide hat
      clear hol ho hval hwr hcs hat
      by_cases hlt : k < xs.length
      · have sx := HW.out.sl (Nat.le_refl _) hb1 rfl hx
        have sy := HW.out.sl (Nat.le_refl _) hb1 rfl hy
        obtain ⟨b, off, rfl, hcx⟩ := sx.cells (by omega)
        have cx := hcx k (by omega)
        have bx := limb_getD X3.out k
        have by' := limb_getD Y3.out k
        obtain ⟨x, hxk⟩ : ∃ x, xs.getD k 0 = x := ⟨_, rfl⟩
        obtain ⟨y, hyk⟩ : ∃ y, ys.getD k 0 = y := ⟨_, rfl⟩
        have ky : Hid (∀ n, Calls Try.prog 59 #[.slice a2 ys.length c2, .int .i64 k] (wr.drewN n) fun e w' => e = .returned (.int .u32 y) ∧ w' = wr.drewN n) := by
          intro n; rw [← hyk]; exact limb_nat _ _ ys (sy.below (below_drewN (Below.refl _ _) n)) k
        rw [hxk] at cx bx
        rw [hyk] at by'
        have hpx := com_bound HP.out bx
        have hqy := com_bound HQ.out by'
        have htw := com_two HP.out HQ.out HS.out bx by'
        obtain ⟨P, hP⟩ : ∃ P, P = p * x := ⟨_, rfl⟩
        obtain ⟨R, hR⟩ : ∃ R, R = q * y := ⟨_, rfl⟩
        have HV' := hide (com_val (p := p) (q := q) HOL.out hxk hyk rfl HV.out)
        rw [← hP] at hpx htw HV'
        rw [← hR] at hqy htw HV'
        have ep : p * x = P := hP.symm
        have er : q * y = R := hR.symm
        have hlen : (os ++ (List.replicate xs.length (0 : Int)).drop k).length = xs.length := by have := HOL.out; simp; omega
        have hcell := HT.out.cell HW.out.here k (by rw [hlen]; omega)
        rw [Nat.zero_add] at hcell
        generalize (os ++ (List.replicate xs.length (0 : Int)).drop k).getD k 0 = old at hcell
        have hfree := HW.out.free k
        have HT' := hide (HT.out.set k ((P + R + c) % 4294967296))
        have HW' := hide (HW.out.set k (.int .u32 ((P + R + c) % 4294967296)))
        clear hlen sx sy hcx hxk hyk hP hR
        go_wp2
        go_quiet ((go_at_call 59; exact Calls.quiet_of_same (ky.out _)))
        go_wp2
        go_roundw
        case rel => exact ⟨k + 1, (P + R + c) / 4294967296, os ++ [(P + R + c) % 4294967296], _, by omega, rfl, by go_num, by omega, by have := HOL.out; simp; omega, limb_append.2 ⟨HO.out, limb_cons.2 ⟨by omega, limb_nil⟩⟩, HV'.out, HW'.out.drewN _, by simpa using HC.out, by rw [← set_snoc os _ k _ HOL.out (by simp; omega)]; simpa using HT'.out⟩
        case measure => simp [intOf]; omega
      · have hkn : k = xs.length := by omega
        subst hkn
        have hat2 := HT.out
        rw [List.drop_of_length_le (by simp), List.append_nil] at hat2
        have how : Ow w.heap.size wr (.slice (some ⟨w.heap.size, 0, none⟩) xs.length xs.length) os := by
          have := HOL.out
          exact ⟨_, xs.length, by rw [this], by omega, by unfold maxLen; omega, HO.out, .inr ⟨_, 0, _, rfl, Nat.le_refl _, HW.out.here, by rw [HC.out]; omega, hat2⟩⟩
        have hbel : Below w.heap.size w wr := hb1.trans (HW.out.below (Nat.le_refl _))
        have hfin : val os = p * val xs + q * val ys := by
          have hv := HV.out
          rw [vf_all xs _ (Nat.le_refl _), vf_all ys _ hl] at hv
          have hb := val_bounds HO.out
          rw [HOL.out] at hb
          have h0 := H0.out
          have h1 := H1.out
          have hp := pw_pos xs.length
          have hc0 : c = 0 := by
            rcases Int.lt_trichotomy c 0 with h | h | h
            · have : pw xs.length * c ≤ pw xs.length * (-1) := Int.mul_le_mul_of_nonneg_left (by omega) (by omega)
              omega
            · exact h
            · have : pw xs.length * 1 ≤ pw xs.length * c := Int.mul_le_mul_of_nonneg_left (by omega) (by omega)
              omega
          rw [hc0, Int.mul_zero, Int.add_zero] at hv
          exact hv
        have his := how.is_cut hfin
        clear hat2 hfin
        go_wp2_with fail
        refine (cut_any _ _ _ _ _ how.sl).mono ?_
        rintro e w2 ⟨rfl, rfl⟩
        go_wp2
        go_ret
        exact ⟨_, rfl, his, hbel⟩

end Lm
end Go.Proofs.Ytkdcgnooeojjgac

namespace Go.Proofs.Ytkdcgnooeojjgac
namespace Lm

/-- What stands ahead of a step: the factors' signs, and what they make of the upper bits and of the numbers. -/
structure Lh (x0 y0 X Y a b c d x y : Int) : Prop where
  ex : x = a * x0 + b * y0
  ey : y = c * x0 + d * y0
  sig : (0 ≤ a ∧ b ≤ 0 ∧ c ≤ 0 ∧ 0 ≤ d ∧ d * x - b * y = x0 ∧ a * y - c * x = y0) ∨ (a ≤ 0 ∧ 0 ≤ b ∧ 0 ≤ c ∧ d ≤ 0 ∧ b * y - d * x = x0 ∧ c * x - a * y = y0)
  xa : 0 ≤ x + a
  xb : 0 ≤ x + b
  yc : 0 ≤ y + c
  yd : 0 ≤ y + d
  x1 : 1 ≤ x
  y0' : 0 ≤ y
  ba : -1073741824 ≤ a ∧ a ≤ 1073741824
  bb : -1073741824 ≤ b ∧ b ≤ 1073741824
  bc : -1073741824 ≤ c ∧ c ≤ 1073741824
  bd : -1073741824 ≤ d ∧ d ≤ 1073741824
  bx : x < 1073741824
  by' : y < 1073741824
  le : c * X + d * Y ≤ a * X + b * Y
  nn : 0 ≤ c * X + d * Y
  top : a * X + b * Y ≤ X
  low : c * X + d * Y ≤ Y
  bz : b ≠ 0 → c * X + d * Y < Y
  gcd : Int.gcd (a * X + b * Y) (c * X + d * Y) = Int.gcd X Y

theorem mul_le {a b c : Int} (h : a ≤ b) (hc : 0 ≤ c) : a * c ≤ b * c := Int.mul_le_mul_of_nonneg_right h hc

/-- The number that the factors make lies between the two bounds. -/
theorem lh_between {x0 y0 X Y L a b x : Int} (hX : x0 * L ≤ X) (hX2 : X ≤ (x0 + 1) * L) (hY : y0 * L ≤ Y) (hY2 : Y ≤ (y0 + 1) * L) (ex : x = a * x0 + b * y0) (ha : 0 ≤ a) (hb : b ≤ 0) :
    (x + b) * L ≤ a * X + b * Y ∧ a * X + b * Y ≤ (x + a) * L := by
  have e1 : a * (x0 * L) ≤ a * X := Int.mul_le_mul_of_nonneg_left hX ha
  have e2 : a * X ≤ a * ((x0 + 1) * L) := Int.mul_le_mul_of_nonneg_left hX2 ha
  have e3 : (-b) * (y0 * L) ≤ (-b) * Y := Int.mul_le_mul_of_nonneg_left hY (by omega)
  have e4 : (-b) * Y ≤ (-b) * ((y0 + 1) * L) := Int.mul_le_mul_of_nonneg_left hY2 (by omega)
  rw [Int.add_mul, Int.one_mul, Int.mul_add] at e2 e4
  rw [Int.neg_mul, Int.neg_mul] at e3
  rw [Int.neg_mul, Int.neg_mul, Int.neg_mul] at e4
  rw [ex, Int.add_mul, Int.add_mul, Int.add_mul, Int.add_mul, Int.mul_assoc, Int.mul_assoc]
  constructor <;> omega

theorem lh_between' {x0 y0 X Y L a b x : Int} (hX : x0 * L ≤ X) (hX2 : X ≤ (x0 + 1) * L) (hY : y0 * L ≤ Y) (hY2 : Y ≤ (y0 + 1) * L) (ex : x = a * x0 + b * y0) (ha : a ≤ 0) (hb : 0 ≤ b) :
    (x + a) * L ≤ a * X + b * Y ∧ a * X + b * Y ≤ (x + b) * L := by
  have h := lh_between hY hY2 hX hX2 (a := b) (b := a) (x := x) (by omega) hb ha
  constructor <;> omega

/-- A quotient that fits both bounds is that of the numbers. -/
theorem euclid_between {L X1 Y1 q u v s t : Int} (hL : 0 < L) (hu : X1 ≤ u * L) (hv : v * L ≤ X1) (hs : s * L ≤ Y1) (ht : Y1 ≤ t * L) (h1 : q * t ≤ v) (h2 : u < (q + 1) * s) (hq : 0 ≤ q) : q * Y1 ≤ X1 ∧ X1 < (q + 1) * Y1 := by
  constructor
  · have e1 : q * Y1 ≤ q * (t * L) := Int.mul_le_mul_of_nonneg_left ht hq
    have e2 : q * t * L ≤ v * L := Int.mul_le_mul_of_nonneg_right h1 (by omega)
    rw [Int.mul_assoc] at e2
    omega
  · have e1 : (q + 1) * (s * L) ≤ (q + 1) * Y1 := Int.mul_le_mul_of_nonneg_left hs (by omega)
    have e2 : (u + 1) * L ≤ (q + 1) * s * L := Int.mul_le_mul_of_nonneg_right (by omega) (by omega)
    rw [Int.mul_assoc, Int.add_mul, Int.one_mul] at e2
    omega

theorem gcd_step (X Y q : Int) : Int.gcd Y (X - q * Y) = Int.gcd X Y := by
  apply Nat.dvd_antisymm
  · apply Int.dvd_gcd
    · have h1 := Int.gcd_dvd_left Y (X - q * Y)
      have h2 := Int.gcd_dvd_right Y (X - q * Y)
      have h4 := Int.dvd_add h2 (Int.dvd_mul_of_dvd_right (b := q) h1)
      have h3 : (X - q * Y) + q * Y = X := by omega
      rw [h3] at h4
      exact h4
    · exact Int.gcd_dvd_left _ _
  · apply Int.dvd_gcd
    · exact Int.gcd_dvd_right _ _
    · exact Int.dvd_sub (Int.gcd_dvd_left _ _) (Int.dvd_mul_of_dvd_right (Int.gcd_dvd_right _ _))

theorem fac_bound {c y x0 : Int} (hy : 1 ≤ y) (hc : 0 ≤ c) (h : c * y ≤ x0) : c ≤ x0 := by
  have : c * 1 ≤ c * y := Int.mul_le_mul_of_nonneg_left hy hc
  omega

/-- One step of Euclid's on the upper bits is one on the numbers. -/
theorem Lh.step {x0 y0 X Y L a b c d x y q : Int} (H : Lh x0 y0 X Y a b c d x y) (hL : 0 < L) (hX : x0 * L ≤ X) (hX2 : X ≤ (x0 + 1) * L) (hY : y0 * L ≤ Y) (hY2 : Y ≤ (y0 + 1) * L) (hx0 : x0 < 1073741824) (hy0 : y0 < 1073741824)
    (hc : 0 < y + c) (hd : 0 < y + d) (q1 : q * (y + c) ≤ x + a) (q2 : x + a < (q + 1) * (y + c)) (q3 : q * (y + d) ≤ x + b) (q4 : x + b < (q + 1) * (y + d)) (hq : 0 ≤ q) :
    Lh x0 y0 X Y c d (a - q * c) (b - q * d) y (x - q * y) := by
  have hqy : 0 ≤ q * y := Int.mul_nonneg hq H.y0'
  have m1 : q * (y + c) = q * y + q * c := Int.mul_add _ _ _
  have m2 : q * (y + d) = q * y + q * d := Int.mul_add _ _ _
  have eXY : (a - q * c) * X + (b - q * d) * Y = (a * X + b * Y) - q * (c * X + d * Y) := by
    rw [Int.sub_mul, Int.sub_mul, Int.mul_add, Int.mul_assoc, Int.mul_assoc]; omega
  have ey' : x - q * y = (a - q * c) * x0 + (b - q * d) * y0 := by
    rw [Int.sub_mul, Int.sub_mul, Int.mul_assoc, Int.mul_assoc, H.ex, H.ey, Int.mul_add]; omega
  have n1 : d * (x - q * y) = d * x - q * d * y := by rw [Int.mul_sub, ← Int.mul_assoc, Int.mul_comm d q]
  have n2 : (b - q * d) * y = b * y - q * d * y := Int.sub_mul _ _ _
  have n3 : c * (x - q * y) = c * x - q * c * y := by rw [Int.mul_sub, ← Int.mul_assoc, Int.mul_comm c q]
  have n4 : (a - q * c) * y = a * y - q * c * y := Int.sub_mul _ _ _
  have key : q * (c * X + d * Y) ≤ a * X + b * Y ∧ a * X + b * Y < (q + 1) * (c * X + d * Y) := by
    rcases H.sig with ⟨s1, s2, s3, s4, _, _⟩ | ⟨s1, s2, s3, s4, _, _⟩
    · have b1 := lh_between hX hX2 hY hY2 H.ex s1 s2
      have b2 := lh_between' hX hX2 hY hY2 H.ey s3 s4
      exact euclid_between hL b1.2 b1.1 b2.1 b2.2 q3 q2 hq
    · have b1 := lh_between' hX hX2 hY hY2 H.ex s1 s2
      have b2 := lh_between hX hX2 hY hY2 H.ey s3 s4
      exact euclid_between hL b1.2 b1.1 b2.1 b2.2 q1 q4 hq
  have key2 : (q + 1) * (c * X + d * Y) = q * (c * X + d * Y) + (c * X + d * Y) := by rw [Int.add_mul, Int.one_mul]
  have hle := H.le
  have hnn := H.nn
  have htop := H.top
  have hlow := H.low
  have hg := gcd_step (a * X + b * Y) (c * X + d * Y) q
  rw [H.gcd, ← eXY] at hg
  have hsig : ((0 ≤ c ∧ d ≤ 0 ∧ a - q * c ≤ 0 ∧ 0 ≤ b - q * d ∧ (b - q * d) * y - d * (x - q * y) = x0 ∧ c * (x - q * y) - (a - q * c) * y = y0) ∨ (c ≤ 0 ∧ 0 ≤ d ∧ 0 ≤ a - q * c ∧ b - q * d ≤ 0 ∧ d * (x - q * y) - (b - q * d) * y = x0 ∧ (a - q * c) * y - c * (x - q * y) = y0)) ∧ 1 ≤ y ∧ 0 ≤ x - q * y := by
    rcases H.sig with ⟨s1, s2, s3, s4, s5, s6⟩ | ⟨s1, s2, s3, s4, s5, s6⟩
    · have p1 : q * c ≤ 0 := by
        have : q * c ≤ q * 0 := Int.mul_le_mul_of_nonneg_left s3 hq
        omega
      have p2 : 0 ≤ q * d := Int.mul_nonneg hq s4
      exact ⟨.inr ⟨s3, s4, by omega, by omega, by omega, by omega⟩, by omega, by omega⟩
    · have p1 : 0 ≤ q * c := Int.mul_nonneg hq s3
      have p2 : q * d ≤ 0 := by
        have : q * d ≤ q * 0 := Int.mul_le_mul_of_nonneg_left s4 hq
        omega
      exact ⟨.inl ⟨s3, s4, by omega, by omega, by omega, by omega⟩, by omega, by omega⟩
  obtain ⟨hsg, hy1, hyy⟩ := hsig
  have hbnd : (-1073741824 ≤ a - q * c ∧ a - q * c ≤ 1073741824) ∧ (-1073741824 ≤ b - q * d ∧ b - q * d ≤ 1073741824) := by
    rcases hsg with ⟨s1, s2, s3, s4, s5, s6⟩ | ⟨s1, s2, s3, s4, s5, s6⟩
    · have p1 : 0 ≤ c * (x - q * y) := Int.mul_nonneg s1 hyy
      have p2 : 0 ≤ (-d) * (x - q * y) := Int.mul_nonneg (by omega) hyy
      rw [Int.neg_mul] at p2
      have f1 := fac_bound (c := -(a - q * c)) (x0 := y0) hy1 (by omega) (by rw [Int.neg_mul]; omega)
      have f2 := fac_bound (c := b - q * d) (x0 := x0) hy1 (by omega) (by omega)
      omega
    · have p1 : 0 ≤ (-c) * (x - q * y) := Int.mul_nonneg (by omega) hyy
      have p2 : 0 ≤ d * (x - q * y) := Int.mul_nonneg s2 hyy
      rw [Int.neg_mul] at p1
      have f1 := fac_bound (c := a - q * c) (x0 := y0) hy1 (by omega) (by omega)
      have f2 := fac_bound (c := -(b - q * d)) (x0 := x0) hy1 (by omega) (by rw [Int.neg_mul]; omega)
      omega
  refine ⟨H.ey, ey', ?_, H.yc, H.yd, by omega, by omega, hy1, hyy, H.bc, H.bd, hbnd.1, hbnd.2, H.by', ?_, ?_, ?_, ?_, ?_, ?_, hg⟩
  · rcases hsg with h | h
    · exact .inl ⟨h.1, h.2.1, h.2.2.1, h.2.2.2.1, h.2.2.2.2.1, h.2.2.2.2.2⟩
    · exact .inr ⟨h.1, h.2.1, h.2.2.1, h.2.2.2.1, h.2.2.2.2.1, h.2.2.2.2.2⟩
  · have := H.bx; omega
  · rw [eXY]; omega
  · rw [eXY]; omega
  · omega
  · rw [eXY]; omega
  · intro _; rw [eXY]; omega

/-- What stands at the beginning. -/
theorem Lh.start {x0 y0 X Y : Int} (h1 : 1 ≤ x0) (h2 : 0 ≤ y0) (h3 : x0 < 1073741824) (h4 : y0 < 1073741824) (hY : 0 ≤ Y) (hle : Y ≤ X) : Lh x0 y0 X Y 1 0 0 1 x0 y0 := by
  refine ⟨by omega, by omega, .inl ⟨by omega, by omega, by omega, by omega, by omega, by omega⟩, by omega, by omega, by omega, by omega, h1, h2, by omega, by omega, by omega, by omega, h3, h4, by omega, by omega, by omega, by omega, fun h => absurd rfl h, ?_⟩
  rw [Int.one_mul, Int.zero_mul, Int.zero_mul, Int.one_mul, Int.add_zero, Int.zero_add]

end Lm
end Go.Proofs.Ytkdcgnooeojjgac
