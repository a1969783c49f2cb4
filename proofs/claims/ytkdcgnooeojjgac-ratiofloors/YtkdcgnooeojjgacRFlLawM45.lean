/-
  Whole numbers: the contract of Text. The statements' awake answers true. The contract of window. The contract of combine.
-/
import Derived.Test.YtkdcgnooeojjgacWB
import Derived.Test.YtkdcgnooeojjgacWG
import Derived.Test.YtkdcgnooeojjgacWF
import Derived.Test.YtkdcgnooeojjgacDivL
import Derived.Deep.QuietTactic
import Derived.BigQuiet
namespace Go.Proofs.Ytkdcgnooeojjgac
namespace Lm
open Go.RowKit

theorem wdec_len {ds : List Int} {x : Int} (h : IsDec ds x) {m : Nat} (hm : 1 ≤ m) (hx : x < p10 m) : ds.length ≤ m := by
  obtain ⟨h1, h2, h3⟩ := h
  rcases h3 with ⟨_, rfl⟩ | ⟨c, cs, rfl, hc⟩
  · simp; omega
  · have := dval_low h1 hc
    simp only [List.length_cons]
    apply Classical.byContradiction
    intro hn
    have := p10_mono (m := m) (n := cs.length) (by omega)
    omega

theorem minus_ahead (ds : List Int) : (⟨#[45]⟩ : ByteArray) ++ strOfNums ds = strOfNums (45 :: ds) := by
  apply ByteArray.ext
  rw [ByteArray.data_append]
  apply Array.toList_inj.1
  simp [strOfNums]

theorem sign_three' (z : Int) : -1 ≤ Int.sign z ∧ Int.sign z ≤ 1 := by
  rcases Int.lt_trichotomy z 0 with h | h | h
  · rw [Int.sign_eq_neg_one_of_neg h]; omega
  · rw [h]; simp
  · rw [Int.sign_eq_one_of_pos h]; omega

set_option maxRecDepth 20000 in
set_option maxHeartbeats 400000 in
theorem wtext_neg (w : World) (ng : Bool) (ao : Option Addr) (n cap : Nat) (zs : List Int) (h : Sl w (.slice ao n cap) zs) (hz : zs.length ≤ 1000000) (hneg : sg ng (val zs) < 0) :
    Calls Try.prog 49 #[.agg #[.bool ng, .slice ao n cap]] w fun e w' => ∃ ds, e = .returned (.string (strOfNums (45 :: ds))) ∧ IsDec ds (val zs) ∧ Below w.heap.size w w' := by
  obtain ⟨w0, e0, bx, hb0, hs0⟩ := boxed0 w ng (.slice ao n cap)
  have E0 := hide e0
  have h0 := h.below hb0
  have HN := hide hneg
  have ks := wsign_any w0 ng ao n cap zs h0 hz
  rw [Int.sign_eq_neg_one_of_neg hneg] at ks
  have KS := hide ks
  clear e0 hs0 ks hneg
  go_enter Try.func49, Try.ntmps49
  go_wp2_with fail
  rw [E0.out]
  refine (KS.out).mono ?_
  rintro e w1 ⟨rfl, hb1⟩
  obtain ⟨xa, xb, xc, xd⟩ := (bx.below hb1).facts
  have h1 := h0.below hb1
  go_wp2_with fail
  refine (text_any _ _ _ _ zs h1 hz).mono ?_
  rintro e w2 ⟨ds, rfl, hd, hb2⟩
  have Z := hide (hb0.trans ((hb1.trans (hb2.mono hb1.size)).mono hb0.size))
  have HD := hide hd
  have hcs : ¬ 9223372036854775807 < 1 + (strOfNums ds).size := by
    have h8 := (val_bounds h.parts.2.2.2).2
    have h7 := pw_le_p10 zs.length
    have h6 := p10_mono (m := 10 * zs.length) (n := 10 * zs.length + 1) (by omega)
    have h9 := wdec_len hd (m := 10 * zs.length + 1) (by omega) (by omega)
    rw [strOfNums_size]
    omega
  have MA := hide (minus_ahead ds)
  clear hd
  go_wp2
  refine bodyPost_ret (v := .string (strOfNums (45 :: ds))) ?_ rfl ⟨ds, rfl, HD.out, Z.out⟩
  simp [results, Try.results49, go_sem, MA.out]

set_option maxRecDepth 20000 in
set_option maxHeartbeats 400000 in
theorem wtext_pos (w : World) (ng : Bool) (ao : Option Addr) (n cap : Nat) (zs : List Int) (h : Sl w (.slice ao n cap) zs) (hz : zs.length ≤ 1000000) (hpos : ¬ sg ng (val zs) < 0) :
    Calls Try.prog 49 #[.agg #[.bool ng, .slice ao n cap]] w fun e w' => ∃ ds, e = .returned (.string (strOfNums ds)) ∧ IsDec ds (val zs) ∧ Below w.heap.size w w' := by
  obtain ⟨w0, e0, bx, hb0, hs0⟩ := boxed0 w ng (.slice ao n cap)
  have E0 := hide e0
  have h0 := h.below hb0
  obtain ⟨s, hs, hs1⟩ : ∃ s, Int.sign (sg ng (val zs)) = s ∧ ¬ s < 0 := ⟨_, rfl, by
    intro h9
    have h8 := Int.sign_eq_neg_one_iff_neg.1 (show Int.sign (sg ng (val zs)) = -1 by have := sign_three' (sg ng (val zs)); omega)
    omega⟩
  have ks := wsign_any w0 ng ao n cap zs h0 hz
  rw [hs] at ks
  have KS := hide ks
  clear e0 hs0 ks hpos hs
  go_enter Try.func49, Try.ntmps49
  go_wp2_with fail
  rw [E0.out]
  refine (KS.out).mono ?_
  rintro e w1 ⟨rfl, hb1⟩
  obtain ⟨xa, xb, xc, xd⟩ := (bx.below hb1).facts
  have h1 := h0.below hb1
  go_wp2_with fail
  refine (text_any _ _ _ _ zs h1 hz).mono ?_
  rintro e w2 ⟨ds, rfl, hd, hb2⟩
  have Z := hide (hb0.trans ((hb1.trans (hb2.mono hb1.size)).mono hb0.size))
  have HD := hide hd
  clear hd
  go_wp2
  go_ret
  exact ⟨ds, rfl, HD.out, Z.out⟩

end Lm
end Go.Proofs.Ytkdcgnooeojjgac

namespace Go.Proofs.Ytkdcgnooeojjgac
namespace Lm
open Go.RowKit

theorem divmod_z (w : World) (nx : Bool) (a1 : Option Addr) (n1 c1 : Nat) (xs : List Int) (x : Int) (hx : Ag w nx a1 n1 c1 xs x) (ny : Bool) (a2 : Option Addr) (n2 c2 : Nat) (ys : List Int) (y : Int) (hy : Ag w ny a2 n2 c2 ys y) (hm1 : xs.length ≤ 400000) (hm2 : ys.length ≤ 400000) (h0 : y ≠ 0) :
    Calls Try.prog 61 #[.agg #[.bool nx, .slice a1 n1 c1], .agg #[.bool ny, .slice a2 n2 c2]] w fun e w' => ∃ nq aq cq qs nr ar cr rs, e = .returned (.tuple #[.agg #[.bool nq, .slice aq qs.length cq], .agg #[.bool nr, .slice ar rs.length cr], .bool true]) ∧ Wh w' nq aq cq qs (x / y) ∧ Wh w' nr ar cr rs (x % y) ∧ qs.length ≤ xs.length + 4 ∧ rs.length ≤ ys.length ∧ Below w.heap.size w w' := by
  have h := wdivmod_g w nx a1 n1 c1 xs hx.sl ny a2 n2 c2 ys hy.sl hm1 hm2 (fun e => h0 (by rw [← hy.worth, e]; cases ny <;> simp [sg]))
  rw [hx.worth, hy.worth] at h
  exact h

theorem dec12 : IsDec [49, 50] 12 := by
  refine ⟨?_, by decide, .inr ⟨49, _, rfl, by decide⟩⟩
  intro c hc
  simp at hc
  omega

theorem text12 (w : World) (ng : Bool) (ao : Option Addr) (cap : Nat) (rs : List Int) (h : Wh w ng ao cap rs (-12)) (hl : rs.length ≤ 2) :
    Calls Try.prog 49 #[.agg #[.bool ng, .slice ao rs.length cap]] w fun e w' => e = .returned (.string ⟨#[45, 49, 50]⟩) ∧ Below w.heap.size w w' := by
  refine (wtext_neg w ng ao _ cap rs h.sl (by omega) (by rw [h.worth]; decide)).mono ?_
  rintro e w' ⟨ds, rfl, hd, hb⟩
  have e2 := isDec_one hd (show IsDec [49, 50] (val rs) by rw [h.1.val]; exact dec12)
  subst e2
  exact ⟨rfl, hb⟩

end Lm
end Go.Proofs.Ytkdcgnooeojjgac

namespace Go.Proofs.Ytkdcgnooeojjgac
namespace Lm
open Go.RowKit

/-- Two limbs are what is left of the list's value above them, but for what lies higher. -/
theorem two_limbs {zs : List Int} (hz : Limb zs) (i : Nat) : ∃ t : Int, val zs / pw i = (zs.getD (i + 1) 0 * 4294967296 + zs.getD i 0) + 18446744073709551616 * t := by
  have h0 : val zs / pw i = val (zs.drop i) := by
    by_cases hi : i ≤ zs.length
    · have e := val_append (zs.take i) (zs.drop i)
      rw [List.take_append_drop, List.length_take, Nat.min_eq_left hi] at e
      have b := val_bounds (limb_take hz i)
      rw [List.length_take, Nat.min_eq_left hi] at b
      exact (div_of (a := val zs) (b := pw i) (by have := pw_pos i; omega) (by rw [e, Int.mul_comm]; omega) b.1 b.2).1
    · rw [List.drop_of_length_le (by omega)]
      have b := val_bounds hz
      have hm := pw_mono (m := zs.length) (n := i) (by omega)
      exact Int.ediv_eq_zero_of_lt b.1 (by omega)
  refine ⟨val (zs.drop (i + 2)), ?_⟩
  rw [h0]
  by_cases h1 : i < zs.length
  · rw [drop_getD zs i h1, val]
    by_cases h2 : i + 1 < zs.length
    · rw [drop_getD zs (i + 1) h2, val, show i + 2 = i + 1 + 1 from rfl]
      omega
    · have e1 : zs.drop (i + 1) = [] := List.drop_of_length_le (by omega)
      have e2 : zs.drop (i + 2) = [] := List.drop_of_length_le (by omega)
      have e3 : zs.getD (i + 1) 0 = 0 := by rw [List.getD_eq_getElem?_getD, List.getElem?_eq_none (by omega)]; rfl
      rw [e1, e2, e3]
      simp [val]
  · have e1 : zs.drop i = [] := List.drop_of_length_le (by omega)
    have e2 : zs.drop (i + 2) = [] := List.drop_of_length_le (by omega)
    have e3 : zs.getD (i + 1) 0 = 0 := by rw [List.getD_eq_getElem?_getD, List.getElem?_eq_none (by omega)]; rfl
    have e4 : zs.getD i 0 = 0 := by rw [List.getD_eq_getElem?_getD, List.getElem?_eq_none (by omega)]; rfl
    rw [e1, e2, e3, e4]
    simp [val]

theorem mask30 {x : Int} (h0 : 0 ≤ x) (h1 : x < 4294967296) : bits .and .u32 x 1073741823 = x % 1073741824 := by
  rw [u32_and _ _ h0 h1 (by omega) (by omega)]
  have : (1073741823 : Int).toNat = 2 ^ 30 - 1 := by decide
  rw [this, Nat.and_two_pow_sub_one_eq_mod]
  omega

/-- The bits from 32 i + s on, of which 30 are wanted. -/
theorem window_val {V r t : Int} {s : Nat} (hs : s ≤ 31) (hV : V = r + 18446744073709551616 * t) : r / p2 s % 4294967296 % 1073741824 = V / p2 s % 1073741824 := by
  have hp := p2_pos s
  have e1 : (18446744073709551616 : Int) = p2 s * (1073741824 * p2 (34 - s)) := by
    have h9 : p2 s * (p2 30 * p2 (34 - s)) = p2 64 := by rw [← p2_add, ← p2_add, show s + (30 + (34 - s)) = 64 by omega]
    rw [show p2 30 = 1073741824 from by decide, show p2 64 = 18446744073709551616 from by decide] at h9
    exact h9.symm
  have e2 : V / p2 s = r / p2 s + 1073741824 * (p2 (34 - s) * t) := by
    rw [hV, e1, Int.mul_assoc, Int.add_mul_ediv_left _ _ (by omega), Int.mul_assoc]
  rw [e2, Int.add_mul_emod_self_left]
  omega

set_option maxRecDepth 20000 in
set_option maxHeartbeats 400000 in
theorem window_any (w : World) (ao : Option Addr) (n cap : Nat) (zs : List Int) (h : Sl w (.slice ao n cap) zs) (low : Nat) (hlow : low ≤ 100000000) :
    Calls Try.prog 55 #[.slice ao n cap, .int .i64 low] w fun e w' => e = .returned (.int .u32 (val zs / p2 low % 1073741824)) ∧ w' = w := by
  obtain ⟨rfl, x1, x2, x3⟩ := h.parts
  obtain ⟨i, hi⟩ : ∃ i, i = low / 32 := ⟨_, rfl⟩
  obtain ⟨s, hs⟩ : ∃ s, s = low % 32 := ⟨_, rfl⟩
  have e1 : (low : Int) / 32 = (i : Nat) := by omega
  have e2 : (low : Int) % 32 = (s : Nat) := by omega
  have hs31 : s ≤ 31 := by omega
  have hib : i ≤ 100000000 := by omega
  have HPL : Hid (p2 low = pw i * p2 s) := by
    show _ = _
    rw [pw_p2, ← p2_add]
    congr 1
    omega
  have bA := limb_getD x3 i
  have bC := limb_getD x3 (i + 1)
  obtain ⟨t, ht⟩ := two_limbs x3 i
  have k1 : Hid (∀ w' : World, Sl w' (.slice ao zs.length cap) zs → Calls Try.prog 59 #[.slice ao zs.length cap, .int .i64 ((i : Int) + 1)] w' fun e w'' => e = .returned (.int .u32 (zs.getD (i + 1) 0)) ∧ w'' = w') := by
    intro w' h'
    have h9 := limb_any w' _ zs h' ((i : Int) + 1) (by omega)
    rwa [show ((i : Int) + 1).toNat = i + 1 by omega] at h9
  have k2 : Hid (∀ w' : World, Sl w' (.slice ao zs.length cap) zs → Calls Try.prog 59 #[.slice ao zs.length cap, .int .i64 (i : Int)] w' fun e w'' => e = .returned (.int .u32 (zs.getD i 0)) ∧ w'' = w') := fun w' h' => limb_nat w' _ zs h' i
  have HT := hide ht
  generalize zs.getD (i + 1) 0 = C at bC k1 HT
  generalize zs.getD i 0 = A at bA k2 HT
  have hor := or_join C A bC.1 bC.2 bA.1 bA.2
  obtain ⟨M, hM⟩ : ∃ M, M = C * 4294967296 + A := ⟨_, rfl⟩
  rw [← hM] at hor HT
  have hM0 : 0 ≤ M := by omega
  have hM1 : M < 18446744073709551616 := by omega
  have hpw := p2_pow s
  have hp1 := p2_pos s
  have hd0 : 0 ≤ M / p2 s := Int.ediv_nonneg hM0 (by omega)
  have hmk : bits .and .u32 (M / p2 s % 4294967296) 1073741823 = M / p2 s % 4294967296 % 1073741824 := mask30 (by omega) (by omega)
  have HV : Hid (M / p2 s % 1073741824 = val zs / p2 low % 1073741824) := by
    have h9 := window_val hs31 HT.out
    rw [Int.ediv_ediv_of_nonneg (by have := pw_pos i; omega), ← HPL.out] at h9
    show _ = _
    omega
  clear x3 ht hM hi hs
  go_enter Try.func55, Try.ntmps55
  go_wp2_with fail
  refine (k1.out _ h).mono ?_
  rintro e w1 ⟨rfl, rfl⟩
  go_wp2_with fail
  refine (k2.out _ h).mono ?_
  rintro e w1 ⟨rfl, rfl⟩
  go_wp2
  go_ret
  exact ⟨by rw [← HV.out]; rfl, rfl⟩

end Lm
end Go.Proofs.Ytkdcgnooeojjgac

namespace Go.Proofs.Ytkdcgnooeojjgac
namespace Lm
open Go.RowKit

theorem com_val {xs ys os : List Int} {k : Nat} {p q x y c s : Int} (hk : os.length = k) (hx : xs.getD k 0 = x) (hy : ys.getD k 0 = y) (hs : s = p * x + q * y + c) (h : val os + pw k * c = p * vf xs k + q * vf ys k) :
    val (os ++ [s % 4294967296]) + pw (k + 1) * (s / 4294967296) = p * vf xs (k + 1) + q * vf ys (k + 1) := by
  rw [val_snoc, vf, vf, hx, hy, hk, pw]
  have e : s = s % 4294967296 + 4294967296 * (s / 4294967296) := by omega
  have e2 : pw k * (s % 4294967296) + 4294967296 * pw k * (s / 4294967296) = pw k * s := by
    rw [Int.mul_comm 4294967296 (pw k), Int.mul_assoc, ← Int.mul_add, ← e]
  have e3 : p * (pw k * x) = pw k * (p * x) := by rw [← Int.mul_assoc, Int.mul_comm p, Int.mul_assoc]
  have e4 : q * (pw k * y) = pw k * (q * y) := by rw [← Int.mul_assoc, Int.mul_comm q, Int.mul_assoc]
  rw [Int.add_assoc, e2, hs, Int.mul_add, Int.mul_add, Int.mul_add, Int.mul_add, e3, e4]
  omega

theorem com_bound {p x : Int} (hp : -1073741824 ≤ p ∧ p ≤ 1073741824) (hx : 0 ≤ x ∧ x < 4294967296) : -4611686018427387904 ≤ p * x ∧ p * x ≤ 4611686018427387904 := by
  have h1 : p * x ≤ 1073741824 * x := Int.mul_le_mul_of_nonneg_right hp.2 hx.1
  have h2 : -1073741824 * x ≤ p * x := Int.mul_le_mul_of_nonneg_right hp.1 hx.1
  omega

/-- Two factors of unlike signs. -/
theorem com_two {p q x y : Int} (hp : -1073741824 ≤ p ∧ p ≤ 1073741824) (hq : -1073741824 ≤ q ∧ q ≤ 1073741824) (hs : (0 ≤ p ∧ q ≤ 0) ∨ (p ≤ 0 ∧ 0 ≤ q)) (hx : 0 ≤ x ∧ x < 4294967296) (hy : 0 ≤ y ∧ y < 4294967296) : -4611686018427387904 ≤ p * x + q * y ∧ p * x + q * y ≤ 4611686018427387904 := by
  have b1 := com_bound hp hx
  have b2 := com_bound hq hy
  rcases hs with ⟨h1, h2⟩ | ⟨h1, h2⟩
  · have p1 : 0 ≤ p * x := Int.mul_nonneg h1 hx.1
    have p2 : 0 ≤ (-q) * y := Int.mul_nonneg (by omega) hy.1
    rw [Int.neg_mul] at p2
    omega
  · have p1 : 0 ≤ (-p) * x := Int.mul_nonneg (by omega) hx.1
    have p2 : 0 ≤ q * y := Int.mul_nonneg h2 hy.1
    rw [Int.neg_mul] at p1
    omega

set_option maxRecDepth 20000 in
set_option maxHeartbeats 1000000 in
theorem combine_any (w : World) (a1 a2 : Option Addr) (n1 n2 c1 c2 : Nat) (xs ys : List Int) (hx : Sl w (.slice a1 n1 c1) xs) (hy : Sl w (.slice a2 n2 c2) ys) (hm : xs.length ≤ 1000000) (hl : ys.length ≤ xs.length) (p q : Int) (hp : -1073741824 ≤ p ∧ p ≤ 1073741824) (hq : -1073741824 ≤ q ∧ q ≤ 1073741824) (hs : (0 ≤ p ∧ q ≤ 0) ∨ (p ≤ 0 ∧ 0 ≤ q)) (h0 : 0 ≤ p * val xs + q * val ys) (h1 : p * val xs + q * val ys < pw xs.length) :
    Calls Try.prog 56 #[.int .i64 p, .slice a1 n1 c1, .int .i64 q, .slice a2 n2 c2] w fun e w' => ∃ v, e = .returned v ∧ Is w.heap.size w' v (p * val xs + q * val ys) ∧ Below w.heap.size w w' := by
  obtain ⟨rfl, x1, x2, x3⟩ := hx.parts
  obtain ⟨rfl, y1, y2, y3⟩ := hy.parts
  obtain ⟨i0, hi, hz0, hz1, hz2⟩ := info_parts info32
  have X3 := hide x3
  have Y3 := hide y3
  have H0 := hide h0
  have H1 := hide h1
  have HP := hide hp
  have HQ := hide hq
  have HS := hide hs
  clear x3 y3 h0 h1 hp hq hs
  go_enter Try.func56, Try.ntmps56
  go_wp2_with (refine wpList_make_full _ rfl (.tmp 14) (.tmp 14) 22 rfl w.heap.size 32 i0 (.int .u32 0) 1 Try.underlying22 hi hz0 hz1 .i64 .i64 _ _ xs.length rfl rfl (by omega) (by omega) (by rw [hz2]; omega) (by unfold maxLen; omega) (Nat.le_refl _) ?hK)
  case hK =>
    intro w1 hown hgrow
    obtain ⟨_, cur, hh, hcs, hat⟩ := block_of_made hown
    have hb1 : Below w.heap.size w w1 := (Below.refl w.heap.size w).grown hgrow (Nat.le_refl _) (by simp)
    have HH := hide hh
    have HC0 := hide hcs
    have HA := hide hat
    clear hown hgrow hh hcs hat
    go_wp2
    go_loopw [10, 18] (fun cv i wr => ∃ (k : Nat) (c : Int) (os : List Int) (cur' : Array Value), k ≤ xs.length ∧ cv = .int .i64 c ∧ i = .int .i64 k ∧ (-1073741826 ≤ c ∧ c ≤ 1073741826) ∧ os.length = k ∧ Limb os ∧ val os + pw k * c = p * vf xs k + q * vf ys k ∧ Wr w1 wr w.heap.size cur' 32 ∧ cur'.size = xs.length ∧ At cur' .u32 0 (os ++ (List.replicate xs.length 0).drop k)) (fun _ i _ => xs.length - (intOf i).toNat)
    case atStart => exact ⟨0, 0, [], cur, Nat.zero_le _, rfl, rfl, by omega, rfl, limb_nil, by simp [val, vf, pw], Wr.refl HH.out, HC0.out, by simpa using HA.out⟩
    case round =>
      obtain ⟨k, c, os, cur', hk, rfl, rfl, hc, hol, ho, hval, hwr, hcs, hat⟩ := hrel
      have HOL := hide hol
      have HO := hide ho
      have HV := hide hval
      have HW := hide hwr
      have HC := hide hcs
      have HT := hide hat
      clear hol ho hval hwr hcs hat
      by_cases hlt : k < xs.length
      · have sx := HW.out.sl (Nat.le_refl _) hb1 rfl hx
        have sy := HW.out.sl (Nat.le_refl _) hb1 rfl hy
        obtain ⟨b, off, rfl, hcx⟩ := sx.cells (by omega)
        have cx := hcx k (by omega)
        have bx := limb_getD X3.out k
        have by' := limb_getD Y3.out k
        obtain ⟨x, hxk⟩ : ∃ x, xs.getD k 0 = x := ⟨_, rfl⟩
        obtain ⟨y, hyk⟩ : ∃ y, ys.getD k 0 = y := ⟨_, rfl⟩
        have ky : Hid (∀ n, Calls Try.prog 59 #[.slice a2 ys.length c2, .int .i64 k] (wr.drewN n) fun e w' => e = .returned (.int .u32 y) ∧ w' = wr.drewN n) := by
          intro n; rw [← hyk]; exact limb_nat _ _ ys (sy.below (below_drewN (Below.refl _ _) n)) k
        rw [hxk] at cx bx
        rw [hyk] at by'
        have hpx := com_bound HP.out bx
        have hqy := com_bound HQ.out by'
        have htw := com_two HP.out HQ.out HS.out bx by'
        obtain ⟨P, hP⟩ : ∃ P, P = p * x := ⟨_, rfl⟩
        obtain ⟨R, hR⟩ : ∃ R, R = q * y := ⟨_, rfl⟩
        have HV' := hide (com_val (p := p) (q := q) HOL.out hxk hyk rfl HV.out)
        rw [← hP] at hpx htw HV'
        rw [← hR] at hqy htw HV'
        have ep : p * x = P := hP.symm
        have er : q * y = R := hR.symm
        have hlen : (os ++ (List.replicate xs.length (0 : Int)).drop k).length = xs.length := by have := HOL.out; simp; omega
        have hcell := HT.out.cell HW.out.here k (by rw [hlen]; omega)
        rw [Nat.zero_add] at hcell
        generalize (os ++ (List.replicate xs.length (0 : Int)).drop k).getD k 0 = old at hcell
        have hfree := HW.out.free k
        have HT' := hide (HT.out.set k ((P + R + c) % 4294967296))
        have HW' := hide (HW.out.set k (.int .u32 ((P + R + c) % 4294967296)))
        clear hlen sx sy hcx hxk hyk hP hR
        go_wp2
        go_quiet ((go_at_call 59; exact Calls.quiet_of_same (ky.out _)))
        go_wp2
        go_roundw
        case rel => exact ⟨k + 1, (P + R + c) / 4294967296, os ++ [(P + R + c) % 4294967296], _, by omega, rfl, by go_num, by omega, by have := HOL.out; simp; omega, limb_append.2 ⟨HO.out, limb_cons.2 ⟨by omega, limb_nil⟩⟩, HV'.out, HW'.out.drewN _, by simpa using HC.out, by rw [← set_snoc os _ k _ HOL.out (by simp; omega)]; simpa using HT'.out⟩
        case measure => simp [intOf]; omega
      · have hkn : k = xs.length := by omega
        subst hkn
        have hat2 := HT.out
        rw [List.drop_of_length_le (by simp), List.append_nil] at hat2
        have how : Ow w.heap.size wr (.slice (some ⟨w.heap.size, 0, none⟩) xs.length xs.length) os := by
          have := HOL.out
          exact ⟨_, xs.length, by rw [this], by omega, by unfold maxLen; omega, HO.out, .inr ⟨_, 0, _, rfl, Nat.le_refl _, HW.out.here, by rw [HC.out]; omega, hat2⟩⟩
        have hbel : Below w.heap.size w wr := hb1.trans (HW.out.below (Nat.le_refl _))
        have hfin : val os = p * val xs + q * val ys := by
          have hv := HV.out
          rw [vf_all xs _ (Nat.le_refl _), vf_all ys _ hl] at hv
          have hb := val_bounds HO.out
          rw [HOL.out] at hb
          have h0 := H0.out
          have h1 := H1.out
          have hp := pw_pos xs.length
          have hc0 : c = 0 := by
            rcases Int.lt_trichotomy c 0 with h | h | h
            · have : pw xs.length * c ≤ pw xs.length * (-1) := Int.mul_le_mul_of_nonneg_left (by omega) (by omega)
              omega
            · exact h
            · have : pw xs.length * 1 ≤ pw xs.length * c := Int.mul_le_mul_of_nonneg_left (by omega) (by omega)
              omega
          rw [hc0, Int.mul_zero, Int.add_zero] at hv
          exact hv
        have his := how.is_cut hfin
        clear hat2 hfin
        go_wp2_with fail
        refine (cut_any _ _ _ _ _ how.sl).mono ?_
        rintro e w2 ⟨rfl, rfl⟩
        go_wp2
        go_ret
        exact ⟨_, rfl, his, hbel⟩

end Lm
end Go.Proofs.Ytkdcgnooeojjgac
