/-
  The contracts of takeTimes and addBack. The contracts of addBack, moveUp and LeadingZeros32. The contracts of LeadingZeros32 and moveUp. The contract of moveDown. The contract of guessLimb. Plain facts on the long division: what the guess of a limb is worth. No program is named here. What the long division keeps from round to round: facts on memory and lists, without the program. The contract of divideLong. The contract of DivMod, for every divisor. Whole numbers: the contract of DivMod. The contract of window. The contract of combine. Plain facts on Lehmer's steps: what the upper bits tell of two numbers. No program is named here. The contract of lookAhead. The contract of shrink. The contracts of Uint, gcdShort and Gcd. Whole numbers: the contract of Gcd. Single operations on lists of limbs, over a frame that is not written out; lowest terms. A region that draws, within a walk whose frame is written out: what each operation comes to is shown once, whatever the order; behind it the frame is written out again. A region that draws, whose last operations wait for all ahead of them (a store, what is assigned): first the others, whatever the order, then these, one by one. ratio.lowest. The calls on fractions. The contract of Book's Own. Answers of one call, and of several, that have nothing in common. Whole numbers: Trim, Neg, Add, Sub, Mul; each answer in memory of its own. The contracts of the reference's Sign, Size and Cmp. The contracts of the reference's Of and Told: whole numbers as they are handed in, and as they are told.
-/
import Derived.Deep.QuietTactic
import Derived.BigQuiet
import Derived.Deep.RegionWith
import Derived.Deep.RegionHeld3
import Derived.Deep.LoopGhost
import Derived.Deep.DeepCutAuto
import Derived.WalkMore
import Derived.Test.YtnomflballofiaaGreatMMksLawZ0
namespace Go.Proofs.YtnomflballofiaaGreat
namespace Lm
open Go.RowKit
theorem take_val {ps Y qs : List Int} {k : Nat} {x y a c b t r : Int} (hk : qs.length = k) (hy : Y.getD k 0 = y) (ha : ps.getD k 0 = a) (ht : t = x * y + c) (hr : r = a - t % 4294967296 - b) (h1 : -4294967296 ≤ r) (h2 : r < 4294967296) (h : val qs - pw k * (c + b) = vf ps k - x * vf Y k) :
    val (qs ++ [r % 4294967296]) - pw (k + 1) * (t / 4294967296 + bor r) = vf ps (k + 1) - x * vf Y (k + 1) := by
  rw [val_snoc, vf, vf, ha, hy, hk, pw, sub_step h1 h2]
  have e : t = t % 4294967296 + 4294967296 * (t / 4294967296) := by omega
  have e1 : pw k * (r + 4294967296 * bor r) = pw k * r + 4294967296 * pw k * bor r := by rw [Int.mul_add, Int.mul_comm 4294967296 (pw k), Int.mul_assoc]
  have e2 : 4294967296 * pw k * (t / 4294967296 + bor r) = pw k * (4294967296 * (t / 4294967296)) + 4294967296 * pw k * bor r := by rw [Int.mul_add, Int.mul_comm 4294967296 (pw k), Int.mul_assoc]
  have e3 : pw k * (4294967296 * (t / 4294967296)) = pw k * t - pw k * (t % 4294967296) := by rw [← Int.mul_sub]; congr 1; omega
  have e4 : x * (vf Y k + pw k * y) = x * vf Y k + pw k * (x * y) := by rw [Int.mul_add, ← Int.mul_assoc x, Int.mul_comm x (pw k), Int.mul_assoc]
  have e5 : pw k * t = pw k * (x * y) + pw k * c := by rw [ht, Int.mul_add]
  have e6 : pw k * r = pw k * a - pw k * (t % 4294967296) - pw k * b := by rw [hr, Int.mul_sub, Int.mul_sub]
  have e7 : pw k * (c + b) = pw k * c + pw k * b := Int.mul_add _ _ _
  rw [e1, e2, e3, e4, e5, e6]
  omega
theorem take_carry {Y : List Int} {k : Nat} {x y c t : Int} (hy : Y.getD k 0 = y) (ht : t = x * y + c) (h : pw k * c ≤ x * vf Y k) : pw (k + 1) * (t / 4294967296) ≤ x * vf Y (k + 1) := by
  rw [vf, hy, pw]
  have e1 : 4294967296 * pw k * (t / 4294967296) = pw k * (4294967296 * (t / 4294967296)) := by rw [Int.mul_comm 4294967296 (pw k), Int.mul_assoc]
  have e2 : pw k * (4294967296 * (t / 4294967296)) ≤ pw k * t := Int.mul_le_mul_of_nonneg_left (by omega) (by have := pw_pos k; omega)
  have e3 : pw k * t = pw k * (x * y) + pw k * c := by rw [ht, Int.mul_add]
  have e4 : x * (vf Y k + pw k * y) = x * vf Y k + pw k * (x * y) := by rw [Int.mul_add, ← Int.mul_assoc x, Int.mul_comm x (pw k), Int.mul_assoc]
  omega
theorem carry_zero {Y : List Int} {n : Nat} {x c : Int} (hY : Limb Y) (hl : Y.length = n) (hx : 0 ≤ x ∧ x < 4294967296) (hc : 0 ≤ c) (h : pw (n + 1) * c ≤ x * vf Y (n + 1)) : c = 0 := by
  rw [vf_all Y _ (by omega), pw] at h
  have hb := val_bounds hY
  rw [hl] at hb
  have h1 : x * val Y ≤ 4294967295 * val Y := Int.mul_le_mul_of_nonneg_right (by omega) hb.1
  apply Classical.byContradiction
  intro hn
  have h2 : 4294967296 * pw n * 1 ≤ 4294967296 * pw n * c := Int.mul_le_mul_of_nonneg_left (by omega) (by have := pw_pos n; omega)
  omega
set_option maxRecDepth 20000 in
set_option maxHeartbeats 1000000 in
theorem takeTimes_any (w : World) (g o n cap c2 : Nat) (cur : Array Value) (ps Y : List Int) (a2 : Option Addr) (x : Int) (hx : 0 ≤ x ∧ x < 4294967296)
    (hh : w.heap[g]? = some (.cells cur 101 (0, 0))) (ha : At cur .u32 o ps) (hp : Limb ps) (hpl : ps.length = n + 1) (hm : n ≤ 1000000)
    (hY : ∀ wr cur', Wr w wr g cur' 101 → Sl wr (.slice a2 n c2) Y) :
    Calls Tryz.prog 123 #[.slice (some ⟨g, o, none⟩) (n + 1) cap, .slice a2 n c2, .int .u32 x] w fun e w' => ∃ qs b cur', e = .returned (.bool (b != 0)) ∧ (0 ≤ b ∧ b ≤ 1) ∧ val qs - pw (n + 1) * b = val ps - x * val Y ∧ Limb qs ∧ qs.length = n + 1 ∧ Wr w w' g cur' 101 ∧ cur'.size = cur.size ∧ At cur' .u32 o qs ∧ (∀ i, i < o ∨ o + (n + 1) ≤ i → cur'[i]? = cur[i]?) := by
  obtain ⟨hYl, g1, g2, g3⟩ := (hY _ _ (Wr.refl hh)).parts
  have HP := hide hp
  have HY := hide g3
  have HYL := hide hYl
  have HPL := hide hpl
  have HH := hide hh
  have HA := hide ha
  clear hp g3 hYl hpl hh ha
  go_enter Tryz.func123, Tryz.ntmps123
  go_wp2
  go_loopw [7, 8, 14] (fun cv bv i wr => ∃ (k : Nat) (c b : Int) (qs : List Int) (cur' : Array Value), k ≤ n + 1 ∧ cv = .int .u64 c ∧ bv = .int .i64 b ∧ i = .int .i64 k ∧ (0 ≤ c ∧ c < 4294967296) ∧ (0 ≤ b ∧ b ≤ 1) ∧ qs.length = k ∧ Limb qs ∧ val qs - pw k * (c + b) = vf ps k - x * vf Y k ∧ pw k * c ≤ x * vf Y k ∧ Wr w wr g cur' 101 ∧ cur'.size = cur.size ∧ At cur' .u32 o (qs ++ ps.drop k) ∧ (∀ i, i < o ∨ o + (n + 1) ≤ i → cur'[i]? = cur[i]?)) (fun _ _ i _ => n + 1 - (intOf i).toNat)
  case atStart => exact ⟨0, 0, 0, [], cur, Nat.zero_le _, rfl, rfl, rfl, by omega, by omega, rfl, limb_nil, by simp [val, vf, pw], by simp [vf], Wr.refl HH.out, rfl, by simpa using HA.out, fun _ _ => rfl⟩
  case round =>
    obtain ⟨k, c, b, qs, cur', hk, rfl, rfl, rfl, hc, hbb, hql, hq, hval, hcar, hwr, hcs, hat, hout⟩ := hrel
    have HQL := hide hql
    have HQ := hide hq
    have HV := hide hval
    have HCar := hide hcar
    have HW := hide hwr
    have HC := hide hcs
    have HT := hide hat
    have HO := hide hout
    clear hql hq hval hcar hwr hcs hat hout
    by_cases hlt : k < n + 1
    · have sy := hY _ _ HW.out
      have hlen : (qs ++ ps.drop k).length = n + 1 := by have := HQL.out; have := HPL.out; simp; omega
      have co := HT.out.cell HW.out.here k (by rw [hlen]; omega)
      have e1 : (qs ++ ps.drop k).getD k 0 = ps.getD k 0 := by
        rw [List.getD_eq_getElem?_getD, List.getElem?_append_right (by have := HQL.out; omega), List.getElem?_drop, List.getD_eq_getElem?_getD, HQL.out]
        congr 2
        omega
      rw [e1] at co
      have hfree := HW.out.free (o + k)
      have by' := limb_getD HY.out k
      have ba := limb_getD HP.out k
      obtain ⟨y, hy⟩ : ∃ y, Y.getD k 0 = y := ⟨_, rfl⟩
      obtain ⟨a, hpa⟩ : ∃ a, ps.getD k 0 = a := ⟨_, rfl⟩
      have ky : Hid (Calls Tryz.prog 119 #[.slice a2 n c2, .int .i64 k] wr fun e w' => e = .returned (.int .u32 y) ∧ w' = wr) := by rw [← hy]; exact limb_nat _ _ Y sy k
      rw [hy] at by'
      rw [hpa] at co ba
      have hxy := mul_bound hx by'
      have s0 : 0 ≤ (x * y + c) % 4294967296 ∧ (x * y + c) % 4294967296 < 4294967296 := by omega
      have s1 : -4294967296 ≤ a - (x * y + c) % 4294967296 - b := by omega
      have s2 : a - (x * y + c) % 4294967296 - b < 4294967296 := by omega
      have hand := and_bor s1 s2
      have hbo := bor_01 (a - (x * y + c) % 4294967296 - b)
      have HV' := hide (take_val (x := x) HQL.out hy hpa rfl rfl s1 s2 HV.out)
      have HCar' := hide (take_carry (x := x) hy rfl HCar.out)
      have HT' := hide (HT.out.set k ((a - (x * y + c) % 4294967296 - b) % 4294967296))
      have HW' := hide (HW.out.set (o + k) (.int .u32 ((a - (x * y + c) % 4294967296 - b) % 4294967296)))
      have d1 : (k : Int) < (n : Int) + 1 := by omega
      clear hlen e1 hy hpa sy
      go_wp2_with fail
      refine (ky.out).mono ?_
      rintro e w2 ⟨rfl, rfl⟩
      go_wp2
      go_roundw
      case rel =>
        refine ⟨k + 1, (x * y + c) / 4294967296, _, qs ++ [(a - (x * y + c) % 4294967296 - b) % 4294967296], _, by omega, rfl, rfl, by go_num, by omega, hbo, by have := HQL.out; simp; omega, limb_append.2 ⟨HQ.out, limb_cons.2 ⟨by omega, limb_nil⟩⟩, HV'.out, HCar'.out, HW'.out, by simpa using HC.out, by rw [← set_snoc qs ps k _ HQL.out (by have := HPL.out; omega)]; exact HT'.out, fun i hi => ?_⟩
        rw [Array.getElem?_setIfInBounds, if_neg (by omega)]
        exact HO.out i hi
      case measure => simp [intOf]; omega
    · have hkn : k = n + 1 := by omega
      subst hkn
      have hc0 := carry_zero HY.out HYL.out.symm hx hc.1 HCar.out
      have HVf : Hid (val qs - pw (n + 1) * b = val ps - x * val Y) := by
        have h9 := HV.out
        rw [hc0, Int.zero_add, vf_all ps _ (by have := HPL.out; omega), vf_all Y _ (by have := HYL.out; omega)] at h9
        exact h9
      have HTf : Hid (At cur' .u32 o qs) := by
        have h9 := HT.out
        rwa [List.drop_of_length_le (by have := HPL.out; omega), List.append_nil] at h9
      clear hc0
      go_wp2
      go_ret
      exact ⟨qs, b, cur', rfl, hbb, HVf.out, HQ.out, HQL.out, HW.out, HC.out, HTf.out, HO.out⟩
end Lm
end Go.Proofs.YtnomflballofiaaGreat

namespace Go.Proofs.YtnomflballofiaaGreat
namespace Lm
open Go.RowKit
set_option maxRecDepth 20000 in
set_option maxHeartbeats 1000000 in
theorem addBack_any (w : World) (g o n cap c2 : Nat) (cur : Array Value) (ps Y : List Int) (a2 : Option Addr)
    (hh : w.heap[g]? = some (.cells cur 101 (0, 0))) (ha : At cur .u32 o ps) (hp : Limb ps) (hpl : ps.length = n + 1) (hm : n ≤ 1000000)
    (hY : ∀ wr cur', Wr w wr g cur' 101 → Sl wr (.slice a2 n c2) Y) :
    Calls Tryz.prog 124 #[.slice (some ⟨g, o, none⟩) (n + 1) cap, .slice a2 n c2] w fun e w' => ∃ qs c cur', e = .returned (.tuple #[]) ∧ (0 ≤ c ∧ c ≤ 1) ∧ val qs + pw (n + 1) * c = val ps + val Y ∧ Limb qs ∧ qs.length = n + 1 ∧ Wr w w' g cur' 101 ∧ cur'.size = cur.size ∧ At cur' .u32 o qs ∧ (∀ i, i < o ∨ o + (n + 1) ≤ i → cur'[i]? = cur[i]?) := by
  obtain ⟨hYl, g1, g2, g3⟩ := (hY _ _ (Wr.refl hh)).parts
  have HP := hide hp
  have HY := hide g3
  have HYL := hide hYl
  have HPL := hide hpl
  have HH := hide hh
  have HA := hide ha
  clear hp g3 hYl hpl hh ha
  go_enter Tryz.func124, Tryz.ntmps124
  go_wp2
  go_loopw [4, 9] (fun cv i wr => ∃ (k : Nat) (c : Int) (qs : List Int) (cur' : Array Value), k ≤ n + 1 ∧ cv = .int .u64 c ∧ i = .int .i64 k ∧ (0 ≤ c ∧ c ≤ 1) ∧ qs.length = k ∧ Limb qs ∧ val qs + pw k * c = vf ps k + vf Y k ∧ Wr w wr g cur' 101 ∧ cur'.size = cur.size ∧ At cur' .u32 o (qs ++ ps.drop k) ∧ (∀ i, i < o ∨ o + (n + 1) ≤ i → cur'[i]? = cur[i]?)) (fun _ i _ => n + 1 - (intOf i).toNat)
  case atStart => exact ⟨0, 0, [], cur, Nat.zero_le _, rfl, rfl, by omega, rfl, limb_nil, by simp [val, vf, pw], Wr.refl HH.out, rfl, by simpa using HA.out, fun _ _ => rfl⟩
  case round =>
    obtain ⟨k, c, qs, cur', hk, rfl, rfl, hc, hql, hq, hval, hwr, hcs, hat, hout⟩ := hrel
    have HQL := hide hql
    have HQ := hide hq
    have HV := hide hval
    have HW := hide hwr
    have HC := hide hcs
    have HT := hide hat
    have HO := hide hout
    clear hql hq hval hwr hcs hat hout
    by_cases hlt : k < n + 1
    · have sy := hY _ _ HW.out
      have hlen : (qs ++ ps.drop k).length = n + 1 := by have := HQL.out; have := HPL.out; simp; omega
      have co := HT.out.cell HW.out.here k (by rw [hlen]; omega)
      have e1 : (qs ++ ps.drop k).getD k 0 = ps.getD k 0 := by
        rw [List.getD_eq_getElem?_getD, List.getElem?_append_right (by have := HQL.out; omega), List.getElem?_drop, List.getD_eq_getElem?_getD, HQL.out]
        congr 2
        omega
      rw [e1] at co
      have hfree := HW.out.free (o + k)
      have by' := limb_getD HY.out k
      have ba := limb_getD HP.out k
      obtain ⟨y, hy⟩ : ∃ y, Y.getD k 0 = y := ⟨_, rfl⟩
      obtain ⟨a, hpa⟩ : ∃ a, ps.getD k 0 = a := ⟨_, rfl⟩
      have ky : Hid (∀ q, Calls Tryz.prog 119 #[.slice a2 n c2, .int .i64 k] (wr.drewN q) fun e w' => e = .returned (.int .u32 y) ∧ w' = wr.drewN q) := by
        intro q; rw [← hy]; exact limb_nat _ _ Y (sy.below (below_drewN (Below.refl _ _) q)) k
      rw [hy] at by'
      rw [hpa] at co ba
      have hst := add_step ba by' hc rfl
      have HV' := hide (add_val HQL.out hpa hy rfl HV.out)
      have HT' := hide (HT.out.set k ((a + y + c) % 4294967296))
      have HW' := hide (HW.out.set (o + k) (.int .u32 ((a + y + c) % 4294967296)))
      have d1 : (k : Int) < (n : Int) + 1 := by omega
      clear hlen e1 hy hpa sy
      go_wp2
      go_quiet ((go_at_call 119; exact Calls.quiet_of_same (ky.out _)))
      go_wp2
      go_roundw
      case rel =>
        refine ⟨k + 1, (a + y + c) / 4294967296, qs ++ [(a + y + c) % 4294967296], _, by omega, rfl, by go_num, by omega, by have := HQL.out; simp; omega, limb_append.2 ⟨HQ.out, limb_cons.2 ⟨by omega, limb_nil⟩⟩, HV'.out, HW'.out.drewN _, by simpa using HC.out, by rw [← set_snoc qs ps k _ HQL.out (by have := HPL.out; omega)]; exact HT'.out, fun i hi => ?_⟩
        rw [Array.getElem?_setIfInBounds, if_neg (by omega)]
        exact HO.out i hi
      case measure => simp [intOf]; omega
    · have hkn : k = n + 1 := by omega
      subst hkn
      have HVf : Hid (val qs + pw (n + 1) * c = val ps + val Y) := by
        have h9 := HV.out
        rw [vf_all ps _ (by have := HPL.out; omega), vf_all Y _ (by have := HYL.out; omega)] at h9
        exact h9
      have HTf : Hid (At cur' .u32 o qs) := by
        have h9 := HT.out
        rwa [List.drop_of_length_le (by have := HPL.out; omega), List.append_nil] at h9
      go_wp2
      go_end0
      exact ⟨qs, c, cur', rfl, hc, HVf.out, HQ.out, HQL.out, HW.out, HC.out, HTf.out, HO.out⟩
end Lm
end Go.Proofs.YtnomflballofiaaGreat

namespace Go.Proofs.YtnomflballofiaaGreat
namespace Lm
open Go.RowKit
set_option maxRecDepth 20000 in
set_option maxHeartbeats 400000 in
theorem lead_any (x : Int) (w : World) (h0 : 0 ≤ x) (h1 : x < 4294967296) :
    Calls Tryz.prog 120 #[.int .u32 x] w fun e w' => e = .returned (.int .i64 (32 - (Lib.bitLen x.toNat : Nat))) ∧ w' = w := by
  have hl : Lib.bitLen x.toNat ≤ 32 := Lib.bitLen_le _ 32 (by omega) (by omega)
  have kl := hide (len32_any x w h0 h1)
  generalize Lib.bitLen x.toNat = l at hl kl
  go_enter Tryz.func120, Tryz.ntmps120
  go_wp2_with fail
  refine (kl.out).mono ?_
  rintro e w' ⟨rfl, rfl⟩
  go_wp2
  go_ret
  exact ⟨rfl, rfl⟩
theorem p2_pow (s : Nat) : (2 : Int) ^ s = p2 s := by
  induction s with
  | zero => rfl
  | succ s ih => rw [Int.pow_succ, ih, p2]; omega
theorem nat_p2 (s : Nat) : ((2 ^ s : Nat) : Int) = p2 s := by
  induction s with
  | zero => rfl
  | succ s ih => rw [Nat.pow_succ, p2]; omega
theorem up_bound {x c : Int} {s : Nat} (h1 : 0 ≤ x) (h2 : x < 4294967296) (hs : s ≤ 31) (h3 : 0 ≤ c) (h4 : c < p2 s) : 0 ≤ x * p2 s + c ∧ x * p2 s + c < 4294967296 * p2 s ∧ x * p2 s + c < 9223372036854775808 ∧ 0 ≤ x * p2 s := by
  have hp := p2_pos s
  have hp2 := p2_mono (m := s) (n := 31) hs
  rw [show p2 31 = 2147483648 from by decide] at hp2
  have e1 : 0 ≤ x * p2 s := Int.mul_nonneg h1 (by omega)
  have e2 : (x + 1) * p2 s ≤ 4294967296 * p2 s := Int.mul_le_mul_of_nonneg_right (by omega) (by omega)
  rw [Int.add_mul] at e2
  omega
theorem or_shift {x c : Int} {s : Nat} (h1 : 0 ≤ x) (h2 : x < 4294967296) (hs : s ≤ 31) (h3 : 0 ≤ c) (h4 : c < p2 s) : bits .or .u64 (IntKind.u64.wrap (x * 2 ^ s)) c = x * p2 s + c := by
  have hb := up_bound h1 h2 hs h3 h4
  have hp := p2_pos s
  rw [p2_pow, IntKind.wrap_u64, Int.emod_eq_of_lt hb.2.2.2 (by omega), u64_or _ _ hb.2.2.2 (by omega) h3 (by omega)]
  obtain ⟨a, rfl⟩ := Int.eq_ofNat_of_zero_le h1
  obtain ⟨d, rfl⟩ := Int.eq_ofNat_of_zero_le h3
  have e1 : ((a : Int) * p2 s).toNat = 2 ^ s * a := by
    rw [← nat_p2, Int.mul_comm, ← Int.natCast_mul, Int.toNat_natCast]
  have hd : d < 2 ^ s := by have := nat_p2 s; omega
  rw [e1, Int.toNat_natCast, ← Nat.two_pow_add_eq_or_of_lt hd, Int.natCast_add, Int.natCast_mul, nat_p2, Int.mul_comm]
theorem up_val {zs qs : List Int} {k : Nat} {z c m t : Int} (hk : qs.length = k) (hz : zs.getD k 0 = z) (hs : t = z * m + c) (h : val qs + pw k * c = vf zs k * m) :
    val (qs ++ [t % 4294967296]) + pw (k + 1) * (t / 4294967296) = vf zs (k + 1) * m := by
  rw [val_snoc, vf, hz, hk, pw, Int.add_mul]
  have e : t = t % 4294967296 + 4294967296 * (t / 4294967296) := by omega
  have e2 : pw k * (t % 4294967296) + 4294967296 * pw k * (t / 4294967296) = pw k * t := by
    rw [Int.mul_comm 4294967296 (pw k), Int.mul_assoc, ← Int.mul_add, ← e]
  have e3 : pw k * z * m = pw k * (z * m) := by rw [Int.mul_assoc]
  rw [Int.add_assoc, e2, hs, Int.mul_add, e3]
  omega
set_option maxRecDepth 20000 in
set_option maxHeartbeats 1000000 in
theorem moveUp_any (w : World) (ao : Option Addr) (n cap : Nat) (xs : List Int) (hx : Sl w (.slice ao n cap) xs) (s : Nat) (hs : s ≤ 31) (hm : xs.length ≤ 1000000) :
    Calls Tryz.prog 121 #[.slice ao n cap, .int .u64 s] w fun e w' => ∃ cur qs, e = .returned (.slice (some ⟨w.heap.size, 0, none⟩) (n + 1) (n + 1)) ∧ Limb qs ∧ qs.length = n + 1 ∧ val qs = val xs * p2 s ∧ w'.heap[w.heap.size]? = some (.cells cur 101 (0, 0)) ∧ cur.size = n + 1 ∧ At cur .u32 0 qs ∧ Below w.heap.size w w' := by
  obtain ⟨rfl, h1, h2, h3⟩ := hx.parts
  obtain ⟨i0, hi, hz0, hz1, hz2⟩ := info_parts info32
  have H3 := hide h3
  have hp := p2_pos s
  have hp2 := p2_mono (m := s) (n := 31) hs
  rw [show p2 31 = 2147483648 from by decide] at hp2
  clear h3
  go_enter Tryz.func121, Tryz.ntmps121
  go_wp2_with (refine wpList_make_full _ rfl (.tmp 12) (.tmp 12) 36 rfl w.heap.size 101 i0 (.int .u32 0) 1 Tryz.underlying36 hi hz0 hz1 .i64 .i64 _ _ (xs.length + 1) rfl rfl (by omega) (by omega) (by rw [hz2]; omega) (by unfold maxLen; omega) (Nat.le_refl _) ?hK)
  case hK =>
    intro w1 hown hgrow
    obtain ⟨_, cur, hh, hcs, hat⟩ := block_of_made hown
    have hb1 : Below w.heap.size w w1 := (Below.refl w.heap.size w).grown hgrow (Nat.le_refl _) (by simp)
    have HH := hide hh
    have HS := hide hcs
    have HA := hide hat
    clear hown hgrow hh hcs hat
    go_wp2
    go_loopw [6, 16] (fun cv i wr => ∃ (k : Nat) (c : Int) (qs : List Int) (cur' : Array Value), k ≤ xs.length ∧ cv = .int .u64 c ∧ i = .int .i64 k ∧ (0 ≤ c ∧ c < p2 s) ∧ qs.length = k ∧ Limb qs ∧ val qs + pw k * c = vf xs k * p2 s ∧ Wr w1 wr w.heap.size cur' 101 ∧ cur'.size = xs.length + 1 ∧ At cur' .u32 0 (qs ++ (List.replicate (xs.length + 1) 0).drop k)) (fun _ i _ => xs.length - (intOf i).toNat)
    case atStart => exact ⟨0, 0, [], cur, Nat.zero_le _, rfl, rfl, by omega, rfl, limb_nil, by simp [val, vf, pw], Wr.refl HH.out, HS.out, by simpa using HA.out⟩
    case round =>
      obtain ⟨k, c, qs, cur', hk, rfl, rfl, hcb, hql, hq, hval, hwr, hcs, hat⟩ := hrel
      have HQL := hide hql
      have HQ := hide hq
      have HV := hide hval
      have HW := hide hwr
      have HC := hide hcs
      have HT := hide hat
      clear hql hq hval hwr hcs hat
      by_cases hlt : k < xs.length
      · have sx := HW.out.sl (Nat.le_refl _) hb1 rfl hx
        obtain ⟨b, off, rfl, hcx⟩ := sx.cells (by omega)
        have cx := hcx k (by omega)
        have bx := limb_getD H3.out k
        obtain ⟨x, hxk⟩ : ∃ x, xs.getD k 0 = x := ⟨_, rfl⟩
        rw [hxk] at cx bx
        have hlen : (qs ++ (List.replicate (xs.length + 1) (0 : Int)).drop k).length = xs.length + 1 := by have := HQL.out; simp; omega
        have hcell := HT.out.cell HW.out.here k (by rw [hlen]; omega)
        rw [Nat.zero_add] at hcell
        generalize (qs ++ (List.replicate (xs.length + 1) (0 : Int)).drop k).getD k 0 = old at hcell
        have hfree := HW.out.free k
        obtain ⟨M, hM⟩ : ∃ M, M = x * p2 s + c := ⟨_, rfl⟩
        have hor : bits .or .u64 (IntKind.u64.wrap (x * 2 ^ s)) c = M := by rw [hM]; exact or_shift bx.1 bx.2 hs hcb.1 hcb.2
        have hmb := up_bound bx.1 bx.2 hs hcb.1 hcb.2
        rw [← hM] at hmb
        have m1 := hmb.1
        have m2 := hmb.2.1
        have m3 := hmb.2.2.1
        have HV' := hide (up_val HQL.out hxk hM HV.out)
        have HT' := hide (HT.out.set k (M % 4294967296))
        have HW' := hide (HW.out.set k (.int .u32 (M % 4294967296)))
        clear hlen sx hcx hM hmb hxk
        go_wp2
        go_roundw
        case rel => exact ⟨k + 1, M / 4294967296, qs ++ [M % 4294967296], _, by omega, rfl, by go_num, by omega, by have := HQL.out; simp; omega, limb_append.2 ⟨HQ.out, limb_cons.2 ⟨by omega, limb_nil⟩⟩, HV'.out, HW'.out, by simpa using HC.out, by rw [← set_snoc qs _ k _ HQL.out (by simp; omega)]; simpa using HT'.out⟩
        case measure => simp [intOf]; omega
      · have hkM : k = xs.length := by omega
        subst hkM
        have hlen : (qs ++ (List.replicate (xs.length + 1) (0 : Int)).drop xs.length).length = xs.length + 1 := by have := HQL.out; simp; omega
        have hcell := HT.out.cell HW.out.here xs.length (by rw [hlen]; omega)
        rw [Nat.zero_add] at hcell
        have hfree := HW.out.free xs.length
        generalize hold : (qs ++ (List.replicate (xs.length + 1) (0 : Int)).drop xs.length).getD xs.length 0 = old at hcell
        have hat2 := HT.out.set xs.length c
        rw [set_snoc qs _ xs.length c HQL.out (by simp), List.drop_of_length_le (by simp), List.append_nil, Nat.zero_add] at hat2
        have hw2 := HW.out.set xs.length (.int .u32 c)
        have hlr : Limb (qs ++ [c]) := limb_append.2 ⟨HQ.out, limb_cons.2 ⟨by omega, limb_nil⟩⟩
        have R := hide (And.intro hat2 (And.intro hw2 (And.intro hlr (show val (qs ++ [c]) = val xs * p2 s by
          rw [val_snoc, HQL.out, HV.out, vf_all xs _ (Nat.le_refl _)]))))
        have hbel : Below w.heap.size w (wr.setCell ⟨w.heap.size, xs.length, none⟩ (.int .u32 c)) := hb1.trans (hw2.below (Nat.le_refl _))
        have hc2 : c < 4294967296 := by omega
        clear hat2 hw2 hlr hlen hold
        go_wp2
        go_ret
        exact ⟨_, qs ++ [c], rfl, R.out.2.2.1, by have := HQL.out; simp; omega, R.out.2.2.2, R.out.2.1.here, by simpa using HC.out, R.out.1, hbel⟩
end Lm
end Go.Proofs.YtnomflballofiaaGreat

namespace Go.Proofs.YtnomflballofiaaGreat
namespace Lm
open Go.RowKit
theorem p2_split {s : Nat} (hs : s ≤ 31) : p2 s * p2 (32 - s) = 4294967296 := by
  rw [← p2_add, show s + (32 - s) = 32 by omega]
  decide
theorem down_limb {A C : Int} {s : Nat} (hs : s ≤ 31) (hA : 0 ≤ A ∧ A < 4294967296) (hC : 0 ≤ C) : 0 ≤ (C * 4294967296 + A) / p2 s ∧ p2 s * (((C * 4294967296 + A) / p2 s) % 4294967296) = A - A % p2 s + C % p2 s * 4294967296 := by
  have hP := p2_pos s
  have hR := p2_pos (32 - s)
  have hPR := p2_split hs
  generalize p2 s = P at *
  generalize p2 (32 - s) = R at *
  have e1 : C * 4294967296 + A = A + P * (C * R) := by
    rw [← hPR, ← Int.mul_assoc C, Int.mul_comm C P, Int.mul_assoc]
    omega
  have e2 : (C * 4294967296 + A) / P = A / P + C * R := by rw [e1, Int.add_mul_ediv_left _ _ (by omega)]
  have hq : 0 ≤ A / P := Int.ediv_nonneg hA.1 (by omega)
  have hc0 : 0 ≤ C % P ∧ C % P < P := ⟨Int.emod_nonneg _ (by omega), Int.emod_lt_of_pos _ (by omega)⟩
  have ec := Int.mul_ediv_add_emod C P
  have e3 : C * R = C % P * R + 4294967296 * (C / P) := by
    have : C * R = (P * (C / P) + C % P) * R := by rw [ec]
    rw [this, Int.add_mul, ← hPR, Int.mul_assoc P, Int.mul_comm (C / P) R, ← Int.mul_assoc]
    omega
  have hCR : 0 ≤ C * R := Int.mul_nonneg hC (by omega)
  have h0R : 0 ≤ C % P * R := Int.mul_nonneg hc0.1 (by omega)
  have ea := Int.mul_ediv_add_emod A P
  have ham : 0 ≤ A % P := Int.emod_nonneg _ (by omega)
  have hAR : A / P < R := by
    apply Int.ediv_lt_of_lt_mul (by omega)
    rw [Int.mul_comm, hPR]
    exact hA.2
  have hlt : A / P + C % P * R < 4294967296 := by
    have h1 : (C % P + 1) * R ≤ P * R := Int.mul_le_mul_of_nonneg_right (by omega) (by omega)
    rw [hPR, Int.add_mul] at h1
    omega
  refine ⟨by rw [e2]; omega, ?_⟩
  have e4 : (A / P + C * R) % 4294967296 = A / P + C % P * R := by
    rw [e3, ← Int.add_assoc, Int.add_mul_emod_self_left, Int.emod_eq_of_lt (by omega) hlt]
  rw [e2, e4, Int.mul_add, ← Int.mul_assoc, Int.mul_comm P (C % P), Int.mul_assoc, hPR]
  omega
theorem down_val {xs qs : List Int} {k : Nat} {P o r0 A C : Int} (hk : qs.length = k) (hA : xs.getD k 0 = A) (ho : P * o = A - A % P + C % P * 4294967296) (h : P * val qs + r0 = vf xs k + pw k * (A % P)) : P * val (qs ++ [o]) + r0 = vf xs (k + 1) + pw (k + 1) * (C % P) := by
  rw [val_snoc, vf, hA, hk, pw, Int.mul_add]
  have e1 : P * (pw k * o) = pw k * (P * o) := by rw [← Int.mul_assoc, Int.mul_comm P, Int.mul_assoc]
  have e2 : pw k * (P * o) = pw k * A - pw k * (A % P) + 4294967296 * pw k * (C % P) := by
    rw [ho, Int.mul_add, Int.mul_sub, Int.mul_comm (C % P), ← Int.mul_assoc, Int.mul_comm (pw k) 4294967296]
  omega
set_option maxRecDepth 20000 in
set_option maxHeartbeats 1000000 in
theorem moveDown_any (w : World) (ao : Option Addr) (n cap : Nat) (xs : List Int) (hx : Sl w (.slice ao n cap) xs) (s : Nat) (hs : s ≤ 31) (hm : xs.length ≤ 1000000) :
    Calls Tryz.prog 125 #[.slice ao n cap, .int .u64 s] w fun e w' => ∃ v, e = .returned v ∧ Is w.heap.size w' v (val xs / p2 s) ∧ Below w.heap.size w w' := by
  obtain ⟨rfl, h1, h2, h3⟩ := hx.parts
  obtain ⟨i0, hi, hz0, hz1, hz2⟩ := info_parts info32
  have H3 := hide h3
  clear h3
  go_enter Tryz.func125, Tryz.ntmps125
  go_wp2_with (refine wpList_make_full _ rfl (.tmp 10) (.tmp 10) 36 rfl w.heap.size 101 i0 (.int .u32 0) 1 Tryz.underlying36 hi hz0 hz1 .i64 .i64 _ _ xs.length rfl rfl (by omega) (by omega) (by rw [hz2]; omega) (by unfold maxLen; omega) (Nat.le_refl _) ?hK)
  case hK =>
    intro w1 hown hgrow
    obtain ⟨_, cur, hh, hcs, hat⟩ := block_of_made hown
    have hb1 : Below w.heap.size w w1 := (Below.refl w.heap.size w).grown hgrow (Nat.le_refl _) (by simp)
    have HH := hide hh
    have HS := hide hcs
    have HA := hide hat
    clear hown hgrow hh hcs hat
    go_wp2
    go_loopw [14] (fun i wr => ∃ (k : Nat) (qs : List Int) (cur' : Array Value), k ≤ xs.length ∧ i = .int .i64 k ∧ qs.length = k ∧ Limb qs ∧ p2 s * val qs + xs.getD 0 0 % p2 s = vf xs k + pw k * (xs.getD k 0 % p2 s) ∧ Wr w1 wr w.heap.size cur' 101 ∧ cur'.size = xs.length ∧ At cur' .u32 0 (qs ++ (List.replicate xs.length 0).drop k)) (fun i _ => xs.length - (intOf i).toNat)
    case atStart => exact ⟨0, [], cur, Nat.zero_le _, rfl, rfl, limb_nil, by simp [val, vf, pw], Wr.refl HH.out, HS.out, by simpa using HA.out⟩
    case round =>
      obtain ⟨k, qs, cur', hk, rfl, hql, hq, hval, hwr, hcs, hat⟩ := hrel
      have HQL := hide hql
      have HQ := hide hq
      have HV := hide hval
      have HW := hide hwr
      have HC := hide hcs
      have HT := hide hat
      clear hql hq hval hwr hcs hat
      by_cases hlt : k < xs.length
      · have sx := HW.out.sl (Nat.le_refl _) hb1 rfl hx
        obtain ⟨b, off, rfl, hcx⟩ := sx.cells (by omega)
        have cx := hcx k (by omega)
        have bx := limb_getD H3.out k
        have by' := limb_getD H3.out (k + 1)
        have kl : Hid (Calls Tryz.prog 119 #[.slice (some ⟨b, off, none⟩) xs.length cap, .int .i64 ((k : Int) + 1)] wr fun e w' => e = .returned (.int .u32 (xs.getD (k + 1) 0)) ∧ w' = wr) := by
          have h9 := limb_any wr _ xs sx ((k : Int) + 1) (by omega)
          rwa [show ((k : Int) + 1).toNat = k + 1 by omega] at h9
        have HVn := hide (fun o ho => down_val (o := o) (C := xs.getD (k + 1) 0) HQL.out rfl ho HV.out)
        generalize hCe : xs.getD (k + 1) 0 = C at by' kl HVn
        have HCE := hide hCe
        clear hCe
        generalize xs.getD k 0 = A at cx bx HVn
        have hdl := down_limb hs bx by'.1
        have hor := or_join C A by'.1 by'.2 bx.1 bx.2
        have hlen : (qs ++ (List.replicate xs.length (0 : Int)).drop k).length = xs.length := by have := HQL.out; simp; omega
        have hcell := HT.out.cell HW.out.here k (by rw [hlen]; omega)
        rw [Nat.zero_add] at hcell
        generalize (qs ++ (List.replicate xs.length (0 : Int)).drop k).getD k 0 = old at hcell
        have hfree := HW.out.free k
        obtain ⟨M, hM⟩ : ∃ M, M = C * 4294967296 + A := ⟨_, rfl⟩
        rw [← hM] at hor hdl
        have hM0 : 0 ≤ M := by omega
        have hM1 : M < 18446744073709551616 := by omega
        have hpw := p2_pow s
        have HVf := hide (HVn.out _ hdl.2)
        have hd0 := hdl.1
        have HT' := hide (HT.out.set k (M / p2 s % 4294967296))
        have HW' := hide (HW.out.set k (.int .u32 (M / p2 s % 4294967296)))
        have hp1 := p2_pos s
        clear hlen sx hcx hM hdl HVn
        go_wp2_with fail
        refine (kl.out).mono ?_
        rintro e w2 ⟨rfl, rfl⟩
        go_wp2
        go_roundw
        case rel => exact ⟨k + 1, qs ++ [M / p2 s % 4294967296], _, by omega, by go_num, by have := HQL.out; simp; omega, limb_append.2 ⟨HQ.out, limb_cons.2 ⟨by omega, limb_nil⟩⟩, by rw [HCE.out]; exact HVf.out, HW'.out, by simpa using HC.out, by rw [← set_snoc qs _ k _ HQL.out (by simp; omega)]; simpa using HT'.out⟩
        case measure => simp [intOf]; omega
      · have hkM : k = xs.length := by omega
        subst hkM
        have hat2 := HT.out
        rw [List.drop_of_length_le (by simp), List.append_nil] at hat2
        have how : Ow w.heap.size wr (.slice (some ⟨w.heap.size, 0, none⟩) xs.length xs.length) qs := by
          have := HQL.out
          exact ⟨_, xs.length, by rw [this], by omega, by unfold maxLen; omega, HQ.out, .inr ⟨_, 0, _, rfl, Nat.le_refl _, HW.out.here, by rw [HC.out]; omega, hat2⟩⟩
        have hbel : Below w.heap.size w wr := hb1.trans (HW.out.below (Nat.le_refl _))
        have his := how.is_cut (x := val xs / p2 s) (by
          have hv := HV.out
          have hz : xs.getD xs.length 0 = 0 := by rw [List.getD_eq_getElem?_getD, List.getElem?_eq_none (Nat.le_refl _)]; rfl
          rw [hz, Int.zero_emod, Int.mul_zero, Int.add_zero, vf_all xs _ (Nat.le_refl _)] at hv
          have hp1 := p2_pos s
          have hr := Int.emod_lt_of_pos (xs.getD 0 0) (show 0 < p2 s by omega)
          have hr0 := Int.emod_nonneg (xs.getD 0 0) (show p2 s ≠ 0 by omega)
          have := div_of (a := val xs) (b := p2 s) (q := val qs) (by omega) (by rw [← hv, Int.mul_comm]) hr0 hr
          exact this.1.symm)
        clear hat2
        go_wp2_with fail
        refine (cut_any _ _ _ _ _ how.sl).mono ?_
        rintro e w2 ⟨rfl, rfl⟩
        go_wp2
        go_ret
        exact ⟨_, rfl, his, hbel⟩
end Lm
end Go.Proofs.YtnomflballofiaaGreat

namespace Go.Proofs.YtnomflballofiaaGreat
namespace Lm
open Go.RowKit
theorem guess_start {v1 v2 u2 U g r : Int} (h2 : 0 ≤ v2) (h3 : u2 < 4294967296) (hg : U = g * v1 + r) (hr : r < v1) (hg0 : 0 ≤ g) : U * 4294967296 + u2 < (g + 1) * (v1 * 4294967296 + v2) := by
  have e1 : (g + 1) * (v1 * 4294967296 + v2) = (g * v1 + v1) * 4294967296 + (g + 1) * v2 := by
    rw [Int.mul_add, ← Int.mul_assoc, Int.add_mul, Int.one_mul]
  have e2 : 0 ≤ (g + 1) * v2 := Int.mul_nonneg (by omega) h2
  rw [e1]
  omega
theorem guess_le {v1 v2 u2 U g r : Int} (hg : g * v1 + r = U) (h : g * v2 ≤ r * 4294967296 + u2) : g * (v1 * 4294967296 + v2) ≤ U * 4294967296 + u2 := by
  rw [Int.mul_add, ← Int.mul_assoc, ← hg]
  omega
theorem guess_gt {v1 v2 u2 U g r : Int} (hg : g * v1 + r = U) (h : r * 4294967296 + u2 < g * v2) : U * 4294967296 + u2 < g * (v1 * 4294967296 + v2) := by
  rw [Int.mul_add, ← Int.mul_assoc, ← hg]
  omega
theorem guess_break {v1 v2 u2 U g r : Int} (hv : 0 ≤ v2 ∧ v2 < 4294967296) (hu : 0 ≤ u2) (hg : g * v1 + r = U) (hr : 4294967296 ≤ r) (hg0 : 0 ≤ g) (hg1 : g < 4294967296) : g * (v1 * 4294967296 + v2) ≤ U * 4294967296 + u2 := by
  apply guess_le hg
  have h1 : g * v2 ≤ 4294967295 * v2 := Int.mul_le_mul_of_nonneg_right (by omega) hv.1
  omega
theorem guess_top {v1 U g r : Int} (hv : 2147483648 ≤ v1) (hU : U ≤ v1 * 4294967296 + 4294967295) (hg : g * v1 + r = U) (_hr : 0 ≤ r) (hb : 4294967296 ≤ r + v1) : g ≤ 4294967296 := by
  apply Classical.byContradiction
  intro hn
  have h1 : 4294967297 * v1 ≤ g * v1 := Int.mul_le_mul_of_nonneg_right (by omega) (by omega)
  omega
theorem guess_max {v1 U g r : Int} (hv : 2147483648 ≤ v1) (hU : U ≤ v1 * 4294967296 + 4294967295) (hg : g * v1 + r = U) (hr : 0 ≤ r) : g ≤ 4294967297 := by
  apply Classical.byContradiction
  intro hn
  have h1 : 4294967298 * v1 ≤ g * v1 := Int.mul_le_mul_of_nonneg_right (by omega) (by omega)
  omega
set_option maxRecDepth 20000 in
set_option maxHeartbeats 2000000 in
theorem guess_any (w : World) (a1 a2 : Option Addr) (n c1 c2 : Nat) (ps Y : List Int) (hp : Sl w (.slice a1 (n + 2 + 1) c1) ps) (hy : Sl w (.slice a2 (n + 2) c2) Y)
    (htop : 2147483648 ≤ Y.getD (n + 1) 0) (hu : ps.getD (n + 2) 0 ≤ Y.getD (n + 1) 0) :
    Calls Tryz.prog 122 #[.slice a1 (n + 2 + 1) c1, .slice a2 (n + 2) c2] w fun e w' => ∃ g : Int, e = .returned (.int .u32 g) ∧ (0 ≤ g ∧ g < 4294967296) ∧ g * (Y.getD (n + 1) 0 * 4294967296 + Y.getD n 0) ≤ (ps.getD (n + 2) 0 * 4294967296 + ps.getD (n + 1) 0) * 4294967296 + ps.getD n 0 ∧ (4294967296 ≤ g + 1 ∨ (ps.getD (n + 2) 0 * 4294967296 + ps.getD (n + 1) 0) * 4294967296 + ps.getD n 0 < (g + 1) * (Y.getD (n + 1) 0 * 4294967296 + Y.getD n 0)) ∧ ∃ q, w' = w.drewN q := by
  obtain ⟨hpl, p1, p2, p3⟩ := hp.parts
  obtain ⟨hyl, y1, y2, y3⟩ := hy.parts
  obtain ⟨b, off, rfl, hc⟩ := hp.cells (by omega)
  obtain ⟨b', off', rfl, hc'⟩ := hy.cells (by omega)
  have f0 := hc (n + 2) (by omega)
  have f1 := hc (n + 1) (by omega)
  have f2 := hc n (by omega)
  have e1 := hc' (n + 1) (by omega)
  have e2 := hc' n (by omega)
  have bu0 := limb_getD p3 (n + 2)
  have bu1 := limb_getD p3 (n + 1)
  have bu2 := limb_getD p3 n
  have bv1 := limb_getD y3 (n + 1)
  have bv2 := limb_getD y3 n
  generalize ps.getD (n + 2) 0 = u0 at *
  generalize ps.getD (n + 1) 0 = u1 at *
  generalize ps.getD n 0 = u2 at *
  generalize Y.getD (n + 1) 0 = v1 at *
  generalize Y.getD n 0 = v2 at *
  have hN : n + 3 ≤ 9223372036854775807 := by omega
  have hor1 := or_join u0 u1 bu0.1 bu0.2 bu1.1 bu1.2
  obtain ⟨U, hU⟩ : ∃ U, U = u0 * 4294967296 + u1 := ⟨_, rfl⟩
  rw [← hU] at hor1 ⊢
  have hU0 : 0 ≤ U := by omega
  have hUb : U < 18446744073709551616 := by omega
  have hUm : U ≤ v1 * 4294967296 + 4294967295 := by omega
  have HU := hide hU
  clear hc hc' p3 y3 hpl hyl hU
  go_enter Tryz.func122, Tryz.ntmps122
  go_wp2
  go_quiet (fail)
  go_wp2
  replace f0 : (w.drewN nq).cell? _ = _ := f0
  replace f1 : (w.drewN nq).cell? _ = _ := f1
  replace f2 : (w.drewN nq).cell? _ = _ := f2
  replace e1 : (w.drewN nq).cell? _ = _ := e1
  replace e2 : (w.drewN nq).cell? _ = _ := e2
  generalize hwq : w.drewN nq = wq at f0 f1 f2 e1 e2 ⊢
  have HQ : Hid (∃ q, wq = w.drewN q) := ⟨_, hwq.symm⟩
  clear hwq
  go_quiet (fail)
  go_wp2
  replace f2 : (wq.drewN nq).cell? _ = _ := f2
  replace HQ : Hid (∃ q, wq.drewN nq = w.drewN q) := by
    obtain ⟨q, hq⟩ := HQ.out
    exact ⟨q + nq, by rw [hq]; simp [World.drewN]; omega⟩
  generalize wq.drewN nq = wz at f2 HQ ⊢
  have hv0 : 0 < v1 := by omega
  have hq0 : 0 ≤ U / v1 := Int.ediv_nonneg hU0 (by omega)
  have hqm := Int.mul_ediv_add_emod U v1
  have hr0 := Int.emod_nonneg U (show v1 ≠ 0 by omega)
  have hr1 := Int.emod_lt_of_pos U hv0
  have hq1 : U / v1 ≤ 4294967297 := guess_max htop hUm (by rw [Int.mul_comm]; exact hqm) hr0
  have t1 : U.tdiv v1 = U / v1 := Int.tdiv_eq_ediv_of_nonneg hU0
  have t2 : IntKind.u64.wrap (U / v1) = U / v1 := by rw [IntKind.wrap_u64]; exact Int.emod_eq_of_lt hq0 (by omega)
  have t3 : U.tmod v1 = U % v1 := Int.tmod_eq_emod_of_nonneg hU0
  have HQM := hide hqm
  clear hqm
  go_quiet (fail)
  go_wp2
  replace f2 : (wz.drewN nq).cell? _ = _ := f2
  replace HQ : Hid (∃ q, wz.drewN nq = w.drewN q) := by
    obtain ⟨q, hq⟩ := HQ.out
    exact ⟨q + nq, by rw [hq]; simp [World.drewN]; omega⟩
  generalize wz.drewN nq = wl at f2 HQ ⊢
  go_loop [9, 10] (fun gv rv => ∃ gu rs : Int, gv = .int .u64 gu ∧ rv = .int .u64 rs ∧ 0 ≤ gu ∧ gu ≤ 4294967297 ∧ 0 ≤ rs ∧ rs < 4294967296 ∧ gu * v1 + rs = U ∧ (4294967296 ≤ gu + 1 ∨ U * 4294967296 + u2 < (gu + 1) * (v1 * 4294967296 + v2))) (fun gv _ => (intOf gv).toNat)
  case atStart => exact ⟨U / v1, U % v1, rfl, rfl, hq0, hq1, hr0, by omega, by rw [Int.mul_comm]; exact HQM.out, .inr (guess_start bv2.1 bu2.2 (by rw [Int.mul_comm]; exact HQM.out.symm) hr1 hq0)⟩
  case round =>
    obtain ⟨gu, rs, rfl, rfl, hg0, hg1, hs0, hs1, hgs, hgb⟩ := hrel
    have HGS := hide hgs
    have HGB := hide hgb
    have hor2 := or_join rs u2 hs0 hs1 bu2.1 bu2.2
    clear hgs hgb t1 t2 t3 hor1
    by_cases hbig : 4294967296 ≤ gu
    · have hne : (gu / 4294967296 != 0) = true := by rw [bne_iff_ne]; omega
      have HN : Hid ((gu - 1) * v1 + (rs + v1) = U) := by have h9 := HGS.out; show _ = _; rw [Int.sub_mul]; omega
      by_cases hbr : 4294967296 ≤ rs + v1
      · have hne2 : ((rs + v1) / 4294967296 != 0) = true := by rw [bne_iff_ne]; omega
        have hgl := guess_top htop hUm HGS.out hs0 hbr
        have HF := hide (guess_break bv2 bu2.1 HN.out hbr (by omega) (by omega))
        go_wp2
        go_ret
        exact ⟨gu - 1, rfl, by omega, HF.out, .inl (by omega), HQ.out⟩
      · have hne2 : ((rs + v1) / 4294967296 != 0) = false := by rw [bne_eq_false_iff_eq]; omega
        go_wp2
        go_round
        case rel => exact ⟨gu - 1, rs + v1, rfl, rfl, by omega, by omega, by omega, by omega, HN.out, .inl (by omega)⟩
        case measure => simp [intOf]; omega
    · have hne : (gu / 4294967296 != 0) = false := by rw [bne_eq_false_iff_eq]; omega
      have hmb := mul_bound (show 0 ≤ gu ∧ gu < 4294967296 by omega) bv2
      by_cases hgt : rs * 4294967296 + u2 < gu * v2
      · have hd : decide (rs * 4294967296 + u2 < gu * v2) = true := decide_eq_true hgt
        have hgu1 : 1 ≤ gu := by
          apply Classical.byContradiction
          intro hn
          have h0 : gu = 0 := by omega
          rw [h0, Int.zero_mul] at hgt
          omega
        have HN : Hid ((gu - 1) * v1 + (rs + v1) = U) := by have h9 := HGS.out; show _ = _; rw [Int.sub_mul]; omega
        have HB2 := hide (guess_gt HGS.out hgt)
        by_cases hbr : 4294967296 ≤ rs + v1
        · have hne2 : ((rs + v1) / 4294967296 != 0) = true := by rw [bne_iff_ne]; omega
          have HF := hide (guess_break bv2 bu2.1 HN.out hbr (by omega) (by omega))
          go_wp2
          go_ret
          exact ⟨gu - 1, rfl, by omega, HF.out, .inr (by rw [Int.sub_add_cancel]; exact HB2.out), HQ.out⟩
        · have hne2 : ((rs + v1) / 4294967296 != 0) = false := by rw [bne_eq_false_iff_eq]; omega
          go_wp2
          go_round
          case rel => exact ⟨gu - 1, rs + v1, rfl, rfl, by omega, by omega, by omega, by omega, HN.out, .inr (by rw [Int.sub_add_cancel]; exact HB2.out)⟩
          case measure => simp [intOf]; omega
      · have hd : decide (rs * 4294967296 + u2 < gu * v2) = false := decide_eq_false hgt
        have HF := hide (guess_le HGS.out (show gu * v2 ≤ rs * 4294967296 + u2 by omega))
        go_wp2
        go_ret
        exact ⟨gu, rfl, by omega, HF.out, HGB.out, HQ.out⟩
end Lm
end Go.Proofs.YtnomflballofiaaGreat

namespace Go.Proofs.YtnomflballofiaaGreat
namespace Lm
theorem val_top {zs : List Int} {n : Nat} (hl : zs.length = n + 1) : val zs = val (zs.take n) + pw n * zs.getD n 0 := by
  have e1 : zs = zs.take n ++ [zs.getD n 0] := by
    rw [← take_succ_getD zs n (by omega), List.take_of_length_le (by omega)]
  have e2 := val_append (zs.take n) [zs.getD n 0]
  rw [← e1, List.length_take, Nat.min_eq_left (by omega)] at e2
  rw [e2]
  simp [val]
theorem val_top2 {zs : List Int} {n : Nat} (hl : zs.length = n + 2) : val zs = val (zs.take n) + pw n * (zs.getD (n + 1) 0 * 4294967296 + zs.getD n 0) := by
  rw [val_top (n := n + 1) hl, val_top (zs := zs.take (n + 1)) (n := n) (by rw [List.length_take]; omega), List.take_take, Nat.min_eq_left (by omega)]
  have e : (zs.take (n + 1)).getD n 0 = zs.getD n 0 := by
    rw [List.getD_eq_getElem?_getD, List.getD_eq_getElem?_getD, List.getElem?_take, if_pos (by omega)]
  rw [e, pw, Int.mul_add, Int.mul_comm (zs.getD (n + 1) 0) 4294967296, ← Int.mul_assoc, Int.mul_comm (pw n) 4294967296]
  omega
theorem val_top3 {zs : List Int} {n : Nat} (hl : zs.length = n + 3) : val zs = val (zs.take n) + pw n * ((zs.getD (n + 2) 0 * 4294967296 + zs.getD (n + 1) 0) * 4294967296 + zs.getD n 0) := by
  rw [val_top (n := n + 2) hl, val_top2 (zs := zs.take (n + 2)) (n := n) (by rw [List.length_take]; omega), List.take_take, Nat.min_eq_left (by omega)]
  have e : ∀ i, i < n + 2 → (zs.take (n + 2)).getD i 0 = zs.getD i 0 := by
    intro i hi
    rw [List.getD_eq_getElem?_getD, List.getD_eq_getElem?_getD, List.getElem?_take, if_pos hi]
  rw [e (n + 1) (by omega), e n (by omega)]
  have e2 : pw (n + 2) = pw n * (4294967296 * 4294967296) := by
    simp only [pw]
    rw [Int.mul_comm (pw n), Int.mul_assoc]
  have e3 : pw n * ((zs.getD (n + 2) 0 * 4294967296 + zs.getD (n + 1) 0) * 4294967296 + zs.getD n 0) = pw n * (4294967296 * 4294967296) * zs.getD (n + 2) 0 + pw n * (zs.getD (n + 1) 0 * 4294967296 + zs.getD n 0) := by
    rw [Int.mul_assoc, ← Int.mul_add]
    congr 1
    omega
  rw [e2, e3]
  omega
theorem top_le {W Y : List Int} {n : Nat} (hW : Limb W) (hY : Limb Y) (h1 : W.length = n + 1) (h2 : Y.length = n + 1) (h : val W < val Y) : W.getD n 0 ≤ Y.getD n 0 := by
  apply Classical.byContradiction
  intro hn
  rw [val_top h1, val_top h2] at h
  have b1 := val_bounds (limb_take hW n)
  have b2 := val_bounds (limb_take hY n)
  rw [List.length_take, Nat.min_eq_left (by omega)] at b1 b2
  have hp := pw_pos n
  have e : pw n * (Y.getD n 0 + 1) ≤ pw n * W.getD n 0 := Int.mul_le_mul_of_nonneg_left (by omega) (by omega)
  rw [Int.mul_add] at e
  omega
theorem guess_near {ps Y : List Int} {n : Nat} {g P U : Int} (hp : Limb ps) (hy : Limb Y) (h1 : ps.length = n + 3) (h2 : Y.length = n + 2) (hP : val ps = P) (hU : val Y = U) (htop : 1 ≤ Y.getD (n + 1) 0) (hlt : P < 4294967296 * U) (hg : 0 ≤ g ∧ g < 4294967296)
    (hA : g * (Y.getD (n + 1) 0 * 4294967296 + Y.getD n 0) ≤ (ps.getD (n + 2) 0 * 4294967296 + ps.getD (n + 1) 0) * 4294967296 + ps.getD n 0)
    (hB : 4294967296 ≤ g + 1 ∨ (ps.getD (n + 2) 0 * 4294967296 + ps.getD (n + 1) 0) * 4294967296 + ps.getD n 0 < (g + 1) * (Y.getD (n + 1) 0 * 4294967296 + Y.getD n 0)) :
    P < (g + 1) * U ∧ (g - 1) * U ≤ P := by
  have eP := val_top3 h1
  have eU := val_top2 h2
  have bP := val_bounds (limb_take hp n)
  have bU := val_bounds (limb_take hy n)
  rw [List.length_take, Nat.min_eq_left (by omega)] at bP bU
  rw [hP] at eP
  rw [hU] at eU
  have hv2 := (limb_getD hy n).1
  generalize (ps.getD (n + 2) 0 * 4294967296 + ps.getD (n + 1) 0) * 4294967296 + ps.getD n 0 = P3 at *
  have hU2 : 4294967296 ≤ Y.getD (n + 1) 0 * 4294967296 + Y.getD n 0 := by omega
  generalize Y.getD (n + 1) 0 * 4294967296 + Y.getD n 0 = U2 at *
  generalize val (ps.take n) = Pl at *
  generalize val (Y.take n) = Ul at *
  have hp1 := pw_pos n
  have hUp : 4294967296 * pw n ≤ pw n * U2 := by
    have : pw n * 4294967296 ≤ pw n * U2 := Int.mul_le_mul_of_nonneg_left hU2 (by omega)
    omega
  constructor
  · rcases hB with hB | hB
    · have : 4294967296 * U ≤ (g + 1) * U := Int.mul_le_mul_of_nonneg_right (by omega) (by omega)
      omega
    · have e1 : pw n * (P3 + 1) ≤ pw n * ((g + 1) * U2) := Int.mul_le_mul_of_nonneg_left (by omega) (by omega)
      have e2 : (g + 1) * U = (g + 1) * Ul + pw n * ((g + 1) * U2) := by
        rw [eU, Int.mul_add, ← Int.mul_assoc (g + 1) (pw n), Int.mul_comm (g + 1) (pw n), Int.mul_assoc]
      have e3 : 0 ≤ (g + 1) * Ul := Int.mul_nonneg (by omega) bU.1
      rw [Int.mul_add] at e1
      omega
  · have e1 : pw n * (g * U2) ≤ pw n * P3 := Int.mul_le_mul_of_nonneg_left hA (by omega)
    have e2 : g * U = g * Ul + pw n * (g * U2) := by
      rw [eU, Int.mul_add, ← Int.mul_assoc g (pw n), Int.mul_comm g (pw n), Int.mul_assoc]
    have e3 : g * Ul ≤ 4294967295 * Ul := Int.mul_le_mul_of_nonneg_right (by omega) bU.1
    rw [Int.sub_mul]
    omega
theorem rest_near {P U g A b p A2 c : Int} (_hU : 0 < U) (_hp : U < p) (hlow : P < (g + 1) * U) (hhigh : (g - 1) * U ≤ P) (hA : 0 ≤ A ∧ A < p) (_hb : 0 ≤ b ∧ b ≤ 1) (h : A - p * b = P - g * U) :
    (b = 0 → 0 ≤ A ∧ A < U ∧ P = g * U + A) ∧ (b = 1 → 0 ≤ A2 ∧ A2 < p → 0 ≤ c ∧ c ≤ 1 → A2 + p * c = A + U → 0 ≤ A2 ∧ A2 < U ∧ P = (g - 1) * U + A2) := by
  rw [Int.add_mul] at hlow
  rw [Int.sub_mul] at hhigh ⊢
  constructor
  · intro hb0
    rw [hb0, Int.mul_zero] at h
    omega
  · intro hb1 hA2 hc hs
    rw [hb1, Int.mul_one] at h
    have hc01 : c = 0 ∨ c = 1 := by omega
    rcases hc01 with hc0 | hc0
    · rw [hc0, Int.mul_zero] at hs; omega
    · rw [hc0, Int.mul_one] at hs; omega
theorem part_lt {W : List Int} {x U : Int} (hx : x < 4294967296) (h : val W < U) : val (x :: W) < 4294967296 * U := by
  rw [val]
  omega
theorem long_step {lo W W' Q : List Int} {x q U T : Int} (hinv : val (lo ++ [x]) + pw (lo.length + 1) * val W + U * (pw (lo.length + 1) * val Q) = T) (hp : val (x :: W) = q * U + val W') :
    val lo + pw lo.length * val W' + U * (pw lo.length * val (q :: Q)) = T := by
  rw [val_append] at hinv
  have e1 : val [x] = x := by simp [val]
  rw [e1] at hinv
  rw [val] at hp ⊢
  rw [pw] at hinv
  generalize pw lo.length = p at *
  have e2 : p * (x + 4294967296 * val W) = p * (q * U + val W') := by rw [hp]
  have e3 : 4294967296 * p * val W = p * (4294967296 * val W) := by rw [Int.mul_comm 4294967296 p, Int.mul_assoc]
  have e4 : U * (p * (q + 4294967296 * val Q)) = p * (q * U) + U * (4294967296 * p * val Q) := by
    rw [Int.mul_add, Int.mul_add, Int.mul_comm 4294967296 p, Int.mul_assoc p 4294967296, ← Int.mul_assoc U p q, Int.mul_comm U p, Int.mul_assoc p U q, Int.mul_comm U q]
  rw [Int.mul_add, Int.mul_add] at e2
  omega
theorem top_zero {W : List Int} {n : Nat} (hW : Limb W) (hl : W.length = n + 1) (h : val W < pw n) : val (W.take n) = val W ∧ W.getD n 0 = 0 := by
  have e := val_top hl
  have b := val_bounds (limb_take hW n)
  have h0 := (limb_getD hW n).1
  have hp := pw_pos n
  have hz : W.getD n 0 = 0 := by
    apply Classical.byContradiction
    intro hn
    have : pw n * 1 ≤ pw n * W.getD n 0 := Int.mul_le_mul_of_nonneg_left (by omega) (by omega)
    omega
  rw [hz, Int.mul_zero] at e
  exact ⟨by omega, hz⟩
end Lm
end Go.Proofs.YtnomflballofiaaGreat

namespace Go.Proofs.YtnomflballofiaaGreat
namespace Lm
open Go.RowKit
structure Wr2 (w w' : World) (g h : Nat) (c d : Array Value) (e : TypeId) : Prop where
  os : w'.os = w.os
  tape : w'.tape = w.tape
  output : w'.output = w.output
  size : w'.heap.size = w.heap.size
  here : w'.heap[g]? = some (.cells c e (0, 0))
  there : w'.heap[h]? = some (.cells d e (0, 0))
  other : ∀ k, k ≠ g → k ≠ h → w'.heap[k]? = w.heap[k]?
theorem Wr2.left {w w' w'' : World} {g h : Nat} {c d c' : Array Value} {e : TypeId} (H : Wr2 w w' g h c d e) (hn : h ≠ g) (K : Wr w' w'' g c' e) : Wr2 w w'' g h c' d e :=
  ⟨K.os.trans H.os, K.tape.trans H.tape, K.output.trans H.output, K.size.trans H.size, K.here, (K.other h hn).trans H.there, fun k h1 h2 => (K.other k h1).trans (H.other k h1 h2)⟩
theorem Wr2.right {w w' w'' : World} {g h : Nat} {c d d' : Array Value} {e : TypeId} (H : Wr2 w w' g h c d e) (hn : g ≠ h) (K : Wr w' w'' h d' e) : Wr2 w w'' g h c d' e :=
  ⟨K.os.trans H.os, K.tape.trans H.tape, K.output.trans H.output, K.size.trans H.size, (K.other g hn).trans H.here, K.here, fun k h1 h2 => (K.other k h2).trans (H.other k h1 h2)⟩
theorem Wr2.drewN {w w' : World} {g h : Nat} {c d : Array Value} {e : TypeId} (H : Wr2 w w' g h c d e) (n : Nat) : Wr2 w (w'.drewN n) g h c d e := ⟨H.os, H.tape, H.output, H.size, H.here, H.there, H.other⟩
theorem Wr2.below {w w' : World} {g h : Nat} {c d : Array Value} {e : TypeId} (H : Wr2 w w' g h c d e) {B : Nat} (h1 : B ≤ g) (h2 : B ≤ h) : Below B w w' :=
  ⟨H.os, H.tape, H.output, by rw [H.size]; exact Nat.le_refl _, fun k hk => H.other k (by omega) (by omega)⟩
theorem sl_of_at {w : World} {g o n cap : Nat} {cur : Array Value} {zs : List Int} (hh : w.heap[g]? = some (.cells cur 101 (0, 0))) (ha : At cur .u32 o zs) (hz : Limb zs) (hl : zs.length = n) (h1 : n ≤ cap) (h2 : cap ≤ maxLen) : Sl w (.slice (some ⟨g, o, none⟩) n cap) zs :=
  ⟨_, cap, by rw [hl], by omega, h2, hz, .inr ⟨g, o, rfl, fun i hi => ha.cell hh i hi⟩⟩
theorem At.take {cur : Array Value} {k : IntKind} {o : Nat} {zs : List Int} (h : At cur k o zs) (n : Nat) : At cur k o (zs.take n) := by
  intro i hi
  rw [List.length_take] at hi
  rw [h i (by omega), List.getD_eq_getElem?_getD, List.getD_eq_getElem?_getD, List.getElem?_take, if_pos (by omega)]
structure Dv (w3 wr : World) (A q N m n : Nat) (U T : Int) (k : Nat) (lo W rest Q : List Int) (cur d : Array Value) : Prop where
  two : Wr2 w3 wr A q cur d 101
  csz : cur.size = N + 1
  dsz : d.size = m
  atc : At cur .u32 0 (lo ++ W ++ rest)
  atd : At d .u32 0 (List.replicate k 0 ++ Q)
  lol : lo.length = k
  wl : W.length = n + 2
  ql : k + Q.length = m
  lil : Limb lo
  liW : Limb W
  liQ : Limb Q
  low : val W < U
  inv : val lo + pw k * val W + U * (pw k * val Q) = T
theorem split_last {lo : List Int} {k : Nat} (h : lo.length = k + 1) : ∃ lo' x, lo = lo' ++ [x] ∧ lo'.length = k :=
  ⟨lo.take k, lo.getD k 0, by rw [← take_succ_getD lo k (by omega), List.take_of_length_le (by omega)], by rw [List.length_take]; omega⟩
theorem Dv.mid {w3 wr : World} {A q N m n : Nat} {U T : Int} {k : Nat} {lo W rest Q : List Int} {x : Int} {cur d : Array Value} (D : Dv w3 wr A q N m n U T (k + 1) (lo ++ [x]) W rest Q cur d) (hl : lo.length = k) : At cur .u32 k (x :: W) ∧ Limb (x :: W) := by
  have h1 := D.atc
  rw [show lo ++ [x] ++ W ++ rest = lo ++ (x :: W) ++ rest by simp] at h1
  have h2 := at_mid h1
  rw [hl] at h2
  have h3 := D.lil
  rw [limb_append] at h3
  exact ⟨h2, limb_cons.2 ⟨(limb_cons.1 h3.2).1, D.liW⟩⟩
theorem set_zeros (k : Nat) (Q : List Int) (g : Int) : (List.replicate (k + 1) (0 : Int) ++ Q).set k g = List.replicate k 0 ++ g :: Q := by
  have h := set_cons (List.replicate (k + 1) (0 : Int)) Q k g (by simp)
  rw [List.take_of_length_le (by simp), List.take_replicate, Nat.min_eq_left (by omega)] at h
  exact h
theorem Dv.step {w3 wr w5 : World} {A q N m n : Nat} {U T : Int} {k : Nat} {lo W rest Q qs : List Int} {x g : Int} {cur d cur' : Array Value} (D : Dv w3 wr A q N m n U T (k + 1) (lo ++ [x]) W rest Q cur d) (hl : lo.length = k) (hn : A ≠ q)
    (two : Wr2 w3 w5 A q cur' d 101) (hcs : cur'.size = cur.size) (hat : At cur' .u32 k qs) (hout : ∀ i, i < k ∨ k + (n + 2 + 1) ≤ i → cur'[i]? = cur[i]?) (hq : Limb qs) (hql : qs.length = n + 2 + 1) (hU : U ≤ pw (n + 2)) (hlt : val qs < U) (hv : val (x :: W) = g * U + val qs) (hg : 0 ≤ g ∧ g < 4294967296) :
    Dv w3 (w5.setCell ⟨q, k, none⟩ (.int .u32 g)) A q N m n U T k lo (qs.take (n + 2)) (qs.drop (n + 2) ++ rest) (g :: Q) cur' (d.setIfInBounds k (.int .u32 g)) := by
  have htz := top_zero hq hql (by omega)
  have h3 := D.lil
  rw [limb_append] at h3
  have hinv := D.inv
  rw [← hl] at hinv
  have hat1 : At cur .u32 0 (lo ++ (x :: W) ++ rest) := by
    have := D.atc
    rwa [show lo ++ [x] ++ W ++ rest = lo ++ (x :: W) ++ rest by simp] at this
  have hat2 := at_window hat1 (by rw [hl]; exact hat) (by have := D.wl; simp; omega) (by
    have e : (x :: W).length = n + 2 + 1 := by have := D.wl; simp; omega
    rw [hl, e]; exact hout)
  refine ⟨two.right hn ((Wr.refl two.there).set k _), by rw [hcs]; exact D.csz, by simpa using D.dsz, ?_, ?_, hl, by rw [List.length_take]; omega, by have := D.ql; simp; omega, h3.1, limb_take hq _, limb_cons.2 ⟨hg, D.liQ⟩, by rw [htz.1]; exact hlt, ?_⟩
  · rw [List.append_assoc, ← List.append_assoc (qs.take (n + 2)), List.take_append_drop, ← List.append_assoc]
    exact hat2
  · rw [← set_zeros]
    have := D.atd.set k g
    rwa [Nat.zero_add] at this
  · rw [htz.1]
    have := long_step (W' := qs) (q := g) hinv hv
    rwa [hl] at this
theorem long_start {O : List Int} {m n : Nat} {P : Int} (hO : Limb O) (hm : m ≤ O.length) (hv : val O < pw m * (pw (n + 1) * P)) : val (O.drop m) < pw (n + 1) * P := by
  have h1 := val_append (O.take m) (O.drop m)
  rw [List.take_append_drop, List.length_take, Nat.min_eq_left hm] at h1
  have h2 := (val_bounds (limb_take hO m)).1
  apply Classical.byContradiction
  intro hn
  have h3 : pw m * (pw (n + 1) * P) ≤ pw m * val (O.drop m) := Int.mul_le_mul_of_nonneg_left (by omega) (by have := pw_pos m; omega)
  omega
theorem long_end {X Y Q W P : Int} (hP : 0 < P) (hY : 0 < Y) (h : W + Y * P * Q = X * P) (h0 : 0 ≤ W) (h1 : W < Y * P) : X / Y = Q ∧ X % Y = W / P := by
  have e1 : W = (X - Q * Y) * P := by
    have : Y * P * Q = Q * Y * P := by rw [Int.mul_comm (Y * P), Int.mul_assoc]
    rw [Int.sub_mul]
    omega
  have e2 : W / P = X - Q * Y := by rw [e1]; exact Int.mul_ediv_cancel _ (by omega)
  rw [e2]
  obtain ⟨R, hR⟩ : ∃ R, R = X - Q * Y := ⟨_, rfl⟩
  rw [← hR] at e1 ⊢
  have hR0 : 0 ≤ R := by
    apply Classical.byContradiction
    intro hn
    have : R * P ≤ -1 * P := Int.mul_le_mul_of_nonneg_right (by omega) (by omega)
    omega
  have hR1 : R < Y := by
    apply Classical.byContradiction
    intro hn
    have : Y * P ≤ R * P := Int.mul_le_mul_of_nonneg_right (by omega) (by omega)
    omega
  exact div_of hY (by omega) hR0 hR1
theorem norm_val {v : Int} {n l s : Nat} (hb : IsBits v (32 * (n + 1) + l)) (hl : 0 < l) (hs : s + l = 32) : v * p2 s < pw (n + 2) ∧ pw (n + 1) * 2147483648 ≤ v * p2 s := by
  have hp := p2_pos s
  obtain ⟨h1, h2⟩ := hb
  have h3 : p2 (32 * (n + 1) + l - 1) ≤ v := by rcases h2 with h0 | h0 <;> omega
  constructor
  · have : v * p2 s < p2 (32 * (n + 1) + l) * p2 s := Int.mul_lt_mul_of_pos_right h1 (by omega)
    rw [← p2_add, show 32 * (n + 1) + l + s = 32 * (n + 2) by omega, ← pw_p2] at this
    exact this
  · have : p2 (32 * (n + 1) + l - 1) * p2 s ≤ v * p2 s := Int.mul_le_mul_of_nonneg_right h3 (by omega)
    rw [← p2_add, show 32 * (n + 1) + l - 1 + s = 32 * (n + 1) + 31 by omega, p2_add, ← pw_p2, show p2 31 = 2147483648 from by decide] at this
    exact this
theorem norm_top {Y : List Int} {n : Nat} (hY : Limb Y) (hl : Y.length = n + 2) (h : pw (n + 1) * 2147483648 ≤ val Y) : 2147483648 ≤ Y.getD (n + 1) 0 := by
  have e := val_top (n := n + 1) hl
  have b := val_bounds (limb_take hY (n + 1))
  rw [List.length_take, Nat.min_eq_left (by omega)] at b
  apply Classical.byContradiction
  intro hn
  have : pw (n + 1) * (Y.getD (n + 1) 0 + 1) ≤ pw (n + 1) * 2147483648 := Int.mul_le_mul_of_nonneg_left (by omega) (by have := pw_pos (n + 1); omega)
  rw [Int.mul_add] at this
  omega
end Lm
end Go.Proofs.YtnomflballofiaaGreat

namespace Go.Proofs.YtnomflballofiaaGreat
namespace Lm
open Go.RowKit
set_option maxRecDepth 20000 in
set_option maxHeartbeats 2000000 in
theorem divideLong_any (w : World) (a1 a2 : Option Addr) (n1 n2 c1 c2 : Nat) (xs ys : List Int) (hx : Sl w (.slice a1 n1 c1) xs) (hy : Sl w (.slice a2 n2 c2) ys) (hm1 : xs.length ≤ 500000) (h2 : 2 ≤ ys.length) (hle : ys.length ≤ xs.length) (hcan : Canon ys) :
    Calls Tryz.prog 107 #[.slice a1 n1 c1, .slice a2 n2 c2] w fun e w' => ∃ v1 v2, e = .returned (.tuple #[v1, v2]) ∧ Is w.heap.size w' v1 (val xs / val ys) ∧ Is w.heap.size w' v2 (val xs % val ys) ∧ Sep v1 v2 ∧ Below w.heap.size w w' := by
  obtain ⟨rfl, x1, x2, x3⟩ := hx.parts
  obtain ⟨hyl, y1, y2, y3⟩ := hy.parts
  obtain ⟨n, hn⟩ : ∃ n, ys.length = n + 2 := ⟨ys.length - 2, by omega⟩
  have e2 : n2 = n + 2 := by omega
  subst e2
  obtain ⟨b, off, rfl, hc⟩ := hy.cells (by omega)
  have hcell := hc (n + 1) (by omega)
  have hlb := limb_getD y3 (n + 1)
  have hpos : 0 < ys.getD (n + 1) 0 := by
    have : ys.getD (n + 1) 0 ≠ 0 := fun h0 => by
      have := tl_le_of_zero (zs := ys) (n := n + 1) (by have := tl_le ys; omega) h0
      have := hcan.2
      omega
    omega
  have hbits := bitLen_bits (ys.getD (n + 1) 0).toNat (by omega)
  rw [Int.toNat_of_nonneg hlb.1] at hbits
  have hl32 : Lib.bitLen (ys.getD (n + 1) 0).toNat ≤ 32 := Lib.bitLen_le _ 32 (by omega) (by omega)
  have hl0 := isBits_pos hbits hpos
  obtain ⟨s, hs⟩ : ∃ s : Nat, s + Lib.bitLen (ys.getD (n + 1) 0).toNat = 32 := ⟨32 - Lib.bitLen (ys.getD (n + 1) 0).toNat, by omega⟩
  have NV := hide (norm_val (bits_top hcan hn hbits hpos) hl0 hs)
  have kl : Hid (∀ w : World, Calls Tryz.prog 120 #[.int .u32 (ys.getD (n + 1) 0)] w fun e w' => e = .returned (.int .i64 (s : Nat)) ∧ w' = w) := by
    intro w
    have h9 := lead_any (ys.getD (n + 1) 0) w hlb.1 hlb.2
    rwa [show (32 - ((Lib.bitLen (ys.getD (n + 1) 0).toNat : Nat) : Int)) = (s : Nat) by omega] at h9
  have hs31 : s ≤ 31 := by omega
  have YL := hide (show pw (n + 1) ≤ val ys by
    have h9 := canon_low hcan (by intro e; subst e; simp at h2)
    rwa [hn] at h9)
  have HN := hide hn
  have X3 := hide x3
  have hxn : n + 2 ≤ xs.length := by omega
  obtain ⟨m, hm2, hm3⟩ : ∃ m, m + n + 1 ≤ xs.length ∧ xs.length ≤ m + n + 1 := ⟨xs.length - (n + 1), by omega, by omega⟩
  generalize ys.getD (n + 1) 0 = top at hcell hlb hpos kl
  obtain ⟨i0, hi, hz0, hz1, hz2⟩ := info_parts info32
  clear hs hl0 hl32 hbits hc y3 hyl hcan h2 hle hn x3
  go_enter Tryz.func107, Tryz.ntmps107
  go_wp2_with fail
  refine (kl.out _).mono ?_
  rintro e w' ⟨rfl, rfl⟩
  go_wp2_with fail
  refine (moveUp_any _ _ _ _ xs hx s hs31 (by omega)).mono ?_
  rintro e w1 ⟨cur0, O, rfl, hO, hOl, hOv, hOh, hOs, hOa, hb1⟩
  have hy1 := hy.below hb1
  have O1 := hide hO
  have O2 := hide hOl
  have O3 := hide hOv
  have O4 := hide hOh
  have O5 := hide hOs
  have O6 := hide hOa
  clear hO hOl hOv hOh hOs hOa
  go_wp2_with fail
  refine (moveUp_any _ _ _ _ ys hy1 s hs31 (by have := HN.out; omega)).mono ?_
  rintro e w2 ⟨curY, Y1, rfl, hY, hYl, hYv, hYh, hYs, hYa, hb2⟩
  have Q1 := hide hY
  have Q2 := hide hYl
  have Q3 := hide hYv
  have Q4 := hide hYh
  have Q5 := hide hYs
  have Q6 := hide hYa
  clear hY hYl hYv hYh hYs hYa
  go_wp2_with (refine wpList_make_full _ rfl (.tmp 34) (.tmp 34) 36 rfl w2.heap.size 101 i0 (.int .u32 0) 1 Tryz.underlying36 hi hz0 hz1 .i64 .i64 _ _ m rfl rfl (by omega) (by omega) (by rw [hz2]; omega) (by unfold maxLen; omega) (Nat.le_refl _) ?hK)
  case hK =>
    intro w3 hown hgrow
    obtain ⟨_, d0, hh, hds, hat⟩ := block_of_made hown
    have hb3 : Below w2.heap.size w2 w3 := (Below.refl w2.heap.size w2).grown hgrow (Nat.le_refl _) (by simp)
    have s1 := lt_of_heap O4.out
    have s2 := lt_of_heap Q4.out
    have s3 := lt_of_heap hh
    have hU : Hid (val (Y1.take (n + 2)) = val ys * p2 s ∧ (Y1.take (n + 2)).length = n + 2 ∧ Limb (Y1.take (n + 2)) ∧ At curY .u32 0 (Y1.take (n + 2))) := by
      have h9 := top_zero Q1.out Q2.out (by rw [Q3.out]; exact NV.out.1)
      exact ⟨by rw [h9.1, Q3.out], by rw [List.length_take, Q2.out]; omega, limb_take Q1.out _, Q6.out.take _⟩
    generalize Y1.take (n + 2) = Y at hU
    have htop : Hid (2147483648 ≤ Y.getD (n + 1) 0) := norm_top hU.out.2.2.1 hU.out.2.1 (by rw [hU.out.1]; exact NV.out.2)
    have U3 : Hid (w3.heap[w1.heap.size]? = some (.cells curY 101 (0, 0))) := (hb3.block _ s2).trans Q4.out
    have hne : w'.heap.size ≠ w2.heap.size := by omega
    have hne2 : w1.heap.size ≠ w2.heap.size := by omega
    have hne3 : w1.heap.size ≠ w'.heap.size := by omega
    have hstart : Hid (Dv w3 w3 w'.heap.size w2.heap.size xs.length m n (val ys * p2 s) (val xs * p2 s) m (O.take m) (O.drop m) [] [] cur0 d0) := by
      have hp := p2_pos s
      have e9 : w3.heap[w'.heap.size]? = some (.cells cur0 101 (0, 0)) := (hb3.block _ (by omega)).trans ((hb2.block _ s1).trans O4.out)
      refine ⟨⟨rfl, rfl, rfl, rfl, e9, hh, fun _ _ _ => rfl⟩, O5.out, hds, ?_, ?_, ?_, ?_, by simp, limb_take O1.out _, limb_drop O1.out _, limb_nil, ?_, ?_⟩
      · rw [List.take_append_drop, List.append_nil]; exact O6.out
      · rw [List.append_nil]; exact hat
      · have := O2.out; rw [List.length_take]; omega
      · have := O2.out; rw [List.length_drop]; omega
      · have h8 : val xs * p2 s < pw xs.length * p2 s := Int.mul_lt_mul_of_pos_right (val_bounds X3.out).2 (by omega)
        rw [show xs.length = m + (n + 1) by omega, pw_add, Int.mul_assoc] at h8
        have h9 := long_start (m := m) (n := n) (P := p2 s) O1.out (by have := O2.out; omega) (by rw [O3.out]; exact h8)
        have h10 : pw (n + 1) * p2 s ≤ val ys * p2 s := Int.mul_le_mul_of_nonneg_right YL.out (by omega)
        omega
      · have h9 := val_append (O.take m) (O.drop m)
        rw [List.take_append_drop, List.length_take, Nat.min_eq_left (by have := O2.out; omega), O3.out] at h9
        rw [h9]
        simp [val]
    clear hown hgrow hh hds hat
    go_wp2
    go_loopw [10] (fun i wr => ∃ (k : Nat) (lo W rest Q : List Int) (cur d : Array Value), k ≤ m ∧ i = .int .i64 ((k : Int) - 1) ∧ Dv w3 wr w'.heap.size w2.heap.size xs.length m n (val ys * p2 s) (val xs * p2 s) k lo W rest Q cur d) (fun i _ => (intOf i + 1).toNat)
    case atStart => exact ⟨m, _, _, _, _, _, _, Nat.le_refl _, by first | rfl | (congr 1; omega), hstart.out⟩
    case round =>
      obtain ⟨k, lo, W, rest, Q, cur, d, hk, rfl, hD⟩ := hrel
      have D := hide hD
      clear hD
      cases k with
      | zero =>
        have hlo : lo = [] := List.eq_nil_of_length_eq_zero D.out.lol
        subst hlo
        have hatQ : At d .u32 0 Q := by simpa using D.out.atd
        have hatW : At cur .u32 0 W := at_mid (A := []) D.out.atc
        have hQm : Q.length = m := by have := D.out.ql; omega
        have hp := p2_pos s
        have hend : val xs / val ys = val Q ∧ val xs % val ys = val W / p2 s := by
          have h9 := D.out.inv
          simp only [val, pw, Int.one_mul, Int.zero_add] at h9
          have h8 := pw_pos (n + 1)
          exact long_end (by omega) (by have := YL.out; omega) h9 (val_bounds D.out.liW).1 D.out.low
        have hbel : Below w'.heap.size w' wr := hb1.trans ((hb2.mono hb1.size).trans ((hb3.mono (by omega)).trans (D.out.two.below (by omega) (by omega))))
        have how : Ow w'.heap.size wr (.slice (some ⟨w2.heap.size, 0, none⟩) m m) Q :=
          ⟨_, m, by rw [hQm], by omega, by unfold maxLen; omega, D.out.liQ, .inr ⟨_, 0, _, rfl, by omega, D.out.two.there, by rw [D.out.dsz]; omega, hatQ⟩⟩
        have his := hide (how.is_cut (x := val xs / val ys) hend.1.symm)
        have hWs : Sl wr (.slice (some ⟨w'.heap.size, 0, none⟩) (n + 2) (xs.length + 1)) W := sl_of_at D.out.two.here hatW D.out.liW D.out.wl (by omega) (by unfold maxLen; omega)
        have HE := hide hend.2
        have hWl : W.length ≤ 1000000 := by have := D.out.wl; omega
        have ht := tl_le Q
        have htm : tl Q ≤ m := by omega
        have HO := hide how
        clear hend hatQ hatW hQm how ht
        go_wp2
        go_region_with (first
          | (go_at_call 76; refine (cut_any _ _ _ _ Q (HO.out.sl.below (by repeat (first | exact Below.refl _ _ | refine Below.drew ?_)))).mono ?_; rintro e wc ⟨rfl, rfl⟩)
          | (go_at_call 125; refine (moveDown_any _ _ _ _ W (hWs.below (by repeat (first | exact Below.refl _ _ | refine Below.drew ?_))) s hs31 hWl).mono ?_; rintro e wd ⟨vd, rfl, hi, hbd⟩))
        all_goals
          have hbd' := (show Below wr.heap.size wr _ by repeat (first | exact Below.refl _ _ | refine Below.drew ?_)).trans hbd
          have his' := his.out.below hbd'
          have hi' := hi.mono (B' := wr.heap.size) (by first | exact Nat.le_refl _ | simp)
          clear hbd hi
          go_wp2
          go_ret2
          obtain ⟨q1, q2, q3, q4⟩ := his.out
          obtain ⟨s1, s2, s3, s4⟩ := hi'
          exact ⟨_, _, rfl, his', ⟨s1, s2.mono hbel.size, s3, by rw [s4, HE.out]⟩, sep_of q2 s2 (Nat.le_refl _), hbel.trans (hbd'.mono hbel.size)⟩
      | succ k =>
        obtain ⟨lo', x, hlo, hll⟩ := split_last D.out.lol
        subst hlo
        have LL := hide hll
        have MD := hide (D.out.mid hll)
        clear hll
        have hxW : (x :: W).length = n + 2 + 1 := by have := D.out.wl; simp; omega
        have hPU : val (x :: W) < 4294967296 * (val ys * p2 s) := part_lt ((limb_cons.1 MD.out.2).1.2) D.out.low
        have e0 : k + (n + 2) + 1 - k = n + 2 + 1 := by omega
        have hYsl : ∀ wq cq, Wr wr wq w'.heap.size cq 101 → Sl wq (.slice (some ⟨w1.heap.size, 0, none⟩) (n + 2) (n + 2 + 1)) Y := by
          intro wq cq hq
          refine sl_of_at (cur := curY) ?_ hU.out.2.2.2 hU.out.2.2.1 hU.out.2.1 (by omega) (by unfold maxLen; omega)
          rw [hq.other _ hne3, D.out.two.other _ hne3 hne2]
          exact U3.out
        have hup : (x :: W).getD (n + 2) 0 ≤ Y.getD (n + 1) 0 := by
          have h9 := top_le (n := n + 1) D.out.liW hU.out.2.2.1 D.out.wl hU.out.2.1 (by rw [hU.out.1]; exact D.out.low)
          simpa using h9
        have kg : Hid (Calls Tryz.prog 122 #[.slice (some ⟨w'.heap.size, k, none⟩) (k + (n + 2) + 1 - k) (xs.length + 1 - k), .slice (some ⟨w1.heap.size, 0, none⟩) (n + 2) (n + 2 + 1)] wr fun e wz => ∃ g : Int, e = .returned (.int .u32 g) ∧ (0 ≤ g ∧ g < 4294967296) ∧ (val (x :: W) < (g + 1) * (val ys * p2 s) ∧ (g - 1) * (val ys * p2 s) ≤ val (x :: W)) ∧ ∃ q, wz = wr.drewN q) := by
          rw [e0]
          refine (guess_any wr _ _ n _ _ (x :: W) Y (sl_of_at D.out.two.here MD.out.1 MD.out.2 hxW (by omega) (by unfold maxLen; omega)) (hYsl _ _ (Wr.refl D.out.two.here)) htop.out hup).mono ?_
          rintro e wq ⟨g, rfl, hg, hA, hB, hq⟩
          exact ⟨g, rfl, hg, guess_near MD.out.2 hU.out.2.2.1 hxW hU.out.2.1 rfl hU.out.1 (by have := htop.out; omega) hPU hg hA hB, hq⟩
        have kt : Hid (∀ q g, 0 ≤ g ∧ g < 4294967296 → Calls Tryz.prog 123 #[.slice (some ⟨w'.heap.size, k, none⟩) (k + (n + 2) + 1 - k) (xs.length + 1 - k), .slice (some ⟨w1.heap.size, 0, none⟩) (n + 2) (n + 2 + 1), .int .u32 g] (wr.drewN q) fun e wz => ∃ qs b cur', e = .returned (.bool (b != 0)) ∧ (0 ≤ b ∧ b ≤ 1) ∧ val qs - pw (n + 2 + 1) * b = val (x :: W) - g * val Y ∧ Limb qs ∧ qs.length = n + 2 + 1 ∧ Wr (wr.drewN q) wz w'.heap.size cur' 101 ∧ cur'.size = cur.size ∧ At cur' .u32 k qs ∧ (∀ i, i < k ∨ k + (n + 2 + 1) ≤ i → cur'[i]? = cur[i]?)) := by
          intro q g hg
          rw [e0]
          exact takeTimes_any (wr.drewN q) _ k (n + 2) _ _ cur (x :: W) Y _ g hg (D.out.two.drewN q).here MD.out.1 MD.out.2 hxW (by omega) (fun wq cq hq => hYsl wq cq ⟨hq.os, hq.tape, hq.output, hq.size, hq.here, hq.other⟩)
        have kb : Hid (∀ (wq : World) (cq : Array Value) (ps : List Int), Wr wr wq w'.heap.size cq 101 → At cq .u32 k ps → Limb ps → ps.length = n + 2 + 1 → Calls Tryz.prog 124 #[.slice (some ⟨w'.heap.size, k, none⟩) (k + (n + 2) + 1 - k) (xs.length + 1 - k), .slice (some ⟨w1.heap.size, 0, none⟩) (n + 2) (n + 2 + 1)] wq fun e wz => ∃ qs c cur', e = .returned (.tuple #[]) ∧ (0 ≤ c ∧ c ≤ 1) ∧ val qs + pw (n + 2 + 1) * c = val ps + val Y ∧ Limb qs ∧ qs.length = n + 2 + 1 ∧ Wr wq wz w'.heap.size cur' 101 ∧ cur'.size = cq.size ∧ At cur' .u32 k qs ∧ (∀ i, i < k ∨ k + (n + 2 + 1) ≤ i → cur'[i]? = cq[i]?)) := by
          intro wq cq ps hq ha hp hl
          rw [e0]
          exact addBack_any wq _ k (n + 2) _ _ cq ps Y _ hq.here ha hp hl (by omega) (fun wz cz hz => hYsl wz cz (hq.trans hz))
        clear hxW hPU e0 hYsl hup
        go_wp2_with fail
        refine (kg.out).mono ?_
        rintro e w4 ⟨g, rfl, hg, hnear, q1, rfl⟩
        have NR := hide hnear
        clear hnear
        go_wp2_with fail
        refine (kt.out q1 g hg).mono ?_
        rintro e w5 ⟨qs, bo, cur', rfl, hbo, hv, hq, hql, hwr, hcs, hat, hout⟩
        have V1 := hide hv
        have V2 := hide hq
        have V3 := hide hql
        have V4 := hide hwr
        have V5 := hide hcs
        have V6 := hide hat
        have V7 := hide hout
        clear hv hq hql hwr hcs hat hout
        have hqb : Hid (0 ≤ val qs ∧ val qs < pw (n + 2 + 1)) := by
          have h9 := val_bounds V2.out
          rwa [V3.out] at h9
        have hU0 : Hid (0 < val ys * p2 s ∧ val ys * p2 s < pw (n + 2 + 1) ∧ val ys * p2 s ≤ pw (n + 2)) := by
          have h9 := NV.out
          have h8 := pw_mono (m := n + 2) (n := n + 2 + 1) (by omega)
          have h7 := pw_pos (n + 1)
          exact ⟨by omega, by omega, by omega⟩
        have V8 : Hid (val qs - pw (n + 2 + 1) * bo = val (x :: W) - g * (val ys * p2 s)) := by rw [← hU.out.1]; exact V1.out
        by_cases hb0 : bo = 0
        · have two := hide ((D.out.two.drewN q1).left hne.symm V4.out)
          have near := (rest_near (A2 := 0) (c := 0) hU0.out.1 hU0.out.2.1 NR.out.1 NR.out.2 hqb.out hbo V8.out).1 hb0
          have ST := hide (D.out.step LL.out hne two.out V5.out V6.out V7.out V2.out V3.out hU0.out.2.2 near.2.1 near.2.2 hg)
          have hcq := D.out.atd.cell two.out.there k (by have := D.out.ql; simp; omega)
          rw [Nat.zero_add] at hcq
          generalize (List.replicate (k + 1) (0 : Int) ++ Q).getD k 0 = old at hcq
          have hfree := (Wr.refl two.out.there).free k
          clear near
          subst hb0
          go_wp2
          go_roundw
          case rel => exact ⟨k, _, _, _, _, _, _, by omega, by first | rfl | go_num, ST.out⟩
          case measure => simp [intOf]
        · have hb1' : bo = 1 := by omega
          subst hb1'
          have hg1 : 1 ≤ g := by
            apply Classical.byContradiction
            intro hn
            have h9 := V8.out
            have h8 := hqb.out
            have h7 := (val_bounds MD.out.2).1
            rw [show g = 0 by omega, Int.zero_mul, Int.mul_one] at h9
            omega
          have KB := hide (kb.out w5 cur' qs ⟨V4.out.os, V4.out.tape, V4.out.output, V4.out.size, V4.out.here, V4.out.other⟩ V6.out V2.out V3.out)
          go_wp2_with fail
          refine (KB.out).mono ?_
          rintro e w6 ⟨q2, c, cur2, rfl, hc, hv, hq, hql, hwr, hcs, hat, hout⟩
          have hq2 : 0 ≤ val q2 ∧ val q2 < pw (n + 2 + 1) := by
            have h9 := val_bounds hq
            rwa [hql] at h9
          have two := hide (((D.out.two.drewN q1).left hne.symm V4.out).left hne.symm hwr)
          have near := (rest_near (A2 := val q2) (c := c) hU0.out.1 hU0.out.2.1 NR.out.1 NR.out.2 hqb.out hbo V8.out).2 rfl hq2 hc (by rw [← hU.out.1]; exact hv)
          have ST := hide (D.out.step LL.out hne two.out (hcs.trans V5.out) hat (fun i hi => (hout i hi).trans (V7.out i hi)) hq hql hU0.out.2.2 near.2.1 near.2.2 (by omega))
          have hcq := D.out.atd.cell two.out.there k (by have := D.out.ql; simp; omega)
          rw [Nat.zero_add] at hcq
          generalize (List.replicate (k + 1) (0 : Int) ++ Q).getD k 0 = old at hcq
          have hfree := (Wr.refl two.out.there).free k
          clear near hq2 hv hq hql hwr hcs hat hout
          go_wp2
          go_roundw
          case rel => exact ⟨k, _, _, _, _, _, _, by omega, by first | rfl | go_num, ST.out⟩
          case measure => simp [intOf]
end Lm
end Go.Proofs.YtnomflballofiaaGreat

namespace Go.Proofs.YtnomflballofiaaGreat
namespace Lm
open Go.RowKit
set_option maxRecDepth 20000 in
set_option maxHeartbeats 1000000 in
theorem divmod_long (w : World) (a1 a2 : Option Addr) (n1 n2 c1 c2 : Nat) (xs ys : List Int) (hx : Sl w (.slice a1 n1 c1) xs) (hy : Sl w (.slice a2 n2 c2) ys) (hm1 : xs.length ≤ 500000) (hle : tl ys ≤ tl xs) (h2 : 2 ≤ tl ys) :
    Calls Tryz.prog 86 #[.slice a1 n1 c1, .slice a2 n2 c2] w fun e w' => ∃ v1 v2, e = .returned (.tuple #[v1, v2, .bool true]) ∧ Is w.heap.size w' v1 (val xs / val ys) ∧ Is w.heap.size w' v2 (val xs % val ys) ∧ Sep v1 v2 ∧ Below w.heap.size w w' := by
  obtain ⟨rfl, h1, _, h3⟩ := hx.parts
  obtain ⟨rfl, g1, _, g3⟩ := hy.parts
  have t1 := tl_le xs
  have t2 := tl_le ys
  have kd := divideLong_any w a1 a2 (tl xs) (tl ys) c1 c2 _ _ hx.cut hy.cut (by rw [List.length_take]; omega) (by rw [List.length_take]; omega) (by rw [List.length_take, List.length_take]; omega) (canon_trim g3)
  rw [val_take_tl, val_take_tl] at kd
  have KD := hide kd
  clear kd h3 g3
  have hne : (((tl ys : Nat) : Int) == 0) = false := by simp; omega
  have hne1 : (((tl ys : Nat) : Int) == 1) = false := by simp; omega
  go_enter Tryz.func86, Tryz.ntmps86
  go_wp2_with fail
  refine (cut_any w a1 _ c1 xs hx).mono ?_
  rintro e w' ⟨rfl, rfl⟩
  go_wp2_with fail
  refine (cut_any _ a2 _ c2 ys hy).mono ?_
  rintro e w' ⟨rfl, rfl⟩
  go_wp2_with fail
  refine (KD.out).mono ?_
  rintro e w1 ⟨v1, v2, rfl, hi1, hi2, hsep, hb⟩
  go_wp2
  go_ret3
  exact ⟨_, _, rfl, hi1, hi2, hsep, hb⟩
theorem divmod_any (w : World) (a1 a2 : Option Addr) (n1 n2 c1 c2 : Nat) (xs ys : List Int) (hx : Sl w (.slice a1 n1 c1) xs) (hy : Sl w (.slice a2 n2 c2) ys) (hm1 : xs.length ≤ 500000) (h0 : val ys ≠ 0) :
    Calls Tryz.prog 86 #[.slice a1 n1 c1, .slice a2 n2 c2] w fun e w' => ∃ v1 v2, e = .returned (.tuple #[v1, v2, .bool true]) ∧ Is w.heap.size w' v1 (val xs / val ys) ∧ Is w.heap.size w' v2 (val xs % val ys) ∧ Sep v1 v2 ∧ Below w.heap.size w w' := by
  have hz : 0 < tl ys := by
    apply Classical.byContradiction
    intro hn
    exact h0 (tl_zero (by omega))
  by_cases h1 : tl xs < tl ys
  · exact divmod_less w a1 a2 n1 n2 c1 c2 xs ys hx hy (by omega) h1
  · by_cases h2 : tl ys = 1
    · exact divmod_short w a1 a2 n1 n2 c1 c2 xs ys hx hy (by omega) (by omega) h2
    · exact divmod_long w a1 a2 n1 n2 c1 c2 xs ys hx hy hm1 (by omega) (by omega)
theorem divmod_none (w : World) (a1 a2 : Option Addr) (n1 n2 c1 c2 : Nat) (xs ys : List Int) (hx : Sl w (.slice a1 n1 c1) xs) (hy : Sl w (.slice a2 n2 c2) ys) (h0 : val ys = 0) :
    Calls Tryz.prog 86 #[.slice a1 n1 c1, .slice a2 n2 c2] w fun e w' => e = .returned (.tuple #[.slice none 0 0, .slice none 0 0, .bool false]) ∧ Below w.heap.size w w' := by
  refine divmod_zero w a1 a2 n1 n2 c1 c2 xs ys hx hy ?_
  apply Classical.byContradiction
  intro hn
  have := val_pos_tl hy.parts.2.2.2 (by omega)
  omega
theorem divmod_g (w : World) (a1 a2 : Option Addr) (n1 n2 c1 c2 : Nat) (xs ys : List Int) (hx : Sl w (.slice a1 n1 c1) xs) (hy : Sl w (.slice a2 n2 c2) ys) (hm1 : xs.length ≤ 500000) (h0 : val ys ≠ 0) :
    Calls Tryz.prog 86 #[.slice a1 n1 c1, .slice a2 n2 c2] w fun e w' => ∃ ao cap rs bo dap ss, e = .returned (.tuple #[.slice ao rs.length cap, .slice bo ss.length dap, .bool true]) ∧ Got w' ao cap rs (val xs / val ys) ∧ Got w' bo dap ss (val xs % val ys) ∧ rs.length ≤ xs.length ∧ ss.length ≤ ys.length ∧ Below w.heap.size w w' := by
  refine (divmod_any w a1 a2 n1 n2 c1 c2 xs ys hx hy hm1 h0).mono ?_
  rintro e w' ⟨v1, v2, rfl, hi1, hi2, _, hb⟩
  obtain ⟨ao, cap, rs, rfl, hg1⟩ := hi1.got
  obtain ⟨bo, dap, ss, rfl, hg2⟩ := hi2.got
  have bx := val_bounds hx.parts.2.2.2
  have by' := val_bounds hy.parts.2.2.2
  refine ⟨ao, cap, rs, bo, dap, ss, rfl, hg1, hg2, le_len hx.parts.2.2.2 hg1.canon ?_, le_len hy.parts.2.2.2 hg2.canon ?_, hb⟩
  · rw [hg1.val]
    exact Int.ediv_le_self _ bx.1
  · rw [hg2.val]
    have := Int.emod_lt_of_pos (val xs) (show 0 < val ys by omega)
    omega
end Lm
end Go.Proofs.YtnomflballofiaaGreat

namespace Go.Proofs.YtnomflballofiaaGreat
namespace Lm
open Go.RowKit
theorem boxed4 (w : World) (nx : Bool) (vx : Value) (ny : Bool) (vy : Value) : ∃ w0 : World, (((w.alloc (.cells #[.bool nx, vx] 38)).alloc (.cells #[.bool ny, vy] 38)).alloc (.cells #[.bool false, .slice none 0 0] 38)).alloc (.cells #[.bool false, .slice none 0 0] 38) = w0 ∧ Box w0 w.heap.size nx vx ∧ Box w0 (w.heap.size + 1) ny vy ∧ Box w0 (w.heap.size + 1 + 1) false (.slice none 0 0) ∧ Box w0 (w.heap.size + 1 + 1 + 1) false (.slice none 0 0) ∧ Below w.heap.size w w0 ∧ w0.heap.size = w.heap.size + 4 := by
  obtain ⟨w2, e2, b1, b2, b3, hb, hs⟩ := boxed3 w nx vx ny vy
  have h2 := boxed w2 false (.slice none 0 0)
  rw [e2]
  refine ⟨_, rfl, b1.below h2.2.1, b2.below h2.2.1, b3.below h2.2.1, ?_, hb.trans (h2.2.1.mono (by omega)), by rw [h2.2.2, hs]⟩
  have h3 := h2.1
  rw [hs] at h3
  exact h3
theorem ediv_sg (ny : Bool) (X Y : Int) : X / sg ny Y = sg ny (X / Y) ∧ X % sg ny Y = X % Y := by
  cases ny <;> simp [sg, Int.ediv_neg, Int.emod_neg]
theorem euclid_neg {X Y : Int} (hY : 0 < Y) : (X % Y = 0 → -X / Y = -(X / Y) ∧ -X % Y = 0) ∧ (X % Y ≠ 0 → -X / Y = -(X / Y + 1) ∧ -X % Y = Y - X % Y) := by
  have h1 := Int.mul_ediv_add_emod X Y
  have h2 := Int.emod_nonneg X (show Y ≠ 0 by omega)
  have h3 := Int.emod_lt_of_pos X hY
  constructor
  · intro h0
    refine div_of hY ?_ (Int.le_refl 0) hY
    rw [Int.neg_mul, Int.mul_comm (X / Y)]
    omega
  · intro h0
    refine div_of hY ?_ (by omega) (by omega)
    rw [Int.neg_mul, Int.add_mul, Int.mul_comm (X / Y)]
    omega
theorem Box.other {w : World} {g h : Nat} {ng : Bool} {v : Value} (H : Box w g ng v) (hn : g ≠ h) (b u : Value) : Box ((w.setCell ⟨h, 0, none⟩ b).setCell ⟨h, 1, none⟩ u) g ng v :=
  (heap_setCell_other _ ⟨h, 1, none⟩ g u hn).trans ((heap_setCell_other w ⟨h, 0, none⟩ g b hn).trans H)
theorem box_two {w : World} {g h : Nat} {n1 n2 nq nr : Bool} {v1 v2 vq vr : Value} (H1 : Box w g n1 v1) (H2 : Box w h n2 v2) (hn : g ≠ h) : Box ((((w.setCell ⟨g, 0, none⟩ (.bool nq)).setCell ⟨g, 1, none⟩ vq).setCell ⟨h, 0, none⟩ (.bool nr)).setCell ⟨h, 1, none⟩ vr) g nq vq ∧ Box ((((w.setCell ⟨g, 0, none⟩ (.bool nq)).setCell ⟨g, 1, none⟩ vq).setCell ⟨h, 0, none⟩ (.bool nr)).setCell ⟨h, 1, none⟩ vr) h nr vr :=
  ⟨(H1.set nq vq).other hn _ _, (H2.other (Ne.symm hn) _ _).set nr vr⟩
theorem wdiv_pos (ny : Bool) (X Y : Int) : sg (false != ny) (X / Y) = sg false X / sg ny Y ∧ sg false (X % Y) = sg false X % sg ny Y := by
  have h := ediv_sg ny (sg false X) Y
  rw [h.1, h.2]
  cases ny <;> simp [sg]
theorem wdiv_even (nx ny : Bool) {X Y : Int} (hY : 0 < Y) (h0 : X % Y = 0) : sg (nx != ny) (X / Y) = sg nx X / sg ny Y ∧ sg false (X % Y) = sg nx X % sg ny Y := by
  cases nx with
  | false => exact wdiv_pos ny X Y
  | true =>
    have h := ediv_sg ny (sg true X) Y
    have h2 := (euclid_neg (X := X) hY).1 h0
    rw [h.1, h.2, h0]
    cases ny <;> simp [sg, h2]
theorem wdiv_odd (ny : Bool) {X Y : Int} (hY : 0 < Y) (h0 : X % Y ≠ 0) : sg (true != ny) (X / Y + 1) = sg true X / sg ny Y ∧ sg false (Y - X % Y) = sg true X % sg ny Y := by
  have h := ediv_sg ny (sg true X) Y
  have h2 := (euclid_neg (X := X) hY).2 h0
  rw [h.1, h.2]
  cases ny <;> simp [sg, h2]
set_option maxRecDepth 20000 in
set_option maxHeartbeats 1000000 in
theorem wdivmod_none (w : World) (nx : Bool) (a1 : Option Addr) (n1 c1 : Nat) (xs : List Int) (hx : Sl w (.slice a1 n1 c1) xs) (ny : Bool) (a2 : Option Addr) (n2 c2 : Nat) (ys : List Int) (hy : Sl w (.slice a2 n2 c2) ys) (h0 : val ys = 0) :
    Calls Tryz.prog 94 #[.agg #[.bool nx, .slice a1 n1 c1], .agg #[.bool ny, .slice a2 n2 c2]] w fun e w' => e = .returned (.tuple #[.agg #[.bool false, .slice none 0 0], .agg #[.bool false, .slice none 0 0], .bool false]) ∧ Below w.heap.size w w' := by
  obtain ⟨w0, e0, bx, by', bq, br, hb0, hs0⟩ := boxed4 w nx (.slice a1 n1 c1) ny (.slice a2 n2 c2)
  have E0 := hide e0
  have hx0 := hx.below hb0
  have hy0 := hy.below hb0
  clear e0 hs0
  have H0 := hide h0
  clear h0
  go_enter Tryz.func94, Tryz.ntmps94
  go_wp2_with fail
  rw [E0.out]
  obtain ⟨ca, cb, cc, cd⟩ := bx.facts
  obtain ⟨ea, eb, ec, ed⟩ := by'.facts
  refine (divmod_none _ _ _ _ _ _ _ xs ys hx0 hy0 H0.out).mono ?_
  rintro e w1 ⟨rfl, hb1⟩
  have Z := hide (hb0.trans (hb1.mono hb0.size))
  obtain ⟨qa, qb, qc, qd⟩ := (bq.below hb1).facts
  obtain ⟨ra, rb, rc, rd⟩ := (br.below hb1).facts
  have F := hide (box_two (nq := false) (vq := .slice none 0 0) (nr := false) (vr := .slice none 0 0) (bq.below hb1) (br.below hb1) (by omega))
  have Z2 := hide (below_set2 (below_set2 Z.out (show w.heap.size ≤ w.heap.size + 1 + 1 by omega) (.bool false) (.slice none 0 0)) (show w.heap.size ≤ w.heap.size + 1 + 1 + 1 by omega) (.bool false) (.slice none 0 0))
  go_wp2
  refine bodyPost_ret (v := .tuple #[.agg #[.bool false, .slice none 0 0], .agg #[.bool false, .slice none 0 0], .bool false]) ?_ rfl ⟨rfl, Z2.out⟩
  simp [results, Tryz.results94, go_sem, F.out.1.facts.1, F.out.1.facts.2.1, F.out.2.facts.1, F.out.2.facts.2.1]
end Lm
end Go.Proofs.YtnomflballofiaaGreat

namespace Go.Proofs.YtnomflballofiaaGreat
namespace Lm
open Go.RowKit
theorem two_limbs {zs : List Int} (hz : Limb zs) (i : Nat) : ∃ t : Int, val zs / pw i = (zs.getD (i + 1) 0 * 4294967296 + zs.getD i 0) + 18446744073709551616 * t := by
  have h0 : val zs / pw i = val (zs.drop i) := by
    by_cases hi : i ≤ zs.length
    · have e := val_append (zs.take i) (zs.drop i)
      rw [List.take_append_drop, List.length_take, Nat.min_eq_left hi] at e
      have b := val_bounds (limb_take hz i)
      rw [List.length_take, Nat.min_eq_left hi] at b
      exact (div_of (a := val zs) (b := pw i) (by have := pw_pos i; omega) (by rw [e, Int.mul_comm]; omega) b.1 b.2).1
    · rw [List.drop_of_length_le (by omega)]
      have b := val_bounds hz
      have hm := pw_mono (m := zs.length) (n := i) (by omega)
      exact Int.ediv_eq_zero_of_lt b.1 (by omega)
  refine ⟨val (zs.drop (i + 2)), ?_⟩
  rw [h0]
  by_cases h1 : i < zs.length
  · rw [drop_getD zs i h1, val]
    by_cases h2 : i + 1 < zs.length
    · rw [drop_getD zs (i + 1) h2, val, show i + 2 = i + 1 + 1 from rfl]
      omega
    · have e1 : zs.drop (i + 1) = [] := List.drop_of_length_le (by omega)
      have e2 : zs.drop (i + 2) = [] := List.drop_of_length_le (by omega)
      have e3 : zs.getD (i + 1) 0 = 0 := by rw [List.getD_eq_getElem?_getD, List.getElem?_eq_none (by omega)]; rfl
      rw [e1, e2, e3]
      simp [val]
  · have e1 : zs.drop i = [] := List.drop_of_length_le (by omega)
    have e2 : zs.drop (i + 2) = [] := List.drop_of_length_le (by omega)
    have e3 : zs.getD (i + 1) 0 = 0 := by rw [List.getD_eq_getElem?_getD, List.getElem?_eq_none (by omega)]; rfl
    have e4 : zs.getD i 0 = 0 := by rw [List.getD_eq_getElem?_getD, List.getElem?_eq_none (by omega)]; rfl
    rw [e1, e2, e3, e4]
    simp [val]
theorem mask30 {x : Int} (h0 : 0 ≤ x) (h1 : x < 4294967296) : bits .and .u32 x 1073741823 = x % 1073741824 := by
  rw [u32_and _ _ h0 h1 (by omega) (by omega)]
  have : (1073741823 : Int).toNat = 2 ^ 30 - 1 := by decide
  rw [this, Nat.and_two_pow_sub_one_eq_mod]
  omega
theorem window_val {V r t : Int} {s : Nat} (hs : s ≤ 31) (hV : V = r + 18446744073709551616 * t) : r / p2 s % 4294967296 % 1073741824 = V / p2 s % 1073741824 := by
  have hp := p2_pos s
  have e1 : (18446744073709551616 : Int) = p2 s * (1073741824 * p2 (34 - s)) := by
    have h9 : p2 s * (p2 30 * p2 (34 - s)) = p2 64 := by rw [← p2_add, ← p2_add, show s + (30 + (34 - s)) = 64 by omega]
    rw [show p2 30 = 1073741824 from by decide, show p2 64 = 18446744073709551616 from by decide] at h9
    exact h9.symm
  have e2 : V / p2 s = r / p2 s + 1073741824 * (p2 (34 - s) * t) := by
    rw [hV, e1, Int.mul_assoc, Int.add_mul_ediv_left _ _ (by omega), Int.mul_assoc]
  rw [e2, Int.add_mul_emod_self_left]
  omega
set_option maxRecDepth 20000 in
set_option maxHeartbeats 400000 in
theorem window_any (w : World) (ao : Option Addr) (n cap : Nat) (zs : List Int) (h : Sl w (.slice ao n cap) zs) (low : Nat) (hlow : low ≤ 100000000) :
    Calls Tryz.prog 117 #[.slice ao n cap, .int .i64 low] w fun e w' => e = .returned (.int .u32 (val zs / p2 low % 1073741824)) ∧ w' = w := by
  obtain ⟨rfl, x1, x2, x3⟩ := h.parts
  obtain ⟨i, hi⟩ : ∃ i, i = low / 32 := ⟨_, rfl⟩
  obtain ⟨s, hs⟩ : ∃ s, s = low % 32 := ⟨_, rfl⟩
  have e1 : (low : Int) / 32 = (i : Nat) := by omega
  have e2 : (low : Int) % 32 = (s : Nat) := by omega
  have hs31 : s ≤ 31 := by omega
  have hib : i ≤ 100000000 := by omega
  have HPL : Hid (p2 low = pw i * p2 s) := by
    show _ = _
    rw [pw_p2, ← p2_add]
    congr 1
    omega
  have bA := limb_getD x3 i
  have bC := limb_getD x3 (i + 1)
  obtain ⟨t, ht⟩ := two_limbs x3 i
  have k1 : Hid (∀ w' : World, Sl w' (.slice ao zs.length cap) zs → Calls Tryz.prog 119 #[.slice ao zs.length cap, .int .i64 ((i : Int) + 1)] w' fun e w'' => e = .returned (.int .u32 (zs.getD (i + 1) 0)) ∧ w'' = w') := by
    intro w' h'
    have h9 := limb_any w' _ zs h' ((i : Int) + 1) (by omega)
    rwa [show ((i : Int) + 1).toNat = i + 1 by omega] at h9
  have k2 : Hid (∀ w' : World, Sl w' (.slice ao zs.length cap) zs → Calls Tryz.prog 119 #[.slice ao zs.length cap, .int .i64 (i : Int)] w' fun e w'' => e = .returned (.int .u32 (zs.getD i 0)) ∧ w'' = w') := fun w' h' => limb_nat w' _ zs h' i
  have HT := hide ht
  generalize zs.getD (i + 1) 0 = C at bC k1 HT
  generalize zs.getD i 0 = A at bA k2 HT
  have hor := or_join C A bC.1 bC.2 bA.1 bA.2
  obtain ⟨M, hM⟩ : ∃ M, M = C * 4294967296 + A := ⟨_, rfl⟩
  rw [← hM] at hor HT
  have hM0 : 0 ≤ M := by omega
  have hM1 : M < 18446744073709551616 := by omega
  have hpw := p2_pow s
  have hp1 := p2_pos s
  have hd0 : 0 ≤ M / p2 s := Int.ediv_nonneg hM0 (by omega)
  have hmk : bits .and .u32 (M / p2 s % 4294967296) 1073741823 = M / p2 s % 4294967296 % 1073741824 := mask30 (by omega) (by omega)
  have HV : Hid (M / p2 s % 1073741824 = val zs / p2 low % 1073741824) := by
    have h9 := window_val hs31 HT.out
    rw [Int.ediv_ediv_of_nonneg (by have := pw_pos i; omega), ← HPL.out] at h9
    show _ = _
    omega
  clear x3 ht hM hi hs
  go_enter Tryz.func117, Tryz.ntmps117
  go_wp2_with fail
  refine (k1.out _ h).mono ?_
  rintro e w1 ⟨rfl, rfl⟩
  go_wp2_with fail
  refine (k2.out _ h).mono ?_
  rintro e w1 ⟨rfl, rfl⟩
  go_wp2
  go_ret
  exact ⟨by rw [← HV.out]; rfl, rfl⟩
end Lm
end Go.Proofs.YtnomflballofiaaGreat

namespace Go.Proofs.YtnomflballofiaaGreat
namespace Lm
open Go.RowKit
theorem com_val {xs ys os : List Int} {k : Nat} {p q x y c s : Int} (hk : os.length = k) (hx : xs.getD k 0 = x) (hy : ys.getD k 0 = y) (hs : s = p * x + q * y + c) (h : val os + pw k * c = p * vf xs k + q * vf ys k) :
    val (os ++ [s % 4294967296]) + pw (k + 1) * (s / 4294967296) = p * vf xs (k + 1) + q * vf ys (k + 1) := by
  rw [val_snoc, vf, vf, hx, hy, hk, pw]
  have e : s = s % 4294967296 + 4294967296 * (s / 4294967296) := by omega
  have e2 : pw k * (s % 4294967296) + 4294967296 * pw k * (s / 4294967296) = pw k * s := by
    rw [Int.mul_comm 4294967296 (pw k), Int.mul_assoc, ← Int.mul_add, ← e]
  have e3 : p * (pw k * x) = pw k * (p * x) := by rw [← Int.mul_assoc, Int.mul_comm p, Int.mul_assoc]
  have e4 : q * (pw k * y) = pw k * (q * y) := by rw [← Int.mul_assoc, Int.mul_comm q, Int.mul_assoc]
  rw [Int.add_assoc, e2, hs, Int.mul_add, Int.mul_add, Int.mul_add, Int.mul_add, e3, e4]
  omega
theorem com_bound {p x : Int} (hp : -1073741824 ≤ p ∧ p ≤ 1073741824) (hx : 0 ≤ x ∧ x < 4294967296) : -4611686018427387904 ≤ p * x ∧ p * x ≤ 4611686018427387904 := by
  have h1 : p * x ≤ 1073741824 * x := Int.mul_le_mul_of_nonneg_right hp.2 hx.1
  have h2 : -1073741824 * x ≤ p * x := Int.mul_le_mul_of_nonneg_right hp.1 hx.1
  omega
theorem com_two {p q x y : Int} (hp : -1073741824 ≤ p ∧ p ≤ 1073741824) (hq : -1073741824 ≤ q ∧ q ≤ 1073741824) (hs : (0 ≤ p ∧ q ≤ 0) ∨ (p ≤ 0 ∧ 0 ≤ q)) (hx : 0 ≤ x ∧ x < 4294967296) (hy : 0 ≤ y ∧ y < 4294967296) : -4611686018427387904 ≤ p * x + q * y ∧ p * x + q * y ≤ 4611686018427387904 := by
  have b1 := com_bound hp hx
  have b2 := com_bound hq hy
  rcases hs with ⟨h1, h2⟩ | ⟨h1, h2⟩
  · have p1 : 0 ≤ p * x := Int.mul_nonneg h1 hx.1
    have p2 : 0 ≤ (-q) * y := Int.mul_nonneg (by omega) hy.1
    rw [Int.neg_mul] at p2
    omega
  · have p1 : 0 ≤ (-p) * x := Int.mul_nonneg (by omega) hx.1
    have p2 : 0 ≤ q * y := Int.mul_nonneg h2 hy.1
    rw [Int.neg_mul] at p1
    omega
set_option maxRecDepth 20000 in
set_option maxHeartbeats 1000000 in
theorem combine_any (w : World) (a1 a2 : Option Addr) (n1 n2 c1 c2 : Nat) (xs ys : List Int) (hx : Sl w (.slice a1 n1 c1) xs) (hy : Sl w (.slice a2 n2 c2) ys) (hm : xs.length ≤ 1000000) (hl : ys.length ≤ xs.length) (p q : Int) (hp : -1073741824 ≤ p ∧ p ≤ 1073741824) (hq : -1073741824 ≤ q ∧ q ≤ 1073741824) (hs : (0 ≤ p ∧ q ≤ 0) ∨ (p ≤ 0 ∧ 0 ≤ q)) (h0 : 0 ≤ p * val xs + q * val ys) (h1 : p * val xs + q * val ys < pw xs.length) :
    Calls Tryz.prog 118 #[.int .i64 p, .slice a1 n1 c1, .int .i64 q, .slice a2 n2 c2] w fun e w' => ∃ v, e = .returned v ∧ Is w.heap.size w' v (p * val xs + q * val ys) ∧ Below w.heap.size w w' := by
  obtain ⟨rfl, x1, x2, x3⟩ := hx.parts
  obtain ⟨rfl, y1, y2, y3⟩ := hy.parts
  obtain ⟨i0, hi, hz0, hz1, hz2⟩ := info_parts info32
  have X3 := hide x3
  have Y3 := hide y3
  have H0 := hide h0
  have H1 := hide h1
  have HP := hide hp
  have HQ := hide hq
  have HS := hide hs
  clear x3 y3 h0 h1 hp hq hs
  go_enter Tryz.func118, Tryz.ntmps118
  go_wp2_with (refine wpList_make_full _ rfl (.tmp 14) (.tmp 14) 36 rfl w.heap.size 101 i0 (.int .u32 0) 1 Tryz.underlying36 hi hz0 hz1 .i64 .i64 _ _ xs.length rfl rfl (by omega) (by omega) (by rw [hz2]; omega) (by unfold maxLen; omega) (Nat.le_refl _) ?hK)
  case hK =>
    intro w1 hown hgrow
    obtain ⟨_, cur, hh, hcs, hat⟩ := block_of_made hown
    have hb1 : Below w.heap.size w w1 := (Below.refl w.heap.size w).grown hgrow (Nat.le_refl _) (by simp)
    have HH := hide hh
    have HC0 := hide hcs
    have HA := hide hat
    clear hown hgrow hh hcs hat
    go_wp2
    go_loopw [10, 18] (fun cv i wr => ∃ (k : Nat) (c : Int) (os : List Int) (cur' : Array Value), k ≤ xs.length ∧ cv = .int .i64 c ∧ i = .int .i64 k ∧ (-1073741826 ≤ c ∧ c ≤ 1073741826) ∧ os.length = k ∧ Limb os ∧ val os + pw k * c = p * vf xs k + q * vf ys k ∧ Wr w1 wr w.heap.size cur' 101 ∧ cur'.size = xs.length ∧ At cur' .u32 0 (os ++ (List.replicate xs.length 0).drop k)) (fun _ i _ => xs.length - (intOf i).toNat)
    case atStart => exact ⟨0, 0, [], cur, Nat.zero_le _, rfl, rfl, by omega, rfl, limb_nil, by simp [val, vf, pw], Wr.refl HH.out, HC0.out, by simpa using HA.out⟩
    case round =>
      obtain ⟨k, c, os, cur', hk, rfl, rfl, hc, hol, ho, hval, hwr, hcs, hat⟩ := hrel
      have HOL := hide hol
      have HO := hide ho
      have HV := hide hval
      have HW := hide hwr
      have HC := hide hcs
      have HT := hide hat
      clear hol ho hval hwr hcs hat
      by_cases hlt : k < xs.length
      · have sx := HW.out.sl (Nat.le_refl _) hb1 rfl hx
        have sy := HW.out.sl (Nat.le_refl _) hb1 rfl hy
        obtain ⟨b, off, rfl, hcx⟩ := sx.cells (by omega)
        have cx := hcx k (by omega)
        have bx := limb_getD X3.out k
        have by' := limb_getD Y3.out k
        obtain ⟨x, hxk⟩ : ∃ x, xs.getD k 0 = x := ⟨_, rfl⟩
        obtain ⟨y, hyk⟩ : ∃ y, ys.getD k 0 = y := ⟨_, rfl⟩
        have ky : Hid (∀ n, Calls Tryz.prog 119 #[.slice a2 ys.length c2, .int .i64 k] (wr.drewN n) fun e w' => e = .returned (.int .u32 y) ∧ w' = wr.drewN n) := by
          intro n; rw [← hyk]; exact limb_nat _ _ ys (sy.below (below_drewN (Below.refl _ _) n)) k
        rw [hxk] at cx bx
        rw [hyk] at by'
        have hpx := com_bound HP.out bx
        have hqy := com_bound HQ.out by'
        have htw := com_two HP.out HQ.out HS.out bx by'
        obtain ⟨P, hP⟩ : ∃ P, P = p * x := ⟨_, rfl⟩
        obtain ⟨R, hR⟩ : ∃ R, R = q * y := ⟨_, rfl⟩
        have HV' := hide (com_val (p := p) (q := q) HOL.out hxk hyk rfl HV.out)
        rw [← hP] at hpx htw HV'
        rw [← hR] at hqy htw HV'
        have ep : p * x = P := hP.symm
        have er : q * y = R := hR.symm
        have hlen : (os ++ (List.replicate xs.length (0 : Int)).drop k).length = xs.length := by have := HOL.out; simp; omega
        have hcell := HT.out.cell HW.out.here k (by rw [hlen]; omega)
        rw [Nat.zero_add] at hcell
        generalize (os ++ (List.replicate xs.length (0 : Int)).drop k).getD k 0 = old at hcell
        have hfree := HW.out.free k
        have HT' := hide (HT.out.set k ((P + R + c) % 4294967296))
        have HW' := hide (HW.out.set k (.int .u32 ((P + R + c) % 4294967296)))
        clear hlen sx sy hcx hxk hyk hP hR
        go_wp2
        go_quiet ((go_at_call 119; exact Calls.quiet_of_same (ky.out _)))
        go_wp2
        go_roundw
        case rel => exact ⟨k + 1, (P + R + c) / 4294967296, os ++ [(P + R + c) % 4294967296], _, by omega, rfl, by go_num, by omega, by have := HOL.out; simp; omega, limb_append.2 ⟨HO.out, limb_cons.2 ⟨by omega, limb_nil⟩⟩, HV'.out, HW'.out.drewN _, by simpa using HC.out, by rw [← set_snoc os _ k _ HOL.out (by simp; omega)]; simpa using HT'.out⟩
        case measure => simp [intOf]; omega
      · have hkn : k = xs.length := by omega
        subst hkn
        have hat2 := HT.out
        rw [List.drop_of_length_le (by simp), List.append_nil] at hat2
        have how : Ow w.heap.size wr (.slice (some ⟨w.heap.size, 0, none⟩) xs.length xs.length) os := by
          have := HOL.out
          exact ⟨_, xs.length, by rw [this], by omega, by unfold maxLen; omega, HO.out, .inr ⟨_, 0, _, rfl, Nat.le_refl _, HW.out.here, by rw [HC.out]; omega, hat2⟩⟩
        have hbel : Below w.heap.size w wr := hb1.trans (HW.out.below (Nat.le_refl _))
        have hfin : val os = p * val xs + q * val ys := by
          have hv := HV.out
          rw [vf_all xs _ (Nat.le_refl _), vf_all ys _ hl] at hv
          have hb := val_bounds HO.out
          rw [HOL.out] at hb
          have h0 := H0.out
          have h1 := H1.out
          have hp := pw_pos xs.length
          have hc0 : c = 0 := by
            rcases Int.lt_trichotomy c 0 with h | h | h
            · have : pw xs.length * c ≤ pw xs.length * (-1) := Int.mul_le_mul_of_nonneg_left (by omega) (by omega)
              omega
            · exact h
            · have : pw xs.length * 1 ≤ pw xs.length * c := Int.mul_le_mul_of_nonneg_left (by omega) (by omega)
              omega
          rw [hc0, Int.mul_zero, Int.add_zero] at hv
          exact hv
        have his := how.is_cut hfin
        clear hat2 hfin
        go_wp2_with fail
        refine (cut_any _ _ _ _ _ how.sl).mono ?_
        rintro e w2 ⟨rfl, rfl⟩
        go_wp2
        go_ret
        exact ⟨_, rfl, his, hbel⟩
end Lm
end Go.Proofs.YtnomflballofiaaGreat

namespace Go.Proofs.YtnomflballofiaaGreat
namespace Lm
structure Lh (x0 y0 X Y a b c d x y : Int) : Prop where
  ex : x = a * x0 + b * y0
  ey : y = c * x0 + d * y0
  sig : (0 ≤ a ∧ b ≤ 0 ∧ c ≤ 0 ∧ 0 ≤ d ∧ d * x - b * y = x0 ∧ a * y - c * x = y0) ∨ (a ≤ 0 ∧ 0 ≤ b ∧ 0 ≤ c ∧ d ≤ 0 ∧ b * y - d * x = x0 ∧ c * x - a * y = y0)
  xa : 0 ≤ x + a
  xb : 0 ≤ x + b
  yc : 0 ≤ y + c
  yd : 0 ≤ y + d
  x1 : 1 ≤ x
  y0' : 0 ≤ y
  ba : -1073741824 ≤ a ∧ a ≤ 1073741824
  bb : -1073741824 ≤ b ∧ b ≤ 1073741824
  bc : -1073741824 ≤ c ∧ c ≤ 1073741824
  bd : -1073741824 ≤ d ∧ d ≤ 1073741824
  bx : x < 1073741824
  by' : y < 1073741824
  le : c * X + d * Y ≤ a * X + b * Y
  nn : 0 ≤ c * X + d * Y
  top : a * X + b * Y ≤ X
  low : c * X + d * Y ≤ Y
  bz : b ≠ 0 → c * X + d * Y < Y
  gcd : Int.gcd (a * X + b * Y) (c * X + d * Y) = Int.gcd X Y
theorem lh_between {x0 y0 X Y L a b x : Int} (hX : x0 * L ≤ X) (hX2 : X ≤ (x0 + 1) * L) (hY : y0 * L ≤ Y) (hY2 : Y ≤ (y0 + 1) * L) (ex : x = a * x0 + b * y0) (ha : 0 ≤ a) (hb : b ≤ 0) :
    (x + b) * L ≤ a * X + b * Y ∧ a * X + b * Y ≤ (x + a) * L := by
  have e1 : a * (x0 * L) ≤ a * X := Int.mul_le_mul_of_nonneg_left hX ha
  have e2 : a * X ≤ a * ((x0 + 1) * L) := Int.mul_le_mul_of_nonneg_left hX2 ha
  have e3 : (-b) * (y0 * L) ≤ (-b) * Y := Int.mul_le_mul_of_nonneg_left hY (by omega)
  have e4 : (-b) * Y ≤ (-b) * ((y0 + 1) * L) := Int.mul_le_mul_of_nonneg_left hY2 (by omega)
  rw [Int.add_mul, Int.one_mul, Int.mul_add] at e2 e4
  rw [Int.neg_mul, Int.neg_mul] at e3
  rw [Int.neg_mul, Int.neg_mul, Int.neg_mul] at e4
  rw [ex, Int.add_mul, Int.add_mul, Int.add_mul, Int.add_mul, Int.mul_assoc, Int.mul_assoc]
  constructor <;> omega
theorem lh_between' {x0 y0 X Y L a b x : Int} (hX : x0 * L ≤ X) (hX2 : X ≤ (x0 + 1) * L) (hY : y0 * L ≤ Y) (hY2 : Y ≤ (y0 + 1) * L) (ex : x = a * x0 + b * y0) (ha : a ≤ 0) (hb : 0 ≤ b) :
    (x + a) * L ≤ a * X + b * Y ∧ a * X + b * Y ≤ (x + b) * L := by
  have h := lh_between hY hY2 hX hX2 (a := b) (b := a) (x := x) (by omega) hb ha
  constructor <;> omega
theorem euclid_between {L X1 Y1 q u v s t : Int} (hL : 0 < L) (hu : X1 ≤ u * L) (hv : v * L ≤ X1) (hs : s * L ≤ Y1) (ht : Y1 ≤ t * L) (h1 : q * t ≤ v) (h2 : u < (q + 1) * s) (hq : 0 ≤ q) : q * Y1 ≤ X1 ∧ X1 < (q + 1) * Y1 := by
  constructor
  · have e1 : q * Y1 ≤ q * (t * L) := Int.mul_le_mul_of_nonneg_left ht hq
    have e2 : q * t * L ≤ v * L := Int.mul_le_mul_of_nonneg_right h1 (by omega)
    rw [Int.mul_assoc] at e2
    omega
  · have e1 : (q + 1) * (s * L) ≤ (q + 1) * Y1 := Int.mul_le_mul_of_nonneg_left hs (by omega)
    have e2 : (u + 1) * L ≤ (q + 1) * s * L := Int.mul_le_mul_of_nonneg_right (by omega) (by omega)
    rw [Int.mul_assoc, Int.add_mul, Int.one_mul] at e2
    omega
theorem gcd_step (X Y q : Int) : Int.gcd Y (X - q * Y) = Int.gcd X Y := by
  apply Nat.dvd_antisymm
  · apply Int.dvd_gcd
    · have h1 := Int.gcd_dvd_left Y (X - q * Y)
      have h2 := Int.gcd_dvd_right Y (X - q * Y)
      have h4 := Int.dvd_add h2 (Int.dvd_mul_of_dvd_right (b := q) h1)
      have h3 : (X - q * Y) + q * Y = X := by omega
      rw [h3] at h4
      exact h4
    · exact Int.gcd_dvd_left _ _
  · apply Int.dvd_gcd
    · exact Int.gcd_dvd_right _ _
    · exact Int.dvd_sub (Int.gcd_dvd_left _ _) (Int.dvd_mul_of_dvd_right (Int.gcd_dvd_right _ _))
theorem fac_bound {c y x0 : Int} (hy : 1 ≤ y) (hc : 0 ≤ c) (h : c * y ≤ x0) : c ≤ x0 := by
  have : c * 1 ≤ c * y := Int.mul_le_mul_of_nonneg_left hy hc
  omega
theorem Lh.step {x0 y0 X Y L a b c d x y q : Int} (H : Lh x0 y0 X Y a b c d x y) (hL : 0 < L) (hX : x0 * L ≤ X) (hX2 : X ≤ (x0 + 1) * L) (hY : y0 * L ≤ Y) (hY2 : Y ≤ (y0 + 1) * L) (hx0 : x0 < 1073741824) (hy0 : y0 < 1073741824)
    (hc : 0 < y + c) (hd : 0 < y + d) (q1 : q * (y + c) ≤ x + a) (q2 : x + a < (q + 1) * (y + c)) (q3 : q * (y + d) ≤ x + b) (q4 : x + b < (q + 1) * (y + d)) (hq : 0 ≤ q) :
    Lh x0 y0 X Y c d (a - q * c) (b - q * d) y (x - q * y) := by
  have hqy : 0 ≤ q * y := Int.mul_nonneg hq H.y0'
  have m1 : q * (y + c) = q * y + q * c := Int.mul_add _ _ _
  have m2 : q * (y + d) = q * y + q * d := Int.mul_add _ _ _
  have eXY : (a - q * c) * X + (b - q * d) * Y = (a * X + b * Y) - q * (c * X + d * Y) := by
    rw [Int.sub_mul, Int.sub_mul, Int.mul_add, Int.mul_assoc, Int.mul_assoc]; omega
  have ey' : x - q * y = (a - q * c) * x0 + (b - q * d) * y0 := by
    rw [Int.sub_mul, Int.sub_mul, Int.mul_assoc, Int.mul_assoc, H.ex, H.ey, Int.mul_add]; omega
  have n1 : d * (x - q * y) = d * x - q * d * y := by rw [Int.mul_sub, ← Int.mul_assoc, Int.mul_comm d q]
  have n2 : (b - q * d) * y = b * y - q * d * y := Int.sub_mul _ _ _
  have n3 : c * (x - q * y) = c * x - q * c * y := by rw [Int.mul_sub, ← Int.mul_assoc, Int.mul_comm c q]
  have n4 : (a - q * c) * y = a * y - q * c * y := Int.sub_mul _ _ _
  have key : q * (c * X + d * Y) ≤ a * X + b * Y ∧ a * X + b * Y < (q + 1) * (c * X + d * Y) := by
    rcases H.sig with ⟨s1, s2, s3, s4, _, _⟩ | ⟨s1, s2, s3, s4, _, _⟩
    · have b1 := lh_between hX hX2 hY hY2 H.ex s1 s2
      have b2 := lh_between' hX hX2 hY hY2 H.ey s3 s4
      exact euclid_between hL b1.2 b1.1 b2.1 b2.2 q3 q2 hq
    · have b1 := lh_between' hX hX2 hY hY2 H.ex s1 s2
      have b2 := lh_between hX hX2 hY hY2 H.ey s3 s4
      exact euclid_between hL b1.2 b1.1 b2.1 b2.2 q1 q4 hq
  have key2 : (q + 1) * (c * X + d * Y) = q * (c * X + d * Y) + (c * X + d * Y) := by rw [Int.add_mul, Int.one_mul]
  have hle := H.le
  have hnn := H.nn
  have htop := H.top
  have hlow := H.low
  have hg := gcd_step (a * X + b * Y) (c * X + d * Y) q
  rw [H.gcd, ← eXY] at hg
  have hsig : ((0 ≤ c ∧ d ≤ 0 ∧ a - q * c ≤ 0 ∧ 0 ≤ b - q * d ∧ (b - q * d) * y - d * (x - q * y) = x0 ∧ c * (x - q * y) - (a - q * c) * y = y0) ∨ (c ≤ 0 ∧ 0 ≤ d ∧ 0 ≤ a - q * c ∧ b - q * d ≤ 0 ∧ d * (x - q * y) - (b - q * d) * y = x0 ∧ (a - q * c) * y - c * (x - q * y) = y0)) ∧ 1 ≤ y ∧ 0 ≤ x - q * y := by
    rcases H.sig with ⟨s1, s2, s3, s4, s5, s6⟩ | ⟨s1, s2, s3, s4, s5, s6⟩
    · have p1 : q * c ≤ 0 := by
        have : q * c ≤ q * 0 := Int.mul_le_mul_of_nonneg_left s3 hq
        omega
      have p2 : 0 ≤ q * d := Int.mul_nonneg hq s4
      exact ⟨.inr ⟨s3, s4, by omega, by omega, by omega, by omega⟩, by omega, by omega⟩
    · have p1 : 0 ≤ q * c := Int.mul_nonneg hq s3
      have p2 : q * d ≤ 0 := by
        have : q * d ≤ q * 0 := Int.mul_le_mul_of_nonneg_left s4 hq
        omega
      exact ⟨.inl ⟨s3, s4, by omega, by omega, by omega, by omega⟩, by omega, by omega⟩
  obtain ⟨hsg, hy1, hyy⟩ := hsig
  have hbnd : (-1073741824 ≤ a - q * c ∧ a - q * c ≤ 1073741824) ∧ (-1073741824 ≤ b - q * d ∧ b - q * d ≤ 1073741824) := by
    rcases hsg with ⟨s1, s2, s3, s4, s5, s6⟩ | ⟨s1, s2, s3, s4, s5, s6⟩
    · have p1 : 0 ≤ c * (x - q * y) := Int.mul_nonneg s1 hyy
      have p2 : 0 ≤ (-d) * (x - q * y) := Int.mul_nonneg (by omega) hyy
      rw [Int.neg_mul] at p2
      have f1 := fac_bound (c := -(a - q * c)) (x0 := y0) hy1 (by omega) (by rw [Int.neg_mul]; omega)
      have f2 := fac_bound (c := b - q * d) (x0 := x0) hy1 (by omega) (by omega)
      omega
    · have p1 : 0 ≤ (-c) * (x - q * y) := Int.mul_nonneg (by omega) hyy
      have p2 : 0 ≤ d * (x - q * y) := Int.mul_nonneg s2 hyy
      rw [Int.neg_mul] at p1
      have f1 := fac_bound (c := a - q * c) (x0 := y0) hy1 (by omega) (by omega)
      have f2 := fac_bound (c := -(b - q * d)) (x0 := x0) hy1 (by omega) (by rw [Int.neg_mul]; omega)
      omega
  refine ⟨H.ey, ey', ?_, H.yc, H.yd, by omega, by omega, hy1, hyy, H.bc, H.bd, hbnd.1, hbnd.2, H.by', ?_, ?_, ?_, ?_, ?_, ?_, hg⟩
  · rcases hsg with h | h
    · exact .inl ⟨h.1, h.2.1, h.2.2.1, h.2.2.2.1, h.2.2.2.2.1, h.2.2.2.2.2⟩
    · exact .inr ⟨h.1, h.2.1, h.2.2.1, h.2.2.2.1, h.2.2.2.2.1, h.2.2.2.2.2⟩
  · have := H.bx; omega
  · rw [eXY]; omega
  · rw [eXY]; omega
  · omega
  · rw [eXY]; omega
  · intro _; rw [eXY]; omega
theorem Lh.start {x0 y0 X Y : Int} (h1 : 1 ≤ x0) (h2 : 0 ≤ y0) (h3 : x0 < 1073741824) (h4 : y0 < 1073741824) (hY : 0 ≤ Y) (hle : Y ≤ X) : Lh x0 y0 X Y 1 0 0 1 x0 y0 := by
  refine ⟨by omega, by omega, .inl ⟨by omega, by omega, by omega, by omega, by omega, by omega⟩, by omega, by omega, by omega, by omega, h1, h2, by omega, by omega, by omega, by omega, h3, h4, by omega, by omega, by omega, by omega, fun h => absurd rfl h, ?_⟩
  rw [Int.one_mul, Int.zero_mul, Int.zero_mul, Int.one_mul, Int.add_zero, Int.zero_add]
end Lm
end Go.Proofs.YtnomflballofiaaGreat

namespace Go.Proofs.YtnomflballofiaaGreat
namespace Lm
open Go.RowKit
def Fac (w : World) (g : Nat) (a b c d : Int) : Prop := w.heap[g]? = some (.cells #[.int .i64 a, .int .i64 b, .int .i64 c, .int .i64 d] 138 (0, 0))
theorem Fac.facts {w : World} {g : Nat} {a b c d : Int} (h : Fac w g a b c d) : (w.cell? ⟨g, 0, none⟩ = some (.int .i64 a) ∧ w.cell? ⟨g, 1, none⟩ = some (.int .i64 b) ∧ w.cell? ⟨g, 2, none⟩ = some (.int .i64 c) ∧ w.cell? ⟨g, 3, none⟩ = some (.int .i64 d)) ∧ (w.frozen? ⟨g, 0, none⟩ = false ∧ w.frozen? ⟨g, 1, none⟩ = false ∧ w.frozen? ⟨g, 2, none⟩ = false ∧ w.frozen? ⟨g, 3, none⟩ = false) :=
  ⟨⟨by rw [cell_of_row _ _ _ _ _ (0, 0) h]; rfl, by rw [cell_of_row _ _ _ _ _ (0, 0) h]; rfl, by rw [cell_of_row _ _ _ _ _ (0, 0) h]; rfl, by rw [cell_of_row _ _ _ _ _ (0, 0) h]; rfl⟩, frozen_of_row _ _ _ _ _ h, frozen_of_row _ _ _ _ _ h, frozen_of_row _ _ _ _ _ h, frozen_of_row _ _ _ _ _ h⟩
theorem div_fit {u s : Int} (hs : 0 < s) : u / s * s ≤ u ∧ u < (u / s + 1) * s := by
  have h1 := Int.mul_ediv_add_emod u s
  have h2 := Int.emod_nonneg u (show s ≠ 0 by omega)
  have h3 := Int.emod_lt_of_pos u hs
  rw [Int.add_mul, Int.one_mul, Int.mul_comm (u / s) s]
  omega
theorem div_small {u s : Int} (hu : 0 ≤ u) (hs : 0 < s) : 0 ≤ u / s ∧ u / s ≤ u := ⟨Int.ediv_nonneg hu (by omega), Int.ediv_le_self _ hu⟩
theorem Lh.less {x0 y0 X Y a b c d x y q : Int} (H : Lh x0 y0 X Y a b c d x y) (hq : 0 ≤ q) (q2 : x + a < (q + 1) * (y + c)) (q4 : x + b < (q + 1) * (y + d)) : x - q * y < y ∧ q * y ≤ q * y := by
  have m1 : (q + 1) * (y + c) = q * y + q * c + (y + c) := by rw [Int.add_mul, Int.one_mul, Int.mul_add]
  have m2 : (q + 1) * (y + d) = q * y + q * d + (y + d) := by rw [Int.add_mul, Int.one_mul, Int.mul_add]
  rcases H.sig with ⟨s1, s2, s3, s4, _, _⟩ | ⟨s1, s2, s3, s4, _, _⟩
  · have p1 : q * c ≤ 0 := by
      have : q * c ≤ q * 0 := Int.mul_le_mul_of_nonneg_left s3 hq
      omega
    omega
  · have p2 : q * d ≤ 0 := by
      have : q * d ≤ q * 0 := Int.mul_le_mul_of_nonneg_left s4 hq
      omega
    omega
theorem Fac.set {w : World} {g : Nat} {a b c d : Int} (h : Fac w g a b c d) (a' b' c' d' : Int) : Fac ((((w.setCell ⟨g, 0, none⟩ (.int .i64 a')).setCell ⟨g, 1, none⟩ (.int .i64 b')).setCell ⟨g, 2, none⟩ (.int .i64 c')).setCell ⟨g, 3, none⟩ (.int .i64 d')) g a' b' c' d' := by
  have h1 := heap_setCell_same w g 0 _ _ (.int .i64 a') h
  have h2 := heap_setCell_same _ g 1 _ _ (.int .i64 b') h1
  have h3 := heap_setCell_same _ g 2 _ _ (.int .i64 c') h2
  have h4 := heap_setCell_same _ g 3 _ _ (.int .i64 d') h3
  exact h4
theorem Fac.other {w : World} {g k : Nat} {a b c d : Int} (H : Fac w g a b c d) (hn : g ≠ k) (a' b' c' d' : Value) : Fac ((((w.setCell ⟨k, 0, none⟩ a').setCell ⟨k, 1, none⟩ b').setCell ⟨k, 2, none⟩ c').setCell ⟨k, 3, none⟩ d') g a b c d :=
  (heap_setCell_other _ ⟨k, 3, none⟩ g d' hn).trans ((heap_setCell_other _ ⟨k, 2, none⟩ g c' hn).trans ((heap_setCell_other _ ⟨k, 1, none⟩ g b' hn).trans ((heap_setCell_other w ⟨k, 0, none⟩ g a' hn).trans H)))
theorem below_set4 {B : Nat} {w w1 : World} {g : Nat} (hb : Below B w w1) (hg : B ≤ g) (a b c d : Value) : Below B w ((((w1.setCell ⟨g, 0, none⟩ a).setCell ⟨g, 1, none⟩ b).setCell ⟨g, 2, none⟩ c).setCell ⟨g, 3, none⟩ d) := (((hb.setCell hg _).setCell hg _).setCell hg _).setCell hg _
set_option maxRecDepth 20000 in
set_option maxHeartbeats 2000000 in
theorem lookAhead_any (w : World) (x0 y0 X Y L : Int) (h1 : 1 ≤ x0) (h2 : 0 ≤ y0) (h3 : x0 < 1073741824) (h4 : y0 < 1073741824) (hY0 : 0 ≤ Y) (hle : Y ≤ X) (hL : 0 < L) (hX : x0 * L ≤ X) (hX2 : X ≤ (x0 + 1) * L) (hY : y0 * L ≤ Y) (hY2 : Y ≤ (y0 + 1) * L) :
    Calls Tryz.prog 116 #[.int .i64 x0, .int .i64 y0] w fun e w' => ∃ a b c d x y, e = .returned (.agg #[.int .i64 a, .int .i64 b, .int .i64 c, .int .i64 d]) ∧ Lh x0 y0 X Y a b c d x y ∧ Below w.heap.size w w' := by
  have ST := hide (Lh.start h1 h2 h3 h4 hY0 hle)
  have e0 : ∃ w0 : World, (w.alloc (.cells #[.int .i64 0, .int .i64 0, .int .i64 0, .int .i64 0] 138)).alloc (.cells #[.int .i64 1, .int .i64 0, .int .i64 0, .int .i64 1] 138) = w0 ∧ Fac w0 w.heap.size 0 0 0 0 ∧ Fac w0 (w.heap.size + 1) 1 0 0 1 ∧ Below w.heap.size w w0 := by
    have h1 := heap_alloc_new w (.cells #[.int .i64 0, .int .i64 0, .int .i64 0, .int .i64 0] 138)
    have b1 : Below w.heap.size w (w.alloc (.cells #[.int .i64 0, .int .i64 0, .int .i64 0, .int .i64 0] 138)) := (Below.refl _ _).alloc (Nat.le_refl _) _
    have h2 := heap_alloc_new (w.alloc (.cells #[.int .i64 0, .int .i64 0, .int .i64 0, .int .i64 0] 138)) (.cells #[.int .i64 1, .int .i64 0, .int .i64 0, .int .i64 1] 138)
    have b2 : Below (w.alloc (.cells #[.int .i64 0, .int .i64 0, .int .i64 0, .int .i64 0] 138)).heap.size (w.alloc (.cells #[.int .i64 0, .int .i64 0, .int .i64 0, .int .i64 0] 138)) ((w.alloc (.cells #[.int .i64 0, .int .i64 0, .int .i64 0, .int .i64 0] 138)).alloc (.cells #[.int .i64 1, .int .i64 0, .int .i64 0, .int .i64 1] 138)) := (Below.refl _ _).alloc (Nat.le_refl _) _
    refine ⟨_, rfl, (b2.block _ (by simp)).trans h1, ?_, b1.trans (b2.mono b1.size)⟩
    have h3 := h2
    rw [World.size_alloc] at h3
    exact h3
  obtain ⟨w0, e0, hR0, hF0, hb0⟩ := e0
  have E0 := hide e0
  clear e0
  go_enter Tryz.func116, Tryz.ntmps116
  go_wp2
  rw [E0.out]
  go_loopw [0, 1] (fun xv yv wr => ∃ a b c d x y : Int, xv = .int .i64 x ∧ yv = .int .i64 y ∧ Lh x0 y0 X Y a b c d x y ∧ Fac wr (w.heap.size + 1) a b c d ∧ Fac wr w.heap.size 0 0 0 0 ∧ Below w.heap.size w wr) (fun _ yv _ => (intOf yv).toNat)
  case atStart => exact ⟨1, 0, 0, 1, x0, y0, rfl, rfl, ST.out, hF0, hR0, hb0⟩
  case round =>
    obtain ⟨a, b, c, d, x, y, rfl, rfl, hD, hF, hR, HB⟩ := hrel
    have D := hide hD
    have ba := hD.ba
    have bb := hD.bb
    have bc := hD.bc
    have bd := hD.bd
    have bx := hD.bx
    have by' := hD.by'
    have x1 := hD.x1
    have y1 := hD.y0'
    have pxa := hD.xa
    have pxb := hD.xb
    have pyc := hD.yc
    have pyd := hD.yd
    clear hD
    by_cases hc : y + c = 0
    · have hcb : ((y + c) != 0) = false := by simp [hc]
      have HC := hide hc
      clear hc
      obtain ⟨⟨fa, fb, fc, fd⟩, _⟩ := hF.facts
      obtain ⟨⟨ra, rb, rc, rd⟩, re, rf, rg, rh⟩ := hR.facts
      have XF := hide (hR.set a b c d).facts.1
      have Z := hide (below_set4 HB (Nat.le_refl _) (.int .i64 a) (.int .i64 b) (.int .i64 c) (.int .i64 d))
      go_wp2
      refine bodyPost_ret (v := .agg #[.int .i64 a, .int .i64 b, .int .i64 c, .int .i64 d]) ?_ rfl ⟨a, b, c, d, x, y, rfl, D.out, Z.out⟩
      simp [results, Tryz.results116, go_sem, XF.out.1, XF.out.2.1, XF.out.2.2.1, XF.out.2.2.2]
    · have hcb : ((y + c) != 0) = true := by simp [hc]
      have hcp : 0 < y + c := by omega
      clear hc
      by_cases hd : y + d = 0
      · have hdb : ((y + d) != 0) = false := by simp [hd]
        have HD := hide hd
        clear hd
        obtain ⟨⟨fa, fb, fc, fd⟩, _⟩ := hF.facts
        obtain ⟨⟨ra, rb, rc, rd⟩, re, rf, rg, rh⟩ := hR.facts
        have XF := hide (hR.set a b c d).facts.1
        have Z := hide (below_set4 HB (Nat.le_refl _) (.int .i64 a) (.int .i64 b) (.int .i64 c) (.int .i64 d))
        go_wp2
        refine bodyPost_ret (v := .agg #[.int .i64 a, .int .i64 b, .int .i64 c, .int .i64 d]) ?_ rfl ⟨a, b, c, d, x, y, rfl, D.out, Z.out⟩
        simp [results, Tryz.results116, go_sem, XF.out.1, XF.out.2.1, XF.out.2.2.1, XF.out.2.2.2]
      · have hdb : ((y + d) != 0) = true := by simp [hd]
        have hdp : 0 < y + d := by omega
        clear hd
        have f1 := div_fit (u := x + a) hcp
        have f2 := div_fit (u := x + b) hdp
        have g1 := div_small pxa hcp
        have g2 := div_small pxb hdp
        have t1 : (x + a).tdiv (y + c) = (x + a) / (y + c) := Int.tdiv_eq_ediv_of_nonneg pxa
        have t2 : (x + b).tdiv (y + d) = (x + b) / (y + d) := Int.tdiv_eq_ediv_of_nonneg pxb
        obtain ⟨q, hq⟩ : ∃ q, (x + a) / (y + c) = q := ⟨_, rfl⟩
        obtain ⟨q', hq'⟩ : ∃ q, (x + b) / (y + d) = q := ⟨_, rfl⟩
        rw [hq] at f1 g1 t1
        rw [hq'] at f2 g2 t2
        clear hq hq'
        by_cases hqq : q = q'
        · subst hqq
          have ST' := hide (D.out.step hL hX hX2 hY hY2 h3 h4 hcp hdp f1.1 f1.2 f2.1 f2.2 g1.1)
          have LS := (D.out.less g1.1 f1.2 f2.2).1
          have bc' := ST'.out.bc
          have bd' := ST'.out.bd
          have by2 := ST'.out.y0'
          obtain ⟨P1, hP1⟩ : ∃ P, q * c = P := ⟨_, rfl⟩
          obtain ⟨P2, hP2⟩ : ∃ P, q * d = P := ⟨_, rfl⟩
          obtain ⟨P3, hP3⟩ : ∃ P, q * y = P := ⟨_, rfl⟩
          rw [hP1] at ST' bc'
          rw [hP2] at ST' bd'
          rw [hP3] at ST' LS by2
          obtain ⟨⟨fa, fb, fc, fd⟩, fe, ff, fg, fh⟩ := hF.facts
          have HF' := hide (hF.set c d (a - P1) (b - P2))
          have HR' := hide (hR.other (show w.heap.size ≠ w.heap.size + 1 by omega) (.int .i64 c) (.int .i64 d) (.int .i64 (a - P1)) (.int .i64 (b - P2)))
          have HB' := hide (below_set4 HB (Nat.le_succ _) (.int .i64 c) (.int .i64 d) (.int .i64 (a - P1)) (.int .i64 (b - P2)))
          have p3 : 0 ≤ P3 := by rw [← hP3]; exact Int.mul_nonneg g1.1 y1
          clear f1 f2
          go_wp2
          go_roundw
          case rel => exact ⟨c, d, a - P1, b - P2, y, x - P3, rfl, rfl, ST'.out, HF'.out, HR'.out, HB'.out⟩
          case measure => simp [intOf]; omega
        · have hqb : (q != q') = true := by simp [hqq]
          clear f1 f2
          obtain ⟨⟨fa, fb, fc, fd⟩, _⟩ := hF.facts
          obtain ⟨⟨ra, rb, rc, rd⟩, re, rf, rg, rh⟩ := hR.facts
          have XF := hide (hR.set a b c d).facts.1
          have Z := hide (below_set4 HB (Nat.le_refl _) (.int .i64 a) (.int .i64 b) (.int .i64 c) (.int .i64 d))
          go_wp2
          refine bodyPost_ret (v := .agg #[.int .i64 a, .int .i64 b, .int .i64 c, .int .i64 d]) ?_ rfl ⟨a, b, c, d, x, y, rfl, D.out, Z.out⟩
          simp [results, Tryz.results116, go_sem, XF.out.1, XF.out.2.1, XF.out.2.2.1, XF.out.2.2.2]
end Lm
end Go.Proofs.YtnomflballofiaaGreat

namespace Go.Proofs.YtnomflballofiaaGreat
namespace Lm
open Go.RowKit
theorem Fac.below {w w' : World} {g : Nat} {a b c d : Int} (h : Fac w g a b c d) (hb : Below w.heap.size w w') : Fac w' g a b c d := (hb.block g (lt_of_heap h)).trans h
theorem below_then {w w' w'' : World} (h : Below w.heap.size w w') (h2 : Below w'.heap.size w' w'') : Below w.heap.size w w'' := h.trans (h2.mono h.size)
theorem win_facts {X Y : Int} {l m : Nat} (hX : IsBits X l) (hl : l = m + 30) (hY0 : 0 ≤ Y) (hle : Y ≤ X) :
    X / p2 m % 1073741824 = X / p2 m ∧ Y / p2 m % 1073741824 = Y / p2 m ∧ 1 ≤ X / p2 m ∧ 0 ≤ Y / p2 m ∧ X / p2 m < 1073741824 ∧ Y / p2 m < 1073741824 ∧ X / p2 m * p2 m ≤ X ∧ X ≤ (X / p2 m + 1) * p2 m ∧ Y / p2 m * p2 m ≤ Y ∧ Y ≤ (Y / p2 m + 1) * p2 m := by
  have hp := p2_pos m
  have hlow : p2 (l - 1) ≤ X := by rcases hX.2 with h | h <;> omega
  have h29 : p2 (l - 1) = p2 m * p2 29 := by rw [← p2_add]; congr 1; omega
  have h30 : p2 l = p2 m * p2 30 := by rw [← p2_add, hl]
  rw [show p2 29 = 536870912 from by decide] at h29
  rw [show p2 30 = 1073741824 from by decide] at h30
  have hX1 := hX.1
  have fx := div_fit (u := X) (s := p2 m) (by omega)
  have fy := div_fit (u := Y) (s := p2 m) (by omega)
  have x0 : 0 ≤ X / p2 m := Int.ediv_nonneg (by omega) (by omega)
  have y0 : 0 ≤ Y / p2 m := Int.ediv_nonneg hY0 (by omega)
  have xl : X / p2 m < 1073741824 := Int.ediv_lt_of_lt_mul (by omega) (by rw [Int.mul_comm]; omega)
  have yl : Y / p2 m < 1073741824 := Int.ediv_lt_of_lt_mul (by omega) (by rw [Int.mul_comm]; omega)
  have x1 : 1 ≤ X / p2 m := by
    apply Int.le_ediv_of_mul_le (by omega)
    omega
  refine ⟨Int.emod_eq_of_lt x0 xl, Int.emod_eq_of_lt y0 yl, x1, y0, xl, yl, fx.1, by omega, fy.1, by omega⟩
set_option maxRecDepth 20000 in
set_option maxHeartbeats 2000000 in
theorem shrink_any (w : World) (B : Nat) (hB : B ≤ w.heap.size) (a1 a2 : Option Addr) (c1 c2 : Nat) (xs ys : List Int) (hx : Ow B w (.slice a1 xs.length c1) xs) (hy : Ow B w (.slice a2 ys.length c2) ys) (hcy : Canon ys) (hm : xs.length ≤ 400000) (h3 : 2 < ys.length) (hle : val ys ≤ val xs) :
    Calls Tryz.prog 97 #[.slice a1 xs.length c1, .slice a2 ys.length c2] w fun e w' => ∃ v1 v2 X' Y', e = .returned (.tuple #[v1, v2]) ∧ Is B w' v1 X' ∧ Is B w' v2 Y' ∧ Y' ≤ X' ∧ Y' < val ys ∧ X' ≤ val xs ∧ Int.gcd X' Y' = Int.gcd (val xs) (val ys) ∧ Below w.heap.size w w' := by
  obtain ⟨_, x1, x2, x3⟩ := hx.sl.parts
  obtain ⟨_, y1, y2, y3⟩ := hy.sl.parts
  have hY0 := (val_bounds y3).1
  have hlen : ys.length ≤ xs.length := le_len x3 hcy hle
  have hX64 : 18446744073709551616 ≤ val xs := by
    have h9 := canon_low hcy (by intro e; subst e; simp at h3)
    have h8 := pw_mono (m := 2) (n := ys.length - 1) (by omega)
    rw [show pw 2 = 18446744073709551616 from by decide] at h8
    omega
  have sx := hx.sl
  have sy := hy.sl
  go_enter Tryz.func97, Tryz.ntmps97
  go_wp2_with fail
  refine (bits_any _ _ _ _ xs sx (by omega)).mono ?_
  rintro e w' ⟨l, rfl, t1, rfl⟩
  have hl65 : 65 ≤ l := by
    apply Classical.byContradiction
    intro hn
    have h9 := p2_mono (m := l) (n := 64) (by omega)
    rw [show p2 64 = 18446744073709551616 from by decide] at h9
    have := t1.1
    omega
  have hlm : l ≤ 32 * xs.length := by
    have h9 := (val_bounds x3).2
    rw [pw_p2] at h9
    apply Classical.byContradiction
    intro hn
    have h8 := p2_mono (m := 32 * xs.length) (n := l - 1) (by omega)
    rcases t1.2 with h | h <;> omega
  obtain ⟨m, hm'⟩ : ∃ m, l = m + 30 := ⟨l - 30, by omega⟩
  have WF := hide (win_facts t1 hm' hY0 hle)
  have el : (l : Int) - 30 = (m : Nat) := by omega
  have kx : Hid (∀ w2 : World, Sl w2 (.slice a1 xs.length c1) xs → Calls Tryz.prog 117 #[.slice a1 xs.length c1, .int .i64 m] w2 fun e w3 => e = .returned (.int .u32 (val xs / p2 m)) ∧ w3 = w2) := by
    intro w2 h2
    have h9 := window_any w2 a1 _ c1 xs h2 m (by omega)
    rwa [WF.out.1] at h9
  have ky : Hid (∀ w2 : World, Sl w2 (.slice a2 ys.length c2) ys → Calls Tryz.prog 117 #[.slice a2 ys.length c2, .int .i64 m] w2 fun e w3 => e = .returned (.int .u32 (val ys / p2 m)) ∧ w3 = w2) := by
    intro w2 h2
    have h9 := window_any w2 a2 _ c2 ys h2 m (by omega)
    rwa [WF.out.2.1] at h9
  obtain ⟨u, hu⟩ : ∃ u, val xs / p2 m = u := ⟨_, rfl⟩
  obtain ⟨v, hv⟩ : ∃ v, val ys / p2 m = v := ⟨_, rfl⟩
  rw [hu] at WF kx
  rw [hv] at WF ky
  have u1 := WF.out.2.2.1
  have v1 := WF.out.2.2.2.1
  have u2 := WF.out.2.2.2.2.1
  have v2 := WF.out.2.2.2.2.2.1
  have kl : Hid (∀ w2 : World, Calls Tryz.prog 116 #[.int .i64 u, .int .i64 v] w2 fun e w3 => ∃ a b c d x y, e = .returned (.agg #[.int .i64 a, .int .i64 b, .int .i64 c, .int .i64 d]) ∧ Lh u v (val xs) (val ys) a b c d x y ∧ Below w2.heap.size w2 w3) := by
    intro w2
    have hp := p2_pos m
    exact lookAhead_any w2 u v (val xs) (val ys) (p2 m) u1 v1 u2 v2 hY0 hle (by omega) WF.out.2.2.2.2.2.2.1 WF.out.2.2.2.2.2.2.2.1 WF.out.2.2.2.2.2.2.2.2.1 WF.out.2.2.2.2.2.2.2.2.2
  clear t1 hm' hu hv x3 y3
  go_wp2_with fail
  refine (kx.out _ sx).mono ?_
  rintro e w2 ⟨rfl, rfl⟩
  go_wp2_with fail
  refine (ky.out _ sy).mono ?_
  rintro e w2 ⟨rfl, rfl⟩
  go_wp2_with fail
  refine (kl.out _).mono ?_
  rintro e w3 ⟨a, b, c, d, x, y, rfl, hD, hb3⟩
  have D := hide hD
  have hb4 : Below w3.heap.size w3 (w3.alloc (.cells #[.int .i64 a, .int .i64 b, .int .i64 c, .int .i64 d] 138)) := (Below.refl _ _).alloc (Nat.le_refl _) _
  have HZ : Below w2.heap.size w2 (w3.alloc (.cells #[.int .i64 a, .int .i64 b, .int .i64 c, .int .i64 d] 138)) := below_then hb3 hb4
  have FZ : Fac (w3.alloc (.cells #[.int .i64 a, .int .i64 b, .int .i64 c, .int .i64 d] 138)) w3.heap.size a b c d := heap_alloc_new w3 _
  obtain ⟨w4, e4⟩ : ∃ w4, w3.alloc (.cells #[.int .i64 a, .int .i64 b, .int .i64 c, .int .i64 d] 138) = w4 := ⟨_, rfl⟩
  rw [e4] at HZ FZ
  have E4 := hide e4
  clear e4 hD hb4
  have hx4 := hx.below HZ
  have hy4 := hy.below HZ
  by_cases hb : b = 0
  · subst hb
    have G := hide (gcd_step (val xs) (val ys) (val xs / val ys))
    have hpos : 0 < val ys := by
      have h9 := canon_low hcy (by intro e; subst e; simp at h3)
      have := pw_pos (ys.length - 1)
      omega
    have hmod : val xs - val xs / val ys * val ys = val xs % val ys := by
      have := Int.mul_ediv_add_emod (val xs) (val ys)
      rw [Int.mul_comm] at this
      omega
    rw [hmod] at G
    have M := hide (And.intro (Int.emod_nonneg (val xs) (show val ys ≠ 0 by omega)) (Int.emod_lt_of_pos (val xs) hpos))
    clear hmod
    go_wp2_with fail
    rw [E4.out]
    refine (divmod_any _ _ _ _ _ _ _ xs ys hx4.sl hy4.sl (by omega) (by omega)).mono ?_
    rintro e w5 ⟨v1', v2', rfl, i1, i2, _, hb5⟩
    have R1 : Hid (Is B w5 (.slice a2 ys.length c2) (val ys)) := ⟨ys, hy4.below hb5, hcy, rfl⟩
    have R2 := hide (i2.mono (B' := B) (by have := HZ.size; omega))
    have Z := hide (below_then HZ hb5)
    go_wp2
    go_ret2
    exact ⟨_, _, val ys, val xs % val ys, rfl, R1.out, R2.out, by have := M.out; omega, M.out.2, hle, G.out, Z.out⟩
  · have hbb : (b == 0) = false := by simp [hb]
    obtain ⟨⟨fa, fb, fc, fd⟩, fe, ff, fg, fh⟩ := FZ.facts
    have VX := (val_bounds hx.sl.parts.2.2.2).2
    have sgn1 : (0 ≤ a ∧ b ≤ 0) ∨ (a ≤ 0 ∧ 0 ≤ b) := by rcases D.out.sig with h | h <;> omega
    have sgn2 : (0 ≤ c ∧ d ≤ 0) ∨ (c ≤ 0 ∧ 0 ≤ d) := by rcases D.out.sig with h | h <;> omega
    have SG1 := hide sgn1
    have SG2 := hide sgn2
    have P1 : Hid (0 ≤ a * val xs + b * val ys ∧ a * val xs + b * val ys < pw xs.length) := by have h1 := D.out.le; have h2 := D.out.nn; have h4 := D.out.top; show _ ∧ _; omega
    have P2 : Hid (0 ≤ c * val xs + d * val ys ∧ c * val xs + d * val ys < pw xs.length) := by have h1 := D.out.le; have h2 := D.out.nn; have h4 := D.out.top; show _ ∧ _; omega
    have HB0 := hide hb
    clear sgn1 sgn2 VX hb
    go_wp2
    rw [E4.out]
    go_region_held3 (fun w' => w'.cell? ⟨w3.heap.size, 0, none⟩ = some (.int .i64 a) ∧ w'.cell? ⟨w3.heap.size, 1, none⟩ = some (.int .i64 b) ∧ w'.cell? ⟨w3.heap.size, 2, none⟩ = some (.int .i64 c) ∧ w'.cell? ⟨w3.heap.size, 3, none⟩ = some (.int .i64 d)) (go_keep) (first
      | (go_at_call 118; have _hq := hb5'; refine (combine_any _ _ _ _ _ _ _ xs ys ((hx4.below hb5').sl.below (by repeat (first | exact Below.refl _ _ | refine Below.drew ?_))) ((hy4.below hb5').sl.below (by repeat (first | exact Below.refl _ _ | refine Below.drew ?_))) (by omega) hlen c d D.out.bc D.out.bd SG2.out P2.out.1 P2.out.2).mono ?_; rintro e w6 ⟨v6, rfl, i6, hb6⟩; have hb6' : Below w5.heap.size w5 w6 := (show Below w5.heap.size w5 _ by repeat (first | exact Below.refl _ _ | refine Below.drew ?_)).trans hb6; have FZ6 := FZ5.below hb6'; obtain ⟨⟨ha, hb, hc, hd⟩, he, hf, hg, hh⟩ := FZ6.facts)
      | (go_at_call 118; refine (combine_any _ _ _ _ _ _ _ xs ys (hx4.sl.below (by repeat (first | exact Below.refl _ _ | refine Below.drew ?_))) (hy4.sl.below (by repeat (first | exact Below.refl _ _ | refine Below.drew ?_))) (by omega) hlen a b D.out.ba D.out.bb SG1.out P1.out.1 P1.out.2).mono ?_; rintro e w5 ⟨v5, rfl, i5, hb5⟩; have hb5' : Below w4.heap.size w4 w5 := (show Below w4.heap.size w4 _ by repeat (first | exact Below.refl _ _ | refine Below.drew ?_)).trans hb5; have FZ5 := FZ.below hb5'; obtain ⟨⟨ga, gb, gc, gd⟩, ge, gf, gg, gh⟩ := FZ5.facts))
    all_goals
      have R1 := hide ((i5.below hb6').mono (B' := B) (show B ≤ w4.heap.size by have := HZ.size; omega))
      have R2 := hide (i6.mono (B' := B) (show B ≤ w5.heap.size by have := HZ.size; have := hb5'.size; omega))
      have Z := hide (below_then HZ (below_then hb5' hb6'))
      clear fa fb fc fd fe ff fg fh ga gb gc gd ge gf gg gh ha hb hc hd he hf hg hh
      go_wp2
      go_ret2
      exact ⟨_, _, _, _, rfl, R1.out, R2.out, D.out.le, D.out.bz HB0.out, D.out.top, D.out.gcd, Z.out⟩
end Lm
end Go.Proofs.YtnomflballofiaaGreat

namespace Go.Proofs.YtnomflballofiaaGreat
namespace Lm
open Go.RowKit
theorem two_val' {rs : List Int} (h : ¬ 2 < rs.length) : rs.getD 1 0 * 4294967296 + rs.getD 0 0 = val rs := by
  match rs, h with
  | [], _ => rfl
  | [x], _ => simp [val]
  | [x, y], _ => simp [val]; omega
  | _ :: _ :: _ :: _, h => simp at h
theorem ret2_u64' {a b : Int} (h : a = b) : Ending.returned (.tuple #[.int .u64 a, .bool true]) = .returned (.tuple #[.int .u64 b, .bool true]) := by rw [h]
theorem short_val' {rs : List Int} (h : Limb rs) (h2 : rs.length ≤ 2) : 0 ≤ val rs ∧ val rs < 18446744073709551616 := by
  have h1 := val_bounds h
  have h3 := pw_mono (m := rs.length) (n := 2) (by omega)
  rw [show pw 2 = 18446744073709551616 from by decide] at h3
  omega
set_option maxRecDepth 20000 in
set_option maxHeartbeats 400000 in
theorem uint_short (w : World) (ao : Option Addr) (n cap : Nat) (xs : List Int) (hx : Sl w (.slice ao n cap) xs) (hs : xs.length ≤ 2) :
    Calls Tryz.prog 98 #[.slice ao n cap] w fun e w' => e = .returned (.tuple #[.int .u64 (val xs), .bool true]) ∧ w' = w := by
  obtain ⟨rfl, h1, h2, h3⟩ := hx.parts
  have t1 := tl_le xs
  have kc := hide (cut_any w ao _ cap xs hx)
  have hcn := canon_trim h3
  have hX : (xs.take (tl xs)).length = tl xs := by simp; omega
  have h2' : ¬ (2 : Int) < ((tl xs : Nat) : Int) := by omega
  have E3 := hide (two_val' (rs := xs.take (tl xs)) (by omega))
  rw [val_take_tl] at E3
  have b1 := limb_getD hcn.1 1
  have b0 := limb_getD hcn.1 0
  have k1 := limb_nat w _ _ hx.cut 1
  have k0 := limb_nat w _ _ hx.cut 0
  generalize (xs.take (tl xs)).getD 1 0 = y1 at E3 b1 k1
  generalize (xs.take (tl xs)).getD 0 0 = y0 at E3 b0 k0
  have K1 := hide k1
  have K0 := hide k0
  have hor : bits .or .u64 (y1 * 4294967296) y0 = y1 * 4294967296 + y0 := or_join y1 y0 b1.1 b1.2 b0.1 b0.2
  clear hcn hX k1 k0
  go_enter Tryz.func98, Tryz.ntmps98
  go_wp2_with fail
  refine (kc.out).mono ?_
  rintro e w' ⟨rfl, rfl⟩
  go_wp2_with fail
  refine (K1.out).mono ?_
  rintro e w' ⟨rfl, rfl⟩
  go_wp2_with fail
  refine (K0.out).mono ?_
  rintro e w' ⟨rfl, rfl⟩
  go_wp2
  go_ret2
  exact ⟨ret2_u64' E3.out, rfl⟩
theorem gcd_mod (m n : Int) : Int.gcd n (m % n) = Int.gcd m n := by
  have h1 := gcd_step m n (m / n)
  have h2 := Int.mul_ediv_add_emod m n
  rw [Int.mul_comm] at h2
  rw [show m - m / n * n = m % n by omega] at h1
  exact h1
theorem ret_u64 {a b : Int} (h : a = b) : Ending.returned (.int .u64 a) = .returned (.int .u64 b) := by rw [h]
set_option maxRecDepth 20000 in
set_option maxHeartbeats 400000 in
theorem gcdShort_any (w : World) (m n : Int) (hm : 0 ≤ m ∧ m < 18446744073709551616) (hn : 0 ≤ n ∧ n < 18446744073709551616) :
    Calls Tryz.prog 99 #[.int .u64 m, .int .u64 n] w fun e w' => e = .returned (.int .u64 (Int.gcd m n)) ∧ Below w.heap.size w w' := by
  go_enter Tryz.func99, Tryz.ntmps99
  go_wp2
  go_loopw [0, 1] (fun mv nv wr => ∃ a b : Int, mv = .int .u64 a ∧ nv = .int .u64 b ∧ (0 ≤ a ∧ a < 18446744073709551616) ∧ (0 ≤ b ∧ b < 18446744073709551616) ∧ Int.gcd a b = Int.gcd m n ∧ Below w.heap.size w wr) (fun _ nv _ => (intOf nv).toNat)
  case atStart => exact ⟨m, n, rfl, rfl, hm, hn, rfl, Below.refl _ _⟩
  case round =>
    obtain ⟨a, b, rfl, rfl, ha, hb, hg, HB⟩ := hrel
    have HG := hide hg
    clear hg
    by_cases h0 : b = 0
    · subst h0
      have HF : Hid (a = (Int.gcd m n : Int)) := by
        show _ = _
        rw [← HG.out, Int.gcd_zero_right]
        omega
      go_wp2
      go_ret
      exact ⟨ret_u64 HF.out, HB⟩
    · have hbb : (b != 0) = true := by simp [h0]
      have t1 : a.tmod b = a % b := Int.tmod_eq_emod_of_nonneg ha.1
      have r0 := Int.emod_nonneg a h0
      have r1 := Int.emod_lt_of_pos a (show 0 < b by omega)
      have HG' := hide ((gcd_mod a b).trans HG.out)
      go_wp2
      go_quiet (fail)
      go_wp2
      go_roundw
      case rel => exact ⟨b, a % b, rfl, rfl, hb, by omega, HG'.out, below_drewN HB _⟩
      case measure => simp [intOf]; omega
theorem Is.ow {B : Nat} {w : World} {v : Value} {x : Int} (h : Is B w v x) : ∃ ao cap rs, v = .slice ao rs.length cap ∧ Ow B w (.slice ao rs.length cap) rs ∧ Canon rs ∧ val rs = x := by
  obtain ⟨rs, ho, hc, hv⟩ := h
  obtain ⟨ao, cap, rfl, h1, h2, h3, h4⟩ := ho
  exact ⟨ao, cap, rs, rfl, ⟨ao, cap, rfl, h1, h2, h3, h4⟩, hc, hv⟩
theorem trim_is' (w : World) (ao : Option Addr) (n cap : Nat) (zs : List Int) (h : Sl w (.slice ao n cap) zs) (hz : zs.length ≤ 1000000) :
    Calls Tryz.prog 85 #[.slice ao n cap] w fun e w' => ∃ ao cap rs, e = .returned (.slice ao rs.length cap) ∧ Ow w.heap.size w' (.slice ao rs.length cap) rs ∧ Canon rs ∧ val rs = val zs ∧ rs.length ≤ zs.length ∧ Below w.heap.size w w' := by
  refine (trim_any w ao n cap zs h hz).mono ?_
  rintro e w' ⟨v, rfl, ho, hb⟩
  obtain ⟨ao', cap', rs, rfl, h1, h2, h3⟩ := Is.ow (B := w.heap.size) ⟨_, ho, canon_trim h.parts.2.2.2, val_take_tl zs⟩
  exact ⟨ao', cap', rs, rfl, h1, h2, h3, le_len h.parts.2.2.2 h2 (by omega), hb⟩
theorem sl_one_list {w : World} {v : Value} {r s : List Int} (h1 : Sl w v r) (h2 : Sl w v s) : r = s := by
  obtain ⟨ao, cap, rfl, _, _, _, h4⟩ := h1
  obtain ⟨ao', cap', hv, _, _, _, g4⟩ := h2
  obtain ⟨rfl, hl, rfl⟩ := (Value.slice.injEq .. ▸ hv)
  apply List.ext_getElem hl
  intro i hi1 hi2
  rcases h4 with rfl | ⟨b, off, rfl, hc⟩
  · simp at hi1
  rcases g4 with rfl | ⟨b', off', e, hc'⟩
  · simp at hi2
  · obtain ⟨rfl, rfl⟩ : b = b' ∧ off = off' := by simpa using e
    have e1 := hc i hi1
    have e2 := hc' i hi2
    rw [e1] at e2
    simp only [Option.some.injEq, Value.int.injEq, true_and, List.getD_eq_getElem?_getD, List.getElem?_eq_getElem hi1, List.getElem?_eq_getElem hi2, Option.getD_some] at e2
    exact e2
open Classical in
noncomputable def worth (w : World) (v : Value) : Nat := if h : ∃ r, Sl w v r then (val (Classical.choose h)).toNat else 0
theorem worth_of {w : World} {v : Value} {r : List Int} (h : Sl w v r) : worth w v = (val r).toNat := by
  have hex : ∃ r, Sl w v r := ⟨r, h⟩
  unfold worth
  rw [dif_pos hex, sl_one_list (Classical.choose_spec hex) h]
set_option maxRecDepth 20000 in
set_option maxHeartbeats 2000000 in
theorem gcd_any (w : World) (a1 a2 : Option Addr) (n1 n2 c1 c2 : Nat) (xs ys : List Int) (hx : Sl w (.slice a1 n1 c1) xs) (hy : Sl w (.slice a2 n2 c2) ys) (hm1 : xs.length ≤ 400000) (hm2 : ys.length ≤ 400000) :
    Calls Tryz.prog 71 #[.slice a1 n1 c1, .slice a2 n2 c2] w fun e w' => ∃ v, e = .returned v ∧ Is w.heap.size w' v (Int.gcd (val xs) (val ys)) ∧ Below w.heap.size w w' := by
  go_enter Tryz.func71, Tryz.ntmps71
  go_wp2_with fail
  refine (trim_is' _ _ _ _ xs hx (by omega)).mono ?_
  rintro e w1 ⟨p1, q1, r1, rfl, o1, k1, v1, l1, hb1⟩
  go_wp2_with fail
  refine (trim_is' _ _ _ _ ys (hy.below hb1) (by omega)).mono ?_
  rintro e w2 ⟨p2, q2, r2, rfl, o2, k2, v2, l2, hb2⟩
  replace o1 := o1.below hb2
  replace o2 := o2.mono (B' := w.heap.size) hb1.size
  have HB2 := below_then hb1 hb2
  have C1 := hide k1
  have C2 := hide k2
  have V1 := hide v1
  have V2 := hide v2
  clear k1 k2 v1 v2
  have hle := fun (h : ¬ val r1 < val r2) => show val r2 ≤ val r1 by omega
  have g0 : ∀ {a b c d : Int}, Int.gcd a b = Int.gcd c d → ((Int.gcd a b : Nat) : Int) = ((Int.gcd c d : Nat) : Int) := fun h => by rw [h]
  have G1 : Hid (Int.gcd (val r1) (val r2) = Int.gcd (val xs) (val ys)) := by rw [V1.out, V2.out]; rfl
  have G2 : Hid (Int.gcd (val r2) (val r1) = Int.gcd (val xs) (val ys)) := by show _ = _; rw [Int.gcd_comm]; exact G1.out
  clear g0 hle
  by_cases hlt : val r1 < val r2
  · have k1 := hide (cmpI_lt hlt)
    have HLT := hide hlt
    clear hlt
    go_wp2_with fail
    refine (cmp_any _ _ _ _ _ _ _ r1 r2 o1.sl o2.sl).mono ?_
    rintro e w3 ⟨rfl, hb3⟩
    rw [k1.out]
    replace o1 := o1.below hb3
    replace o2 := o2.below hb3
    have HB3 := below_then HB2 hb3
    go_wp2
    go_loopw [5, 6] (fun xv yv wr => ∃ (p p' : Option Addr) (q q' : Nat) (r r' : List Int), xv = .slice p r.length q ∧ yv = .slice p' r'.length q' ∧ Ow w.heap.size wr (.slice p r.length q) r ∧ Canon r ∧ Ow w.heap.size wr (.slice p' r'.length q') r' ∧ Canon r' ∧ val r' ≤ val r ∧ r.length ≤ 400000 ∧ Int.gcd (val r) (val r') = Int.gcd (val xs) (val ys) ∧ Below w.heap.size w wr) (fun _ yv wr => worth wr yv)
    case atStart => exact ⟨p2, p1, q2, q1, r2, r1, rfl, rfl, o2, C2.out, o1, C1.out, by have := HLT.out; omega, by omega, G2.out, HB3⟩
    case round =>
      obtain ⟨p, p', q, q', r, r', rfl, rfl, hr, hcr, hr', hcr', hle, hlr, hg, HB⟩ := hrel
      obtain ⟨_, z1, z2, z3⟩ := hr.sl.parts
      obtain ⟨_, y1, y2, y3⟩ := hr'.sl.parts
      have HCR := hide hcr
      have HCR' := hide hcr'
      have HLE := hide hle
      have HG := hide hg
      have Z3 := hide z3
      have Y3 := hide y3
      have hrl : r'.length ≤ r.length := le_len z3 hcr' hle
      clear hcr hcr' hle hg z3 y3
      by_cases h2 : 2 < r'.length
      · have h2' : (2 : Int) < (r'.length : Int) := by omega
        have ks := hide (shrink_any wr w.heap.size HB.size p p' q q' r r' hr hr' HCR'.out hlr h2 HLE.out)
        have MW := hide (worth_of hr'.sl)
        have V0 := hide (val_bounds Y3.out).1
        go_wp2_with fail
        refine (ks.out).mono ?_
        rintro e w5 ⟨v5, v6, X', Y', rfl, i5, i6, hle5, hlt5, htop5, hg5, hb5⟩
        obtain ⟨p5, q5, r5, rfl, o5, c5, e5⟩ := i5.ow
        obtain ⟨p6, q6, r6, rfl, o6, c6, e6⟩ := i6.ow
        have MW5 := hide (worth_of o6.sl)
        have L5 : Hid (r5.length ≤ 400000) := by
          have h9 := le_len Z3.out c5 (by rw [e5]; exact htop5)
          show _ ≤ _
          omega
        have R := hide (And.intro e5 (And.intro e6 (And.intro hle5 (And.intro hlt5 hg5))))
        have C5 := hide c5
        have C6 := hide c6
        have Z5 := hide (HB.trans (hb5.mono HB.size))
        clear e5 e6 hle5 hlt5 htop5 hg5 c5 c6
        go_wp2
        go_roundw
        case rel => exact ⟨p5, p6, q5, q6, r5, r6, rfl, rfl, o5, C5.out, o6, C6.out, by rw [R.out.1, R.out.2.1]; exact R.out.2.2.1, L5.out, by rw [R.out.1, R.out.2.1, R.out.2.2.2.2]; exact HG.out, Z5.out⟩
        case measure =>
          rw [MW.out, MW5.out, R.out.2.1]
          have h8 := (val_bounds C6.out.1).1
          rw [R.out.2.1] at h8
          have h7 := R.out.2.2.2.1
          omega
      · have h2' : ¬ (2 : Int) < (r'.length : Int) := by omega
        by_cases h0 : val r' = 0
        · have kd := hide (divmod_none wr _ _ _ _ _ _ r r' hr.sl hr'.sl h0)
          have F : Hid (Is w.heap.size wr (.slice p r.length q) (Int.gcd (val xs) (val ys))) := by
            refine ⟨r, hr, HCR.out, ?_⟩
            rw [← HG.out, h0, Int.gcd_zero_right]
            have := (val_bounds Z3.out).1
            omega
          go_wp2_with fail
          refine (kd.out).mono ?_
          rintro e w5 ⟨rfl, hb5⟩
          have F5 := hide (F.out.below hb5)
          have Z5 := hide (HB.trans (hb5.mono HB.size))
          go_wp2
          go_ret
          exact ⟨_, rfl, F5.out, Z5.out⟩
        · have kd := hide (divmod_g wr _ _ _ _ _ _ r r' hr.sl hr'.sl (by omega) h0)
          have GM := hide ((gcd_mod (val r) (val r')).trans HG.out)
          have sv := short_val' Y3.out (by omega)
          go_wp2_with fail
          refine (kd.out).mono ?_
          rintro e w5 ⟨p5, q5, r5, p6, q6, r6, rfl, G5, G6, l5, l6, hb5⟩
          have hr5 := hr'.below hb5
          have sv6 := short_val' G6.canon.1 (by omega)
          have V6 := hide G6.val
          have Z5 := HB.trans (hb5.mono HB.size)
          go_wp2_with fail
          refine (uint_short _ _ _ _ r' hr5.sl (by omega)).mono ?_
          rintro e w6 ⟨rfl, rfl⟩
          go_wp2_with fail
          refine (uint_short _ _ _ _ r6 G6.sl (by omega)).mono ?_
          rintro e w6 ⟨rfl, rfl⟩
          go_wp2_with fail
          refine (gcdShort_any _ (val r') (val r6) sv sv6).mono ?_
          rintro e w7 ⟨rfl, hb7⟩
          have E7 : Hid (Int.gcd (val r') (val r6) = Int.gcd (val xs) (val ys)) := by rw [V6.out]; exact GM.out
          rw [E7.out]
          have hgl : Hid (((Int.gcd (val xs) (val ys) : Nat) : Int) < 18446744073709551616) := by
            have h9 : Int.gcd (val r') (val r6) ≤ (val r').natAbs := Int.gcd_le_natAbs_left _ (by omega)
            rw [E7.out] at h9
            show _ < _
            omega
          have Z7 := Z5.trans (hb7.mono Z5.size)
          have hs0 : (0 : Int) ≤ ((Int.gcd (val xs) (val ys) : Nat) : Int) := by omega
          obtain ⟨GG, hGG⟩ : ∃ G, ((Int.gcd (val xs) (val ys) : Nat) : Int) = G := ⟨_, rfl⟩
          rw [hGG] at hgl hs0 ⊢
          have HGG := hide hGG
          clear hGG
          go_wp2_with fail
          refine (small_any _ GG hs0 hgl.out).mono ?_
          rintro e w8 ⟨v8, rfl, i8, hb8⟩
          have R8 := hide (i8.mono (B' := w.heap.size) Z7.size)
          have Z8 := hide (Z7.trans (hb8.mono Z7.size))
          go_wp2
          go_ret
          exact ⟨_, rfl, by rw [HGG.out]; exact R8.out, Z8.out⟩
  · have HK : Hid (∃ k, cmpI (val r1) (val r2) = k ∧ ¬ k < 0) := ⟨_, rfl, fun h => hlt (cmpI_neg.1 h)⟩
    obtain ⟨k, hk, hk0⟩ := HK.out
    have k1 := hide hk
    have HLT := hide hlt
    clear hlt hk HK
    go_wp2_with fail
    refine (cmp_any _ _ _ _ _ _ _ r1 r2 o1.sl o2.sl).mono ?_
    rintro e w3 ⟨rfl, hb3⟩
    rw [k1.out]
    replace o1 := o1.below hb3
    replace o2 := o2.below hb3
    have HB3 := below_then HB2 hb3
    go_wp2
    go_loopw [5, 6] (fun xv yv wr => ∃ (p p' : Option Addr) (q q' : Nat) (r r' : List Int), xv = .slice p r.length q ∧ yv = .slice p' r'.length q' ∧ Ow w.heap.size wr (.slice p r.length q) r ∧ Canon r ∧ Ow w.heap.size wr (.slice p' r'.length q') r' ∧ Canon r' ∧ val r' ≤ val r ∧ r.length ≤ 400000 ∧ Int.gcd (val r) (val r') = Int.gcd (val xs) (val ys) ∧ Below w.heap.size w wr) (fun _ yv wr => worth wr yv)
    case atStart => exact ⟨p1, p2, q1, q2, r1, r2, rfl, rfl, o1, C1.out, o2, C2.out, by have := HLT.out; omega, by omega, G1.out, HB3⟩
    case round =>
      obtain ⟨p, p', q, q', r, r', rfl, rfl, hr, hcr, hr', hcr', hle, hlr, hg, HB⟩ := hrel
      obtain ⟨_, z1, z2, z3⟩ := hr.sl.parts
      obtain ⟨_, y1, y2, y3⟩ := hr'.sl.parts
      have HCR := hide hcr
      have HCR' := hide hcr'
      have HLE := hide hle
      have HG := hide hg
      have Z3 := hide z3
      have Y3 := hide y3
      have hrl : r'.length ≤ r.length := le_len z3 hcr' hle
      clear hcr hcr' hle hg z3 y3
      by_cases h2 : 2 < r'.length
      · have h2' : (2 : Int) < (r'.length : Int) := by omega
        have ks := hide (shrink_any wr w.heap.size HB.size p p' q q' r r' hr hr' HCR'.out hlr h2 HLE.out)
        have MW := hide (worth_of hr'.sl)
        have V0 := hide (val_bounds Y3.out).1
        go_wp2_with fail
        refine (ks.out).mono ?_
        rintro e w5 ⟨v5, v6, X', Y', rfl, i5, i6, hle5, hlt5, htop5, hg5, hb5⟩
        obtain ⟨p5, q5, r5, rfl, o5, c5, e5⟩ := i5.ow
        obtain ⟨p6, q6, r6, rfl, o6, c6, e6⟩ := i6.ow
        have MW5 := hide (worth_of o6.sl)
        have L5 : Hid (r5.length ≤ 400000) := by
          have h9 := le_len Z3.out c5 (by rw [e5]; exact htop5)
          show _ ≤ _
          omega
        have R := hide (And.intro e5 (And.intro e6 (And.intro hle5 (And.intro hlt5 hg5))))
        have C5 := hide c5
        have C6 := hide c6
        have Z5 := hide (HB.trans (hb5.mono HB.size))
        clear e5 e6 hle5 hlt5 htop5 hg5 c5 c6
        go_wp2
        go_roundw
        case rel => exact ⟨p5, p6, q5, q6, r5, r6, rfl, rfl, o5, C5.out, o6, C6.out, by rw [R.out.1, R.out.2.1]; exact R.out.2.2.1, L5.out, by rw [R.out.1, R.out.2.1, R.out.2.2.2.2]; exact HG.out, Z5.out⟩
        case measure =>
          rw [MW.out, MW5.out, R.out.2.1]
          have h8 := (val_bounds C6.out.1).1
          rw [R.out.2.1] at h8
          have h7 := R.out.2.2.2.1
          omega
      · have h2' : ¬ (2 : Int) < (r'.length : Int) := by omega
        by_cases h0 : val r' = 0
        · have kd := hide (divmod_none wr _ _ _ _ _ _ r r' hr.sl hr'.sl h0)
          have F : Hid (Is w.heap.size wr (.slice p r.length q) (Int.gcd (val xs) (val ys))) := by
            refine ⟨r, hr, HCR.out, ?_⟩
            rw [← HG.out, h0, Int.gcd_zero_right]
            have := (val_bounds Z3.out).1
            omega
          go_wp2_with fail
          refine (kd.out).mono ?_
          rintro e w5 ⟨rfl, hb5⟩
          have F5 := hide (F.out.below hb5)
          have Z5 := hide (HB.trans (hb5.mono HB.size))
          go_wp2
          go_ret
          exact ⟨_, rfl, F5.out, Z5.out⟩
        · have kd := hide (divmod_g wr _ _ _ _ _ _ r r' hr.sl hr'.sl (by omega) h0)
          have GM := hide ((gcd_mod (val r) (val r')).trans HG.out)
          have sv := short_val' Y3.out (by omega)
          go_wp2_with fail
          refine (kd.out).mono ?_
          rintro e w5 ⟨p5, q5, r5, p6, q6, r6, rfl, G5, G6, l5, l6, hb5⟩
          have hr5 := hr'.below hb5
          have sv6 := short_val' G6.canon.1 (by omega)
          have V6 := hide G6.val
          have Z5 := HB.trans (hb5.mono HB.size)
          go_wp2_with fail
          refine (uint_short _ _ _ _ r' hr5.sl (by omega)).mono ?_
          rintro e w6 ⟨rfl, rfl⟩
          go_wp2_with fail
          refine (uint_short _ _ _ _ r6 G6.sl (by omega)).mono ?_
          rintro e w6 ⟨rfl, rfl⟩
          go_wp2_with fail
          refine (gcdShort_any _ (val r') (val r6) sv sv6).mono ?_
          rintro e w7 ⟨rfl, hb7⟩
          have E7 : Hid (Int.gcd (val r') (val r6) = Int.gcd (val xs) (val ys)) := by rw [V6.out]; exact GM.out
          rw [E7.out]
          have hgl : Hid (((Int.gcd (val xs) (val ys) : Nat) : Int) < 18446744073709551616) := by
            have h9 : Int.gcd (val r') (val r6) ≤ (val r').natAbs := Int.gcd_le_natAbs_left _ (by omega)
            rw [E7.out] at h9
            show _ < _
            omega
          have Z7 := Z5.trans (hb7.mono Z5.size)
          have hs0 : (0 : Int) ≤ ((Int.gcd (val xs) (val ys) : Nat) : Int) := by omega
          obtain ⟨GG, hGG⟩ : ∃ G, ((Int.gcd (val xs) (val ys) : Nat) : Int) = G := ⟨_, rfl⟩
          rw [hGG] at hgl hs0 ⊢
          have HGG := hide hGG
          clear hGG
          go_wp2_with fail
          refine (small_any _ GG hs0 hgl.out).mono ?_
          rintro e w8 ⟨v8, rfl, i8, hb8⟩
          have R8 := hide (i8.mono (B' := w.heap.size) Z7.size)
          have Z8 := hide (Z7.trans (hb8.mono Z7.size))
          go_wp2
          go_ret
          exact ⟨_, rfl, by rw [HGG.out]; exact R8.out, Z8.out⟩
end Lm
end Go.Proofs.YtnomflballofiaaGreat

namespace Go.Proofs.YtnomflballofiaaGreat
namespace Lm
open Go.RowKit
theorem gcd_sg (nx ny : Bool) (X Y : Int) : Int.gcd (sg nx X) (sg ny Y) = Int.gcd X Y := by
  cases nx <;> cases ny <;> simp [sg]
theorem gcd_small {X Y : Int} (hX : 0 ≤ X) (hY : 0 ≤ Y) : ((Int.gcd X Y : Nat) : Int) ≤ X + Y := by
  by_cases h : X = 0
  · subst h
    rw [Int.gcd_zero_left]
    omega
  · have h9 : Int.gcd X Y ≤ X.natAbs := Int.gcd_le_natAbs_left _ h
    omega
theorem gcd_g (w : World) (a1 a2 : Option Addr) (n1 n2 c1 c2 : Nat) (xs ys : List Int) (hx : Sl w (.slice a1 n1 c1) xs) (hy : Sl w (.slice a2 n2 c2) ys) (hm1 : xs.length ≤ 400000) (hm2 : ys.length ≤ 400000) :
    Calls Tryz.prog 71 #[.slice a1 n1 c1, .slice a2 n2 c2] w fun e w' => ∃ ao cap rs, e = .returned (.slice ao rs.length cap) ∧ Got w' ao cap rs (Int.gcd (val xs) (val ys)) ∧ rs.length ≤ xs.length + ys.length + 1 ∧ Below w.heap.size w w' := by
  refine (gcd_any w a1 a2 n1 n2 c1 c2 xs ys hx hy hm1 hm2).mono ?_
  rintro e w' ⟨v, rfl, hi, hb⟩
  obtain ⟨ao, cap, rs, rfl, hg⟩ := hi.got
  refine ⟨ao, cap, rs, rfl, hg, canon_len hg.canon ?_, hb⟩
  rw [hg.val]
  have b1 := val_bounds hx.parts.2.2.2
  have b2 := val_bounds hy.parts.2.2.2
  have h1 := gcd_small b1.1 b2.1
  have m1 := pw_mono (m := xs.length) (n := xs.length + ys.length) (by omega)
  have m2 := pw_mono (m := ys.length) (n := xs.length + ys.length) (by omega)
  rw [pw]
  have := pw_pos (xs.length + ys.length)
  omega
end Lm
end Go.Proofs.YtnomflballofiaaGreat

namespace Go.Proofs.YtnomflballofiaaGreat
namespace Lm
open Go Go.RowKit
section
variable {dst : Option Tmp} {ty : TypeId} {pos : String} {after : Array Edge} {guard : Option (Nat × Bool)} {a : Act} {w : World} {ats : Array TypeId} {i j : Nat} {x y : Int} {L L1 L2 : Nat}
theorem has_ltrim : Has Tryz.prog 85 := by unfold Has; kernel_rfl
theorem op_ltrim (h : IsL x L (a.eval (.tmp i)) w) (hL : L ≤ 1000000) :
    Does Tryz.prog { dst, op := .call { callee := .value (.func 85), args := #[.tmp i], argTypes := ats }, type := ty, pos, after, guard } a.eval w fun v w' => Below w.heap.size w w' ∧ OutL x L v w' := by
  obtain ⟨ao, n, cap, xs, e, S, rfl, l⟩ := h
  refine does_call has_ltrim _ (by simp only [List.map_toArray, List.map_cons, List.map_nil, e]) ((trim_g w _ _ _ _ S (by omega)).mono ?_)
  rintro e w' ⟨ao, cap, rs, rfl, G, l', hb⟩
  exact ⟨_, rfl, hb, _, _, _, rfl, G, by omega⟩
theorem does_via {P : Program} {k : Nat} {f : FuncId} {xs : Array Operand} {R : Value → World → Prop} (hk : a.eval (.tmp k) = .func (.func f) #[] #[]) (h : Does P { dst, op := .call { callee := .value (.func f), args := xs, argTypes := ats }, type := ty, pos, after, guard } a.eval w R) :
    Does P { dst, op := .call { callee := .value (.tmp k), args := xs, argTypes := ats }, type := ty, pos, after, guard } a.eval w R := by
  have e : execOp a.eval { dst, op := .call { callee := .value (.tmp k), args := xs, argTypes := ats }, type := ty, pos, after, guard } = execOp a.eval { dst, op := .call { callee := .value (.func f), args := xs, argTypes := ats }, type := ty, pos, after, guard } := by
    simp only [execOp, resolve, hk]
    rfl
  refine ⟨?_⟩
  have h := h.out
  unfold Turns at *
  rw [e]
  exact h
end
theorem bits_is_one {x : Int} {k : Nat} (h : IsBits x k) (hx : 0 < x) : ((k : Int) = 1 ↔ x = 1) := by
  constructor
  · intro hk
    have hk : k = 1 := by omega
    subst hk
    have := h.1
    simp [p2] at this
    omega
  · intro hx1
    subst hx1
    have h1 : IsBits 1 1 := ⟨by simp [p2], .inr (by simp [p2])⟩
    have := isBits_one h h1
    omega
def nm (p q : Int) : Int := Int.sign q * (p / (Int.gcd p q : Int))
def dn (p q : Int) : Int := Int.sign q * (q / (Int.gcd p q : Int))
theorem tq_ne (q : Int) : tq q ≠ 0 := by
  unfold tq
  split <;> simp_all
theorem mul_ne {p q : Int} (h1 : p ≠ 0) (h2 : q ≠ 0) : p * q ≠ 0 := Int.mul_ne_zero h1 h2
theorem gcd_pos_right {p q : Int} (h : q ≠ 0) : (0 : Int) < (Int.gcd p q : Int) := by
  have := Int.gcd_pos_of_ne_zero_right p h
  omega
theorem gcd_sgn (a b : Bool) (x y : Int) : Int.gcd (sg a x) (sg b y) = Int.gcd x y := by
  cases a <;> cases b <;> simp [sg]
theorem nm_sg (a b : Bool) {x y : Int} (hy : 0 < y) : nm (sg a x) (sg b y) = sg (a != b) (x / (Int.gcd x y : Int)) := by
  unfold nm
  rw [gcd_sgn]
  have hd : ((Int.gcd x y : Nat) : Int) ∣ x := Int.gcd_dvd_left x y
  have hs : Int.sign y = 1 := Int.sign_eq_one_of_pos hy
  cases a <;> cases b <;> simp [sg, hs, Int.neg_ediv_of_dvd hd]
theorem dn_sg (a b : Bool) {x y : Int} (hy : 0 < y) : dn (sg a x) (sg b y) = y / (Int.gcd x y : Int) := by
  unfold dn
  rw [gcd_sgn]
  have hd : ((Int.gcd x y : Nat) : Int) ∣ y := Int.gcd_dvd_right x y
  have hs : Int.sign y = 1 := Int.sign_eq_one_of_pos hy
  cases b <;> simp [sg, hs, Int.neg_ediv_of_dvd hd]
end Lm
end Go.Proofs.YtnomflballofiaaGreat

namespace Go.Proofs.YtnomflballofiaaGreat
namespace Lm
open Go Go.RowKit
theorem Mono.of4 {p : Says} (h : Mono4 p) : Mono p := fun v w w' hb hp => h v w w' (Rl.of_below hb) hp
def Fits2 (D : List Nat) (a : Act) : Nat → List Value → List Value → Prop
  | _, [], [] => True
  | i, x :: xs, y :: ys => ((x = y ∧ D.contains i = false) ∨ a.eval (.tmp i) = y) ∧ Fits2 D a (i + 1) xs ys
  | _, _, _ => False
theorem Fits2.at {D : List Nat} {a : Act} : ∀ {xs ys : List Value} {i : Nat}, Fits2 D a i xs ys → xs.length = ys.length ∧ ∀ k x y, xs[k]? = some x → ys[k]? = some y → (x = y ∧ D.contains (i + k) = false) ∨ a.eval (.tmp (i + k)) = y
  | [], [], _, _ => ⟨rfl, fun k x y h => by simp at h⟩
  | x :: xs, y :: ys, i, h => by
    obtain ⟨h1, h2⟩ := h
    obtain ⟨hl, h3⟩ := Fits2.at h2
    refine ⟨by simp [hl], fun k u v hu hv => ?_⟩
    cases k with
    | zero =>
      simp only [List.getElem?_cons_zero, Option.some.injEq] at hu hv
      subst hu hv
      exact h1
    | succ k =>
      have := h3 k u v (by simpa using hu) (by simpa using hv)
      have e : i + 1 + k = i + (k + 1) := by omega
      rwa [e] at this
  | [], _ :: _, _, h => h.elim
  | _ :: _, [], _, h => h.elim
theorem eval_list {xs : List Value} {ds : List Deferred} {k : Nat} {x : Value} (h : xs[k]? = some x) : (Act.mk xs.toArray ds).eval (.tmp k) = x := by
  obtain ⟨hk, rfl⟩ := List.getElem?_eq_some_iff.1 h
  simp [Act.eval, hk]
theorem act_fit {D : List Nat} {a : Act} {xs ys : List Value} {ds : List Deferred} (hn : a.tmps.size = xs.length) (hd : a.defers = ds) (hR : Rest D ⟨xs.toArray, ds⟩ a) (h : Fits2 D a 0 xs ys) : a = ⟨ys.toArray, ds⟩ := by
  obtain ⟨hl, h2⟩ := h.at
  obtain ⟨tmps, defers⟩ := a
  simp only at hn hd
  subst hd
  congr 1
  refine Array.ext (by simp [hn, hl]) fun i h1 h3 => ?_
  have hi : i < ys.length := by simpa using h3
  obtain ⟨x, hx⟩ : ∃ x, xs[i]? = some x := ⟨_, List.getElem?_eq_getElem (by omega)⟩
  have hy : ys[i]? = some ys[i] := List.getElem?_eq_getElem hi
  have key : (Act.mk tmps defers).eval (.tmp i) = ys[i] := by
    rcases h2 i x _ hx hy with ⟨e, hc⟩ | e
    · rw [Nat.zero_add] at hc
      rw [hR i hc, eval_list hx, e]
    · rwa [Nat.zero_add] at e
  have : (Act.mk tmps defers).eval (.tmp i) = tmps[i] := by simp [Act.eval, h1]
  rw [← this, key]
  simp
theorem cut_abs {P : Program} {ops : Array Oper} {Q : Exit → Act → World → Prop} {J K' R : Act → World → Prop} {id : Nat} {xs : List Value} {ds : List Deferred} {w : World} (Ds : List Nat) (Ps : List Says) (hK : ∀ a' w', Met J a' w' → K' a' w') (hJ : ∀ a' w', R a' w' → J a' w') (hm : P.follows .mixedOrders = true) (hnd : Ds.Nodup) (hlt : (Ds.all fun d => decide (d < xs.length)) = true)
    (hdep : (ops.toList.zipIdx.all fun p => p.1.after.all fun e => decide (e.on < p.2)) = true) (hM : Monos Ps) (hD : Duties P xs.length Ds Ps ⟨xs.toArray, ds⟩ w ops.toList Ds Ps)
    (hend : ∀ a' w', a'.tmps.size = xs.length → a'.defers = ds → Below w.heap.size w w' → Rest Ds ⟨xs.toArray, ds⟩ a' → (∀ j, j < Ds.length → Ps.getD j (fun _ _ => True) (a'.eval (.tmp (Ds.getD j 0))) w') → R a' w') : (Code.region id ops true).wp P (Exit.then K' Q) ⟨xs.toArray, ds⟩ w :=
  region_abs Ds Ps hm (by simp) hnd hlt hdep hM hD fun a' w' h1 h2 h3 h4 h5 => hK _ _ (Met.intro (hJ _ _ (hend a' w' h1 h2 h3 h4 h5)))
section
variable {dst : Option Tmp} {ty : TypeId} {pos : String} {after : Array Edge} {guard : Option (Nat × Bool)} {a : Act} {w : World} {i j k : Nat}
theorem op_ldP {g : Nat} {ng : Bool} {ao : Option Addr} {n c : Nat} {p : Says} (hp : a.eval (.tmp k) = .pointer (some ⟨g, 0, none⟩)) (hb : w.heap[g]? = some (.cells #[.bool ng, .slice ao n c] 38 (0, 0))) (hv : p (.agg #[.bool ng, .slice ao n c]) w) :
    Does Tryz.prog { dst, op := .load 38 (.tmp k), type := ty, pos, after, guard } a.eval w fun v' w' => Below w.heap.size w w' ∧ p v' w' :=
  does_load (by rw [hp]; exact load_whole hb) ⟨Below.refl _ _, hv⟩
theorem op_ldc {b off : Nat} {ng : Bool} {ao : Option Addr} {n c : Nat} {p : Says} (hp : a.eval (.tmp k) = .pointer (some ⟨b, off, none⟩)) (h0 : w.cell? ⟨b, off, none⟩ = some (.bool ng)) (h1 : w.cell? ⟨b, off + 1, none⟩ = some (.slice ao n c)) (hv : p (.agg #[.bool ng, .slice ao n c]) w) :
    Does Tryz.prog { dst, op := .load 38 (.tmp k), type := ty, pos, after, guard } a.eval w fun v' w' => Below w.heap.size w w' ∧ p v' w' := by
  refine does_load (v := .agg #[.bool ng, .slice ao n c]) ?_ ⟨Below.refl _ _, hv⟩
  rw [hp]
  go_simp
end
end Lm
end Go.Proofs.YtnomflballofiaaGreat

namespace Go.Proofs.YtnomflballofiaaGreat
namespace Lm
open Go Go.RowKit
theorem Fits2.nil {D : List Nat} {a : Act} {i : Nat} : Fits2 D a i [] [] := trivial
theorem Fits2.same {D : List Nat} {a : Act} {i : Nat} {x : Value} {xs ys : List Value} (hc : D.contains i = false) (h : Fits2 D a (i + 1) xs ys) : Fits2 D a i (x :: xs) (x :: ys) := ⟨.inl ⟨rfl, hc⟩, h⟩
theorem Fits2.new {D : List Nat} {a : Act} {i : Nat} {x u : Value} {xs ys : List Value} (hu : a.eval (.tmp i) = u) (h : Fits2 D a (i + 1) xs ys) : Fits2 D a i (x :: xs) (u :: ys) := ⟨.inr hu, h⟩
theorem Fits2.s4 {D : List Nat} {a : Act} {i : Nat} {x1 x2 x3 x4 : Value} {xs ys : List Value} (hc : (D.contains i || D.contains (i + 1) || D.contains (i + 2) || D.contains (i + 3)) = false) (h : Fits2 D a (i + 4) xs ys) : Fits2 D a i (x1 :: x2 :: x3 :: x4 :: xs) (x1 :: x2 :: x3 :: x4 :: ys) := by
  simp only [Bool.or_eq_false_iff] at hc
  exact .same hc.1.1.1 <| .same hc.1.1.2 <| .same hc.1.2 <| .same hc.2 h
theorem Fits2.s16 {D : List Nat} {a : Act} {i : Nat} {x1 x2 x3 x4 x5 x6 x7 x8 y1 y2 y3 y4 y5 y6 y7 y8 : Value} {xs ys : List Value} (hc : ((List.range 16).all fun k => !D.contains (i + k)) = true) (h : Fits2 D a (i + 16) xs ys) : Fits2 D a i (x1 :: x2 :: x3 :: x4 :: x5 :: x6 :: x7 :: x8 :: y1 :: y2 :: y3 :: y4 :: y5 :: y6 :: y7 :: y8 :: xs) (x1 :: x2 :: x3 :: x4 :: x5 :: x6 :: x7 :: x8 :: y1 :: y2 :: y3 :: y4 :: y5 :: y6 :: y7 :: y8 :: ys) := by
  have hk : ∀ k, k < 16 → D.contains (i + k) = false := fun k hk => by simpa using List.all_eq_true.1 hc k (List.mem_range.2 hk)
  have g : ∀ j, j + 3 < 16 → (D.contains (i + j) || D.contains (i + j + 1) || D.contains (i + j + 2) || D.contains (i + j + 3)) = false := fun j hj => by
    simp only [Bool.or_eq_false_iff]
    exact ⟨⟨⟨hk j (by omega), hk (j + 1) (by omega)⟩, hk (j + 2) (by omega)⟩, hk (j + 3) (by omega)⟩
  exact .s4 (g 0 (by omega)) <| .s4 (g 4 (by omega)) <| .s4 (g 8 (by omega)) <| .s4 (g 12 (by omega)) h
theorem tail_fit {P : Program} {ops : Array Oper} {Q : Exit → Act → World → Prop} {l : List Oper} {w : World} {D : List Nat} {a : Act} {xs ys : List Value} {ds : List Deferred} (hn : a.tmps.size = xs.length) (hd : a.defers = ds) (hR : Rest D ⟨xs.toArray, ds⟩ a) (h : Fits2 D a 0 xs ys) (k : wpList P ops Q l ⟨ys.toArray, ds⟩ w) : wpList P ops Q l a w := by
  rw [act_fit hn hd hR h]
  exact k
theorem duty_one {P : Program} {ops : Array Oper} {Q : Exit → Act → World → Prop} {n : Nat} {Ds : List Nat} {Ps : List Says} {a0 : Act} {w0 : World} {l : Array Bool} {a : Act} {w : World} {i : Nat} {o : Oper} (hat : ∀ i o, ops[i]? = some o → i < Ds.length → Duty P n Ds Ps a0 w0 o (Ds.getD i 0) (Ps.getD i fun _ _ => True)) (hlo : Ds.length ≤ ops.size) (hnd : Ds.Nodup) (hlt : (Ds.all fun d => decide (d < n)) = true) (hM : Monos Ps) (ho : ops[i]? = some o) (hil : i < Ds.length) (h : Mid n Ds Ps a0 w0 l a w) (hdeps : ∀ e ∈ o.after, Region.binds .any e = true → l.getD e.on false = true) :
    wpOp P ops Q i (fun a' w' => Mid n Ds Ps a0 w0 (l.setIfInBounds i true) a' w') a w := by
  have h' := h
  obtain ⟨h1, h2, h3, h4, h5, h6⟩ := h
  obtain ⟨hdst, hduty⟩ := hat i o ho hil
  have hduty := hduty a w h2 h4 h5 (fun j hj => by
    obtain ⟨e, he, hj⟩ := List.any_eq_true.1 hj
    simp only [Bool.and_eq_true, beq_iff_eq] at hj
    obtain ⟨rfl, hb⟩ := hj
    exact h6 _ (hdeps e (by simpa using he) hb))
  refine wpOp_step ho (fun K' hK => ?_)
  cases hg : o.guard with
  | none =>
    rw [hg] at hduty
    simp only [Region.wanted, hg, if_true]
    exact Does.wp hduty (fun v w' ⟨hb, hp⟩ => by rw [hdst]; exact hK _ _ (h'.put hil hnd hlt hM hb hp))
  | some gb =>
    obtain ⟨g, b⟩ := gb
    rw [hg] at hduty
    simp only at hduty
    obtain ⟨hgl, hyes, hno⟩ := hduty
    obtain ⟨og, hog⟩ : ∃ og, ops[g]? = some og := ⟨_, Array.getElem?_eq_getElem (by omega)⟩
    have hgd := (hat g og hog hgl).1
    have hgn : Ds.getD g 0 < n := by
      have := List.all_eq_true.1 hlt (Ds.getD g 0) (by rw [List.getD_eq_getElem?_getD, List.getElem?_eq_getElem hgl]; simp)
      simpa using this
    have hy : yielded ops a.tmps g = (match a.eval (.tmp (Ds.getD g 0)) with | .bool b => some b | _ => none) := by
      unfold yielded
      rw [hog]
      simp only [Option.bind_some, hgd]
      have : a.tmps[Ds.getD g 0]? = some (a.eval (.tmp (Ds.getD g 0))) := by
        rw [Array.getElem?_eq_getElem (by omega)]
        simp only [Act.eval, Array.getD, h2, hgn, dif_pos]
        rfl
      rw [this]
      generalize a.eval (.tmp (Ds.getD g 0)) = v
      cases v <;> rfl
    by_cases hv : a.eval (.tmp (Ds.getD g 0)) = .bool b
    · have hw : Region.wanted o (yielded ops a.tmps) = true := by
        simp only [Region.wanted, hg]
        rw [hy, hv]
        simp
      rw [if_pos hw]
      exact Does.wp (hyes hv) (fun v w' ⟨hb, hp⟩ => by rw [hdst]; exact hK _ _ (h'.put hil hnd hlt hM hb hp))
    · have hw : ¬ Region.wanted o (yielded ops a.tmps) = true := by
        simp only [Region.wanted, hg]
        rw [hy]
        intro hc
        apply hv
        generalize a.eval (.tmp (Ds.getD g 0)) = v at *
        cases v <;> simp at hc
        rw [hc]
      rw [if_neg hw, hdst]
      exact hK _ _ (h'.put hil hnd hlt hM (Below.refl _ _) (hno hv))
theorem Duties.take {P : Program} {n : Nat} {Ds : List Nat} {Ps : List Says} {a0 : Act} {w0 : World} {ops : Array Oper} {m : Nat} (h : Duties P n Ds Ps a0 w0 (ops.toList.take m) Ds Ps) (hm : m ≤ ops.size) : Ds.length = m ∧ ∀ i o, ops[i]? = some o → i < Ds.length → Duty P n Ds Ps a0 w0 o (Ds.getD i 0) (Ps.getD i fun _ _ => True) := by
  obtain ⟨hl, hat⟩ := h.at
  have hl' : Ds.length = m := by rw [hl, List.length_take]; simp; omega
  refine ⟨hl', fun i o ho hi => hat i o ?_⟩
  rw [List.getElem?_take_of_lt (by omega), Array.getElem?_toList]
  exact ho
theorem getD_extract {l : Array Bool} {m j : Nat} (h : j < m) (b : Bool) : (l.extract 0 m).getD j b = l.getD j b := by
  rw [Array.getD_eq_getD_getElem?, Array.getD_eq_getD_getElem?, Array.getElem?_extract]
  simp only [Nat.sub_zero, Nat.zero_add]
  by_cases hj : j < min m l.size
  · rw [if_pos hj]
  · rw [if_neg hj, Array.getElem?_eq_none (by omega)]
theorem extract_set {l : Array Bool} {m i : Nat} : (l.setIfInBounds i true).extract 0 m = (l.extract 0 m).setIfInBounds i true := by
  apply Array.ext_getElem?
  intro j
  simp only [Array.getElem?_extract, Array.getElem?_setIfInBounds, Array.size_setIfInBounds, Array.size_extract, Nat.sub_zero, Nat.zero_add]
  by_cases hj : j < min m l.size
  · rw [if_pos hj, if_pos hj]
    by_cases e : i = j
    · subst e
      rw [if_pos rfl, if_pos rfl, if_pos (by omega), if_pos hj]
    · rw [if_neg e, if_neg e]
  · rw [if_neg hj, if_neg hj]
    by_cases e : i = j
    · subst e
      rw [if_pos rfl, if_neg hj]
    · rw [if_neg e]
theorem region_tail {P : Program} {ops : Array Oper} {Q : Exit → Act → World → Prop} {id n : Nat} {a : Act} {w : World} (m : Nat) (Ds : List Nat) (Ps : List Says) (hm : P.follows .mixedOrders = true) (hn : a.tmps.size = n) (hnd : Ds.Nodup) (hlt : (Ds.all fun d => decide (d < n)) = true)
    (hdep : (ops.toList.zipIdx.all fun p => p.1.after.all fun e => decide (e.on < p.2)) = true) (hms : m ≤ ops.size) (hall : (ops.toList.zipIdx.all fun p => decide (p.2 < m) || (List.range p.2).all fun j => p.1.after.any fun e => e.on == j && Region.binds .any e) = true) (hM : Monos Ps) (hD : Duties P n Ds Ps a w (ops.toList.take m) Ds Ps)
    (hend : ∀ a' w', a'.tmps.size = n → a'.defers = a.defers → Below w.heap.size w w' → Rest Ds a a' → (∀ j, j < Ds.length → Ps.getD j (fun _ _ => True) (a'.eval (.tmp (Ds.getD j 0))) w') → wpList P ops Q (ops.toList.drop m) a' w') : (Code.region id ops true).wp P Q a w := by
  obtain ⟨hlen, hat⟩ := hD.take hms
  have hL : ∀ k, k ≤ ops.size → wpOps P ops Q (List.range' k (ops.size - k)) = wpList P ops Q (ops.toList.drop k) := fun k hk => by
    have := wpOps_eq_wpList (P := P) (ops := ops) (Q := Q) (ops.toList.drop k) k (fun j => by rw [List.getElem?_drop, Array.getElem?_toList])
    rw [← this]
    simp
  have hneed : ∀ i o, ops[i]? = some o → m ≤ i → ∀ l : Array Bool, (∀ e ∈ o.after, Region.binds .any e = true → l.getD e.on false = true) → ∀ j, j < i → l.getD j false = true := by
    intro i o ho hi l hl j hj
    have h1 := List.all_eq_true.1 hall (o, i) (by rw [List.mem_zipIdx_iff_getElem?]; simpa using ho)
    simp only [Bool.or_eq_true, decide_eq_true_eq] at h1
    rcases h1 with h1 | h1
    · omega
    · have h2 := List.all_eq_true.1 h1 j (List.mem_range.2 hj)
      rw [← Array.any_toList] at h2
      obtain ⟨e, he, h3⟩ := List.any_eq_true.1 h2
      replace he := Array.mem_toList_iff.1 he
      simp only [Bool.and_eq_true, beq_iff_eq] at h3
      rw [← h3.1]
      exact hl e he h3.2
  refine wp_region_inv hm (fun l a' w' => l.size = ops.size ∧ (((∀ j, m ≤ j → l.getD j false = false) ∧ Mid n Ds Ps a w (l.extract 0 m) a' w') ∨ ∃ j, m < j ∧ j ≤ ops.size ∧ (∀ k, k < j → l.getD k false = true) ∧ (∀ k, j ≤ k → l.getD k false = false) ∧ wpOps P ops Q (List.range' j (ops.size - j)) a' w')) ?_ ?_ ?_
  · refine ⟨by simp, .inl ⟨fun j _ => ?_, by simp [hlen]; omega, hn, rfl, Below.drew (Below.refl _ _), fun _ _ => rfl, fun j hj => ?_⟩⟩
    · simp [Array.getElem?_replicate]
      split <;> simp
    · exfalso
      by_cases hjm : j < m
      · rw [getD_extract hjm] at hj
        simp [Array.getElem?_replicate] at hj
        split at hj <;> simp at hj
      · rw [Array.getD_eq_getD_getElem?, Array.getElem?_eq_none (by simp; omega)] at hj
        simp at hj
  · rintro l a' w' ⟨hs, hI⟩ hr
    have hal := all_listed hdep hs hr
    rcases hI with ⟨h1, h2, h3, h4, h5, h6, h7⟩ | ⟨j, hj1, hj2, hj3, hj4, hj5⟩
    · have hmo : m = ops.size := by
        apply Classical.byContradiction
        intro hne
        have := hal m (by omega)
        rw [h1 m (Nat.le_refl _)] at this
        cases this
      have := hend a' w' h3 h4 h5 h6 (fun j hj => h7 j (by rw [getD_extract (by omega)]; exact hal j (by omega)))
      rw [List.drop_eq_nil_of_le (by simp; omega)] at this
      exact this
    · have hje : j = ops.size := by
        apply Classical.byContradiction
        intro hne
        have := hal j (by omega)
        rw [hj4 j (Nat.le_refl _)] at this
        cases this
      subst hje
      simpa [wpOps] using hj5
  · rintro l a' w' ⟨hs, hI⟩ i hi
    obtain ⟨hun, o, ho, hdeps⟩ := mem_ready.1 hi
    have hio : i < ops.size := (Array.getElem?_eq_some_iff.1 ho).1
    have hset : ∀ k, k ≠ i → (l.setIfInBounds i true).getD k false = l.getD k false := fun k hk => getD_set_ne false (fun e => hk e.symm)
    have hseti : (l.setIfInBounds i true).getD i false = true := by
      rw [Array.getD_eq_getD_getElem?, Array.getElem?_setIfInBounds_self_of_lt (by omega)]
      rfl
    have hif : l.getD i false = false := by
      rw [Array.getD_eq_getD_getElem?] at hun ⊢
      cases hc : l[i]? with
      | none => rfl
      | some b => rw [hc] at hun; simpa using hun
    have hrun : ∀ j, j = i → wpOps P ops Q (List.range' j (ops.size - j)) a' w' → m ≤ j → (∀ k, k < j → l.getD k false = true) → (∀ k, j ≤ k → l.getD k false = false) → wpOp P ops Q i (fun a' w' => (l.setIfInBounds i true).size = ops.size ∧ (((∀ j, m ≤ j → (l.setIfInBounds i true).getD j false = false) ∧ Mid n Ds Ps a w ((l.setIfInBounds i true).extract 0 m) a' w') ∨ ∃ j, m < j ∧ j ≤ ops.size ∧ (∀ k, k < j → (l.setIfInBounds i true).getD k false = true) ∧ (∀ k, j ≤ k → (l.setIfInBounds i true).getD k false = false) ∧ wpOps P ops Q (List.range' j (ops.size - j)) a' w')) a' w' := by
      rintro j rfl hw hmj hlo hhi
      rw [show ops.size - j = (ops.size - (j + 1)) + 1 by omega, List.range'_succ, wpOps_cons] at hw
      refine wpOp_mono (fun a2 w2 h => ⟨by simpa using hs, .inr ⟨j + 1, by omega, by omega, fun k hk => ?_, fun k hk => ?_, h⟩⟩) hw
      · by_cases e : k = j
        · subst e; exact hseti
        · rw [hset k e]; exact hlo k (by omega)
      · rw [hset k (by omega)]; exact hhi k (by omega)
    rcases hI with ⟨h1, hmid⟩ | ⟨j, hj1, hj2, hj3, hj4, hj5⟩
    · by_cases him : i < m
      · have hd' : ∀ e ∈ o.after, Region.binds .any e = true → (l.extract 0 m).getD e.on false = true := fun e he hb => by
          have h2 := List.all_eq_true.1 hdep (o, i) (by rw [List.mem_zipIdx_iff_getElem?]; simpa using ho)
          have h3 : e.on < i := by simpa using Array.all_eq_true_iff_forall_mem.1 h2 e he
          rw [getD_extract (by omega)]
          exact hdeps e he hb
        refine wpOp_mono (fun a2 w2 h => ⟨by simpa using hs, .inl ⟨fun k hk => ?_, ?_⟩⟩) (duty_one hat (by omega) hnd hlt hM ho (by omega) hmid hd')
        · rw [hset k (by omega)]
          exact h1 k hk
        · rw [extract_set]
          exact h
      · have hpre := hneed i o ho (by omega) l hdeps
        have hie : i = m := by
          apply Classical.byContradiction
          intro hne
          have := hpre m (by omega)
          rw [h1 m (Nat.le_refl _)] at this
          cases this
        subst hie
        obtain ⟨h2, h3, h4, h5, h6, h7⟩ := hmid
        have hw := hend a' w' h3 h4 h5 h6 (fun j hj => h7 j (by rw [getD_extract (by omega)]; exact hpre j (by omega)))
        rw [← hL _ hms] at hw
        exact hrun i rfl hw (Nat.le_refl _) hpre h1
    · have hij : i = j := by
        apply Classical.byContradiction
        intro hne
        by_cases hlt' : i < j
        · rw [hj3 i hlt'] at hif
          cases hif
        · have := hneed i o ho (by omega) l hdeps j (by omega)
          rw [hj4 j (Nat.le_refl _)] at this
          cases this
      exact hrun j hij.symm hj5 (by omega) hj3 hj4
end Lm
end Go.Proofs.YtnomflballofiaaGreat

namespace Go.Proofs.YtnomflballofiaaGreat
namespace Lm
open Go Go.RowKit
theorem gcd_div_one {x y : Int} (h : (0 : Int) < (Int.gcd x y : Int)) : (Int.gcd (x / (Int.gcd x y : Int)) (y / (Int.gcd x y : Int)) : Int) = 1 := by
  have h1 : 0 < Int.gcd x y := by omega
  rw [Int.gcd_ediv_gcd_ediv_gcd h1]
  rfl
theorem op_lds {dst : Option Tmp} {ty : TypeId} {pos : String} {after : Array Edge} {guard : Option (Nat × Bool)} {a : Act} {w : World} {i b off n c : Nat} {ao : Option Addr} (hp : a.eval (.tmp i) = .pointer (some ⟨b, off, none⟩)) (h : w.cell? ⟨b, off, none⟩ = some (.slice ao n c)) :
    Does Tryz.prog { dst, op := .load 36 (.tmp i), type := ty, pos, after, guard } a.eval w fun v' w' => Below w.heap.size w w' ∧ Eqs (.slice ao n c) v' w' := by
  refine does_load (v := .slice ao n c) ?_ ⟨Below.refl _ _, rfl⟩
  rw [hp]
  go_simp
set_option maxRecDepth 20000 in
set_option maxHeartbeats 8000000 in
set_option maxRecDepth 100000 in
theorem lowest_w (w : World) (vp vq : Value) (p q : Int) (L : Nat) (hp : IsW p L vp w) (hq : IsW q L vq w) (h0 : q ≠ 0) (hL : L ≤ 100000) :
    Calls Tryz.prog 51 #[vp, vq] w fun e w' => ∃ v, e = .returned v ∧ OutR (nm p q) (dn p q) L v w' ∧ Below w.heap.size w w' := by
  obtain ⟨n1, a1, m1, c1, xs, rfl, A1, l1⟩ := hp
  obtain ⟨n2, a2, m2, c2, ys, rfl, A2, l2⟩ := hq
  have hx0 : 0 ≤ val xs := (val_bounds A1.sl.parts.2.2.2).1
  have hy0 : 0 < val ys := by
    have h1 := (val_bounds A2.sl.parts.2.2.2).1
    have h2 : val ys ≠ 0 := fun e => h0 (by rw [← A2.worth, e]; cases n2 <;> simp [sg])
    omega
  obtain ⟨w1, e1, bx, by', hb1, hs1⟩ := boxed2 w n1 (.slice a1 m1 c1) n2 (.slice a2 m2 c2)
  have hb2 := hAl w1 (.cells #[.bool false, .slice none 0 0, .slice none 0 0] 46)
  have hn2 := heap_alloc_new w1 (.cells #[.bool false, .slice none 0 0, .slice none 0 0] 46)
  have hs2 : (w1.alloc (.cells #[.bool false, .slice none 0 0, .slice none 0 0] 46)).heap.size = w1.heap.size + 1 := by simp
  rw [hs1] at hn2 hs2
  have hb02 := hb1.trans (hb2.mono hb1.size)
  obtain ⟨_, x0, x1, _, _⟩ := two_cells ((hb2.block _ (lt_of_heap bx)).trans bx)
  obtain ⟨_, y0, y1, _, _⟩ := two_cells ((hb2.block _ (lt_of_heap by')).trans by')
  have SX := hide (A1.sl.below hb02)
  have SY := hide (A2.sl.below hb02)
  have HB := hide hb02
  have HN := hide hn2
  have HX := hide hx0
  have HY := hide hy0
  have HP : Hid (p = sg n1 (val xs) ∧ q = sg n2 (val ys)) := ⟨A1.worth.symm, A2.worth.symm⟩
  have HL : Hid (xs.length ≤ L ∧ ys.length ≤ L) := ⟨l1, l2⟩
  have E1 := hide e1
  clear hb1 hb2 hb02 hn2 bx by' hs1 e1 A1 A2 hx0 hy0 h0
  go_enter Tryz.func51, Tryz.ntmps51
  go_upto_region 1 with fail
  rw [E1.out]
  generalize w1.alloc (.cells #[.bool false, .slice none 0 0, .slice none 0 0] 46) = w2 at *
  refine wp_scope_straight ?_
  go_upto_region 1 with fail
  refine region_tail 8 [9, 10, 11, 12, 13, 14, 5, 6] [Eqs (.pointer (some ⟨w.heap.size, 1, none⟩)), Eqs (.slice a1 m1 c1), (OutL (val xs) L), Eqs (.pointer (some ⟨w.heap.size + 1, 1, none⟩)), Eqs (.slice a2 m2 c2), (OutL (val ys) L), (OutL (val xs) L), (OutL (val ys) L)] rfl rfl (by decide) (by kernel_rfl) (by kernel_rfl) (by decide) (by kernel_rfl) ⟨Eqs.mono _, Eqs.mono _, (Mono.of4 (OutL.mono4 _ _)), Eqs.mono _, Eqs.mono _, (Mono.of4 (OutL.mono4 _ _)), (Mono.of4 (OutL.mono4 _ _)), (Mono.of4 (OutL.mono4 _ _)), trivial⟩ ?_ ?_
  · exact ⟨⟨rfl, fun a_ w_ _ hB hR hD => op_fa fa_mag ((hR 2 rfl).trans (eval_list rfl))⟩,
        ⟨rfl, fun a_ w_ _ hB hR hD => op_lds (show a_.eval (.tmp 9) = .pointer (some ⟨w.heap.size, 1, none⟩) from hD 0 rfl) ((hB.cell (p := ⟨w.heap.size, 1, none⟩) (lt_of_cell' x1)).trans x1)⟩,
        ⟨rfl, fun a_ w_ _ hB hR hD => op_ltrim (L := L) (by rw [(show a_.eval (.tmp 10) = .slice a1 m1 c1 from hD 1 rfl)]; exact ⟨_, _, _, _, rfl, (SX.out.below hB), rfl, by omega⟩) (by omega)⟩,
        ⟨rfl, fun a_ w_ _ hB hR hD => op_fa fa_mag ((hR 3 rfl).trans (eval_list rfl))⟩,
        ⟨rfl, fun a_ w_ _ hB hR hD => op_lds (show a_.eval (.tmp 12) = .pointer (some ⟨w.heap.size + 1, 1, none⟩) from hD 3 rfl) ((hB.cell (p := ⟨w.heap.size + 1, 1, none⟩) (lt_of_cell' y1)).trans y1)⟩,
        ⟨rfl, fun a_ w_ _ hB hR hD => op_ltrim (L := L) (by rw [(show a_.eval (.tmp 13) = .slice a2 m2 c2 from hD 4 rfl)]; exact ⟨_, _, _, _, rfl, (SY.out.below hB), rfl, by omega⟩) (by omega)⟩,
        ⟨rfl, fun a_ w_ _ hB hR hD => op_asp (show (OutL (val xs) L) (a_.eval (.tmp 11)) w_ from hD 2 rfl)⟩,
        ⟨rfl, fun a_ w_ _ hB hR hD => op_asp (show (OutL (val ys) L) (a_.eval (.tmp 14)) w_ from hD 5 rfl)⟩,
        trivial⟩
  · intro a' w' hn' hd' hB' hR' hP'
    have e9 : a'.eval (.tmp 9) = .pointer (some ⟨w.heap.size, 1, none⟩) := hP' 0 (by decide)
    have e10 : a'.eval (.tmp 10) = .slice a1 m1 c1 := hP' 1 (by decide)
    obtain ⟨u11, e11⟩ : ∃ u, a'.eval (.tmp 11) = u := ⟨_, rfl⟩
    have e12 : a'.eval (.tmp 12) = .pointer (some ⟨w.heap.size + 1, 1, none⟩) := hP' 3 (by decide)
    have e13 : a'.eval (.tmp 13) = .slice a2 m2 c2 := hP' 4 (by decide)
    obtain ⟨u14, e14⟩ : ∃ u, a'.eval (.tmp 14) = u := ⟨_, rfl⟩
    obtain ⟨u5, e5⟩ : ∃ u, a'.eval (.tmp 5) = u := ⟨_, rfl⟩
    have hT1 : (OutL (val xs) L) (a'.eval (.tmp 5)) w' := hP' 6 (by decide)
    rw [e5] at hT1
    obtain ⟨u6, e6⟩ : ∃ u, a'.eval (.tmp 6) = u := ⟨_, rfl⟩
    have hT2 : (OutL (val ys) L) (a'.eval (.tmp 6)) w' := hP' 7 (by decide)
    rw [e6] at hT2
    refine tail_fit hn' hd' hR' (.s4 rfl <| .same rfl <| .new e5 <| .new e6 <| .same rfl <| .same rfl <| .new e9 <| .new e10 <| .new e11 <| .new e12 <| .new e13 <| .new e14 <| .s16 rfl <| .s16 rfl <| .s4 rfl <| .nil) ?_
    clear e9 e10 e11 e12 e13 e14 e5 e6
    obtain ⟨a5, c5, r5, rfl, G5, k5⟩ := hT1
    obtain ⟨a6, c6, r6, rfl, G6, k6⟩ := hT2
    have H5 := hide (And.intro G5 k5)
    have H6 := hide (And.intro G6 k6)
    have hnr := (hB'.block _ (lt_of_heap HN.out)).trans HN.out
    have HNR := hide hnr
    have HBR := hide (HB.out.trans (hB'.mono HB.out.size))
    replace x0 := (hB'.cell (p := ⟨w.heap.size, 0, none⟩) (lt_of_cell' x0)).trans x0
    replace y0 := (hB'.cell (p := ⟨w.heap.size + 1, 0, none⟩) (lt_of_cell' y0)).trans y0
    obtain ⟨hg1, hg2⟩ : (0 : Int) < (Int.gcd (val xs) (val ys) : Int) ∧ True := ⟨gcd_pos_right (by have := HY.out; omega), trivial⟩
    obtain ⟨g, hg⟩ : ∃ g : Int, (Int.gcd (val xs) (val ys) : Int) = g := ⟨_, rfl⟩
    rw [hg] at hg1
    have HG : Hid ((Int.gcd (val xs) (val ys) : Int) = g ∧ 0 < g) := ⟨hg, hg1⟩
    clear hB' hR' hP' hn' hd' hnr G5 G6 k5 k6 hg hg1 hg2 x1 y1
    go_wp2_with fail
    go_step3
    go_wp2_with fail
    go_loopg [5, 6] 1 (fun k sx sy wr => ∃ (a : Option Addr) (b : Nat) (c : Option Addr) (d : Nat) (rx ry : List Int) (X Y : Int), sx = .slice a rx.length b ∧ sy = .slice c ry.length d ∧ Got wr a b rx X ∧ Got wr c d ry Y ∧ rx.length ≤ L ∧ ry.length ≤ L ∧ ((k = 1 ∧ X = val xs ∧ Y = val ys) ∨ (k = 0 ∧ X = val xs / g ∧ Y = val ys / g)) ∧ Below w.heap.size w wr ∧ wr.heap[w.heap.size + 2]? = some (.cells #[.bool false, .slice none 0 0, .slice none 0 0] 46 (0, 0)) ∧ wr.cell? ⟨w.heap.size, 0, none⟩ = some (.bool n1) ∧ wr.cell? ⟨w.heap.size + 1, 0, none⟩ = some (.bool n2))
    case atStart => exact ⟨a5, c5, a6, c6, r5, r6, _, _, rfl, rfl, H5.out.1, H6.out.1, H5.out.2, H6.out.2, .inl ⟨rfl, rfl, rfl⟩, HBR.out, HNR.out, x0, y0⟩
    case round =>
      obtain ⟨a, b, c, d, rx, ry, X, Y, rfl, rfl, GX, GY, lx, ly, hk, hbw, hnr, x0, y0⟩ := hrel
      have HGX := hide GX
      have HGY := hide GY
      have HLX := hide (And.intro lx ly)
      have HK := hide hk
      have HBW := hide hbw
      have HNR := hide hnr
      have hpos : 0 ≤ X ∧ 0 < Y := by
        have hx := HX.out
        have hy := HY.out
        have hg := HG.out
        rcases hk with ⟨_, rfl, rfl⟩ | ⟨_, rfl, rfl⟩
        · exact ⟨hx, hy⟩
        · refine ⟨Int.ediv_nonneg hx (by omega), ?_⟩
          have hd : g ∣ val ys := by rw [← hg.1]; exact Int.gcd_dvd_right ..
          exact Int.ediv_pos_of_pos_of_dvd hy (by omega) hd
      have HPOS := hide hpos
      have K1 := hide (gcd_g wr a c _ _ b d rx ry GX.sl GY.sl (by omega) (by omega))
      rw [GX.val, GY.val] at K1
      clear GX GY lx ly hk hbw hnr hpos
      go_wp2_with fail
      refine K1.out.mono ?_
      rintro e w3 ⟨a7, c7, r7, rfl, G7, k7, hb3⟩
      have K2 := hide (bits_any w3 a7 _ c7 r7 G7.sl (by have := HLX.out; omega))
      have HG7 := hide G7
      have HB3 := hide hb3
      have hx0' := (hb3.cell (p := ⟨w.heap.size, 0, none⟩) (lt_of_cell' x0)).trans x0
      have hy0' := (hb3.cell (p := ⟨w.heap.size + 1, 0, none⟩) (lt_of_cell' y0)).trans y0
      clear G7 hb3 K1 x0 y0 k7
      go_wp2_with fail
      refine K2.out.mono ?_
      rintro e w4 ⟨kb, rfl, hbits, hw4⟩
      subst w4
      rw [HG7.out.val] at hbits
      have hg1 := bits_is_one hbits (gcd_pos_right (by have := HPOS.out; omega))
      have HGO := hide hg1
      clear hbits K2 hg1
      by_cases hb1 : (kb : Int) = 1
      · have hb1' : ((kb : Int) == 1) = true := by simpa using hb1
        have hgo := HGO.out.1 hb1
        have HXY : Hid (X = val xs / g ∧ Y = val ys / g) := (show _ ∧ _ by
          rcases HK.out with ⟨_, hX, hY⟩ | ⟨_, hX, hY⟩
          · have hg := HG.out.1
            rw [← hX, ← hY, hgo] at hg
            rw [← hX, ← hY, ← hg, Int.ediv_one, Int.ediv_one]
            exact ⟨rfl, rfl⟩
          · exact ⟨hX, hY⟩)
        clear hb1 hgo
        have HNR2 := hide ((HB3.out.block _ (lt_of_heap HNR.out)).trans HNR.out)
        obtain ⟨_, t0, t1, t2, u0, u1, u2⟩ := three_cells HNR2.out
        have HGX3 := hide (HGX.out.below HB3.out)
        have HGY3 := hide (HGY.out.below HB3.out)
        have HBF := hide (HBW.out.trans (HB3.out.mono HBW.out.size))
        have HEQ : Hid (nm p q = sg (n1 != n2) X ∧ dn p q = Y) := (show _ ∧ _ by
          rw [HP.out.1, HP.out.2, nm_sg _ _ HY.out, dn_sg _ _ HY.out, HG.out.1, HXY.out.1, HXY.out.2]
          exact ⟨rfl, rfl⟩)
        have fin : ∀ ng : Bool, ng = ((n1 != n2) && decide (0 < rx.length)) → OutR (nm p q) (dn p q) L (.agg #[.bool ng, .slice a rx.length b, .slice c ry.length d]) (((w3.setCell ⟨w.heap.size + 2, 0, none⟩ (.bool ng)).setCell ⟨w.heap.size + 2, 1, none⟩ (.slice a rx.length b)).setCell ⟨w.heap.size + 2, 2, none⟩ (.slice c ry.length d)) ∧ Below w.heap.size w (((w3.setCell ⟨w.heap.size + 2, 0, none⟩ (.bool ng)).setCell ⟨w.heap.size + 2, 1, none⟩ (.slice a rx.length b)).setCell ⟨w.heap.size + 2, 2, none⟩ (.slice c ry.length d)) := fun ng hng => by
          have hr := ru_r3 HNR2.out (.bool ng) (.slice a rx.length b) (.slice c ry.length d)
          rw [HEQ.out.1, HEQ.out.2, hng] at *
          exact ⟨⟨_, a, b, rx, c, d, ry, rfl, Wh.of (n1 != n2) ⟨HGX3.out.1.ru hr, HGX3.out.2⟩, ⟨HGY3.out.1.ru hr, HGY3.out.2⟩, HLX.out.1, HLX.out.2⟩, ((HBF.out.setCell (by simp) _).setCell (by simp) _).setCell (by simp) _⟩
        have HF := hide fin
        have HSR := hide (fun ng : Bool => set_r3 HNR2.out (.bool ng) (.slice a rx.length b) (.slice c ry.length d))
        clear fin
        obtain ⟨lr, hlr⟩ : ∃ lr, rx.length = lr := ⟨_, rfl⟩
        rw [hlr] at HF HSR ⊢
        clear HEQ HB3 HBF HGX3 HGY3 hlr
        by_cases hn : n1 = n2
        · subst hn
          have HFF := hide (And.intro (HF.out false (by simp)) (HSR.out false))
          clear HF HSR
          go_wp2
          exact scope_ret (bodyPost_ret (v := _) (res_c (g := w.heap.size + 2) rfl rfl (lvr3 HFF.out.2)) rfl ⟨_, rfl, HFF.out.1.1, HFF.out.1.2⟩)
        · have HFF := hide (And.intro (HF.out (!n1 == n2 && decide (0 < lr)) rfl) (HSR.out (!n1 == n2 && decide (0 < lr))))
          clear HF HSR
          go_wp2
          exact scope_ret (bodyPost_ret (v := _) (res_c (g := w.heap.size + 2) rfl rfl (lvr3 HFF.out.2)) rfl ⟨_, rfl, HFF.out.1.1, HFF.out.1.2⟩)
      · have hb1' : ((kb : Int) == 1) = false := by simpa using hb1
        have hgo : ¬ (Int.gcd X Y : Int) = 1 := fun h => hb1 (HGO.out.2 h)
        have HK1 := hide (HK.out.resolve_right (fun ⟨_, hX, hY⟩ => by
          have hg := HG.out
          have := gcd_div_one (x := val xs) (y := val ys) (by rw [hg.1]; exact hg.2)
          rw [hg.1, ← hX, ← hY] at this
          exact hgo this))
        have HXY := hide HK1.out.2
        have hg7 : val r7 = g := by rw [HG7.out.val, HXY.out.1, HXY.out.2]; exact HG.out.1
        have K3 := hide (divmod_g w3 a a7 _ _ b c7 rx r7 (HGX.out.below HB3.out).sl HG7.out.sl (by have := HLX.out; omega) (by rw [hg7]; have := HG.out; omega))
        rw [hg7, HGX.out.val] at K3
        have HG7V := hide hg7
        clear hb1 hgo hg7
        go_wp2_with fail
        refine K3.out.mono ?_
        rintro e w5 ⟨a8, c8, r8, a9, c9, r9, rfl, G8, G9, k8, k9, hb5⟩
        have HG8 := hide G8
        have H35 := hide (HB3.out.trans (hb5.mono HB3.out.size))
        have hx5 := (hb5.cell (p := ⟨w.heap.size, 0, none⟩) (lt_of_cell' hx0')).trans hx0'
        have hy5 := (hb5.cell (p := ⟨w.heap.size + 1, 0, none⟩) (lt_of_cell' hy0')).trans hy0'
        have K4 := hide (divmod_g w5 c a7 _ _ d c7 ry r7 (HGY.out.below H35.out).sl (HG7.out.below hb5).sl (by have := HLX.out; omega) (by rw [HG7V.out]; have := HG.out; omega))
        rw [HG7V.out, HGY.out.val] at K4
        have HK8 := hide k8
        clear G8 G9 k8 k9 hb5 K3 hx0' hy0'
        go_wp2_with fail
        refine K4.out.mono ?_
        rintro e w6 ⟨a10, c10, r10, a11, c11, r11, rfl, G10, G11, k10, k11, hb6⟩
        have HG10 := hide G10
        have HG8' := hide (HG8.out.below hb6)
        have H36 := hide (H35.out.trans (hb6.mono H35.out.size))
        have hx6 := (hb6.cell (p := ⟨w.heap.size, 0, none⟩) (lt_of_cell' hx5)).trans hx5
        have hy6 := (hb6.cell (p := ⟨w.heap.size + 1, 0, none⟩) (lt_of_cell' hy5)).trans hy5
        have HK10 := hide k10
        clear G10 G11 k10 k11 hb6 K4 hx5 hy5
        go_wp2
        go_roundg 0
        case rel => exact ⟨a8, c8, a10, c10, r8, r10, _, _, rfl, rfl, HG8'.out, HG10.out, Nat.le_trans HK8.out HLX.out.1, Nat.le_trans HK10.out HLX.out.2, .inr ⟨rfl, by rw [HXY.out.1], by rw [HXY.out.2]⟩, HBW.out.trans (H36.out.mono HBW.out.size), (H36.out.block _ (lt_of_heap HNR.out)).trans HNR.out, hx6, hy6⟩
        case measure => have := HK1.out.1; omega
theorem lowest_z (w : World) (L : Nat) (hL : L ≤ 100000) (nx : Bool) (ax : Option Addr) (mx cx : Nat) (xs : List Int) (zx : Int) (Ax : Ag w nx ax mx cx xs zx) (Lx : xs.length ≤ L) (ny : Bool) (ay : Option Addr) (my cy : Nat) (ys : List Int) (zy : Int) (Ay : Ag w ny ay my cy ys zy) (Ly : ys.length ≤ L) (hy : zy ≠ 0) :
    Calls Tryz.prog 51 #[.agg #[.bool nx, .slice ax mx cx], .agg #[.bool ny, .slice ay my cy]] w fun e w' => ∃ v, e = .returned v ∧ OutR (nm zx zy) (dn zx zy) L v w' ∧ Below w.heap.size w w' :=
  lowest_w w _ _ zx zy L ⟨_, _, _, _, _, rfl, Ax, Lx⟩ ⟨_, _, _, _, _, rfl, Ay, Ly⟩ hy hL
theorem has_lowest : Has Tryz.prog 51 := by unfold Has; kernel_rfl
theorem op_lowest {dst : Option Tmp} {ty : TypeId} {pos : String} {after : Array Edge} {guard : Option (Nat × Bool)} {a : Act} {w : World} {ats : Array TypeId} {i j : Nat} {p q : Int} {L1 L2 : Nat} (h : IsW p L1 (a.eval (.tmp i)) w) (h' : IsW q L2 (a.eval (.tmp j)) w) (hL : L1 + L2 ≤ 100000) (hq : q ≠ 0) :
    Does Tryz.prog { dst, op := .call { callee := .value (.func 51), args := #[.tmp i, .tmp j], argTypes := ats }, type := ty, pos, after, guard } a.eval w fun v w' => Below w.heap.size w w' ∧ OutR (nm p q) (dn p q) (L1 + L2) v w' := by
  obtain ⟨ng, ao, n, cap, xs, e, A, l⟩ := h
  obtain ⟨ng', ao', n', cap', xs', e', A', l'⟩ := h'
  refine does_call has_lowest _ (by simp only [List.map_toArray, List.map_cons, List.map_nil, e, e']) ((lowest_z w (L1 + L2) hL _ _ _ _ _ _ A (by omega) _ _ _ _ _ _ A' (by omega) hq).mono ?_)
  rintro e w' ⟨v, rfl, h1, hb⟩
  exact ⟨_, rfl, hb, h1⟩
end Lm
end Go.Proofs.YtnomflballofiaaGreat

namespace Go.Proofs.YtnomflballofiaaGreat
namespace Lm
open Go Go.RowKit
section
variable {dst : Option Tmp} {ty : TypeId} {pos : String} {after : Array Edge} {guard : Option (Nat × Bool)} {a : Act} {w : World} {ats : Array TypeId} {i j : Nat} {x y : Int} {L L1 L2 : Nat}
theorem has_cmp : Has Tryz.prog 52 := by unfold Has; kernel_rfl
theorem op_cmp (hx : IsW x L1 (a.eval (.tmp i)) w) (hy : IsW y L2 (a.eval (.tmp j)) w) (h1 : L1 ≤ 400000) (h2 : L2 ≤ 400000) :
    Does Tryz.prog { dst, op := .call { callee := .value (.func 52), args := #[.tmp i, .tmp j], argTypes := ats }, type := ty, pos, after, guard } a.eval w fun v w' => Below w.heap.size w w' ∧ Eqs (.int .i64 (cmpI x y)) v w' := by
  obtain ⟨n1, a1, m1, c1, xs, e1, A1, l1⟩ := hx
  obtain ⟨n2, a2, m2, c2, ys, e2, A2, l2⟩ := hy
  refine does_call has_cmp _ (by simp only [List.map_toArray, List.map_cons, List.map_nil, e1, e2]) ((cmp_z _ _ _ _ _ _ _ A1 _ _ _ _ _ _ A2 (by omega) (by omega) _ rfl).mono ?_)
  rintro e w' ⟨rfl, hb⟩
  exact ⟨_, rfl, hb, rfl⟩
end
theorem r3_set {n g : Nat} {w W : World} (ng : Bool) (a : Option Addr) (k b : Nat) (c : Option Addr) (m d : Nat) (hg : n ≤ g) (h : W.heap[g]? = some (.cells #[.bool false, .slice none 0 0, .slice none 0 0] 46 (0, 0))) (hb : Below n w W) :
    Below n w (((W.setCell ⟨g, 0, none⟩ (.bool ng)).setCell ⟨g, 1, none⟩ (.slice a k b)).setCell ⟨g, 2, none⟩ (.slice c m d)) ∧ (loadVar 46 ⟨g, 0, none⟩).run Tryz.prog (((W.setCell ⟨g, 0, none⟩ (.bool ng)).setCell ⟨g, 1, none⟩ (.slice a k b)).setCell ⟨g, 2, none⟩ (.slice c m d)) = .ok (.agg #[.bool ng, .slice a k b, .slice c m d]) (((W.setCell ⟨g, 0, none⟩ (.bool ng)).setCell ⟨g, 1, none⟩ (.slice a k b)).setCell ⟨g, 2, none⟩ (.slice c m d)) :=
  ⟨((hb.setCell hg _).setCell hg _).setCell hg _, lvr3 (set_r3 h _ _ _)⟩
theorem r3_end {n g : Nat} {w W : World} {p q : Int} {L : Nat} {ng : Bool} {a c : Option Addr} {k b m d : Nat} (hg : n ≤ g) (h : W.heap[g]? = some (.cells #[.bool false, .slice none 0 0, .slice none 0 0] 46 (0, 0))) (hb : Below n w W) (ho : OutR p q L (.agg #[.bool ng, .slice a k b, .slice c m d]) W) :
    OutR p q L (.agg #[.bool ng, .slice a k b, .slice c m d]) (((W.setCell ⟨g, 0, none⟩ (.bool ng)).setCell ⟨g, 1, none⟩ (.slice a k b)).setCell ⟨g, 2, none⟩ (.slice c m d)) ∧ Below n w (((W.setCell ⟨g, 0, none⟩ (.bool ng)).setCell ⟨g, 1, none⟩ (.slice a k b)).setCell ⟨g, 2, none⟩ (.slice c m d)) ∧ (loadVar 46 ⟨g, 0, none⟩).run Tryz.prog (((W.setCell ⟨g, 0, none⟩ (.bool ng)).setCell ⟨g, 1, none⟩ (.slice a k b)).setCell ⟨g, 2, none⟩ (.slice c m d)) = .ok (.agg #[.bool ng, .slice a k b, .slice c m d]) (((W.setCell ⟨g, 0, none⟩ (.bool ng)).setCell ⟨g, 1, none⟩ (.slice a k b)).setCell ⟨g, 2, none⟩ (.slice c m d)) :=
  ⟨OutR.mono5 _ _ _ _ _ _ (ru_r3 h _ _ _) ho, r3_set _ _ _ _ _ _ _ hg h hb⟩
theorem boxz (w : World) (o : Obj) : ∃ w0 : World, (w.alloc o).alloc (.cells #[.bool false, .slice none 0 0, .slice none 0 0] 46) = w0 ∧ w0.heap[w.heap.size]? = some o ∧ w0.heap[w.heap.size + 1]? = some (.cells #[.bool false, .slice none 0 0, .slice none 0 0] 46 (0, 0)) ∧ Below w.heap.size w w0 := by
  have h1 := heap_alloc_new w o
  have h2 := heap_alloc_new (w.alloc o) (.cells #[.bool false, .slice none 0 0, .slice none 0 0] 46)
  rw [show (w.alloc o).heap.size = w.heap.size + 1 by simp] at h2
  exact ⟨_, rfl, alloc_keep h1, h2, (hAl _ _).trans ((hAl _ _).mono (hAl _ _).size)⟩
theorem boxzz (w : World) (o o' : Obj) : ∃ w0 : World, ((w.alloc o).alloc o').alloc (.cells #[.bool false, .slice none 0 0, .slice none 0 0] 46) = w0 ∧ w0.heap[w.heap.size]? = some o ∧ w0.heap[w.heap.size + 1]? = some o' ∧ w0.heap[w.heap.size + 2]? = some (.cells #[.bool false, .slice none 0 0, .slice none 0 0] 46 (0, 0)) ∧ Below w.heap.size w w0 := by
  have h1 := heap_alloc_new w o
  obtain ⟨w0, rfl, h2, h3, hb⟩ := boxz (w.alloc o) o'
  have e : (w.alloc o).heap.size = w.heap.size + 1 := by simp
  rw [e] at h2 h3
  exact ⟨_, rfl, (hb.block _ (lt_of_heap h1)).trans h1, h2, h3, (hAl _ _).trans (hb.mono (hAl _ _).size)⟩
theorem does_alloc {P : Program} {dst : Option Tmp} {ty : TypeId} {pos : String} {after : Array Edge} {guard : Option (Nat × Bool)} {a : Act} {w : World} {R : Value → World → Prop} {t : TypeId} {v : Value} {w' : World} (hb : (Instr.alloc t true (.tuple #[])).run P w = .ok v w') (h : R v w') : Does P { dst, op := .alloc t, type := ty, pos, after, guard } a.eval w R := by
  refine ⟨?_⟩
  unfold Turns
  simp only [execOp]
  simp [hb, h]
def NewW (n : Nat) : Says := fun v w => ∃ g, n ≤ g ∧ v = .pointer (some ⟨g, 0, none⟩) ∧ w.heap[g]? = some (.cells #[.bool false, .slice none 0 0] 38 (0, 0))
theorem NewW.mono (n : Nat) : Mono (NewW n) := fun _ _ _ hb ⟨g, h1, h2, h3⟩ => ⟨g, h1, h2, (hb.block _ (lt_of_heap h3)).trans h3⟩
theorem op_newW {dst : Option Tmp} {ty : TypeId} {pos : String} {after : Array Edge} {guard : Option (Nat × Bool)} {a : Act} {w : World} {n : Nat} (hn : n ≤ w.heap.size) :
    Does Tryz.prog { dst, op := .alloc 38, type := ty, pos, after, guard } a.eval w fun v w' => Below w.heap.size w w' ∧ NewW n v w' := by
  obtain ⟨cs, ⟨ng, ao, k, c, e, rfl⟩, hr⟩ := W2ok.alloc w
  cases e
  exact does_alloc hr ⟨hAl _ _, _, hn, rfl, heap_alloc_new _ _⟩
set_option maxRecDepth 20000 in
set_option maxHeartbeats 4000000 in
set_option maxRecDepth 100000 in
theorem from_z (w : World) (Bx : Nat) (nx : Bool) (ax : Option Addr) (mx cx : Nat) (xs : List Int) (zx : Int) (Ax : Ag w nx ax mx cx xs zx) (Lx : xs.length ≤ Bx) (hL : Bx ≤ 100000) :
    Calls Tryz.prog 19 #[.agg #[.bool nx, .slice ax mx cx]] w fun e w' => ∃ v, e = .returned v ∧ (OutR zx 1 (Bx + 2)) v w' ∧ Below w.heap.size w w' := by
  obtain ⟨w0, e0, hx, hz, hb⟩ := boxz w (.cells #[.bool nx, .slice ax mx cx] 38)
  obtain ⟨_, x0, x1, _, _⟩ := two_cells hx
  have E0 := hide e0
  have K1 := hide (trim_z w0 nx ax mx cx xs zx ⟨Ax.sl.below hb, Ax.worth⟩ (by omega))
  have HZ := hide hz
  have HB := hide hb
  clear e0 hx hz hb
  go_enter Tryz.func19, Tryz.ntmps19
  go_upto_region 1 with fail
  rw [E0.out]
  go_wp2_with fail
  refine K1.out.mono ?_
  rintro e w1 ⟨n1, a1, c1, r1, rfl, G1, l1, hb1⟩
  have K2 := hide (small_any w1 1 (by omega) (by omega))
  have HB1 := hide (HB.out.trans (hb1.mono HB.out.size))
  have HZ1 := hide ((hb1.block _ (lt_of_heap HZ.out)).trans HZ.out)
  have HG := hide (And.intro G1 l1)
  clear G1 l1 hb1 K1 HB HZ
  go_wp2_with fail
  refine K2.out.mono ?_
  rintro e w9 ⟨v, rfl, I, hb9⟩
  obtain ⟨a2, c2, r2, rfl, G2, l2⟩ := got_small I (by omega)
  have HB9 := hide (HB1.out.trans (hb9.mono HB1.out.size))
  have hz := (hb9.block _ (lt_of_heap HZ1.out)).trans HZ1.out
  obtain ⟨_, t0, t1, t2, u0, u1, u2⟩ := three_cells hz
  have HE := hide (r3_end (p := zx) (q := 1) (L := Bx + 2) (Nat.le_succ _) hz HB9.out ⟨_, _, _, _, _, _, _, rfl, Wh.below HG.out.1 hb9, G2, by have := HG.out.2; omega, by omega⟩)
  clear hz K2 hb9 I G2 l2
  go_wp2
  exact bodyPost_ret (v := _) (res_c (g := w.heap.size + 1) rfl rfl HE.out.2.2) rfl ⟨_, rfl, HE.out.1, HE.out.2.1⟩
theorem has_from : Has Tryz.prog 19 := by unfold Has; kernel_rfl
set_option maxRecDepth 20000 in
set_option maxHeartbeats 4000000 in
set_option maxRecDepth 100000 in
theorem rtrim_z (w : World) (Br : Nat) (nr : Bool) (ar : Option Addr) (mr cr : Nat) (rs : List Int) (pr : Int) (Ar : Ag w nr ar mr cr rs pr) (Lr : rs.length ≤ Br) (br : Option Addr) (kr dr : Nat) (rt : List Int) (qr : Int) (Sr : Sl w (.slice br kr dr) rt) (Vr : val rt = qr) (Mr : rt.length ≤ Br) (hL : 2 * (Br + 2) ≤ 100000) :
    Calls Tryz.prog 84 #[.agg #[.bool nr, .slice ar mr cr, .slice br kr dr]] w fun e w' => ∃ v, e = .returned v ∧ (OutR (nm (tp pr qr) (tq qr)) (dn (tp pr qr) (tq qr)) (2 * (Br + 2))) v w' ∧ Below w.heap.size w w' := by
  obtain ⟨w0, e0, hx, hz, hb⟩ := boxz w (.cells #[.bool nr, .slice ar mr cr, .slice br kr dr] 46)
  obtain ⟨_, x0, x1, x2, _, _, _⟩ := three_cells hx
  have E0 := hide e0
  have K1 := hide (terms_z w0 Br (by omega) nr ar mr cr rs pr ⟨Ar.sl.below hb, Ar.worth⟩ Lr br kr dr rt qr (Sr.below hb) Vr Mr)
  have HZ := hide hz
  have HB := hide hb
  clear e0 hx hz hb
  go_enter Tryz.func84, Tryz.ntmps84
  go_upto_region 1 with fail
  rw [E0.out]
  go_wp2_with fail
  refine K1.out.mono ?_
  rintro e w1 ⟨v1, v2, rfl, h1, h2, hb1⟩
  have K2 := hide (lowest_w w1 v1 v2 _ _ _ h1 h2 (tq_ne _) (by omega))
  have HB1 := hide (HB.out.trans (hb1.mono HB.out.size))
  have HZ1 := hide ((hb1.block _ (lt_of_heap HZ.out)).trans HZ.out)
  clear h1 h2 hb1 K1 HB HZ
  go_wp2_with fail
  refine K2.out.mono ?_
  rintro e w9 ⟨v, rfl, ho, hb9⟩
  have HB9 := hide (HB1.out.trans (hb9.mono HB1.out.size))
  have hz := (hb9.block _ (lt_of_heap HZ1.out)).trans HZ1.out
  have HO := hide ho
  obtain ⟨ng, a, b, rx, c, d, ry, rfl, _⟩ := ho
  obtain ⟨_, t0, t1, t2, u0, u1, u2⟩ := three_cells hz
  have HE := hide (r3_end (Nat.le_succ _) hz HB9.out HO.out)
  clear hz K2 hb9 HO
  go_wp2
  exact bodyPost_ret (v := _) (res_c (g := w.heap.size + 1) rfl rfl HE.out.2.2) rfl ⟨_, rfl, HE.out.1.to rfl rfl (by omega), HE.out.2.1⟩
theorem has_rtrim : Has Tryz.prog 84 := by unfold Has; kernel_rfl
theorem op_rtrim {dst : Option Tmp} {ty : TypeId} {pos : String} {after : Array Edge} {guard : Option (Nat × Bool)} {a : Act} {w : World} {ats : Array TypeId} {i : Nat} {Br : Nat} {pr qr : Int} (Hr : IsR pr qr Br (a.eval (.tmp i)) w) (hL : 2 * (Br + 2) ≤ 100000) :
    Does Tryz.prog { dst, op := .call { callee := .value (.func 84), args := #[.tmp i], argTypes := ats }, type := ty, pos, after, guard } a.eval w fun v w' => Below w.heap.size w w' ∧ (OutR (nm (tp pr qr) (tq qr)) (dn (tp pr qr) (tq qr)) (2 * (Br + 2))) v w' := by
  obtain ⟨nr, ar, mr, cr, rs, br, kr, dr, rt, er, Ar, Sr, Vr, Lr, Mr⟩ := Hr
  refine does_call has_rtrim _ (by simp only [List.map_toArray, List.map_cons, List.map_nil, er]) ((rtrim_z w Br _ _ _ _ _ _ Ar Lr _ _ _ _ _ Sr Vr Mr hL).mono ?_)
  rintro e w' ⟨v, rfl, h1, hb⟩
  exact ⟨_, rfl, hb, h1⟩
set_option maxRecDepth 20000 in
set_option maxHeartbeats 2000000 in
theorem rsign_z (w : World) (Br : Nat) (nr : Bool) (ar : Option Addr) (mr cr : Nat) (rs : List Int) (pr : Int) (Ar : Ag w nr ar mr cr rs pr) (Lr : rs.length ≤ Br) (br : Option Addr) (kr dr : Nat) (rt : List Int) (qr : Int) (Sr : Sl w (.slice br kr dr) rt) (Vr : val rt = qr) (Mr : rt.length ≤ Br) (hL : Br ≤ 100000) :
    Calls Tryz.prog 23 #[.agg #[.bool nr, .slice ar mr cr, .slice br kr dr]] w fun e w' => ∃ v, e = .returned v ∧ (Eqs (.int .i64 (Int.sign (tp pr qr)))) v w' ∧ Below w.heap.size w w' := by
  go_enter Tryz.func23, Tryz.ntmps23
  generalize hA : (Act.mk _ _) = aa
  have hn : aa.tmps.size = 12 := by rw [← hA]; rfl
  have hd : aa.defers = [] := by rw [← hA]
  have f0 : aa.eval (.tmp 0) = .agg #[.bool nr, .slice ar mr cr, .slice br kr dr] := by rw [← hA]; rfl
  clear hA
  have HB : Below w.heap.size w w := Below.refl _ _
  have Dr : Ag w false br kr dr rt qr := ⟨Sr, Vr⟩
  refine wp_seq ?_
  refine region4 [some 1, some 2] [(fun _ _ => True), Eqs ((.int .i64 0))] [⟨R3, some 0, 0, 1, .agg #[.bool nr, .slice ar mr cr, .slice br kr dr], none, []⟩] [] (by kernel_rfl) hn rfl (by kernel_rfl) (by kernel_rfl) (by kernel_rfl) (by kernel_rfl) (by kernel_rfl) (by kernel_rfl) ⟨True.mono4, Eqs.mono4 _, trivial⟩ (ok_cons R3ok ok_nil) (IsOld.all (bx := [⟨R3, some 0, 0, 1, .agg #[.bool nr, .slice ar mr cr, .slice br kr dr], none, []⟩]) ⟨someNe, trivial⟩) (DisOld.all (bx := [⟨R3, some 0, 0, 1, .agg #[.bool nr, .slice ar mr cr, .slice br kr dr], none, []⟩]) ⟨someNe, trivial⟩) ?_ ?_
  · exact ⟨.alloc 0 _ rfl rfl (.inr ⟨_, rfl, r3_cs, fun a_ hR => (hR 0 rfl).trans f0⟩) rfl rfl rfl rfl rfl,
      .norm 2 rfl rfl rfl (fun a_ w_ hn_ hBt hr hR hD hO hS => op_assign rfl),
      trivial⟩
  · intro a1 w1 gs1 hn1 hd1 hBt hr hR hP hX hU
    replace hn := hn1; replace hd := hd1.trans hd
    have b1 : BoxV R3 w1 (gs1 0) (.agg #[.bool nr, .slice ar mr cr, .slice br kr dr]) := (hX 0 _ rfl).2.2.2
    have f1 := (hX 0 _ rfl).1
    have u1 : w.heap.size ≤ gs1 0 := Nat.le_trans HB.size ((hX 0 _ rfl).2.2.1 (by simp))
    have e2 : a1.eval (.tmp 2) = (.int .i64 0) := hP 1 (by decide)
    have f2 := e2
    replace Ar := Ar.rl hr
    replace Sr := Sr.rl hr
    replace Dr := Dr.rl hr
    replace HB := HB.trans (hBt.below HB.size (UpOld.all (bx := [⟨R3, some 0, 0, 1, .agg #[.bool nr, .slice ar mr cr, .slice br kr dr], none, []⟩]) ⟨someNe, trivial⟩))
    clear hBt hr hR hP hX hU
    refine wp_seq ?_
    refine region4 [some 6, some 7, some 5, some 8, some 9, some 3, some 4, none, none] [Eqs (.agg #[.bool nr, .slice ar mr cr, .slice br kr dr]), Tup2 (IsW ((tp pr qr)) ((Br) + 2)) (IsW ((tq qr)) ((Br) + 2)), Tup2 (IsW ((tp pr qr)) ((Br) + 2)) (IsW ((tq qr)) ((Br) + 2)), IsW ((tp pr qr)) ((Br) + 2), IsW ((tq qr)) ((Br) + 2), (fun _ _ => True), (fun _ _ => True), (fun _ _ => True), (fun _ _ => True)] [⟨W2, some 5, 0, 3, .agg #[.bool false, .slice none 0 0], some (7, 8, 3), []⟩, ⟨W2, some 6, 0, 4, .agg #[.bool false, .slice none 0 0], some (8, 9, 4), []⟩] [] (by kernel_rfl) hn rfl (by kernel_rfl) (by kernel_rfl) (by kernel_rfl) (by kernel_rfl) (by kernel_rfl) (by kernel_rfl) ⟨Eqs.mono4 _, Tup2.mono4 (IsW.mono4 _ _) (IsW.mono4 _ _), Tup2.mono4 (IsW.mono4 _ _) (IsW.mono4 _ _), IsW.mono4 _ _, IsW.mono4 _ _, True.mono4, True.mono4, True.mono4, True.mono4, trivial⟩ (ok_cons W2ok (ok_cons W2ok ok_nil)) (IsOld.all (bx := [⟨W2, some 5, 0, 3, .agg #[.bool false, .slice none 0 0], some (7, 8, 3), []⟩, ⟨W2, some 6, 0, 4, .agg #[.bool false, .slice none 0 0], some (8, 9, 4), []⟩]) ⟨someNe, someNe, trivial⟩) (DisOld.all (bx := [⟨W2, some 5, 0, 3, .agg #[.bool false, .slice none 0 0], some (7, 8, 3), []⟩, ⟨W2, some 6, 0, 4, .agg #[.bool false, .slice none 0 0], some (8, 9, 4), []⟩]) ⟨someNe, someNe, trivial⟩) ?_ ?_
    · exact ⟨.norm 6 rfl rfl rfl (fun a_ w_ hn_ hBt hr hR hD hO hS => op_loadv R3ok ((hR 1 rfl).trans f1) (b1.keep hBt ⟨someNe, someNe, trivial⟩)),
        .norm 7 rfl rfl rfl (fun a_ w_ hn_ hBt hr hR hD hO hS => op_terms (isr_eq (show a_.eval (.tmp 6) = .agg #[.bool nr, .slice ar mr cr, .slice br kr dr] from hD 0 rfl) (Ar.rl hr) (Sr.rl hr) Vr Lr Mr) (by omega)),
        .norm 5 rfl rfl rfl (fun a_ w_ hn_ hBt hr hR hD hO hS => op_mvp (p := Tup2 (IsW ((tp pr qr)) ((Br) + 2)) (IsW ((tq qr)) ((Br) + 2))) (show Tup2 (IsW ((tp pr qr)) ((Br) + 2)) (IsW ((tq qr)) ((Br) + 2)) (a_.eval (.tmp 7)) w_ from hD 1 rfl)),
        .norm 8 rfl rfl rfl (fun a_ w_ hn_ hBt hr hR hD hO hS => op_ex20 (show Tup2 (IsW ((tp pr qr)) ((Br) + 2)) (IsW ((tq qr)) ((Br) + 2)) (a_.eval (.tmp 5)) w_ from hD 2 rfl)),
        .norm 9 rfl rfl rfl (fun a_ w_ hn_ hBt hr hR hD hO hS => op_ex21 (show Tup2 (IsW ((tp pr qr)) ((Br) + 2)) (IsW ((tq qr)) ((Br) + 2)) (a_.eval (.tmp 5)) w_ from hD 2 rfl)),
        .alloc 0 _ rfl rfl (.inl ⟨rfl, rfl⟩) rfl rfl rfl rfl rfl,
        .alloc 1 _ rfl rfl (.inl ⟨rfl, rfl⟩) rfl rfl rfl rfl rfl,
        .store 0 _ _ _ rfl rfl rfl rfl rfl rfl rfl (fun ia h => by cases h; rfl) rfl rfl rfl IsW.cs,
        .store 1 _ _ _ rfl rfl rfl rfl rfl rfl rfl (fun ia h => by cases h; rfl) rfl rfl rfl IsW.cs,
        trivial⟩
    · intro a2 w2 gs2 hn2 hd2 hBt hr hR hP hX hU
      replace hn := hn2; replace hd := hd2.trans hd
      obtain ⟨n_3, a_3, m_3, c_3, r_3, e8, A3, l3⟩ : IsW ((tp pr qr)) ((Br) + 2) (a2.eval (.tmp 8)) w2 := hP 3 (by decide)
      have b3 : BoxV W2 w2 (gs2 0) (.agg #[.bool n_3, .slice a_3 m_3 c_3]) := boxv_of (hX 0 _ rfl).2.2.2 e8
      have f3 := (hX 0 _ rfl).1
      have u3 : w.heap.size ≤ gs2 0 := Nat.le_trans HB.size ((hX 0 _ rfl).2.2.1 (by simp))
      replace f2 := (hR 2 rfl).trans f2
      replace Ar := Ar.rl hr
      replace Sr := Sr.rl hr
      replace Dr := Dr.rl hr
      replace HB := HB.trans (hBt.below HB.size (UpOld.all (bx := [⟨W2, some 5, 0, 3, .agg #[.bool false, .slice none 0 0], some (7, 8, 3), []⟩, ⟨W2, some 6, 0, 4, .agg #[.bool false, .slice none 0 0], some (8, 9, 4), []⟩]) ⟨someNe, someNe, trivial⟩))
      clear hBt hr hR hP hX hU
      refine wp_seq ?_
      refine region4 [some 10, some 11, some 2] [Eqs (.agg #[.bool n_3, .slice a_3 m_3 c_3]), Eqs (.int .i64 (Int.sign (tp pr qr))), Eqs (.int .i64 (Int.sign (tp pr qr)))] [] [] (by kernel_rfl) hn rfl (by kernel_rfl) (by kernel_rfl) (by kernel_rfl) (by kernel_rfl) (by kernel_rfl) (by kernel_rfl) ⟨Eqs.mono4 _, Eqs.mono4 _, Eqs.mono4 _, trivial⟩ ok_nil (IsOld.all (bx := []) trivial) (DisOld.all (bx := []) trivial) ?_ ?_
      · exact ⟨.norm 10 rfl rfl rfl (fun a_ w_ hn_ hBt hr hR hD hO hS => op_loadv W2ok ((hR 3 rfl).trans f3) (b3.keep hBt trivial)),
          .norm 11 rfl rfl rfl (fun a_ w_ hn_ hBt hr hR hD hO hS => op_sign (isw_eq (show a_.eval (.tmp 10) = .agg #[.bool n_3, .slice a_3 m_3 c_3] from hD 0 rfl) (A3.rl hr) l3) (by omega)),
          .norm 2 rfl rfl rfl (fun a_ w_ hn_ hBt hr hR hD hO hS => op_assign (show a_.eval (.tmp 11) = .int .i64 (Int.sign (tp pr qr)) from hD 1 rfl)),
          trivial⟩
      · intro a4 w4 gs4 hn4 hd4 hBt hr hR hP hX hU
        replace hn := hn4; replace hd := hd4.trans hd
        have e2 : a4.eval (.tmp 2) = .int .i64 (Int.sign (tp pr qr)) := hP 2 (by decide)
        have f2 := e2
        replace Ar := Ar.rl hr
        replace Sr := Sr.rl hr
        replace Dr := Dr.rl hr
        replace A3 := A3.rl hr
        replace HB := HB.trans (hBt.below HB.size (UpOld.all (bx := []) trivial))
        clear hBt hr hR hP hX hU
        refine wp_ret ?_
        repeat (first | refine then_ret ?_ | refine scope_ret ?_ | refine block_ret ?_)
        exact bodyPost_ret (v := .int .i64 (Int.sign (tp pr qr))) (res_t rfl f2) hd ⟨_, rfl, rfl, HB⟩
set_option maxRecDepth 20000 in
set_option maxHeartbeats 2000000 in
theorem rmul_z (w : World) (Br : Nat) (nr : Bool) (ar : Option Addr) (mr cr : Nat) (rs : List Int) (pr : Int) (Ar : Ag w nr ar mr cr rs pr) (Lr : rs.length ≤ Br) (br : Option Addr) (kr dr : Nat) (rt : List Int) (qr : Int) (Sr : Sl w (.slice br kr dr) rt) (Vr : val rt = qr) (Mr : rt.length ≤ Br) (Bu : Nat) (nu : Bool) (au : Option Addr) (mu cu : Nat) (us : List Int) (pu : Int) (Au : Ag w nu au mu cu us pu) (Lu : us.length ≤ Bu) (bu : Option Addr) (ku du : Nat) (ut : List Int) (qu : Int) (Su : Sl w (.slice bu ku du) ut) (Vu : val ut = qu) (Mu : ut.length ≤ Bu) (hL : 2 * (Br + Bu + 4) ≤ 100000) :
    Calls Tryz.prog 21 #[.agg #[.bool nr, .slice ar mr cr, .slice br kr dr], .agg #[.bool nu, .slice au mu cu, .slice bu ku du]] w fun e w' => ∃ v, e = .returned v ∧ (OutR (nm (tp pr qr * tp pu qu) (tq qr * tq qu)) (dn (tp pr qr * tp pu qu) (tq qr * tq qu)) (2 * (Br + Bu + 4))) v w' ∧ Below w.heap.size w w' := by
  go_enter Tryz.func21, Tryz.ntmps21
  generalize hA : (Act.mk _ _) = aa
  have hn : aa.tmps.size = 26 := by rw [← hA]; rfl
  have hd : aa.defers = [] := by rw [← hA]
  have f0 : aa.eval (.tmp 0) = .agg #[.bool nr, .slice ar mr cr, .slice br kr dr] := by rw [← hA]; rfl
  have f1 : aa.eval (.tmp 1) = .agg #[.bool nu, .slice au mu cu, .slice bu ku du] := by rw [← hA]; rfl
  clear hA
  have HB : Below w.heap.size w w := Below.refl _ _
  have Dr : Ag w false br kr dr rt qr := ⟨Sr, Vr⟩
  have Du : Ag w false bu ku du ut qu := ⟨Su, Vu⟩
  refine wp_seq ?_
  refine region4 [some 2, some 3, some 4] [(fun _ _ => True), (fun _ _ => True), (fun _ _ => True)] [⟨R3, some 0, 0, 2, .agg #[.bool nr, .slice ar mr cr, .slice br kr dr], none, []⟩, ⟨R3, some 1, 0, 3, .agg #[.bool nu, .slice au mu cu, .slice bu ku du], none, []⟩, ⟨R3, some 2, 0, 4, .agg #[.bool false, .slice none 0 0, .slice none 0 0], none, []⟩] [] (by kernel_rfl) hn rfl (by kernel_rfl) (by kernel_rfl) (by kernel_rfl) (by kernel_rfl) (by kernel_rfl) (by kernel_rfl) ⟨True.mono4, True.mono4, True.mono4, trivial⟩ (ok_cons R3ok (ok_cons R3ok (ok_cons R3ok ok_nil))) (IsOld.all (bx := [⟨R3, some 0, 0, 2, .agg #[.bool nr, .slice ar mr cr, .slice br kr dr], none, []⟩, ⟨R3, some 1, 0, 3, .agg #[.bool nu, .slice au mu cu, .slice bu ku du], none, []⟩, ⟨R3, some 2, 0, 4, .agg #[.bool false, .slice none 0 0, .slice none 0 0], none, []⟩]) ⟨someNe, someNe, someNe, trivial⟩) (DisOld.all (bx := [⟨R3, some 0, 0, 2, .agg #[.bool nr, .slice ar mr cr, .slice br kr dr], none, []⟩, ⟨R3, some 1, 0, 3, .agg #[.bool nu, .slice au mu cu, .slice bu ku du], none, []⟩, ⟨R3, some 2, 0, 4, .agg #[.bool false, .slice none 0 0, .slice none 0 0], none, []⟩]) ⟨someNe, someNe, someNe, trivial⟩) ?_ ?_
  · exact ⟨.alloc 0 _ rfl rfl (.inr ⟨_, rfl, r3_cs, fun a_ hR => (hR 0 rfl).trans f0⟩) rfl rfl rfl rfl rfl,
      .alloc 1 _ rfl rfl (.inr ⟨_, rfl, r3_cs, fun a_ hR => (hR 1 rfl).trans f1⟩) rfl rfl rfl rfl rfl,
      .alloc 2 _ rfl rfl (.inl ⟨rfl, rfl⟩) rfl rfl rfl rfl rfl,
      trivial⟩
  · intro a1 w1 gs1 hn1 hd1 hBt hr hR hP hX hU
    replace hn := hn1; replace hd := hd1.trans hd
    have ne2_4 : gs1 0 ≠ gs1 2 := hU 0 2 (by simp) (by simp) (by decide)
    have ne3_4 : gs1 1 ≠ gs1 2 := hU 1 2 (by simp) (by simp) (by decide)
    have b2 : BoxV R3 w1 (gs1 0) (.agg #[.bool nr, .slice ar mr cr, .slice br kr dr]) := (hX 0 _ rfl).2.2.2
    have f2 := (hX 0 _ rfl).1
    have u2 : w.heap.size ≤ gs1 0 := Nat.le_trans HB.size ((hX 0 _ rfl).2.2.1 (by simp))
    have b3 : BoxV R3 w1 (gs1 1) (.agg #[.bool nu, .slice au mu cu, .slice bu ku du]) := (hX 1 _ rfl).2.2.2
    have f3 := (hX 1 _ rfl).1
    have u3 : w.heap.size ≤ gs1 1 := Nat.le_trans HB.size ((hX 1 _ rfl).2.2.1 (by simp))
    have b4 : BoxV R3 w1 (gs1 2) (.agg #[.bool false, .slice none 0 0, .slice none 0 0]) := (hX 2 _ rfl).2.2.2
    have f4 := (hX 2 _ rfl).1
    have u4 : w.heap.size ≤ gs1 2 := Nat.le_trans HB.size ((hX 2 _ rfl).2.2.1 (by simp))
    replace Ar := Ar.rl hr
    replace Sr := Sr.rl hr
    replace Dr := Dr.rl hr
    replace Au := Au.rl hr
    replace Su := Su.rl hr
    replace Du := Du.rl hr
    replace HB := HB.trans (hBt.below HB.size (UpOld.all (bx := [⟨R3, some 0, 0, 2, .agg #[.bool nr, .slice ar mr cr, .slice br kr dr], none, []⟩, ⟨R3, some 1, 0, 3, .agg #[.bool nu, .slice au mu cu, .slice bu ku du], none, []⟩, ⟨R3, some 2, 0, 4, .agg #[.bool false, .slice none 0 0, .slice none 0 0], none, []⟩]) ⟨someNe, someNe, someNe, trivial⟩))
    clear hBt hr hR hP hX hU
    refine wp_seq ?_
    refine region4 [some 10, some 11, some 9, some 12, some 13, some 5, some 6, none, none] [Eqs (.agg #[.bool nr, .slice ar mr cr, .slice br kr dr]), Tup2 (IsW ((tp pr qr)) ((Br) + 2)) (IsW ((tq qr)) ((Br) + 2)), Tup2 (IsW ((tp pr qr)) ((Br) + 2)) (IsW ((tq qr)) ((Br) + 2)), IsW ((tp pr qr)) ((Br) + 2), IsW ((tq qr)) ((Br) + 2), (fun _ _ => True), (fun _ _ => True), (fun _ _ => True), (fun _ _ => True)] [⟨W2, some 5, 0, 5, .agg #[.bool false, .slice none 0 0], some (7, 12, 3), []⟩, ⟨W2, some 6, 0, 6, .agg #[.bool false, .slice none 0 0], some (8, 13, 4), []⟩] [] (by kernel_rfl) hn rfl (by kernel_rfl) (by kernel_rfl) (by kernel_rfl) (by kernel_rfl) (by kernel_rfl) (by kernel_rfl) ⟨Eqs.mono4 _, Tup2.mono4 (IsW.mono4 _ _) (IsW.mono4 _ _), Tup2.mono4 (IsW.mono4 _ _) (IsW.mono4 _ _), IsW.mono4 _ _, IsW.mono4 _ _, True.mono4, True.mono4, True.mono4, True.mono4, trivial⟩ (ok_cons W2ok (ok_cons W2ok ok_nil)) (IsOld.all (bx := [⟨W2, some 5, 0, 5, .agg #[.bool false, .slice none 0 0], some (7, 12, 3), []⟩, ⟨W2, some 6, 0, 6, .agg #[.bool false, .slice none 0 0], some (8, 13, 4), []⟩]) ⟨someNe, someNe, trivial⟩) (DisOld.all (bx := [⟨W2, some 5, 0, 5, .agg #[.bool false, .slice none 0 0], some (7, 12, 3), []⟩, ⟨W2, some 6, 0, 6, .agg #[.bool false, .slice none 0 0], some (8, 13, 4), []⟩]) ⟨someNe, someNe, trivial⟩) ?_ ?_
    · exact ⟨.norm 10 rfl rfl rfl (fun a_ w_ hn_ hBt hr hR hD hO hS => op_loadv R3ok ((hR 2 rfl).trans f2) (b2.keep hBt ⟨someNe, someNe, trivial⟩)),
        .norm 11 rfl rfl rfl (fun a_ w_ hn_ hBt hr hR hD hO hS => op_terms (isr_eq (show a_.eval (.tmp 10) = .agg #[.bool nr, .slice ar mr cr, .slice br kr dr] from hD 0 rfl) (Ar.rl hr) (Sr.rl hr) Vr Lr Mr) (by omega)),
        .norm 9 rfl rfl rfl (fun a_ w_ hn_ hBt hr hR hD hO hS => op_mvp (p := Tup2 (IsW ((tp pr qr)) ((Br) + 2)) (IsW ((tq qr)) ((Br) + 2))) (show Tup2 (IsW ((tp pr qr)) ((Br) + 2)) (IsW ((tq qr)) ((Br) + 2)) (a_.eval (.tmp 11)) w_ from hD 1 rfl)),
        .norm 12 rfl rfl rfl (fun a_ w_ hn_ hBt hr hR hD hO hS => op_ex20 (show Tup2 (IsW ((tp pr qr)) ((Br) + 2)) (IsW ((tq qr)) ((Br) + 2)) (a_.eval (.tmp 9)) w_ from hD 2 rfl)),
        .norm 13 rfl rfl rfl (fun a_ w_ hn_ hBt hr hR hD hO hS => op_ex21 (show Tup2 (IsW ((tp pr qr)) ((Br) + 2)) (IsW ((tq qr)) ((Br) + 2)) (a_.eval (.tmp 9)) w_ from hD 2 rfl)),
        .alloc 0 _ rfl rfl (.inl ⟨rfl, rfl⟩) rfl rfl rfl rfl rfl,
        .alloc 1 _ rfl rfl (.inl ⟨rfl, rfl⟩) rfl rfl rfl rfl rfl,
        .store 0 _ _ _ rfl rfl rfl rfl rfl rfl rfl (fun ia h => by cases h; rfl) rfl rfl rfl IsW.cs,
        .store 1 _ _ _ rfl rfl rfl rfl rfl rfl rfl (fun ia h => by cases h; rfl) rfl rfl rfl IsW.cs,
        trivial⟩
    · intro a2 w2 gs2 hn2 hd2 hBt hr hR hP hX hU
      replace hn := hn2; replace hd := hd2.trans hd
      have ne4_5 : (gs1 2) ≠ gs2 0 := by have h1 := b4.lt; have h2 := (hX 0 _ rfl).2.2.1 (by simp); omega
      have ne4_6 : (gs1 2) ≠ gs2 1 := by have h1 := b4.lt; have h2 := (hX 1 _ rfl).2.2.1 (by simp); omega
      replace b3 := b3.keep hBt ⟨someNe, someNe, trivial⟩
      replace b4 := b4.keep hBt ⟨someNe, someNe, trivial⟩
      obtain ⟨n_3, a_3, m_3, c_3, r_3, e12, A3, l3⟩ : IsW ((tp pr qr)) ((Br) + 2) (a2.eval (.tmp 12)) w2 := hP 3 (by decide)
      have b5 : BoxV W2 w2 (gs2 0) (.agg #[.bool n_3, .slice a_3 m_3 c_3]) := boxv_of (hX 0 _ rfl).2.2.2 e12
      have f5 := (hX 0 _ rfl).1
      have u5 : w.heap.size ≤ gs2 0 := Nat.le_trans HB.size ((hX 0 _ rfl).2.2.1 (by simp))
      obtain ⟨n_4, a_4, m_4, c_4, r_4, e13, A4, l4⟩ : IsW ((tq qr)) ((Br) + 2) (a2.eval (.tmp 13)) w2 := hP 4 (by decide)
      have b6 : BoxV W2 w2 (gs2 1) (.agg #[.bool n_4, .slice a_4 m_4 c_4]) := boxv_of (hX 1 _ rfl).2.2.2 e13
      have f6 := (hX 1 _ rfl).1
      have u6 : w.heap.size ≤ gs2 1 := Nat.le_trans HB.size ((hX 1 _ rfl).2.2.1 (by simp))
      replace f3 := (hR 3 rfl).trans f3
      replace f4 := (hR 4 rfl).trans f4
      replace Ar := Ar.rl hr
      replace Sr := Sr.rl hr
      replace Dr := Dr.rl hr
      replace Au := Au.rl hr
      replace Su := Su.rl hr
      replace Du := Du.rl hr
      replace HB := HB.trans (hBt.below HB.size (UpOld.all (bx := [⟨W2, some 5, 0, 5, .agg #[.bool false, .slice none 0 0], some (7, 12, 3), []⟩, ⟨W2, some 6, 0, 6, .agg #[.bool false, .slice none 0 0], some (8, 13, 4), []⟩]) ⟨someNe, someNe, trivial⟩))
      clear hBt hr hR hP hX hU
      refine wp_seq ?_
      refine region4 [some 15, some 16, some 14, some 17, some 18, some 7, some 8, none, none] [Eqs (.agg #[.bool nu, .slice au mu cu, .slice bu ku du]), Tup2 (IsW ((tp pu qu)) ((Bu) + 2)) (IsW ((tq qu)) ((Bu) + 2)), Tup2 (IsW ((tp pu qu)) ((Bu) + 2)) (IsW ((tq qu)) ((Bu) + 2)), IsW ((tp pu qu)) ((Bu) + 2), IsW ((tq qu)) ((Bu) + 2), (fun _ _ => True), (fun _ _ => True), (fun _ _ => True), (fun _ _ => True)] [⟨W2, some 5, 0, 7, .agg #[.bool false, .slice none 0 0], some (7, 17, 3), []⟩, ⟨W2, some 6, 0, 8, .agg #[.bool false, .slice none 0 0], some (8, 18, 4), []⟩] [] (by kernel_rfl) hn rfl (by kernel_rfl) (by kernel_rfl) (by kernel_rfl) (by kernel_rfl) (by kernel_rfl) (by kernel_rfl) ⟨Eqs.mono4 _, Tup2.mono4 (IsW.mono4 _ _) (IsW.mono4 _ _), Tup2.mono4 (IsW.mono4 _ _) (IsW.mono4 _ _), IsW.mono4 _ _, IsW.mono4 _ _, True.mono4, True.mono4, True.mono4, True.mono4, trivial⟩ (ok_cons W2ok (ok_cons W2ok ok_nil)) (IsOld.all (bx := [⟨W2, some 5, 0, 7, .agg #[.bool false, .slice none 0 0], some (7, 17, 3), []⟩, ⟨W2, some 6, 0, 8, .agg #[.bool false, .slice none 0 0], some (8, 18, 4), []⟩]) ⟨someNe, someNe, trivial⟩) (DisOld.all (bx := [⟨W2, some 5, 0, 7, .agg #[.bool false, .slice none 0 0], some (7, 17, 3), []⟩, ⟨W2, some 6, 0, 8, .agg #[.bool false, .slice none 0 0], some (8, 18, 4), []⟩]) ⟨someNe, someNe, trivial⟩) ?_ ?_
      · exact ⟨.norm 15 rfl rfl rfl (fun a_ w_ hn_ hBt hr hR hD hO hS => op_loadv R3ok ((hR 3 rfl).trans f3) (b3.keep hBt ⟨someNe, someNe, trivial⟩)),
          .norm 16 rfl rfl rfl (fun a_ w_ hn_ hBt hr hR hD hO hS => op_terms (isr_eq (show a_.eval (.tmp 15) = .agg #[.bool nu, .slice au mu cu, .slice bu ku du] from hD 0 rfl) (Au.rl hr) (Su.rl hr) Vu Lu Mu) (by omega)),
          .norm 14 rfl rfl rfl (fun a_ w_ hn_ hBt hr hR hD hO hS => op_mvp (p := Tup2 (IsW ((tp pu qu)) ((Bu) + 2)) (IsW ((tq qu)) ((Bu) + 2))) (show Tup2 (IsW ((tp pu qu)) ((Bu) + 2)) (IsW ((tq qu)) ((Bu) + 2)) (a_.eval (.tmp 16)) w_ from hD 1 rfl)),
          .norm 17 rfl rfl rfl (fun a_ w_ hn_ hBt hr hR hD hO hS => op_ex20 (show Tup2 (IsW ((tp pu qu)) ((Bu) + 2)) (IsW ((tq qu)) ((Bu) + 2)) (a_.eval (.tmp 14)) w_ from hD 2 rfl)),
          .norm 18 rfl rfl rfl (fun a_ w_ hn_ hBt hr hR hD hO hS => op_ex21 (show Tup2 (IsW ((tp pu qu)) ((Bu) + 2)) (IsW ((tq qu)) ((Bu) + 2)) (a_.eval (.tmp 14)) w_ from hD 2 rfl)),
          .alloc 0 _ rfl rfl (.inl ⟨rfl, rfl⟩) rfl rfl rfl rfl rfl,
          .alloc 1 _ rfl rfl (.inl ⟨rfl, rfl⟩) rfl rfl rfl rfl rfl,
          .store 0 _ _ _ rfl rfl rfl rfl rfl rfl rfl (fun ia h => by cases h; rfl) rfl rfl rfl IsW.cs,
          .store 1 _ _ _ rfl rfl rfl rfl rfl rfl rfl (fun ia h => by cases h; rfl) rfl rfl rfl IsW.cs,
          trivial⟩
      · intro a5 w5 gs5 hn5 hd5 hBt hr hR hP hX hU
        replace hn := hn5; replace hd := hd5.trans hd
        have ne4_7 : (gs1 2) ≠ gs5 0 := by have h1 := b4.lt; have h2 := (hX 0 _ rfl).2.2.1 (by simp); omega
        have ne4_8 : (gs1 2) ≠ gs5 1 := by have h1 := b4.lt; have h2 := (hX 1 _ rfl).2.2.1 (by simp); omega
        replace b4 := b4.keep hBt ⟨someNe, someNe, trivial⟩
        replace b5 := b5.keep hBt ⟨someNe, someNe, trivial⟩
        replace b6 := b6.keep hBt ⟨someNe, someNe, trivial⟩
        obtain ⟨n_6, a_6, m_6, c_6, r_6, e17, A6, l6⟩ : IsW ((tp pu qu)) ((Bu) + 2) (a5.eval (.tmp 17)) w5 := hP 3 (by decide)
        have b7 : BoxV W2 w5 (gs5 0) (.agg #[.bool n_6, .slice a_6 m_6 c_6]) := boxv_of (hX 0 _ rfl).2.2.2 e17
        have f7 := (hX 0 _ rfl).1
        have u7 : w.heap.size ≤ gs5 0 := Nat.le_trans HB.size ((hX 0 _ rfl).2.2.1 (by simp))
        obtain ⟨n_7, a_7, m_7, c_7, r_7, e18, A7, l7⟩ : IsW ((tq qu)) ((Bu) + 2) (a5.eval (.tmp 18)) w5 := hP 4 (by decide)
        have b8 : BoxV W2 w5 (gs5 1) (.agg #[.bool n_7, .slice a_7 m_7 c_7]) := boxv_of (hX 1 _ rfl).2.2.2 e18
        have f8 := (hX 1 _ rfl).1
        have u8 : w.heap.size ≤ gs5 1 := Nat.le_trans HB.size ((hX 1 _ rfl).2.2.1 (by simp))
        replace f4 := (hR 4 rfl).trans f4
        replace f5 := (hR 5 rfl).trans f5
        replace f6 := (hR 6 rfl).trans f6
        replace Ar := Ar.rl hr
        replace Sr := Sr.rl hr
        replace Dr := Dr.rl hr
        replace Au := Au.rl hr
        replace Su := Su.rl hr
        replace Du := Du.rl hr
        replace A3 := A3.rl hr
        replace A4 := A4.rl hr
        replace HB := HB.trans (hBt.below HB.size (UpOld.all (bx := [⟨W2, some 5, 0, 7, .agg #[.bool false, .slice none 0 0], some (7, 17, 3), []⟩, ⟨W2, some 6, 0, 8, .agg #[.bool false, .slice none 0 0], some (8, 18, 4), []⟩]) ⟨someNe, someNe, trivial⟩))
        clear hBt hr hR hP hX hU
        refine wp_seq ?_
        refine region4 [some 19, some 20, some 21, some 22, some 23, some 24, some 25, none] [Eqs (.agg #[.bool n_3, .slice a_3 m_3 c_3]), Eqs (.agg #[.bool n_6, .slice a_6 m_6 c_6]), OutW (((tp pr qr) * (tp pu qu))) (((Br) + 2) + ((Bu) + 2)), Eqs (.agg #[.bool n_4, .slice a_4 m_4 c_4]), Eqs (.agg #[.bool n_7, .slice a_7 m_7 c_7]), OutW (((tq qr) * (tq qu))) (((Br) + 2) + ((Bu) + 2)), OutR ((nm ((tp pr qr) * (tp pu qu)) ((tq qr) * (tq qu)))) ((dn ((tp pr qr) * (tp pu qu)) ((tq qr) * (tq qu)))) ((((Br) + 2) + ((Bu) + 2)) + (((Br) + 2) + ((Bu) + 2))), (fun _ _ => True)] [⟨R3, none, (gs1 2), 4, .agg #[.bool false, .slice none 0 0, .slice none 0 0], some (7, 25, 6), []⟩] [] (by kernel_rfl) hn rfl (by kernel_rfl) (by kernel_rfl) (by kernel_rfl) (by kernel_rfl) (by kernel_rfl) (by kernel_rfl) ⟨Eqs.mono4 _, Eqs.mono4 _, OutW.mono4 _ _, Eqs.mono4 _, Eqs.mono4 _, OutW.mono4 _ _, OutR.mono4 _ _ _, True.mono4, trivial⟩ (ok_cons R3ok ok_nil) (IsOld.all (bx := [⟨R3, none, (gs1 2), 4, .agg #[.bool false, .slice none 0 0, .slice none 0 0], some (7, 25, 6), []⟩]) ⟨fun _ => ⟨f4, b4⟩, trivial⟩) (DisOld.all (bx := [⟨R3, none, (gs1 2), 4, .agg #[.bool false, .slice none 0 0, .slice none 0 0], some (7, 25, 6), []⟩]) ⟨fun _ => trivial, trivial⟩) ?_ ?_
        · exact ⟨.norm 19 rfl rfl rfl (fun a_ w_ hn_ hBt hr hR hD hO hS => op_loadv W2ok ((hR 5 rfl).trans f5) (b5.keep hBt ⟨fun _ => ne4_5, trivial⟩)),
            .norm 20 rfl rfl rfl (fun a_ w_ hn_ hBt hr hR hD hO hS => op_loadv W2ok ((hR 7 rfl).trans f7) (b7.keep hBt ⟨fun _ => ne4_7, trivial⟩)),
            .norm 21 rfl rfl rfl (fun a_ w_ hn_ hBt hr hR hD hO hS => op_mul (isw_eq (show a_.eval (.tmp 19) = .agg #[.bool n_3, .slice a_3 m_3 c_3] from hD 0 rfl) (A3.rl hr) l3) (isw_eq (show a_.eval (.tmp 20) = .agg #[.bool n_6, .slice a_6 m_6 c_6] from hD 1 rfl) (A6.rl hr) l6) (by omega) (by omega)),
            .norm 22 rfl rfl rfl (fun a_ w_ hn_ hBt hr hR hD hO hS => op_loadv W2ok ((hR 6 rfl).trans f6) (b6.keep hBt ⟨fun _ => ne4_6, trivial⟩)),
            .norm 23 rfl rfl rfl (fun a_ w_ hn_ hBt hr hR hD hO hS => op_loadv W2ok ((hR 8 rfl).trans f8) (b8.keep hBt ⟨fun _ => ne4_8, trivial⟩)),
            .norm 24 rfl rfl rfl (fun a_ w_ hn_ hBt hr hR hD hO hS => op_mul (isw_eq (show a_.eval (.tmp 22) = .agg #[.bool n_4, .slice a_4 m_4 c_4] from hD 3 rfl) (A4.rl hr) l4) (isw_eq (show a_.eval (.tmp 23) = .agg #[.bool n_7, .slice a_7 m_7 c_7] from hD 4 rfl) (A7.rl hr) l7) (by omega) (by omega)),
            .norm 25 rfl rfl rfl (fun a_ w_ hn_ hBt hr hR hD hO hS => op_lowest (show OutW (((tp pr qr) * (tp pu qu))) (((Br) + 2) + ((Bu) + 2)) (a_.eval (.tmp 21)) w_ from hD 2 rfl).is (show OutW (((tq qr) * (tq qu))) (((Br) + 2) + ((Bu) + 2)) (a_.eval (.tmp 24)) w_ from hD 5 rfl).is (by omega) (mul_ne (tq_ne _) (tq_ne _))),
            .store 0 _ _ _ rfl rfl rfl rfl rfl rfl rfl (fun ia h => by cases h) rfl rfl rfl OutR.cs,
            trivial⟩
        · intro a8 w8 gs8 hn8 hd8 hBt hr hR hP hX hU
          replace hn := hn8; replace hd := hd8.trans hd
          obtain ⟨n_9, a_9, c_9, r_9, b_9, d_9, s_9, e25, G9, K9, l9, k9⟩ : OutR ((nm ((tp pr qr) * (tp pu qu)) ((tq qr) * (tq qu)))) ((dn ((tp pr qr) * (tp pu qu)) ((tq qr) * (tq qu)))) ((((Br) + 2) + ((Bu) + 2)) + (((Br) + 2) + ((Bu) + 2))) (a8.eval (.tmp 25)) w8 := hP 6 (by decide)
          have A9 := G9.ag; have S9 := K9.sl; have V9 := K9.val
          have b4 : BoxV R3 w8 ((gs1 2)) (.agg #[.bool n_9, .slice a_9 r_9.length c_9, .slice b_9 s_9.length d_9]) := boxv_old ((hX 0 _ rfl).2.1 rfl) (hX 0 _ rfl).2.2.2 e25
          replace f4 : a8.eval (.tmp 4) = _ := (hR 4 rfl).trans f4
          replace Ar := Ar.rl hr
          replace Sr := Sr.rl hr
          replace Dr := Dr.rl hr
          replace Au := Au.rl hr
          replace Su := Su.rl hr
          replace Du := Du.rl hr
          replace A3 := A3.rl hr
          replace A4 := A4.rl hr
          replace A6 := A6.rl hr
          replace A7 := A7.rl hr
          replace HB := HB.trans (hBt.below HB.size (UpOld.all (bx := [⟨R3, none, (gs1 2), 4, .agg #[.bool false, .slice none 0 0, .slice none 0 0], some (7, 25, 6), []⟩]) ⟨fun _ => u4, trivial⟩))
          clear hBt hr hR hP hX hU
          refine wp_ret ?_
          repeat (first | refine then_ret ?_ | refine scope_ret ?_ | refine block_ret ?_)
          exact bodyPost_ret (v := .agg #[.bool n_9, .slice a_9 r_9.length c_9, .slice b_9 s_9.length d_9]) (res_c rfl f4 (lv_R3 b4)) hd ⟨_, rfl, OutR.to (outr_eq rfl G9 K9 l9 k9) rfl rfl (by omega), HB⟩
theorem has_rmul : Has Tryz.prog 21 := by unfold Has; kernel_rfl
set_option maxRecDepth 20000 in
set_option maxHeartbeats 4000000 in
set_option maxRecDepth 100000 in
theorem joinadd_z (w : World) (Br : Nat) (nr : Bool) (ar : Option Addr) (mr cr : Nat) (rs : List Int) (pr : Int) (Ar : Ag w nr ar mr cr rs pr) (Lr : rs.length ≤ Br) (br : Option Addr) (kr dr : Nat) (rt : List Int) (qr : Int) (Sr : Sl w (.slice br kr dr) rt) (Vr : val rt = qr) (Mr : rt.length ≤ Br) (Bu : Nat) (nu : Bool) (au : Option Addr) (mu cu : Nat) (us : List Int) (pu : Int) (Au : Ag w nu au mu cu us pu) (Lu : us.length ≤ Bu) (bu : Option Addr) (ku du : Nat) (ut : List Int) (qu : Int) (Su : Sl w (.slice bu ku du) ut) (Vu : val ut = qu) (Mu : ut.length ≤ Bu) (hL : 3 * (Br + Bu + 4) + 1 ≤ 100000) :
    Calls Tryz.prog 49 #[.agg #[.bool nr, .slice ar mr cr, .slice br kr dr], .agg #[.bool nu, .slice au mu cu, .slice bu ku du], .func (.func 38) #[] #[]] w fun e w' => ∃ v, e = .returned v ∧ (OutR (nm (tp pr qr * tq qu + tp pu qu * tq qr) (tq qr * tq qu)) (dn (tp pr qr * tq qu + tp pu qu * tq qr) (tq qr * tq qu)) (3 * (Br + Bu + 4) + 1)) v w' ∧ Below w.heap.size w w' := by
  obtain ⟨w0, e0, hx, hy, hz, hb⟩ := boxzz w (.cells #[.bool nr, .slice ar mr cr, .slice br kr dr] 46) (.cells #[.bool nu, .slice au mu cu, .slice bu ku du] 46)
  obtain ⟨_, x0, x1, x2, _, _, _⟩ := three_cells hx
  have E0 := hide e0
  have K1 := hide (terms_z w0 Br (by omega) nr ar mr cr rs pr ⟨Ar.sl.below hb, Ar.worth⟩ Lr br kr dr rt qr (Sr.below hb) Vr Mr)
  have HY := hide hy
  have HZ := hide hz
  have HB := hide hb
  clear e0 hx hy hz hb
  go_enter Tryz.func49, Tryz.ntmps49
  go_upto_region 1 with fail
  rw [E0.out]
  go_wp2_with fail
  refine K1.out.mono ?_
  rintro e w1 ⟨v1, v2, rfl, ⟨n1, a1, m1, c1, xs1, rfl, A1, l1⟩, ⟨n2, a2, m2, c2, xs2, rfl, A2, l2⟩, hb1⟩
  obtain ⟨w3, e3, b7, b8, hb3, hs3⟩ := boxed2 w1 n1 (.slice a1 m1 c1) n2 (.slice a2 m2 c2)
  have E3 := hide e3
  have V7 : IsW (tp pr qr) (Br + 2) (.agg #[.bool n1, .slice a1 m1 c1]) w3 := ⟨_, _, _, _, _, rfl, ⟨A1.sl.below hb3, A1.worth⟩, l1⟩
  have V8 : IsW (tq qr) (Br + 2) (.agg #[.bool n2, .slice a2 m2 c2]) w3 := ⟨_, _, _, _, _, rfl, ⟨A2.sl.below hb3, A2.worth⟩, l2⟩
  have H3 := hide (And.intro (And.intro b7 b8) (And.intro V7 V8))
  have h03 := hb1.trans (hb3.mono hb1.size)
  have HB3 := hide (HB.out.trans (h03.mono HB.out.size))
  have HZ3 := hide ((h03.block _ (lt_of_heap HZ.out)).trans HZ.out)
  obtain ⟨_, y0, y1, y2, _, _, _⟩ := three_cells ((h03.block _ (lt_of_heap HY.out)).trans HY.out)
  have K2 := hide (terms_z w3 Bu (by omega) nu au mu cu us pu ⟨Au.sl.below HB3.out, Au.worth⟩ Lu bu ku du ut qu (Su.below HB3.out) Vu Mu)
  clear A1 l1 A2 l2 hb1 hb3 h03 e3 b7 b8 V7 V8 K1 HB HZ HY x0 x1 x2 E0 hs3
  go_upto_region 2 with fail
  rw [E3.out]
  go_wp2_with fail
  refine K2.out.mono ?_
  rintro e w4 ⟨v1, v2, rfl, ⟨n3, a3, m3, c3, xs3, rfl, A3, l3⟩, ⟨n4, a4, m4, c4, xs4, rfl, A4, l4⟩, hb4⟩
  obtain ⟨w5, e5, b9, b10, hb5, hs5⟩ := boxed2 w4 n3 (.slice a3 m3 c3) n4 (.slice a4 m4 c4)
  have V9 : IsW (tp pu qu) (Bu + 2) (.agg #[.bool n3, .slice a3 m3 c3]) w5 := ⟨_, _, _, _, _, rfl, ⟨A3.sl.below hb5, A3.worth⟩, l3⟩
  have V10 : IsW (tq qu) (Bu + 2) (.agg #[.bool n4, .slice a4 m4 c4]) w5 := ⟨_, _, _, _, _, rfl, ⟨A4.sl.below hb5, A4.worth⟩, l4⟩
  have h35 := hb4.trans (hb5.mono hb4.size)
  have HB5 := hide (HB3.out.trans (h35.mono HB3.out.size))
  have HZ5 := hide ((h35.block _ (lt_of_heap HZ3.out)).trans HZ3.out)
  have b7 := (h35.block _ (lt_of_heap H3.out.1.1)).trans H3.out.1.1
  have b8 := (h35.block _ (lt_of_heap H3.out.1.2)).trans H3.out.1.2
  have V7 := IsW.mono _ _ _ _ _ h35 H3.out.2.1
  have V8 := IsW.mono _ _ _ _ _ h35 H3.out.2.2
  clear A3 l3 A4 l4 hb4 hb5 h35 K2 HB3 HZ3 H3 y0 y1 y2 E3 hs5
  go_upto_region 3 with fail
  clear e5
  refine region_tail 9 [22, 23, 24, 25, 26, 27, 28, 29, 11] [Eqs (.func (.func 38) #[] #[]), (IsW (tp pr qr) (Br + 2)), (IsW (tq qu) (Bu + 2)), (OutW (tp pr qr * tq qu) (((Br + 2) + (Bu + 2)))), (IsW (tp pu qu) (Bu + 2)), (IsW (tq qr) (Br + 2)), (OutW (tp pu qu * tq qr) (((Bu + 2) + (Br + 2)))), (OutW (tp pr qr * tq qu + tp pu qu * tq qr) (((Br + 2) + (Bu + 2)) + ((Bu + 2) + (Br + 2)) + 1)), (NewW w5.heap.size)] rfl rfl (by decide) (by kernel_rfl) (by kernel_rfl) (by decide) (by kernel_rfl) ⟨Eqs.mono _, (IsW.mono _ _), (IsW.mono _ _), (Mono.of4 (OutW.mono4 _ _)), (IsW.mono _ _), (IsW.mono _ _), (Mono.of4 (OutW.mono4 _ _)), (Mono.of4 (OutW.mono4 _ _)), (NewW.mono _), trivial⟩ ?_ ?_
  · exact ⟨⟨rfl, fun a_ w_ _ hB hR hD => op_mv ((hR 2 rfl).trans (eval_list rfl))⟩,
        ⟨rfl, fun a_ w_ _ hB hR hD => op_ldP ((hR 7 rfl).trans (eval_list rfl)) ((hB.block _ (lt_of_heap b7)).trans b7) (IsW.mono _ _ _ _ _ hB V7)⟩,
        ⟨rfl, fun a_ w_ _ hB hR hD => op_ldP ((hR 10 rfl).trans (eval_list rfl)) ((hB.block _ (lt_of_heap b10)).trans b10) (IsW.mono _ _ _ _ _ hB V10)⟩,
        ⟨rfl, fun a_ w_ _ hB hR hD => op_mul (show (IsW (tp pr qr) (Br + 2)) (a_.eval (.tmp 23)) w_ from hD 1 rfl) (show (IsW (tq qu) (Bu + 2)) (a_.eval (.tmp 24)) w_ from hD 2 rfl) (by omega) (by omega)⟩,
        ⟨rfl, fun a_ w_ _ hB hR hD => op_ldP ((hR 9 rfl).trans (eval_list rfl)) ((hB.block _ (lt_of_heap b9)).trans b9) (IsW.mono _ _ _ _ _ hB V9)⟩,
        ⟨rfl, fun a_ w_ _ hB hR hD => op_ldP ((hR 8 rfl).trans (eval_list rfl)) ((hB.block _ (lt_of_heap b8)).trans b8) (IsW.mono _ _ _ _ _ hB V8)⟩,
        ⟨rfl, fun a_ w_ _ hB hR hD => op_mul (show (IsW (tp pu qu) (Bu + 2)) (a_.eval (.tmp 26)) w_ from hD 4 rfl) (show (IsW (tq qr) (Br + 2)) (a_.eval (.tmp 27)) w_ from hD 5 rfl) (by omega) (by omega)⟩,
        ⟨rfl, fun a_ w_ _ hB hR hD => does_via (hD 0 rfl : _ = _) (op_add (show (OutW (tp pr qr * tq qu) (((Br + 2) + (Bu + 2)))) (a_.eval (.tmp 25)) w_ from hD 3 rfl).is (show (OutW (tp pu qu * tq qr) (((Bu + 2) + (Br + 2)))) (a_.eval (.tmp 28)) w_ from hD 6 rfl).is (by omega) (by omega))⟩,
        ⟨rfl, fun a_ w_ _ hB hR hD => op_newW hB.size⟩,
        trivial⟩
  · intro a' w' hn' hd' hB' hR' hP'
    have e22 : a'.eval (.tmp 22) = .func (.func 38) #[] #[] := hP' 0 (by decide)
    obtain ⟨u23, e23⟩ : ∃ u, a'.eval (.tmp 23) = u := ⟨_, rfl⟩
    obtain ⟨u24, e24⟩ : ∃ u, a'.eval (.tmp 24) = u := ⟨_, rfl⟩
    obtain ⟨u25, e25⟩ : ∃ u, a'.eval (.tmp 25) = u := ⟨_, rfl⟩
    obtain ⟨u26, e26⟩ : ∃ u, a'.eval (.tmp 26) = u := ⟨_, rfl⟩
    obtain ⟨u27, e27⟩ : ∃ u, a'.eval (.tmp 27) = u := ⟨_, rfl⟩
    obtain ⟨u28, e28⟩ : ∃ u, a'.eval (.tmp 28) = u := ⟨_, rfl⟩
    obtain ⟨u29, e29⟩ : ∃ u, a'.eval (.tmp 29) = u := ⟨_, rfl⟩
    have hs : (OutW (tp pr qr * tq qu + tp pu qu * tq qr) (((Br + 2) + (Bu + 2)) + ((Bu + 2) + (Br + 2)) + 1)) (a'.eval (.tmp 29)) w' := hP' 7 (by decide)
    rw [e29] at hs
    obtain ⟨u11, e11⟩ : ∃ u, a'.eval (.tmp 11) = u := ⟨_, rfl⟩
    have hg : (NewW w5.heap.size) (a'.eval (.tmp 11)) w' := hP' 8 (by decide)
    rw [e11] at hg
    refine tail_fit hn' hd' hR' (.s4 rfl <| .s4 rfl <| .same rfl <| .same rfl <| .same rfl <| .new e11 <| .s4 rfl <| .s4 rfl <| .same rfl <| .same rfl <| .new e22 <| .new e23 <| .new e24 <| .new e25 <| .new e26 <| .new e27 <| .new e28 <| .new e29 <| .s4 rfl <| .same rfl <| .nil) ?_
    clear e22 e23 e24 e25 e26 e27 e28 e29 e11
    obtain ⟨g, hg1, rfl, hg2⟩ := hg
    obtain ⟨n6, a6, c6, r6, rfl, G6, l6⟩ := hs
    obtain ⟨_, t0, t1, u0, u1⟩ := two_cells hg2
    have hr := ru_w2 hg2 (.bool n6) (.slice a6 r6.length c6)
    have h57 : Below w5.heap.size w5 ((w'.setCell ⟨g, 0, none⟩ (.bool n6)).setCell ⟨g, 1, none⟩ (.slice a6 r6.length c6)) := (hB'.setCell hg1 _).setCell hg1 _
    have V11 : IsW (tp pr qr * tq qu + tp pu qu * tq qr) (((Br + 2) + (Bu + 2)) + ((Bu + 2) + (Br + 2)) + 1) (.agg #[.bool n6, .slice a6 r6.length c6]) ((w'.setCell ⟨g, 0, none⟩ (.bool n6)).setCell ⟨g, 1, none⟩ (.slice a6 r6.length c6)) := IsW.mono5 _ _ _ _ _ hr (OutW.is ⟨_, _, _, _, rfl, G6, l6⟩)
    have b11 := set_w2 hg2 (.bool n6) (.slice a6 r6.length c6)
    replace b8 := (h57.block _ (lt_of_heap b8)).trans b8
    replace b10 := (h57.block _ (lt_of_heap b10)).trans b10
    replace V8 := IsW.mono _ _ _ _ _ h57 V8
    replace V10 := IsW.mono _ _ _ _ _ h57 V10
    have HB7 := hide (HB5.out.trans (h57.mono HB5.out.size))
    have HZ7 := hide ((h57.block _ (lt_of_heap HZ5.out)).trans HZ5.out)
    have HR := hide (And.intro (And.intro b8 b10) (And.intro b11 (And.intro V11 (And.intro V8 V10))))
    clear hB' hR' hP' hn' hd' hg1 hg2 G6 l6 hr h57 V11 b11 b7 b8 b9 b10 V7 V8 V9 V10 HB5 HZ5
    go_upto_region 4 with fail
    generalize (w'.setCell ⟨g, 0, none⟩ (.bool n6)).setCell ⟨g, 1, none⟩ (.slice a6 r6.length c6) = w7 at *
    obtain ⟨⟨b8, b10⟩, b11, V11, V8, V10⟩ := HR.out
    clear HR
    refine region_tail 5 [30, 31, 32, 33, 34] [(IsW (tp pr qr * tq qu + tp pu qu * tq qr) (((Br + 2) + (Bu + 2)) + ((Bu + 2) + (Br + 2)) + 1)), (IsW (tq qr) (Br + 2)), (IsW (tq qu) (Bu + 2)), (OutW (tq qr * tq qu) (((Br + 2) + (Bu + 2)))), (OutR (nm (tp pr qr * tq qu + tp pu qu * tq qr) (tq qr * tq qu)) (dn (tp pr qr * tq qu + tp pu qu * tq qr) (tq qr * tq qu)) (((Br + 2) + (Bu + 2)) + ((Bu + 2) + (Br + 2)) + 1 + ((Br + 2) + (Bu + 2))))] rfl rfl (by decide) (by kernel_rfl) (by kernel_rfl) (by decide) (by kernel_rfl) ⟨(IsW.mono _ _), (IsW.mono _ _), (IsW.mono _ _), (Mono.of4 (OutW.mono4 _ _)), (Mono.of4 (OutR.mono4 _ _ _)), trivial⟩ ?_ ?_
    · exact ⟨⟨rfl, fun a_ w_ _ hB hR hD => op_ldP ((hR 11 rfl).trans (eval_list rfl)) ((hB.block _ (lt_of_heap b11)).trans b11) (IsW.mono _ _ _ _ _ hB V11)⟩,
          ⟨rfl, fun a_ w_ _ hB hR hD => op_ldP ((hR 8 rfl).trans (eval_list rfl)) ((hB.block _ (lt_of_heap b8)).trans b8) (IsW.mono _ _ _ _ _ hB V8)⟩,
          ⟨rfl, fun a_ w_ _ hB hR hD => op_ldP ((hR 10 rfl).trans (eval_list rfl)) ((hB.block _ (lt_of_heap b10)).trans b10) (IsW.mono _ _ _ _ _ hB V10)⟩,
          ⟨rfl, fun a_ w_ _ hB hR hD => op_mul (show (IsW (tq qr) (Br + 2)) (a_.eval (.tmp 31)) w_ from hD 1 rfl) (show (IsW (tq qu) (Bu + 2)) (a_.eval (.tmp 32)) w_ from hD 2 rfl) (by omega) (by omega)⟩,
          ⟨rfl, fun a_ w_ _ hB hR hD => op_lowest (show (IsW (tp pr qr * tq qu + tp pu qu * tq qr) (((Br + 2) + (Bu + 2)) + ((Bu + 2) + (Br + 2)) + 1)) (a_.eval (.tmp 30)) w_ from hD 0 rfl) (show (OutW (tq qr * tq qu) (((Br + 2) + (Bu + 2)))) (a_.eval (.tmp 33)) w_ from hD 3 rfl).is (by omega) (mul_ne (tq_ne _) (tq_ne _))⟩,
          trivial⟩
    · intro a' w' hn' hd' hB' hR' hP'
      obtain ⟨u30, e30⟩ : ∃ u, a'.eval (.tmp 30) = u := ⟨_, rfl⟩
      obtain ⟨u31, e31⟩ : ∃ u, a'.eval (.tmp 31) = u := ⟨_, rfl⟩
      obtain ⟨u32, e32⟩ : ∃ u, a'.eval (.tmp 32) = u := ⟨_, rfl⟩
      obtain ⟨u33, e33⟩ : ∃ u, a'.eval (.tmp 33) = u := ⟨_, rfl⟩
      obtain ⟨u34, e34⟩ : ∃ u, a'.eval (.tmp 34) = u := ⟨_, rfl⟩
      have ho : (OutR (nm (tp pr qr * tq qu + tp pu qu * tq qr) (tq qr * tq qu)) (dn (tp pr qr * tq qu + tp pu qu * tq qr) (tq qr * tq qu)) (((Br + 2) + (Bu + 2)) + ((Bu + 2) + (Br + 2)) + 1 + ((Br + 2) + (Bu + 2)))) (a'.eval (.tmp 34)) w' := hP' 4 (by decide)
      rw [e34] at ho
      refine tail_fit hn' hd' hR' (.s16 rfl <| .s4 rfl <| .s4 rfl <| .s4 rfl <| .same rfl <| .same rfl <| .new e30 <| .new e31 <| .new e32 <| .new e33 <| .new e34 <| .nil) ?_
      clear e30 e31 e32 e33 e34
      have HB9 := hide (HB7.out.trans (hB'.mono HB7.out.size))
      have hz := (hB'.block _ (lt_of_heap HZ7.out)).trans HZ7.out
      have HO := hide ho
      obtain ⟨ng, a, b, rx, c, d, ry, rfl, _⟩ := ho
      obtain ⟨_, t0, t1, t2, u0, u1, u2⟩ := three_cells hz
      have HE := hide (r3_end (Nat.le_add_right _ 2) hz HB9.out HO.out)
      clear hB' hR' hP' hn' hd' hz HO
      go_wp2
      exact bodyPost_ret (v := _) (res_c (g := w.heap.size + 2) rfl rfl HE.out.2.2) rfl ⟨_, rfl, HE.out.1.to rfl rfl (by omega), HE.out.2.1⟩
set_option maxRecDepth 20000 in
set_option maxHeartbeats 4000000 in
set_option maxRecDepth 100000 in
theorem radd_z (w : World) (Br : Nat) (nr : Bool) (ar : Option Addr) (mr cr : Nat) (rs : List Int) (pr : Int) (Ar : Ag w nr ar mr cr rs pr) (Lr : rs.length ≤ Br) (br : Option Addr) (kr dr : Nat) (rt : List Int) (qr : Int) (Sr : Sl w (.slice br kr dr) rt) (Vr : val rt = qr) (Mr : rt.length ≤ Br) (Bu : Nat) (nu : Bool) (au : Option Addr) (mu cu : Nat) (us : List Int) (pu : Int) (Au : Ag w nu au mu cu us pu) (Lu : us.length ≤ Bu) (bu : Option Addr) (ku du : Nat) (ut : List Int) (qu : Int) (Su : Sl w (.slice bu ku du) ut) (Vu : val ut = qu) (Mu : ut.length ≤ Bu) (hL : 3 * (Br + Bu + 4) + 1 ≤ 100000) :
    Calls Tryz.prog 20 #[.agg #[.bool nr, .slice ar mr cr, .slice br kr dr], .agg #[.bool nu, .slice au mu cu, .slice bu ku du]] w fun e w' => ∃ v, e = .returned v ∧ (OutR (nm (tp pr qr * tq qu + tp pu qu * tq qr) (tq qr * tq qu)) (dn (tp pr qr * tq qu + tp pu qu * tq qr) (tq qr * tq qu)) (3 * (Br + Bu + 4) + 1)) v w' ∧ Below w.heap.size w w' := by
  obtain ⟨w0, e0, hx, hy, hz, hb⟩ := boxzz w (.cells #[.bool nr, .slice ar mr cr, .slice br kr dr] 46) (.cells #[.bool nu, .slice au mu cu, .slice bu ku du] 46)
  obtain ⟨_, x0, x1, x2, _, _, _⟩ := three_cells hx
  obtain ⟨_, y0, y1, y2, _, _, _⟩ := three_cells hy
  have E0 := hide e0
  have K1 := hide (joinadd_z w0 Br nr ar mr cr rs pr ⟨Ar.sl.below hb, Ar.worth⟩ Lr br kr dr rt qr (Sr.below hb) Vr Mr Bu nu au mu cu us pu ⟨Au.sl.below hb, Au.worth⟩ Lu bu ku du ut qu (Su.below hb) Vu Mu hL)
  have HZ := hide hz
  have HB := hide hb
  clear e0 hx hy hz hb
  go_enter Tryz.func20, Tryz.ntmps20
  go_upto_region 1 with fail
  rw [E0.out]
  go_wp2_with fail
  refine K1.out.mono ?_
  rintro e w9 ⟨v, rfl, ho, hb9⟩
  have HB9 := hide (HB.out.trans (hb9.mono HB.out.size))
  have hz := (hb9.block _ (lt_of_heap HZ.out)).trans HZ.out
  have HO := hide ho
  obtain ⟨ng, a, b, rx, c, d, ry, rfl, _⟩ := ho
  obtain ⟨_, t0, t1, t2, u0, u1, u2⟩ := three_cells hz
  have HE := hide (r3_end (Nat.le_add_right _ 2) hz HB9.out HO.out)
  clear hz K1 hb9 HO
  go_wp2
  exact bodyPost_ret (v := _) (res_c (g := w.heap.size + 2) rfl rfl HE.out.2.2) rfl ⟨_, rfl, HE.out.1.to rfl rfl (by omega), HE.out.2.1⟩
set_option maxRecDepth 20000 in
set_option maxHeartbeats 4000000 in
set_option maxRecDepth 100000 in
theorem rof_z (w : World) (Bx : Nat) (nx : Bool) (ax : Option Addr) (mx cx : Nat) (xs : List Int) (zx : Int) (Ax : Ag w nx ax mx cx xs zx) (Lx : xs.length ≤ Bx) (By : Nat) (ny : Bool) (ay : Option Addr) (my cy : Nat) (ys : List Int) (zy : Int) (Ay : Ag w ny ay my cy ys zy) (Ly : ys.length ≤ By) (hL : Bx + By ≤ 100000) (hy : zy ≠ 0) :
    Calls Tryz.prog 44 #[.agg #[.bool nx, .slice ax mx cx], .agg #[.bool ny, .slice ay my cy]] w fun e w' => ∃ v, e = .returned v ∧ (Tup2 (OutR (nm zx zy) (dn zx zy) (Bx + By)) (Eqs (.int .i64 0))) v w' ∧ Below w.heap.size w w' := by
  obtain ⟨w0, e0, hx, hy0, hz, hb⟩ := boxzz w (.cells #[.bool nx, .slice ax mx cx] 38) (.cells #[.bool ny, .slice ay my cy] 38)
  obtain ⟨_, y0, y1, _, _⟩ := two_cells hy0
  have E0 := hide e0
  have K1 := hide (sign_z w0 ny ay my cy ys zy ⟨Ay.sl.below hb, Ay.worth⟩ (by omega) (Int.sign zy) rfl)
  have hs : (Int.sign zy == 0) = false := by simp [hy]
  have HX := hide hx
  have HY := hide hy0
  have HZ := hide hz
  have HB := hide hb
  clear e0 hx hy0 hz hb
  go_enter Tryz.func44, Tryz.ntmps44
  go_upto_region 1 with fail
  rw [E0.out]
  go_wp2_with fail
  refine K1.out.mono ?_
  rintro e w1 ⟨rfl, hb1⟩
  have HB1 := hide (HB.out.trans (hb1.mono HB.out.size))
  have HZ1 := hide ((hb1.block _ (lt_of_heap HZ.out)).trans HZ.out)
  obtain ⟨_, x0, x1, _, _⟩ := two_cells ((hb1.block _ (lt_of_heap HX.out)).trans HX.out)
  replace y0 := (hb1.cell (p := ⟨w.heap.size + 1, 0, none⟩) (lt_of_cell' y0)).trans y0
  replace y1 := (hb1.cell (p := ⟨w.heap.size + 1, 1, none⟩) (lt_of_cell' y1)).trans y1
  have K2 := hide (lowest_w w1 (.agg #[.bool nx, .slice ax mx cx]) (.agg #[.bool ny, .slice ay my cy]) zx zy (Bx + By) ⟨_, _, _, _, _, rfl, ⟨Ax.sl.below HB1.out, Ax.worth⟩, by omega⟩ ⟨_, _, _, _, _, rfl, ⟨Ay.sl.below HB1.out, Ay.worth⟩, by omega⟩ hy hL)
  clear hb1 K1 HB HZ HX HY
  go_wp2_with fail
  refine K2.out.mono ?_
  rintro e w9 ⟨v, rfl, ho, hb9⟩
  have HB9 := hide (HB1.out.trans (hb9.mono HB1.out.size))
  have hz := (hb9.block _ (lt_of_heap HZ1.out)).trans HZ1.out
  have HO := hide ho
  obtain ⟨ng, a, b, rx, c, d, ry, rfl, _⟩ := ho
  obtain ⟨_, t0, t1, t2, u0, u1, u2⟩ := three_cells hz
  have HE := hide (r3_end (Nat.le_add_right _ 2) hz HB9.out HO.out)
  clear hz K2 hb9 HO
  go_wp2
  exact bodyPost_ret (v := _) (res_ct (g := w.heap.size + 2) rfl rfl HE.out.2.2 rfl) rfl ⟨_, rfl, ⟨_, _, rfl, HE.out.1, rfl⟩, HE.out.2.1⟩
set_option maxRecDepth 20000 in
set_option maxHeartbeats 4000000 in
set_option maxRecDepth 100000 in
theorem rof0_z (w : World) (Bx : Nat) (nx : Bool) (ax : Option Addr) (mx cx : Nat) (xs : List Int) (zx : Int) (_Ax : Ag w nx ax mx cx xs zx) (Lx : xs.length ≤ Bx) (By : Nat) (ny : Bool) (ay : Option Addr) (my cy : Nat) (ys : List Int) (zy : Int) (Ay : Ag w ny ay my cy ys zy) (Ly : ys.length ≤ By) (hL : Bx + By ≤ 100000) (hy : zy = 0) :
    Calls Tryz.prog 44 #[.agg #[.bool nx, .slice ax mx cx], .agg #[.bool ny, .slice ay my cy]] w fun e w' => ∃ v, e = .returned v ∧ (Tup2 (Eqs (.agg #[.bool false, .slice none 0 0, .slice none 0 0])) (Eqs (.int .i64 20))) v w' ∧ Below w.heap.size w w' := by
  obtain ⟨w0, e0, hx, hy0, hz, hb⟩ := boxzz w (.cells #[.bool nx, .slice ax mx cx] 38) (.cells #[.bool ny, .slice ay my cy] 38)
  obtain ⟨_, y0, y1, _, _⟩ := two_cells hy0
  have E0 := hide e0
  have K1 := hide (sign_z w0 ny ay my cy ys zy ⟨Ay.sl.below hb, Ay.worth⟩ (by omega) (Int.sign zy) rfl)
  have hs : (Int.sign zy == 0) = true := by simp [hy]
  have HX := hide hx
  have HY := hide hy0
  have HZ := hide hz
  have HB := hide hb
  clear e0 hx hy0 hz hb
  go_enter Tryz.func44, Tryz.ntmps44
  go_upto_region 1 with fail
  rw [E0.out]
  go_wp2_with fail
  refine K1.out.mono ?_
  rintro e w1 ⟨rfl, hb1⟩
  have HB1 := hide (HB.out.trans (hb1.mono HB.out.size))
  have HZ1 := hide ((hb1.block _ (lt_of_heap HZ.out)).trans HZ.out)
  obtain ⟨_, t0, t1, t2, u0, u1, u2⟩ := three_cells HZ1.out
  have HE := hide (r3_set false none 0 0 none 0 0 (Nat.le_add_right _ 2) HZ1.out HB1.out)
  clear hb1 K1 HB HZ HX HY HB1 HZ1
  go_wp2
  exact bodyPost_ret (v := _) (res_ct (g := w.heap.size + 2) rfl rfl HE.out.2 rfl) rfl ⟨_, rfl, ⟨_, _, rfl, rfl, rfl⟩, HE.out.1⟩
end Lm
end Go.Proofs.YtnomflballofiaaGreat

namespace Go.Proofs.YtnomflballofiaaGreat
namespace Lm
open Go.RowKit
structure Fr (B T : Nat) (w : World) (ao : Option Addr) (cap : Nat) (rs : List Int) (x : Int) : Prop where
  ow : Ow B w (.slice ao rs.length cap) rs
  canon : Canon rs
  val : val rs = x
  lies : 0 < cap → ∀ g off, ao = some ⟨g, off, none⟩ → B ≤ g ∧ g < T
theorem Is.fr {B : Nat} {w : World} {v : Value} {x : Int} (h : Is B w v x) : ∃ ao cap rs, v = .slice ao rs.length cap ∧ Fr B w.heap.size w ao cap rs x := by
  obtain ⟨rs, ho, hc, hv⟩ := h
  obtain ⟨ao, cap, rfl, h1, h2, h3, h4⟩ := ho
  refine ⟨ao, cap, rs, rfl, ⟨ao, cap, rfl, h1, h2, h3, h4⟩, hc, hv, ?_⟩
  intro h0 g off e
  rcases h4 with h4 | ⟨g', off', cur, e', hB, hh, _⟩
  · omega
  · rw [e'] at e
    simp only [Option.some.injEq, Addr.mk.injEq, and_true] at e
    have := lt_of_heap hh
    omega
theorem Fr.got {B T : Nat} {w : World} {ao : Option Addr} {cap : Nat} {rs : List Int} {x : Int} (h : Fr B T w ao cap rs x) : Got w ao cap rs x := ⟨h.ow.sl, h.canon, h.val⟩
end Lm
end Go.Proofs.YtnomflballofiaaGreat

namespace Go.Proofs.YtnomflballofiaaGreat
namespace Lm
open Go.RowKit
theorem Is.tight {B : Nat} {w : World} {v : Value} {x : Int} (h : Is B w v x) (hB : B ≤ w.heap.size) : ∃ ao cap rs B1 T1, v = .slice ao rs.length cap ∧ Fr B1 T1 w ao cap rs x ∧ B ≤ B1 ∧ T1 ≤ w.heap.size ∧ ((cap = 0 ∧ T1 = B1) ∨ (0 < cap ∧ T1 = B1 + 1 ∧ ∃ off, ao = some ⟨B1, off, none⟩)) := by
  obtain ⟨rs, ho, hc, hv⟩ := h
  obtain ⟨ao, cap, rfl, h1, h2, h3, h4⟩ := ho
  by_cases h0 : cap = 0
  · exact ⟨ao, cap, rs, B, B, rfl, ⟨⟨ao, cap, rfl, h1, h2, h3, .inl h0⟩, hc, hv, fun h => by omega⟩, Nat.le_refl _, hB, .inl ⟨h0, rfl⟩⟩
  · rcases h4 with h4 | ⟨g, off, cur, rfl, hg, hh, hs, ha⟩
    · exact absurd h4 h0
    · refine ⟨_, cap, rs, g, g + 1, rfl, ⟨⟨_, cap, rfl, h1, h2, h3, .inr ⟨g, off, cur, rfl, Nat.le_refl _, hh, hs, ha⟩⟩, hc, hv, fun _ g' off' e => ?_⟩, hg, lt_of_heap hh, .inr ⟨by omega, rfl, off, rfl⟩⟩
      simp only [Option.some.injEq, Addr.mk.injEq] at e
      omega
theorem Is.two {B : Nat} {w : World} {v1 v2 : Value} {x1 x2 : Int} (h1 : Is B w v1 x1) (h2 : Is B w v2 x2) (hs : Sep v1 v2) (hB : B ≤ w.heap.size) : ∃ ao cap rs bo dap ss B1 T1 B2 T2, v1 = .slice ao rs.length cap ∧ v2 = .slice bo ss.length dap ∧ Fr B1 T1 w ao cap rs x1 ∧ Fr B2 T2 w bo dap ss x2 ∧ B ≤ B1 ∧ T1 ≤ w.heap.size ∧ B ≤ B2 ∧ T2 ≤ w.heap.size ∧ (∀ j, B1 ≤ j → j < T1 → j < B2 ∨ T2 ≤ j) := by
  obtain ⟨ao, cap, rs, B1, T1, rfl, f1, b1, t1, c1⟩ := h1.tight hB
  obtain ⟨bo, dap, ss, B2, T2, rfl, f2, b2, t2, c2⟩ := h2.tight hB
  refine ⟨ao, cap, rs, bo, dap, ss, B1, T1, B2, T2, rfl, rfl, f1, f2, b1, t1, b2, t2, fun j hj1 hj2 => ?_⟩
  rcases c1 with ⟨_, c1⟩ | ⟨p1, c1, off1, rfl⟩
  · omega
  · rcases c2 with ⟨_, c2⟩ | ⟨p2, c2, off2, rfl⟩
    · omega
    · have := hs _ _ _ _ _ _ rfl rfl
      simp only at this
      omega
structure Li (B T : Nat) (w : World) (ao : Option Addr) (cap : Nat) (rs : List Int) : Prop where
  ow : Ow B w (.slice ao rs.length cap) rs
  lies : 0 < cap → ∀ g off, ao = some ⟨g, off, none⟩ → B ≤ g ∧ g < T
theorem Fr.li {B T : Nat} {w : World} {ao : Option Addr} {cap : Nat} {rs : List Int} {x : Int} (h : Fr B T w ao cap rs x) : Li B T w ao cap rs := ⟨h.ow, h.lies⟩
theorem Li.fr {B T : Nat} {w : World} {ao : Option Addr} {cap : Nat} {rs : List Int} {x : Int} (h : Li B T w ao cap rs) (hg : Got w ao cap rs x) : Fr B T w ao cap rs x := ⟨h.ow, hg.canon, hg.val, h.lies⟩
theorem Li.kept {B T : Nat} {w w' : World} {ao : Option Addr} {cap : Nat} {rs : List Int} (h : Li B T w ao cap rs) (hk : ∀ g, g < w.heap.size → B ≤ g → g < T → w'.heap[g]? = w.heap[g]?) : Li B T w' ao cap rs := by
  obtain ⟨ho, hl⟩ := h
  refine ⟨?_, hl⟩
  obtain ⟨ao', cap', hv', h1, h2, h3, h4⟩ := ho
  obtain ⟨rfl, _, rfl⟩ := (Value.slice.injEq .. ▸ hv')
  refine ⟨ao, cap, rfl, h1, h2, h3, ?_⟩
  rcases h4 with h4 | ⟨g, off, cur, rfl, hB, hh, r⟩
  · exact .inl h4
  · by_cases h0 : 0 < cap
    · have := hl h0 g off rfl
      exact .inr ⟨g, off, cur, rfl, hB, (hk g (lt_of_heap hh) this.1 this.2).trans hh, r⟩
    · exact .inl (by omega)
theorem Li.below {B T : Nat} {w w' : World} {ao : Option Addr} {cap : Nat} {rs : List Int} (h : Li B T w ao cap rs) (hb : Below w.heap.size w w') : Li B T w' ao cap rs := h.kept fun g hg _ _ => hb.block g hg
theorem Li.set2 {B T : Nat} {w : World} {ao : Option Addr} {cap : Nat} {rs : List Int} (h : Li B T w ao cap rs) (k : Nat) (hk : k < B ∨ T ≤ k) (b u : Value) : Li B T ((w.setCell ⟨k, 0, none⟩ b).setCell ⟨k, 1, none⟩ u) ao cap rs :=
  h.kept fun g _ h1 h2 => by
    have hne : g ≠ k := by omega
    rw [heap_setCell_other _ ⟨k, 1, none⟩ g _ hne, heap_setCell_other _ ⟨k, 0, none⟩ g _ hne]
theorem divmod_o (w : World) (a1 a2 : Option Addr) (n1 n2 c1 c2 : Nat) (xs ys : List Int) (hx : Sl w (.slice a1 n1 c1) xs) (hy : Sl w (.slice a2 n2 c2) ys) (hm1 : xs.length ≤ 500000) (h0 : val ys ≠ 0) :
    Calls Tryz.prog 86 #[.slice a1 n1 c1, .slice a2 n2 c2] w fun e w' => ∃ ao cap rs bo dap ss B1 T1 B2 T2, e = .returned (.tuple #[.slice ao rs.length cap, .slice bo ss.length dap, .bool true]) ∧ Got w' ao cap rs (val xs / val ys) ∧ Got w' bo dap ss (val xs % val ys) ∧ rs.length ≤ xs.length ∧ ss.length ≤ ys.length ∧ Li B1 T1 w' ao cap rs ∧ Li B2 T2 w' bo dap ss ∧ (w.heap.size ≤ B1 ∧ T1 ≤ w'.heap.size ∧ w.heap.size ≤ B2 ∧ T2 ≤ w'.heap.size ∧ ∀ j, B1 ≤ j → j < T1 → j < B2 ∨ T2 ≤ j) ∧ Below w.heap.size w w' := by
  refine (divmod_any w a1 a2 n1 n2 c1 c2 xs ys hx hy hm1 h0).mono ?_
  rintro e w' ⟨v1, v2, rfl, hi1, hi2, hsep, hb⟩
  obtain ⟨ao, cap, rs, bo, dap, ss, B1, T1, B2, T2, rfl, rfl, f1, f2, x1, x2, x3, x4, x5⟩ := hi1.two hi2 hsep hb.size
  have lx := hx.parts.2.2.2
  have ly := hy.parts.2.2.2
  have bx := val_bounds lx
  have bY := val_bounds ly
  refine ⟨ao, cap, rs, bo, dap, ss, B1, T1, B2, T2, rfl, f1.got, f2.got, le_len lx f1.canon (by rw [f1.val]; exact Int.ediv_le_self _ bx.1), le_len ly f2.canon (by rw [f2.val]; exact Int.le_of_lt (Int.emod_lt_of_pos _ (by omega))), f1.li, f2.li, ⟨x1, x2, x3, x4, x5⟩, hb⟩
theorem add_o (w : World) (a1 a2 : Option Addr) (n1 n2 c1 c2 : Nat) (xs ys : List Int) (hx : Sl w (.slice a1 n1 c1) xs) (hy : Sl w (.slice a2 n2 c2) ys) (hm1 : xs.length ≤ 1000000) (hm2 : ys.length ≤ 1000000) :
    Calls Tryz.prog 100 #[.slice a1 n1 c1, .slice a2 n2 c2] w fun e w' => ∃ ao cap rs, e = .returned (.slice ao rs.length cap) ∧ Got w' ao cap rs (val xs + val ys) ∧ rs.length ≤ xs.length + ys.length + 1 ∧ Li w.heap.size w'.heap.size w' ao cap rs ∧ Below w.heap.size w w' := by
  refine (add_any w a1 a2 n1 n2 c1 c2 xs ys hx hy hm1 hm2).mono ?_
  rintro e w' ⟨v, rfl, hi, hb⟩
  obtain ⟨ao, cap, rs, rfl, f⟩ := hi.fr
  exact ⟨ao, cap, rs, rfl, f.got, add_len hx.parts.2.2.2 hy.parts.2.2.2 f.canon f.val, f.li, hb⟩
theorem sub_o (w : World) (a1 a2 : Option Addr) (n1 n2 c1 c2 : Nat) (xs ys : List Int) (hx : Sl w (.slice a1 n1 c1) xs) (hy : Sl w (.slice a2 n2 c2) ys) (hm1 : xs.length ≤ 1000000) (hge : val ys ≤ val xs) :
    Calls Tryz.prog 101 #[.slice a1 n1 c1, .slice a2 n2 c2] w fun e w' => ∃ ao cap rs, e = .returned (.tuple #[.slice ao rs.length cap, .bool true]) ∧ Got w' ao cap rs (val xs - val ys) ∧ rs.length ≤ xs.length ∧ Li w.heap.size w'.heap.size w' ao cap rs ∧ Below w.heap.size w w' := by
  refine (sub_yes w a1 a2 n1 n2 c1 c2 xs ys hx hy hm1 hge).mono ?_
  rintro e w' ⟨v, rfl, hi, hb⟩
  obtain ⟨ao, cap, rs, rfl, f⟩ := hi.fr
  have := (val_bounds hy.parts.2.2.2).1
  exact ⟨ao, cap, rs, rfl, f.got, le_len hx.parts.2.2.2 f.canon (by rw [f.val]; omega), f.li, hb⟩
end Lm
end Go.Proofs.YtnomflballofiaaGreat

namespace Go.Proofs.YtnomflballofiaaGreat
namespace Lm
open Go.RowKit
theorem trim_o (w : World) (ao : Option Addr) (n cap : Nat) (zs : List Int) (h : Sl w (.slice ao n cap) zs) (hz : zs.length ≤ 1000000) :
    Calls Tryz.prog 85 #[.slice ao n cap] w fun e w' => ∃ ao cap rs, e = .returned (.slice ao rs.length cap) ∧ Got w' ao cap rs (val zs) ∧ rs.length ≤ zs.length ∧ Li w.heap.size w'.heap.size w' ao cap rs ∧ Below w.heap.size w w' := by
  refine (trim_any w ao n cap zs h hz).mono ?_
  rintro e w' ⟨v, rfl, ho, hb⟩
  have hc := canon_trim h.parts.2.2.2
  obtain ⟨ao', cap', rs, rfl, f⟩ := (show Is w.heap.size w' v (val zs) from ⟨_, ho, hc, val_take_tl zs⟩).fr
  refine ⟨ao', cap', rs, rfl, f.got, ?_, f.li, hb⟩
  exact le_len h.parts.2.2.2 f.canon (by rw [f.val]; exact Int.le_refl _)
theorem mul_o (w : World) (a1 a2 : Option Addr) (n1 n2 c1 c2 : Nat) (xs ys : List Int) (hx : Sl w (.slice a1 n1 c1) xs) (hy : Sl w (.slice a2 n2 c2) ys) (hm1 : xs.length ≤ 500000) (hm2 : ys.length ≤ 500000) :
    Calls Tryz.prog 79 #[.slice a1 n1 c1, .slice a2 n2 c2] w fun e w' => ∃ ao cap rs, e = .returned (.slice ao rs.length cap) ∧ Got w' ao cap rs (val xs * val ys) ∧ rs.length ≤ xs.length + ys.length ∧ Li w.heap.size w'.heap.size w' ao cap rs ∧ Below w.heap.size w w' := by
  refine (mul_any w a1 a2 n1 n2 c1 c2 xs ys hx hy hm1 hm2).mono ?_
  rintro e w' ⟨v, rfl, hi, hb⟩
  obtain ⟨ao, cap, rs, rfl, f⟩ := hi.fr
  exact ⟨ao, cap, rs, rfl, f.got, mul_len hx.parts.2.2.2 hy.parts.2.2.2 f.canon f.val, f.li, hb⟩
set_option maxRecDepth 20000 in
set_option maxHeartbeats 400000 in
theorem wtrim_o (w : World) (ng : Bool) (ao : Option Addr) (n cap : Nat) (zs : List Int) (h : Sl w (.slice ao n cap) zs) (hz : zs.length ≤ 1000000) :
    Calls Tryz.prog 47 #[.agg #[.bool ng, .slice ao n cap]] w fun e w' => ∃ ng' ao cap rs, e = .returned (.agg #[.bool ng', .slice ao rs.length cap]) ∧ Wh w' ng' ao cap rs (sg ng (val zs)) ∧ rs.length ≤ zs.length ∧ Li w.heap.size w'.heap.size w' ao cap rs ∧ Below w.heap.size w w' := by
  obtain ⟨w0, e0, bx, br, hb0, hs0⟩ := boxed1 w ng (.slice ao n cap)
  have E0 := hide e0
  have h0 := h.below hb0
  have HS0 := hide hs0
  clear e0 hs0
  go_enter Tryz.func47, Tryz.ntmps47
  go_wp2_with fail
  rw [E0.out]
  obtain ⟨c0, c1, f0, f1⟩ := bx.facts
  obtain ⟨d0, d1, g0, g1⟩ := br.facts
  go_region_held3 (fun w' => w'.cell? ⟨w.heap.size, 0, none⟩ = some (.bool ng) ∧ w'.cell? ⟨w.heap.size, 1, none⟩ = some (.slice ao n cap)) (go_keep) (first
    | (go_at_call 85; refine (trim_o _ _ _ _ zs (h0.below (by repeat (first | exact Below.refl _ _ | refine Below.drew ?_))) hz).mono ?_; rintro e w1 ⟨p1, q1, r1, rfl, G1, l1, o1, hb1⟩; have hb1' : Below w0.heap.size w0 w1 := (show Below w0.heap.size w0 _ by repeat (first | exact Below.refl _ _ | refine Below.drew ?_)).trans hb1; have bx1 := bx.below hb1'; have br1 := br.below hb1'; obtain ⟨i0, i1, j0, j1⟩ := bx1.facts)
    | (go_at_call 70; refine (signed_g _ _ _ _ r1 _ (G1.below (by repeat (first | exact Below.refl _ _ | refine Below.drew ?_))) (by omega)).mono ?_; rintro e w2 ⟨ng2, rfl, G2, hb2⟩; have hb2' : Below w1.heap.size w1 w2 := (show Below w1.heap.size w1 _ by repeat (first | exact Below.refl _ _ | refine Below.drew ?_)).trans hb2; have bx2 := bx1.below hb2'; have br2 := br1.below hb2'; obtain ⟨k0, k1, m0, m1⟩ := br2.facts; obtain ⟨o0, o1, t0, t1⟩ := bx2.facts))
  all_goals
    have X := hide (br2.set ng2 (.slice p1 r1.length q1)).facts
    have Y := hide (br2.wh ng2 (.slice p1 r1.length q1) G2)
    have Z := hide (below_set2 (hb0.trans ((hb1'.trans (hb2'.mono hb1'.size)).mono hb0.size)) (Nat.le_succ _) (.bool ng2) (.slice p1 r1.length q1))
    clear k0 k1 m0 m1 o0 o1 t0 t1 i0 i1 j0 j1 c0 c1 f0 f1 d0 d1 g0 g1
    have hs9 := HS0.out
    have o1 : Li w0.heap.size w1.heap.size w1 p1 q1 r1 := o1
    have s_1 := hb1'.size
    have s_2 := hb2'.size
    have O1 := hide ((o1.below hb2').set2 (w.heap.size + 1) (by omega) (.bool ng2) (.slice p1 r1.length q1))
    have O2 := hide (show Li w.heap.size _ _ p1 q1 r1 from ⟨O1.out.ow.mono (by omega), fun h0 g off e => by have := O1.out.lies h0 g off e; exact ⟨by omega, Nat.lt_of_lt_of_le this.2 (show w1.heap.size ≤ ((w2.setCell ⟨w.heap.size + 1, 0, none⟩ (.bool ng2)).setCell ⟨w.heap.size + 1, 1, none⟩ (.slice p1 r1.length q1)).heap.size by simp [World.setCell]; exact s_2)⟩⟩)
    clear O1
    go_wp2
    refine bodyPost_ret (v := .agg #[.bool ng2, .slice p1 r1.length q1]) ?_ rfl ⟨ng2, p1, q1, r1, rfl, Y.out, l1, O2.out, Z.out⟩
    simp [results, Tryz.results47, go_sem, X.out.1, X.out.2.1]
set_option maxRecDepth 20000 in
set_option maxHeartbeats 400000 in
theorem wneg_o (w : World) (ng : Bool) (ao : Option Addr) (n cap : Nat) (zs : List Int) (h : Sl w (.slice ao n cap) zs) (hz : zs.length ≤ 1000000) :
    Calls Tryz.prog 69 #[.agg #[.bool ng, .slice ao n cap]] w fun e w' => ∃ ng' ao cap rs, e = .returned (.agg #[.bool ng', .slice ao rs.length cap]) ∧ Wh w' ng' ao cap rs (-sg ng (val zs)) ∧ rs.length ≤ zs.length ∧ Li w.heap.size w'.heap.size w' ao cap rs ∧ Below w.heap.size w w' := by
  obtain ⟨w0, e0, bx, br, hb0, hs0⟩ := boxed1 w ng (.slice ao n cap)
  have E0 := hide e0
  have h0 := h.below hb0
  have HS0 := hide hs0
  clear e0 hs0
  go_enter Tryz.func69, Tryz.ntmps69
  go_wp2_with fail
  rw [E0.out]
  obtain ⟨c0, c1, f0, f1⟩ := bx.facts
  obtain ⟨d0, d1, g0, g1⟩ := br.facts
  go_region_held3 (fun w' => w'.cell? ⟨w.heap.size, 0, none⟩ = some (.bool ng) ∧ w'.cell? ⟨w.heap.size, 1, none⟩ = some (.slice ao n cap)) (go_keep) (first
    | (go_at_call 85; refine (trim_o _ _ _ _ zs (h0.below (by repeat (first | exact Below.refl _ _ | refine Below.drew ?_))) hz).mono ?_; rintro e w1 ⟨p1, q1, r1, rfl, G1, l1, o1, hb1⟩; have hb1' : Below w0.heap.size w0 w1 := (show Below w0.heap.size w0 _ by repeat (first | exact Below.refl _ _ | refine Below.drew ?_)).trans hb1; have bx1 := bx.below hb1'; obtain ⟨bx1a, bx1b, bx1c, bx1d⟩ := bx1.facts; have br1 := br.below hb1'; obtain ⟨br1a, br1b, br1c, br1d⟩ := br1.facts)
    | (go_at_call 70; refine (signed_g _ _ _ _ r1 _ (G1.below (by repeat (first | exact Below.refl _ _ | refine Below.drew ?_))) (by omega)).mono ?_; rintro e w2 ⟨ng2, rfl, G2, hb2⟩; have hb2' : Below w1.heap.size w1 w2 := (show Below w1.heap.size w1 _ by repeat (first | exact Below.refl _ _ | refine Below.drew ?_)).trans hb2; have bx2 := bx1.below hb2'; obtain ⟨bx2a, bx2b, bx2c, bx2d⟩ := bx2.facts; have br2 := br1.below hb2'; obtain ⟨br2a, br2b, br2c, br2d⟩ := br2.facts))
  all_goals
    have X := hide (br2.set ng2 (.slice p1 r1.length q1)).facts
    have Y := hide (br2.wh ng2 (.slice p1 r1.length q1) G2)
    have Z := hide (below_set2 (hb0.trans ((hb1'.trans (hb2'.mono hb1'.size)).mono hb0.size)) (Nat.le_succ _) (.bool ng2) (.slice p1 r1.length q1))
    clear bx2a bx2b bx2c bx2d br2a br2b br2c br2d bx1a bx1b bx1c bx1d br1a br1b br1c br1d c0 c1 f0 f1 d0 d1 g0 g1
    have hs9 := HS0.out
    have o1 : Li w0.heap.size w1.heap.size w1 p1 q1 r1 := o1
    have s_1 := hb1'.size
    have s_2 := hb2'.size
    have O1 := hide ((o1.below hb2').set2 (w.heap.size + 1) (by omega) (.bool ng2) (.slice p1 r1.length q1))
    have O2 := hide (show Li w.heap.size _ _ p1 q1 r1 from ⟨O1.out.ow.mono (by omega), fun h0 g off e => by have := O1.out.lies h0 g off e; exact ⟨by omega, Nat.lt_of_lt_of_le this.2 (show w1.heap.size ≤ ((w2.setCell ⟨w.heap.size + 1, 0, none⟩ (.bool ng2)).setCell ⟨w.heap.size + 1, 1, none⟩ (.slice p1 r1.length q1)).heap.size by simp [World.setCell]; exact s_2)⟩⟩)
    clear O1
    go_wp2
    refine bodyPost_ret (v := .agg #[.bool ng2, .slice p1 r1.length q1]) ?_ rfl ⟨ng2, p1, q1, r1, rfl, by rw [← sg_neg]; exact Y.out, l1, O2.out, Z.out⟩
    simp [results, Tryz.results69, go_sem, X.out.1, X.out.2.1]
set_option maxRecDepth 20000 in
set_option maxHeartbeats 1000000 in
theorem join_sameo (w : World) (nx : Bool) (a1 : Option Addr) (n1 c1 : Nat) (xs : List Int) (hx : Sl w (.slice a1 n1 c1) xs) (a2 : Option Addr) (n2 c2 : Nat) (ys : List Int) (hy : Sl w (.slice a2 n2 c2) ys) (hm1 : xs.length ≤ 400000) (hm2 : ys.length ≤ 400000) :
    Calls Tryz.prog 78 #[.agg #[.bool nx, .slice a1 n1 c1], .bool nx, .slice a2 n2 c2] w fun e w' => ∃ ng' ao cap rs, e = .returned (.agg #[.bool ng', .slice ao rs.length cap]) ∧ Wh w' ng' ao cap rs (sg nx (val xs) + sg nx (val ys)) ∧ rs.length ≤ xs.length + ys.length + 1 ∧ Li w.heap.size w'.heap.size w' ao cap rs ∧ Below w.heap.size w w' := by
  obtain ⟨w0, e0, bx, br, hb0, hs0⟩ := boxed1 w nx (.slice a1 n1 c1)
  have E0 := hide e0
  have hx0 := hx.below hb0
  have hy0 := hy.below hb0
  have HS0 := hide hs0
  clear e0 hs0
  go_enter Tryz.func78, Tryz.ntmps78
  go_wp2_with fail
  rw [E0.out]
  obtain ⟨ca, cb, cc, cd⟩ := bx.facts
  obtain ⟨da, db, dc, dd⟩ := br.facts
  refine (add_o _ _ _ _ _ _ _ xs ys hx0 hy0 (by omega) (by omega)).mono ?_
  rintro e w1 ⟨p1, q1, r1, rfl, G1, l1, o1, hb1⟩
  go_wp2_with fail
  refine (signed_g _ _ _ _ r1 _ G1 (by omega)).mono ?_
  rintro e w2 ⟨ng2, rfl, G2, hb2⟩
  have br2 := (br.below hb1).below hb2
  obtain ⟨ka, kb, kc, kd⟩ := br2.facts
  have X := hide (br2.set ng2 (.slice p1 r1.length q1)).facts
  have Y := hide (br2.wh ng2 (.slice p1 r1.length q1) G2)
  have Z := hide (below_set2 (hb0.trans ((hb1.trans (hb2.mono hb1.size)).mono hb0.size)) (Nat.le_succ _) (.bool ng2) (.slice p1 r1.length q1))
  skip
  have hs9 := HS0.out
  have s_1 := hb1.size
  have s_2 := hb2.size
  have O1 := hide ((o1.below hb2).set2 (w.heap.size + 1) (by omega) (.bool ng2) (.slice p1 r1.length q1))
  have O2 := hide (show Li w.heap.size _ _ p1 q1 r1 from ⟨O1.out.ow.mono (by omega), fun h0 g off e => by have := O1.out.lies h0 g off e; exact ⟨by omega, Nat.lt_of_lt_of_le this.2 (show w1.heap.size ≤ ((w2.setCell ⟨w.heap.size + 1, 0, none⟩ (.bool ng2)).setCell ⟨w.heap.size + 1, 1, none⟩ (.slice p1 r1.length q1)).heap.size by simp [World.setCell]; exact s_2)⟩⟩)
  clear O1
  go_wp2
  refine bodyPost_ret (v := .agg #[.bool ng2, .slice p1 r1.length q1]) ?_ rfl ⟨ng2, p1, q1, r1, rfl, by rw [← sg_add]; exact Y.out, by omega, O2.out, Z.out⟩
  simp [results, Tryz.results78, go_sem, X.out.1, X.out.2.1]
set_option maxRecDepth 20000 in
set_option maxHeartbeats 1000000 in
theorem join_geo (w : World) (nx : Bool) (a1 : Option Addr) (n1 c1 : Nat) (xs : List Int) (hx : Sl w (.slice a1 n1 c1) xs) (a2 : Option Addr) (n2 c2 : Nat) (ys : List Int) (hy : Sl w (.slice a2 n2 c2) ys) (hm1 : xs.length ≤ 400000) (hm2 : ys.length ≤ 400000) (hge : val ys ≤ val xs) :
    Calls Tryz.prog 78 #[.agg #[.bool nx, .slice a1 n1 c1], .bool (!nx), .slice a2 n2 c2] w fun e w' => ∃ ng' ao cap rs, e = .returned (.agg #[.bool ng', .slice ao rs.length cap]) ∧ Wh w' ng' ao cap rs (sg nx (val xs) + sg (!nx) (val ys)) ∧ rs.length ≤ xs.length + ys.length + 1 ∧ Li w.heap.size w'.heap.size w' ao cap rs ∧ Below w.heap.size w w' := by
  obtain ⟨w0, e0, bx, br, hb0, hs0⟩ := boxed1 w nx (.slice a1 n1 c1)
  have E0 := hide e0
  have hx0 := hx.below hb0
  have hy0 := hy.below hb0
  have HS0 := hide hs0
  clear e0 hs0
  cases nx
  all_goals
    go_enter Tryz.func78, Tryz.ntmps78
    go_wp2_with fail
    rw [E0.out]
    obtain ⟨ca, cb, cc, cd⟩ := bx.facts
    obtain ⟨da, db, dc, dd⟩ := br.facts
    refine (sub_o _ _ _ _ _ _ _ xs ys hx0 hy0 (by omega) hge).mono ?_
    rintro e w1 ⟨p1, q1, r1, rfl, G1, l1, o1, hb1⟩
    have bx1 := bx.below hb1
    obtain ⟨ia, ib, ic, id⟩ := bx1.facts
    go_wp2_with fail
    refine (signed_g _ _ _ _ r1 _ G1 (by omega)).mono ?_
    rintro e w2 ⟨ng2, rfl, G2, hb2⟩
    have br2 := (br.below hb1).below hb2
    obtain ⟨ka, kb, kc, kd⟩ := br2.facts
    have X := hide (br2.set ng2 (.slice p1 r1.length q1)).facts
    have Y := hide (br2.wh ng2 (.slice p1 r1.length q1) G2)
    have Z := hide (below_set2 (hb0.trans ((hb1.trans (hb2.mono hb1.size)).mono hb0.size)) (Nat.le_succ _) (.bool ng2) (.slice p1 r1.length q1))
    skip
    have hs9 := HS0.out
    have s_1 := hb1.size
    have s_2 := hb2.size
    have O1 := hide ((o1.below hb2).set2 (w.heap.size + 1) (by omega) (.bool ng2) (.slice p1 r1.length q1))
    have O2 := hide (show Li w.heap.size _ _ p1 q1 r1 from ⟨O1.out.ow.mono (by omega), fun h0 g off e => by have := O1.out.lies h0 g off e; exact ⟨by omega, Nat.lt_of_lt_of_le this.2 (show w1.heap.size ≤ ((w2.setCell ⟨w.heap.size + 1, 0, none⟩ (.bool ng2)).setCell ⟨w.heap.size + 1, 1, none⟩ (.slice p1 r1.length q1)).heap.size by simp [World.setCell]; exact s_2)⟩⟩)
    clear O1
    go_wp2
    refine bodyPost_ret (v := .agg #[.bool ng2, .slice p1 r1.length q1]) ?_ rfl ⟨ng2, p1, q1, r1, rfl, by rw [← sg_sub]; exact Y.out, by omega, O2.out, Z.out⟩
    simp [results, Tryz.results78, go_sem, X.out.1, X.out.2.1]
set_option maxRecDepth 20000 in
set_option maxHeartbeats 1000000 in
theorem join_lto (w : World) (nx : Bool) (a1 : Option Addr) (n1 c1 : Nat) (xs : List Int) (hx : Sl w (.slice a1 n1 c1) xs) (a2 : Option Addr) (n2 c2 : Nat) (ys : List Int) (hy : Sl w (.slice a2 n2 c2) ys) (hm1 : xs.length ≤ 400000) (hm2 : ys.length ≤ 400000) (hlt : val xs < val ys) :
    Calls Tryz.prog 78 #[.agg #[.bool nx, .slice a1 n1 c1], .bool (!nx), .slice a2 n2 c2] w fun e w' => ∃ ng' ao cap rs, e = .returned (.agg #[.bool ng', .slice ao rs.length cap]) ∧ Wh w' ng' ao cap rs (sg nx (val xs) + sg (!nx) (val ys)) ∧ rs.length ≤ xs.length + ys.length + 1 ∧ Li w.heap.size w'.heap.size w' ao cap rs ∧ Below w.heap.size w w' := by
  obtain ⟨w0, e0, bx, br, hb0, hs0⟩ := boxed1 w nx (.slice a1 n1 c1)
  have E0 := hide e0
  have hx0 := hx.below hb0
  have hy0 := hy.below hb0
  have HS0 := hide hs0
  clear e0 hs0
  cases nx
  all_goals
    go_enter Tryz.func78, Tryz.ntmps78
    go_wp2_with fail
    rw [E0.out]
    obtain ⟨ca, cb, cc, cd⟩ := bx.facts
    obtain ⟨da, db, dc, dd⟩ := br.facts
    refine (sub_no _ _ _ _ _ _ _ xs ys hx0 hy0 hlt).mono ?_
    rintro e w9 ⟨rfl, hb9⟩
    have hx9 := hx0.below hb9
    have hy9 := hy0.below hb9
    have bx9 := bx.below hb9
    have br9 := br.below hb9
    obtain ⟨ia, ib, ic, id⟩ := bx9.facts
    go_wp2_with fail
    refine (sub_o _ _ _ _ _ _ _ ys xs hy9 hx9 (by omega) (by omega)).mono ?_
    rintro e w1 ⟨p1, q1, r1, rfl, G1, l1, o1, hb1⟩
    go_wp2_with fail
    refine (signed_g _ _ _ _ r1 _ G1 (by omega)).mono ?_
    rintro e w2 ⟨ng2, rfl, G2, hb2⟩
    have br2 := (br9.below hb1).below hb2
    obtain ⟨ka, kb, kc, kd⟩ := br2.facts
    have X := hide (br2.set ng2 (.slice p1 r1.length q1)).facts
    have Y := hide (br2.wh ng2 (.slice p1 r1.length q1) G2)
    have Z := hide (below_set2 (hb0.trans ((hb9.trans ((hb1.trans (hb2.mono hb1.size)).mono hb9.size)).mono hb0.size)) (Nat.le_succ _) (.bool ng2) (.slice p1 r1.length q1))
    skip
    have hs9 := HS0.out
    have s_9 := hb9.size
    have s_1 := hb1.size
    have s_2 := hb2.size
    have O1 := hide ((o1.below hb2).set2 (w.heap.size + 1) (by omega) (.bool ng2) (.slice p1 r1.length q1))
    have O2 := hide (show Li w.heap.size _ _ p1 q1 r1 from ⟨O1.out.ow.mono (by omega), fun h0 g off e => by have := O1.out.lies h0 g off e; exact ⟨by omega, Nat.lt_of_lt_of_le this.2 (show w1.heap.size ≤ ((w2.setCell ⟨w.heap.size + 1, 0, none⟩ (.bool ng2)).setCell ⟨w.heap.size + 1, 1, none⟩ (.slice p1 r1.length q1)).heap.size by simp [World.setCell]; exact s_2)⟩⟩)
    clear O1
    go_wp2
    refine bodyPost_ret (v := .agg #[.bool ng2, .slice p1 r1.length q1]) ?_ rfl ⟨ng2, p1, q1, r1, rfl, by rw [← sg_sub']; exact Y.out, by omega, O2.out, Z.out⟩
    simp [results, Tryz.results78, go_sem, X.out.1, X.out.2.1]
theorem join_o (w : World) (nx : Bool) (a1 : Option Addr) (n1 c1 : Nat) (xs : List Int) (hx : Sl w (.slice a1 n1 c1) xs) (ny : Bool) (a2 : Option Addr) (n2 c2 : Nat) (ys : List Int) (hy : Sl w (.slice a2 n2 c2) ys) (hm1 : xs.length ≤ 400000) (hm2 : ys.length ≤ 400000) :
    Calls Tryz.prog 78 #[.agg #[.bool nx, .slice a1 n1 c1], .bool ny, .slice a2 n2 c2] w fun e w' => ∃ ng' ao cap rs, e = .returned (.agg #[.bool ng', .slice ao rs.length cap]) ∧ Wh w' ng' ao cap rs (sg nx (val xs) + sg ny (val ys)) ∧ rs.length ≤ xs.length + ys.length + 1 ∧ Li w.heap.size w'.heap.size w' ao cap rs ∧ Below w.heap.size w w' := by
  by_cases hn : ny = nx
  · subst hn
    exact join_sameo w ny a1 n1 c1 xs hx a2 n2 c2 ys hy hm1 hm2
  · have hn' : ny = !nx := by cases nx <;> cases ny <;> simp_all
    subst hn'
    by_cases h : val ys ≤ val xs
    · exact join_geo w nx a1 n1 c1 xs hx a2 n2 c2 ys hy hm1 hm2 h
    · exact join_lto w nx a1 n1 c1 xs hx a2 n2 c2 ys hy hm1 hm2 (by omega)
set_option maxRecDepth 20000 in
set_option maxHeartbeats 400000 in
theorem wadd_o (w : World) (nx : Bool) (a1 : Option Addr) (n1 c1 : Nat) (xs : List Int) (hx : Sl w (.slice a1 n1 c1) xs) (ny : Bool) (a2 : Option Addr) (n2 c2 : Nat) (ys : List Int) (hy : Sl w (.slice a2 n2 c2) ys) (hm1 : xs.length ≤ 400000) (hm2 : ys.length ≤ 400000) :
    Calls Tryz.prog 38 #[.agg #[.bool nx, .slice a1 n1 c1], .agg #[.bool ny, .slice a2 n2 c2]] w fun e w' => ∃ ng' ao cap rs, e = .returned (.agg #[.bool ng', .slice ao rs.length cap]) ∧ Wh w' ng' ao cap rs (sg nx (val xs) + sg ny (val ys)) ∧ rs.length ≤ xs.length + ys.length + 1 ∧ Li w.heap.size w'.heap.size w' ao cap rs ∧ Below w.heap.size w w' := by
  obtain ⟨w0, e0, bx, by', br, hb0, hs0⟩ := boxed3 w nx (.slice a1 n1 c1) ny (.slice a2 n2 c2)
  have E0 := hide e0
  have hx0 := hx.below hb0
  have hy0 := hy.below hb0
  have HS0 := hide hs0
  clear e0 hs0
  go_enter Tryz.func38, Tryz.ntmps38
  go_wp2_with fail
  rw [E0.out]
  obtain ⟨ca, cb, cc, cd⟩ := bx.facts
  obtain ⟨ea, eb, ec, ed⟩ := by'.facts
  obtain ⟨da, db, dc, dd⟩ := br.facts
  refine (join_o _ nx _ _ _ xs hx0 ny _ _ _ ys hy0 hm1 hm2).mono ?_
  rintro e w1 ⟨ng2, p1, q1, r1, rfl, G2, l1, o1, hb1⟩
  have br2 := br.below hb1
  obtain ⟨ka, kb, kc, kd⟩ := br2.facts
  have X := hide (br2.set ng2 (.slice p1 r1.length q1)).facts
  have Y := hide (br2.wh ng2 (.slice p1 r1.length q1) G2)
  have Z := hide (below_set2 (hb0.trans (hb1.mono hb0.size)) (Nat.le_add_right _ 2) (.bool ng2) (.slice p1 r1.length q1))
  skip
  have hs9 := HS0.out
  have s_1 := hb1.size
  have O1 := hide (o1.set2 (w.heap.size + 1 + 1) (by omega) (.bool ng2) (.slice p1 r1.length q1))
  have O2 := hide (show Li w.heap.size _ _ p1 q1 r1 from ⟨O1.out.ow.mono (by omega), fun h0 g off e => by have := O1.out.lies h0 g off e; exact ⟨by omega, Nat.lt_of_lt_of_le this.2 (show w1.heap.size ≤ ((w1.setCell ⟨w.heap.size + 1 + 1, 0, none⟩ (.bool ng2)).setCell ⟨w.heap.size + 1 + 1, 1, none⟩ (.slice p1 r1.length q1)).heap.size by simp [World.setCell])⟩⟩)
  clear O1
  go_wp2
  refine bodyPost_ret (v := .agg #[.bool ng2, .slice p1 r1.length q1]) ?_ rfl ⟨ng2, p1, q1, r1, rfl, Y.out, by omega, O2.out, Z.out⟩
  simp [results, Tryz.results38, go_sem, X.out.1, X.out.2.1]
set_option maxRecDepth 20000 in
set_option maxHeartbeats 400000 in
theorem wsub_o (w : World) (nx : Bool) (a1 : Option Addr) (n1 c1 : Nat) (xs : List Int) (hx : Sl w (.slice a1 n1 c1) xs) (ny : Bool) (a2 : Option Addr) (n2 c2 : Nat) (ys : List Int) (hy : Sl w (.slice a2 n2 c2) ys) (hm1 : xs.length ≤ 400000) (hm2 : ys.length ≤ 400000) :
    Calls Tryz.prog 75 #[.agg #[.bool nx, .slice a1 n1 c1], .agg #[.bool ny, .slice a2 n2 c2]] w fun e w' => ∃ ng' ao cap rs, e = .returned (.agg #[.bool ng', .slice ao rs.length cap]) ∧ Wh w' ng' ao cap rs (sg nx (val xs) - sg ny (val ys)) ∧ rs.length ≤ xs.length + ys.length + 1 ∧ Li w.heap.size w'.heap.size w' ao cap rs ∧ Below w.heap.size w w' := by
  obtain ⟨w0, e0, bx, by', br, hb0, hs0⟩ := boxed3 w nx (.slice a1 n1 c1) ny (.slice a2 n2 c2)
  have E0 := hide e0
  have hx0 := hx.below hb0
  have hy0 := hy.below hb0
  have HS0 := hide hs0
  clear e0 hs0
  go_enter Tryz.func75, Tryz.ntmps75
  go_wp2_with fail
  rw [E0.out]
  obtain ⟨ca, cb, cc, cd⟩ := bx.facts
  obtain ⟨ea, eb, ec, ed⟩ := by'.facts
  obtain ⟨da, db, dc, dd⟩ := br.facts
  refine (join_o _ nx _ _ _ xs hx0 (!ny) _ _ _ ys hy0 hm1 hm2).mono ?_
  rintro e w1 ⟨ng2, p1, q1, r1, rfl, G2, l1, o1, hb1⟩
  have br2 := br.below hb1
  obtain ⟨ka, kb, kc, kd⟩ := br2.facts
  have X := hide (br2.set ng2 (.slice p1 r1.length q1)).facts
  have Y := hide (br2.wh ng2 (.slice p1 r1.length q1) G2)
  have Z := hide (below_set2 (hb0.trans (hb1.mono hb0.size)) (Nat.le_add_right _ 2) (.bool ng2) (.slice p1 r1.length q1))
  skip
  have hs9 := HS0.out
  have s_1 := hb1.size
  have O1 := hide (o1.set2 (w.heap.size + 1 + 1) (by omega) (.bool ng2) (.slice p1 r1.length q1))
  have O2 := hide (show Li w.heap.size _ _ p1 q1 r1 from ⟨O1.out.ow.mono (by omega), fun h0 g off e => by have := O1.out.lies h0 g off e; exact ⟨by omega, Nat.lt_of_lt_of_le this.2 (show w1.heap.size ≤ ((w1.setCell ⟨w.heap.size + 1 + 1, 0, none⟩ (.bool ng2)).setCell ⟨w.heap.size + 1 + 1, 1, none⟩ (.slice p1 r1.length q1)).heap.size by simp [World.setCell])⟩⟩)
  clear O1
  go_wp2
  refine bodyPost_ret (v := .agg #[.bool ng2, .slice p1 r1.length q1]) ?_ rfl ⟨ng2, p1, q1, r1, rfl, by rw [Int.sub_eq_add_neg, ← sg_neg]; exact Y.out, by omega, O2.out, Z.out⟩
  simp [results, Tryz.results75, go_sem, X.out.1, X.out.2.1]
set_option maxRecDepth 20000 in
set_option maxHeartbeats 400000 in
theorem wmul_o (w : World) (nx : Bool) (a1 : Option Addr) (n1 c1 : Nat) (xs : List Int) (hx : Sl w (.slice a1 n1 c1) xs) (ny : Bool) (a2 : Option Addr) (n2 c2 : Nat) (ys : List Int) (hy : Sl w (.slice a2 n2 c2) ys) (hm1 : xs.length ≤ 400000) (hm2 : ys.length ≤ 400000) :
    Calls Tryz.prog 39 #[.agg #[.bool nx, .slice a1 n1 c1], .agg #[.bool ny, .slice a2 n2 c2]] w fun e w' => ∃ ng' ao cap rs, e = .returned (.agg #[.bool ng', .slice ao rs.length cap]) ∧ Wh w' ng' ao cap rs (sg nx (val xs) * sg ny (val ys)) ∧ rs.length ≤ xs.length + ys.length ∧ Li w.heap.size w'.heap.size w' ao cap rs ∧ Below w.heap.size w w' := by
  obtain ⟨w0, e0, bx, by', br, hb0, hs0⟩ := boxed3 w nx (.slice a1 n1 c1) ny (.slice a2 n2 c2)
  have E0 := hide e0
  have hx0 := hx.below hb0
  have hy0 := hy.below hb0
  have HS0 := hide hs0
  clear e0 hs0
  have q1' : (w.heap.size = w.heap.size + 1 + 1) = False := by simp; omega
  have q2' : (w.heap.size + 1 + 1 = w.heap.size) = False := by simp; omega
  go_enter Tryz.func39, Tryz.ntmps39
  go_wp2_with fail
  rw [E0.out]
  obtain ⟨ca, cb, cc, cd⟩ := bx.facts
  obtain ⟨ea, eb, ec, ed⟩ := by'.facts
  obtain ⟨da, db, dc, dd⟩ := br.facts
  go_region_held3 (fun w' => w'.cell? ⟨w.heap.size, 0, none⟩ = some (.bool nx) ∧ w'.cell? ⟨w.heap.size, 1, none⟩ = some (.slice a1 n1 c1) ∧ w'.cell? ⟨w.heap.size + 1, 0, none⟩ = some (.bool ny) ∧ w'.cell? ⟨w.heap.size + 1, 1, none⟩ = some (.slice a2 n2 c2)) (go_keep) (first
    | (go_at_call 79; refine (mul_o _ _ _ _ _ _ _ xs ys (hx0.below (by repeat (first | exact Below.refl _ _ | refine Below.drew ?_))) (hy0.below (by repeat (first | exact Below.refl _ _ | refine Below.drew ?_))) (by omega) (by omega)).mono ?_; rintro e w1 ⟨p1, q1, r1, rfl, G1, l1, o1, hb1⟩; have hb1' : Below w0.heap.size w0 w1 := (show Below w0.heap.size w0 _ by repeat (first | exact Below.refl _ _ | refine Below.drew ?_)).trans hb1; have bx1 := bx.below hb1'; obtain ⟨bx1a, bx1b, bx1c, bx1d⟩ := bx1.facts; have by1 := by'.below hb1'; obtain ⟨by1a, by1b, by1c, by1d⟩ := by1.facts; have br1 := br.below hb1'; obtain ⟨br1a, br1b, br1c, br1d⟩ := br1.facts)
    | (go_at_call 70; refine (signed_g _ _ _ _ r1 _ (G1.below (by repeat (first | exact Below.refl _ _ | refine Below.drew ?_))) (by omega)).mono ?_; rintro e w2 ⟨ng2, rfl, G2, hb2⟩; have hb2' : Below w1.heap.size w1 w2 := (show Below w1.heap.size w1 _ by repeat (first | exact Below.refl _ _ | refine Below.drew ?_)).trans hb2; have bx2 := bx1.below hb2'; obtain ⟨bx2a, bx2b, bx2c, bx2d⟩ := bx2.facts; have by2 := by1.below hb2'; obtain ⟨by2a, by2b, by2c, by2d⟩ := by2.facts; have br2 := br1.below hb2'; obtain ⟨br2a, br2b, br2c, br2d⟩ := br2.facts))
  all_goals
    clear bx1a bx1b bx1c bx1d by1a by1b by1c by1d br1a br1b br1c br1d bx2a bx2b bx2c bx2d by2a by2b by2c by2d ca cb cc cd da db dc dd ea eb ec ed q1' q2'
    have X := hide (br2.set ng2 (.slice p1 r1.length q1)).facts
    have Y := hide (br2.wh ng2 (.slice p1 r1.length q1) G2)
    have Z := hide (below_set2 (hb0.trans ((hb1'.trans (hb2'.mono hb1'.size)).mono hb0.size)) (Nat.le_add_right _ 2) (.bool ng2) (.slice p1 r1.length q1))
    skip
    have hs9 := HS0.out
    have o1 : Li w0.heap.size w1.heap.size w1 p1 q1 r1 := o1
    have s_1 := hb1'.size
    have s_2 := hb2'.size
    have O1 := hide ((o1.below hb2').set2 (w.heap.size + 1 + 1) (by omega) (.bool ng2) (.slice p1 r1.length q1))
    have O2 := hide (show Li w.heap.size _ _ p1 q1 r1 from ⟨O1.out.ow.mono (by omega), fun h0 g off e => by have := O1.out.lies h0 g off e; exact ⟨by omega, Nat.lt_of_lt_of_le this.2 (show w1.heap.size ≤ ((w2.setCell ⟨w.heap.size + 1 + 1, 0, none⟩ (.bool ng2)).setCell ⟨w.heap.size + 1 + 1, 1, none⟩ (.slice p1 r1.length q1)).heap.size by simp [World.setCell]; exact s_2)⟩⟩)
    clear O1
    go_wp2
    refine bodyPost_ret (v := .agg #[.bool ng2, .slice p1 r1.length q1]) ?_ rfl ⟨ng2, p1, q1, r1, rfl, by rw [← sg_mul]; exact Y.out, by omega, O2.out, Z.out⟩
    simp [results, Tryz.results39, go_sem, X.out.1, X.out.2.1]
end Lm
end Go.Proofs.YtnomflballofiaaGreat

namespace Go.Proofs.YtnomflballofiaaGreat
namespace Dm
open Go.RowKit
open Lm (hide lt_of_cell lt_of_heap div_of info32 cmpI cmpI_lt cmpI_gt cmpI_eq ret_i64)
def sgn (n : Nat) : Int := if n = 0 then 0 else 1
end Dm
end Go.Proofs.YtnomflballofiaaGreat

namespace Go.Proofs.YtnomflballofiaaGreat
namespace Dm
open Go.RowKit
open Lm (hide lt_of_cell lt_of_heap)
structure WFr (B T : Nat) (w : World) (ng : Bool) (ao : Option Addr) (cap : Nat) (rs : List Int) (z : Int) : Prop where
  fr : Lm.Fr B T w ao cap rs (z.natAbs : Int)
  sgn : ng = decide (z < 0)
theorem WFr.wh {B T : Nat} {w : World} {ng : Bool} {ao : Option Addr} {cap : Nat} {rs : List Int} {z : Int} (h : WFr B T w ng ao cap rs z) : Lm.Wh w ng ao cap rs z := ⟨h.fr.got, h.sgn⟩
end Dm
end Go.Proofs.YtnomflballofiaaGreat

