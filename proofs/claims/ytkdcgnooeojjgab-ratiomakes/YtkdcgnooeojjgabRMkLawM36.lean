/-
  The contracts of addBack, moveUp and LeadingZeros32. The contracts of LeadingZeros32 and moveUp. The contract of moveDown. The contract of guessLimb.
-/
import Derived.Test.YtkdcgnooeojjgabTake
import Derived.Deep.QuietTactic
import Derived.BigQuiet
import Derived.Test.YtkdcgnooeojjgabWrap
namespace Go.Proofs.Ytkdcgnooeojjgab
namespace Lm
open Go.RowKit

set_option maxRecDepth 20000 in
set_option maxHeartbeats 1000000 in
theorem addBack_any (w : World) (g o n cap c2 : Nat) (cur : Array Value) (ps Y : List Int) (a2 : Option Addr)
    (hh : w.heap[g]? = some (.cells cur 73 (0, 0))) (ha : At cur .u32 o ps) (hp : Limb ps) (hpl : ps.length = n + 1) (hm : n ≤ 1000000)
    (hY : ∀ wr cur', Wr w wr g cur' 73 → Sl wr (.slice a2 n c2) Y) :
    Calls Try.prog 117 #[.slice (some ⟨g, o, none⟩) (n + 1) cap, .slice a2 n c2] w fun e w' => ∃ qs c cur', e = .returned (.tuple #[]) ∧ (0 ≤ c ∧ c ≤ 1) ∧ val qs + pw (n + 1) * c = val ps + val Y ∧ Limb qs ∧ qs.length = n + 1 ∧ Wr w w' g cur' 73 ∧ cur'.size = cur.size ∧ At cur' .u32 o qs ∧ (∀ i, i < o ∨ o + (n + 1) ≤ i → cur'[i]? = cur[i]?) := by
  obtain ⟨hYl, g1, g2, g3⟩ := (hY _ _ (Wr.refl hh)).parts
  have HP := hide hp
  have HY := hide g3
  have HYL := hide hYl
  have HPL := hide hpl
  have HH := hide hh
  have HA := hide ha
  clear hp g3 hYl hpl hh ha
  go_enter Try.func117, Try.ntmps117
  go_wp2
  go_loopw [4, 9] (fun cv i wr => ∃ (k : Nat) (c : Int) (qs : List Int) (cur' : Array Value), k ≤ n + 1 ∧ cv = .int .u64 c ∧ i = .int .i64 k ∧ (0 ≤ c ∧ c ≤ 1) ∧ qs.length = k ∧ Limb qs ∧ val qs + pw k * c = vf ps k + vf Y k ∧ Wr w wr g cur' 73 ∧ cur'.size = cur.size ∧ At cur' .u32 o (qs ++ ps.drop k) ∧ (∀ i, i < o ∨ o + (n + 1) ≤ i → cur'[i]? = cur[i]?)) (fun _ i _ => n + 1 - (intOf i).toNat)
  case atStart => exact ⟨0, 0, [], cur, Nat.zero_le _, rfl, rfl, by omega, rfl, limb_nil, by simp [val, vf, pw], Wr.refl HH.out, rfl, by simpa using HA.out, fun _ _ => rfl⟩
  case round =>
    obtain ⟨k, c, qs, cur', hk, rfl, rfl, hc, hql, hq, hval, hwr, hcs, hat, hout⟩ := hrel
    have HQL := hide hql
    have HQ := hide hq
    have HV := hide hval
    have HW := hide hwr
    have HC := hide hcs
    have HT := hide hat
    have HO := hide hout
    clear hql hq hval hwr hcs hat hout
    by_cases hlt : k < n + 1
    · have sy := hY _ _ HW.out
      have hlen : (qs ++ ps.drop k).length = n + 1 := by have := HQL.out; have := HPL.out; simp; omega
      have co := HT.out.cell HW.out.here k (by rw [hlen]; omega)
      have e1 : (qs ++ ps.drop k).getD k 0 = ps.getD k 0 := by
        rw [List.getD_eq_getElem?_getD, List.getElem?_append_right (by have := HQL.out; omega), List.getElem?_drop, List.getD_eq_getElem?_getD, HQL.out]
        congr 2
        omega
      rw [e1] at co
      have hfree := HW.out.free (o + k)
      have by' := limb_getD HY.out k
      have ba := limb_getD HP.out k
      obtain ⟨y, hy⟩ : ∃ y, Y.getD k 0 = y := ⟨_, rfl⟩
      obtain ⟨a, hpa⟩ : ∃ a, ps.getD k 0 = a := ⟨_, rfl⟩
      have ky : Hid (∀ q, Calls Try.prog 112 #[.slice a2 n c2, .int .i64 k] (wr.drewN q) fun e w' => e = .returned (.int .u32 y) ∧ w' = wr.drewN q) := by
        intro q; rw [← hy]; exact limb_nat _ _ Y (sy.below (below_drewN (Below.refl _ _) q)) k
      rw [hy] at by'
      rw [hpa] at co ba
      have hst := add_step ba by' hc rfl
      have HV' := hide (add_val HQL.out hpa hy rfl HV.out)
      have HT' := hide (HT.out.set k ((a + y + c) % 4294967296))
      have HW' := hide (HW.out.set (o + k) (.int .u32 ((a + y + c) % 4294967296)))
      have d1 : (k : Int) < (n : Int) + 1 := by omega
      clear hlen e1 hy hpa sy
      go_wp2
      go_quiet ((go_at_call 112; exact Calls.quiet_of_same (ky.out _)))
      go_wp2
      go_roundw
      case rel =>
        refine ⟨k + 1, (a + y + c) / 4294967296, qs ++ [(a + y + c) % 4294967296], _, by omega, rfl, by go_num, by omega, by have := HQL.out; simp; omega, limb_append.2 ⟨HQ.out, limb_cons.2 ⟨by omega, limb_nil⟩⟩, HV'.out, HW'.out.drewN _, by simpa using HC.out, by rw [← set_snoc qs ps k _ HQL.out (by have := HPL.out; omega)]; exact HT'.out, fun i hi => ?_⟩
        rw [Array.getElem?_setIfInBounds, if_neg (by omega)]
        exact HO.out i hi
      case measure => simp [intOf]; omega
    · have hkn : k = n + 1 := by omega
      subst hkn
      have HVf : Hid (val qs + pw (n + 1) * c = val ps + val Y) := by
        have h9 := HV.out
        rw [vf_all ps _ (by have := HPL.out; omega), vf_all Y _ (by have := HYL.out; omega)] at h9
        exact h9
      have HTf : Hid (At cur' .u32 o qs) := by
        have h9 := HT.out
        rwa [List.drop_of_length_le (by have := HPL.out; omega), List.append_nil] at h9
      go_wp2
      go_end0
      exact ⟨qs, c, cur', rfl, hc, HVf.out, HQ.out, HQL.out, HW.out, HC.out, HTf.out, HO.out⟩

end Lm
end Go.Proofs.Ytkdcgnooeojjgab

namespace Go.Proofs.Ytkdcgnooeojjgab
namespace Lm
open Go.RowKit

set_option maxRecDepth 20000 in
set_option maxHeartbeats 400000 in
theorem lead_any (x : Int) (w : World) (h0 : 0 ≤ x) (h1 : x < 4294967296) :
    Calls Try.prog 113 #[.int .u32 x] w fun e w' => e = .returned (.int .i64 (32 - (Lib.bitLen x.toNat : Nat))) ∧ w' = w := by
  have hl : Lib.bitLen x.toNat ≤ 32 := Lib.bitLen_le _ 32 (by omega) (by omega)
  have kl := hide (len32_any x w h0 h1)
  generalize Lib.bitLen x.toNat = l at hl kl
  go_enter Try.func113, Try.ntmps113
  go_wp2_with fail
  refine (kl.out).mono ?_
  rintro e w' ⟨rfl, rfl⟩
  go_wp2
  go_ret
  exact ⟨rfl, rfl⟩

theorem p2_pow (s : Nat) : (2 : Int) ^ s = p2 s := by
  induction s with
  | zero => rfl
  | succ s ih => rw [Int.pow_succ, ih, p2]; omega

theorem nat_p2 (s : Nat) : ((2 ^ s : Nat) : Int) = p2 s := by
  induction s with
  | zero => rfl
  | succ s ih => rw [Nat.pow_succ, p2]; omega

theorem up_bound {x c : Int} {s : Nat} (h1 : 0 ≤ x) (h2 : x < 4294967296) (hs : s ≤ 31) (h3 : 0 ≤ c) (h4 : c < p2 s) : 0 ≤ x * p2 s + c ∧ x * p2 s + c < 4294967296 * p2 s ∧ x * p2 s + c < 9223372036854775808 ∧ 0 ≤ x * p2 s := by
  have hp := p2_pos s
  have hp2 := p2_mono (m := s) (n := 31) hs
  rw [show p2 31 = 2147483648 from by decide] at hp2
  have e1 : 0 ≤ x * p2 s := Int.mul_nonneg h1 (by omega)
  have e2 : (x + 1) * p2 s ≤ 4294967296 * p2 s := Int.mul_le_mul_of_nonneg_right (by omega) (by omega)
  rw [Int.add_mul] at e2
  omega

theorem or_shift {x c : Int} {s : Nat} (h1 : 0 ≤ x) (h2 : x < 4294967296) (hs : s ≤ 31) (h3 : 0 ≤ c) (h4 : c < p2 s) : bits .or .u64 (IntKind.u64.wrap (x * 2 ^ s)) c = x * p2 s + c := by
  have hb := up_bound h1 h2 hs h3 h4
  have hp := p2_pos s
  rw [p2_pow, IntKind.wrap_u64, Int.emod_eq_of_lt hb.2.2.2 (by omega), u64_or _ _ hb.2.2.2 (by omega) h3 (by omega)]
  obtain ⟨a, rfl⟩ := Int.eq_ofNat_of_zero_le h1
  obtain ⟨d, rfl⟩ := Int.eq_ofNat_of_zero_le h3
  have e1 : ((a : Int) * p2 s).toNat = 2 ^ s * a := by
    rw [← nat_p2, Int.mul_comm, ← Int.natCast_mul, Int.toNat_natCast]
  have hd : d < 2 ^ s := by have := nat_p2 s; omega
  rw [e1, Int.toNat_natCast, ← Nat.two_pow_add_eq_or_of_lt hd, Int.natCast_add, Int.natCast_mul, nat_p2, Int.mul_comm]

theorem up_val {zs qs : List Int} {k : Nat} {z c m t : Int} (hk : qs.length = k) (hz : zs.getD k 0 = z) (hs : t = z * m + c) (h : val qs + pw k * c = vf zs k * m) :
    val (qs ++ [t % 4294967296]) + pw (k + 1) * (t / 4294967296) = vf zs (k + 1) * m := by
  rw [val_snoc, vf, hz, hk, pw, Int.add_mul]
  have e : t = t % 4294967296 + 4294967296 * (t / 4294967296) := by omega
  have e2 : pw k * (t % 4294967296) + 4294967296 * pw k * (t / 4294967296) = pw k * t := by
    rw [Int.mul_comm 4294967296 (pw k), Int.mul_assoc, ← Int.mul_add, ← e]
  have e3 : pw k * z * m = pw k * (z * m) := by rw [Int.mul_assoc]
  rw [Int.add_assoc, e2, hs, Int.mul_add, e3]
  omega

set_option maxRecDepth 20000 in
set_option maxHeartbeats 1000000 in
theorem moveUp_any (w : World) (ao : Option Addr) (n cap : Nat) (xs : List Int) (hx : Sl w (.slice ao n cap) xs) (s : Nat) (hs : s ≤ 31) (hm : xs.length ≤ 1000000) :
    Calls Try.prog 114 #[.slice ao n cap, .int .u64 s] w fun e w' => ∃ cur qs, e = .returned (.slice (some ⟨w.heap.size, 0, none⟩) (n + 1) (n + 1)) ∧ Limb qs ∧ qs.length = n + 1 ∧ val qs = val xs * p2 s ∧ w'.heap[w.heap.size]? = some (.cells cur 73 (0, 0)) ∧ cur.size = n + 1 ∧ At cur .u32 0 qs ∧ Below w.heap.size w w' := by
  obtain ⟨rfl, h1, h2, h3⟩ := hx.parts
  obtain ⟨i0, hi, hz0, hz1, hz2⟩ := info_parts info32
  have H3 := hide h3
  have hp := p2_pos s
  have hp2 := p2_mono (m := s) (n := 31) hs
  rw [show p2 31 = 2147483648 from by decide] at hp2
  clear h3
  go_enter Try.func114, Try.ntmps114
  go_wp2_with (refine wpList_make_full _ rfl (.tmp 12) (.tmp 12) 22 rfl w.heap.size 73 i0 (.int .u32 0) 1 Try.underlying22 hi hz0 hz1 .i64 .i64 _ _ (xs.length + 1) rfl rfl (by omega) (by omega) (by rw [hz2]; omega) (by unfold maxLen; omega) (Nat.le_refl _) ?hK)
  case hK =>
    intro w1 hown hgrow
    obtain ⟨_, cur, hh, hcs, hat⟩ := block_of_made hown
    have hb1 : Below w.heap.size w w1 := (Below.refl w.heap.size w).grown hgrow (Nat.le_refl _) (by simp)
    have HH := hide hh
    have HS := hide hcs
    have HA := hide hat
    clear hown hgrow hh hcs hat
    go_wp2
    go_loopw [6, 16] (fun cv i wr => ∃ (k : Nat) (c : Int) (qs : List Int) (cur' : Array Value), k ≤ xs.length ∧ cv = .int .u64 c ∧ i = .int .i64 k ∧ (0 ≤ c ∧ c < p2 s) ∧ qs.length = k ∧ Limb qs ∧ val qs + pw k * c = vf xs k * p2 s ∧ Wr w1 wr w.heap.size cur' 73 ∧ cur'.size = xs.length + 1 ∧ At cur' .u32 0 (qs ++ (List.replicate (xs.length + 1) 0).drop k)) (fun _ i _ => xs.length - (intOf i).toNat)
    case atStart => exact ⟨0, 0, [], cur, Nat.zero_le _, rfl, rfl, by omega, rfl, limb_nil, by simp [val, vf, pw], Wr.refl HH.out, HS.out, by simpa using HA.out⟩
    case round =>
      obtain ⟨k, c, qs, cur', hk, rfl, rfl, hcb, hql, hq, hval, hwr, hcs, hat⟩ := hrel
      have HQL := hide hql
      have HQ := hide hq
      have HV := hide hval
      have HW := hide hwr
      have HC := hide hcs
      have HT := hide hat
      clear hql hq hval hwr hcs hat
      by_cases hlt : k < xs.length
      · have sx := HW.out.sl (Nat.le_refl _) hb1 rfl hx
        obtain ⟨b, off, rfl, hcx⟩ := sx.cells (by omega)
        have cx := hcx k (by omega)
        have bx := limb_getD H3.out k
        obtain ⟨x, hxk⟩ : ∃ x, xs.getD k 0 = x := ⟨_, rfl⟩
        rw [hxk] at cx bx
        have hlen : (qs ++ (List.replicate (xs.length + 1) (0 : Int)).drop k).length = xs.length + 1 := by have := HQL.out; simp; omega
        have hcell := HT.out.cell HW.out.here k (by rw [hlen]; omega)
        rw [Nat.zero_add] at hcell
        generalize (qs ++ (List.replicate (xs.length + 1) (0 : Int)).drop k).getD k 0 = old at hcell
        have hfree := HW.out.free k
        obtain ⟨M, hM⟩ : ∃ M, M = x * p2 s + c := ⟨_, rfl⟩
        have hor : bits .or .u64 (IntKind.u64.wrap (x * 2 ^ s)) c = M := by rw [hM]; exact or_shift bx.1 bx.2 hs hcb.1 hcb.2
        have hmb := up_bound bx.1 bx.2 hs hcb.1 hcb.2
        rw [← hM] at hmb
        have m1 := hmb.1
        have m2 := hmb.2.1
        have m3 := hmb.2.2.1
        have HV' := hide (up_val HQL.out hxk hM HV.out)
        have HT' := hide (HT.out.set k (M % 4294967296))
        have HW' := hide (HW.out.set k (.int .u32 (M % 4294967296)))
        clear hlen sx hcx hM hmb hxk
        go_wp2
        go_roundw
        case rel => exact ⟨k + 1, M / 4294967296, qs ++ [M % 4294967296], _, by omega, rfl, by go_num, by omega, by have := HQL.out; simp; omega, limb_append.2 ⟨HQ.out, limb_cons.2 ⟨by omega, limb_nil⟩⟩, HV'.out, HW'.out, by simpa using HC.out, by rw [← set_snoc qs _ k _ HQL.out (by simp; omega)]; simpa using HT'.out⟩
        case measure => simp [intOf]; omega
      · have hkM : k = xs.length := by omega
        subst hkM
        have hlen : (qs ++ (List.replicate (xs.length + 1) (0 : Int)).drop xs.length).length = xs.length + 1 := by have := HQL.out; simp; omega
        have hcell := HT.out.cell HW.out.here xs.length (by rw [hlen]; omega)
        rw [Nat.zero_add] at hcell
        have hfree := HW.out.free xs.length
        generalize hold : (qs ++ (List.replicate (xs.length + 1) (0 : Int)).drop xs.length).getD xs.length 0 = old at hcell
        have hat2 := HT.out.set xs.length c
        rw [set_snoc qs _ xs.length c HQL.out (by simp), List.drop_of_length_le (by simp), List.append_nil, Nat.zero_add] at hat2
        have hw2 := HW.out.set xs.length (.int .u32 c)
        have hlr : Limb (qs ++ [c]) := limb_append.2 ⟨HQ.out, limb_cons.2 ⟨by omega, limb_nil⟩⟩
        have R := hide (And.intro hat2 (And.intro hw2 (And.intro hlr (show val (qs ++ [c]) = val xs * p2 s by
          rw [val_snoc, HQL.out, HV.out, vf_all xs _ (Nat.le_refl _)]))))
        have hbel : Below w.heap.size w (wr.setCell ⟨w.heap.size, xs.length, none⟩ (.int .u32 c)) := hb1.trans (hw2.below (Nat.le_refl _))
        have hc2 : c < 4294967296 := by omega
        clear hat2 hw2 hlr hlen hold
        go_wp2
        go_ret
        exact ⟨_, qs ++ [c], rfl, R.out.2.2.1, by have := HQL.out; simp; omega, R.out.2.2.2, R.out.2.1.here, by simpa using HC.out, R.out.1, hbel⟩

end Lm
end Go.Proofs.Ytkdcgnooeojjgab

namespace Go.Proofs.Ytkdcgnooeojjgab
namespace Lm
open Go.RowKit

theorem p2_split {s : Nat} (hs : s ≤ 31) : p2 s * p2 (32 - s) = 4294967296 := by
  rw [← p2_add, show s + (32 - s) = 32 by omega]
  decide

theorem down_limb {A C : Int} {s : Nat} (hs : s ≤ 31) (hA : 0 ≤ A ∧ A < 4294967296) (hC : 0 ≤ C) : 0 ≤ (C * 4294967296 + A) / p2 s ∧ p2 s * (((C * 4294967296 + A) / p2 s) % 4294967296) = A - A % p2 s + C % p2 s * 4294967296 := by
  have hP := p2_pos s
  have hR := p2_pos (32 - s)
  have hPR := p2_split hs
  generalize p2 s = P at *
  generalize p2 (32 - s) = R at *
  have e1 : C * 4294967296 + A = A + P * (C * R) := by
    rw [← hPR, ← Int.mul_assoc C, Int.mul_comm C P, Int.mul_assoc]
    omega
  have e2 : (C * 4294967296 + A) / P = A / P + C * R := by rw [e1, Int.add_mul_ediv_left _ _ (by omega)]
  have hq : 0 ≤ A / P := Int.ediv_nonneg hA.1 (by omega)
  have hc0 : 0 ≤ C % P ∧ C % P < P := ⟨Int.emod_nonneg _ (by omega), Int.emod_lt_of_pos _ (by omega)⟩
  have ec := Int.mul_ediv_add_emod C P
  have e3 : C * R = C % P * R + 4294967296 * (C / P) := by
    have : C * R = (P * (C / P) + C % P) * R := by rw [ec]
    rw [this, Int.add_mul, ← hPR, Int.mul_assoc P, Int.mul_comm (C / P) R, ← Int.mul_assoc]
    omega
  have hCR : 0 ≤ C * R := Int.mul_nonneg hC (by omega)
  have h0R : 0 ≤ C % P * R := Int.mul_nonneg hc0.1 (by omega)
  have ea := Int.mul_ediv_add_emod A P
  have ham : 0 ≤ A % P := Int.emod_nonneg _ (by omega)
  have hAR : A / P < R := by
    apply Int.ediv_lt_of_lt_mul (by omega)
    rw [Int.mul_comm, hPR]
    exact hA.2
  have hlt : A / P + C % P * R < 4294967296 := by
    have h1 : (C % P + 1) * R ≤ P * R := Int.mul_le_mul_of_nonneg_right (by omega) (by omega)
    rw [hPR, Int.add_mul] at h1
    omega
  refine ⟨by rw [e2]; omega, ?_⟩
  have e4 : (A / P + C * R) % 4294967296 = A / P + C % P * R := by
    rw [e3, ← Int.add_assoc, Int.add_mul_emod_self_left, Int.emod_eq_of_lt (by omega) hlt]
  rw [e2, e4, Int.mul_add, ← Int.mul_assoc, Int.mul_comm P (C % P), Int.mul_assoc, hPR]
  omega

theorem down_val {xs qs : List Int} {k : Nat} {P o r0 A C : Int} (hk : qs.length = k) (hA : xs.getD k 0 = A) (ho : P * o = A - A % P + C % P * 4294967296) (h : P * val qs + r0 = vf xs k + pw k * (A % P)) : P * val (qs ++ [o]) + r0 = vf xs (k + 1) + pw (k + 1) * (C % P) := by
  rw [val_snoc, vf, hA, hk, pw, Int.mul_add]
  have e1 : P * (pw k * o) = pw k * (P * o) := by rw [← Int.mul_assoc, Int.mul_comm P, Int.mul_assoc]
  have e2 : pw k * (P * o) = pw k * A - pw k * (A % P) + 4294967296 * pw k * (C % P) := by
    rw [ho, Int.mul_add, Int.mul_sub, Int.mul_comm (C % P), ← Int.mul_assoc, Int.mul_comm (pw k) 4294967296]
  omega

set_option maxRecDepth 20000 in
set_option maxHeartbeats 1000000 in
theorem moveDown_any (w : World) (ao : Option Addr) (n cap : Nat) (xs : List Int) (hx : Sl w (.slice ao n cap) xs) (s : Nat) (hs : s ≤ 31) (hm : xs.length ≤ 1000000) :
    Calls Try.prog 118 #[.slice ao n cap, .int .u64 s] w fun e w' => ∃ v, e = .returned v ∧ Is w.heap.size w' v (val xs / p2 s) ∧ Below w.heap.size w w' := by
  obtain ⟨rfl, h1, h2, h3⟩ := hx.parts
  obtain ⟨i0, hi, hz0, hz1, hz2⟩ := info_parts info32
  have H3 := hide h3
  clear h3
  go_enter Try.func118, Try.ntmps118
  go_wp2_with (refine wpList_make_full _ rfl (.tmp 10) (.tmp 10) 22 rfl w.heap.size 73 i0 (.int .u32 0) 1 Try.underlying22 hi hz0 hz1 .i64 .i64 _ _ xs.length rfl rfl (by omega) (by omega) (by rw [hz2]; omega) (by unfold maxLen; omega) (Nat.le_refl _) ?hK)
  case hK =>
    intro w1 hown hgrow
    obtain ⟨_, cur, hh, hcs, hat⟩ := block_of_made hown
    have hb1 : Below w.heap.size w w1 := (Below.refl w.heap.size w).grown hgrow (Nat.le_refl _) (by simp)
    have HH := hide hh
    have HS := hide hcs
    have HA := hide hat
    clear hown hgrow hh hcs hat
    go_wp2
    go_loopw [14] (fun i wr => ∃ (k : Nat) (qs : List Int) (cur' : Array Value), k ≤ xs.length ∧ i = .int .i64 k ∧ qs.length = k ∧ Limb qs ∧ p2 s * val qs + xs.getD 0 0 % p2 s = vf xs k + pw k * (xs.getD k 0 % p2 s) ∧ Wr w1 wr w.heap.size cur' 73 ∧ cur'.size = xs.length ∧ At cur' .u32 0 (qs ++ (List.replicate xs.length 0).drop k)) (fun i _ => xs.length - (intOf i).toNat)
    case atStart => exact ⟨0, [], cur, Nat.zero_le _, rfl, rfl, limb_nil, by simp [val, vf, pw], Wr.refl HH.out, HS.out, by simpa using HA.out⟩
    case round =>
      obtain ⟨k, qs, cur', hk, rfl, hql, hq, hval, hwr, hcs, hat⟩ := hrel
      have HQL := hide hql
      have HQ := hide hq
      have HV := hide hval
      have HW := hide hwr
      have HC := hide hcs
      have HT := hide hat
      clear hql hq hval hwr hcs hat
      by_cases hlt : k < xs.length
      · have sx := HW.out.sl (Nat.le_refl _) hb1 rfl hx
        obtain ⟨b, off, rfl, hcx⟩ := sx.cells (by omega)
        have cx := hcx k (by omega)
        have bx := limb_getD H3.out k
        have by' := limb_getD H3.out (k + 1)
        have kl : Hid (Calls Try.prog 112 #[.slice (some ⟨b, off, none⟩) xs.length cap, .int .i64 ((k : Int) + 1)] wr fun e w' => e = .returned (.int .u32 (xs.getD (k + 1) 0)) ∧ w' = wr) := by
          have h9 := limb_any wr _ xs sx ((k : Int) + 1) (by omega)
          rwa [show ((k : Int) + 1).toNat = k + 1 by omega] at h9
        have HVn := hide (fun o ho => down_val (o := o) (C := xs.getD (k + 1) 0) HQL.out rfl ho HV.out)
        generalize hCe : xs.getD (k + 1) 0 = C at by' kl HVn
        have HCE := hide hCe
        clear hCe
        generalize xs.getD k 0 = A at cx bx HVn
        have hdl := down_limb hs bx by'.1
        have hor := or_join C A by'.1 by'.2 bx.1 bx.2
        have hlen : (qs ++ (List.replicate xs.length (0 : Int)).drop k).length = xs.length := by have := HQL.out; simp; omega
        have hcell := HT.out.cell HW.out.here k (by rw [hlen]; omega)
        rw [Nat.zero_add] at hcell
        generalize (qs ++ (List.replicate xs.length (0 : Int)).drop k).getD k 0 = old at hcell
        have hfree := HW.out.free k
        obtain ⟨M, hM⟩ : ∃ M, M = C * 4294967296 + A := ⟨_, rfl⟩
        rw [← hM] at hor hdl
        have hM0 : 0 ≤ M := by omega
        have hM1 : M < 18446744073709551616 := by omega
        have hpw := p2_pow s
        have HVf := hide (HVn.out _ hdl.2)
        have hd0 := hdl.1
        have HT' := hide (HT.out.set k (M / p2 s % 4294967296))
        have HW' := hide (HW.out.set k (.int .u32 (M / p2 s % 4294967296)))
        have hp1 := p2_pos s
        clear hlen sx hcx hM hdl HVn
        go_wp2_with fail
        refine (kl.out).mono ?_
        rintro e w2 ⟨rfl, rfl⟩
        go_wp2
        go_roundw
        case rel => exact ⟨k + 1, qs ++ [M / p2 s % 4294967296], _, by omega, by go_num, by have := HQL.out; simp; omega, limb_append.2 ⟨HQ.out, limb_cons.2 ⟨by omega, limb_nil⟩⟩, by rw [HCE.out]; exact HVf.out, HW'.out, by simpa using HC.out, by rw [← set_snoc qs _ k _ HQL.out (by simp; omega)]; simpa using HT'.out⟩
        case measure => simp [intOf]; omega
      · have hkM : k = xs.length := by omega
        subst hkM
        have hat2 := HT.out
        rw [List.drop_of_length_le (by simp), List.append_nil] at hat2
        have how : Ow w.heap.size wr (.slice (some ⟨w.heap.size, 0, none⟩) xs.length xs.length) qs := by
          have := HQL.out
          exact ⟨_, xs.length, by rw [this], by omega, by unfold maxLen; omega, HQ.out, .inr ⟨_, 0, _, rfl, Nat.le_refl _, HW.out.here, by rw [HC.out]; omega, hat2⟩⟩
        have hbel : Below w.heap.size w wr := hb1.trans (HW.out.below (Nat.le_refl _))
        have his := how.is_cut (x := val xs / p2 s) (by
          have hv := HV.out
          have hz : xs.getD xs.length 0 = 0 := by rw [List.getD_eq_getElem?_getD, List.getElem?_eq_none (Nat.le_refl _)]; rfl
          rw [hz, Int.zero_emod, Int.mul_zero, Int.add_zero, vf_all xs _ (Nat.le_refl _)] at hv
          have hp1 := p2_pos s
          have hr := Int.emod_lt_of_pos (xs.getD 0 0) (show 0 < p2 s by omega)
          have hr0 := Int.emod_nonneg (xs.getD 0 0) (show p2 s ≠ 0 by omega)
          have := div_of (a := val xs) (b := p2 s) (q := val qs) (by omega) (by rw [← hv, Int.mul_comm]) hr0 hr
          exact this.1.symm)
        clear hat2
        go_wp2_with fail
        refine (cut_any _ _ _ _ _ how.sl).mono ?_
        rintro e w2 ⟨rfl, rfl⟩
        go_wp2
        go_ret
        exact ⟨_, rfl, his, hbel⟩

end Lm
end Go.Proofs.Ytkdcgnooeojjgab

namespace Go.Proofs.Ytkdcgnooeojjgab
namespace Lm
open Go.RowKit

theorem guess_start {v1 v2 u2 U g r : Int} (h2 : 0 ≤ v2) (h3 : u2 < 4294967296) (hg : U = g * v1 + r) (hr : r < v1) (hg0 : 0 ≤ g) : U * 4294967296 + u2 < (g + 1) * (v1 * 4294967296 + v2) := by
  have e1 : (g + 1) * (v1 * 4294967296 + v2) = (g * v1 + v1) * 4294967296 + (g + 1) * v2 := by
    rw [Int.mul_add, ← Int.mul_assoc, Int.add_mul, Int.one_mul]
  have e2 : 0 ≤ (g + 1) * v2 := Int.mul_nonneg (by omega) h2
  rw [e1]
  omega

theorem guess_le {v1 v2 u2 U g r : Int} (hg : g * v1 + r = U) (h : g * v2 ≤ r * 4294967296 + u2) : g * (v1 * 4294967296 + v2) ≤ U * 4294967296 + u2 := by
  rw [Int.mul_add, ← Int.mul_assoc, ← hg]
  omega

theorem guess_gt {v1 v2 u2 U g r : Int} (hg : g * v1 + r = U) (h : r * 4294967296 + u2 < g * v2) : U * 4294967296 + u2 < g * (v1 * 4294967296 + v2) := by
  rw [Int.mul_add, ← Int.mul_assoc, ← hg]
  omega

theorem guess_break {v1 v2 u2 U g r : Int} (hv : 0 ≤ v2 ∧ v2 < 4294967296) (hu : 0 ≤ u2) (hg : g * v1 + r = U) (hr : 4294967296 ≤ r) (hg0 : 0 ≤ g) (hg1 : g < 4294967296) : g * (v1 * 4294967296 + v2) ≤ U * 4294967296 + u2 := by
  apply guess_le hg
  have h1 : g * v2 ≤ 4294967295 * v2 := Int.mul_le_mul_of_nonneg_right (by omega) hv.1
  omega

theorem guess_top {v1 U g r : Int} (hv : 2147483648 ≤ v1) (hU : U ≤ v1 * 4294967296 + 4294967295) (hg : g * v1 + r = U) (_hr : 0 ≤ r) (hb : 4294967296 ≤ r + v1) : g ≤ 4294967296 := by
  apply Classical.byContradiction
  intro hn
  have h1 : 4294967297 * v1 ≤ g * v1 := Int.mul_le_mul_of_nonneg_right (by omega) (by omega)
  omega

theorem guess_max {v1 U g r : Int} (hv : 2147483648 ≤ v1) (hU : U ≤ v1 * 4294967296 + 4294967295) (hg : g * v1 + r = U) (hr : 0 ≤ r) : g ≤ 4294967297 := by
  apply Classical.byContradiction
  intro hn
  have h1 : 4294967298 * v1 ≤ g * v1 := Int.mul_le_mul_of_nonneg_right (by omega) (by omega)
  omega

set_option maxRecDepth 20000 in
set_option maxHeartbeats 2000000 in
theorem guess_any (w : World) (a1 a2 : Option Addr) (n c1 c2 : Nat) (ps Y : List Int) (hp : Sl w (.slice a1 (n + 2 + 1) c1) ps) (hy : Sl w (.slice a2 (n + 2) c2) Y)
    (htop : 2147483648 ≤ Y.getD (n + 1) 0) (hu : ps.getD (n + 2) 0 ≤ Y.getD (n + 1) 0) :
    Calls Try.prog 115 #[.slice a1 (n + 2 + 1) c1, .slice a2 (n + 2) c2] w fun e w' => ∃ g : Int, e = .returned (.int .u32 g) ∧ (0 ≤ g ∧ g < 4294967296) ∧ g * (Y.getD (n + 1) 0 * 4294967296 + Y.getD n 0) ≤ (ps.getD (n + 2) 0 * 4294967296 + ps.getD (n + 1) 0) * 4294967296 + ps.getD n 0 ∧ (4294967296 ≤ g + 1 ∨ (ps.getD (n + 2) 0 * 4294967296 + ps.getD (n + 1) 0) * 4294967296 + ps.getD n 0 < (g + 1) * (Y.getD (n + 1) 0 * 4294967296 + Y.getD n 0)) ∧ ∃ q, w' = w.drewN q := by
  obtain ⟨hpl, p1, p2, p3⟩ := hp.parts
  obtain ⟨hyl, y1, y2, y3⟩ := hy.parts
  obtain ⟨b, off, rfl, hc⟩ := hp.cells (by omega)
  obtain ⟨b', off', rfl, hc'⟩ := hy.cells (by omega)
  have f0 := hc (n + 2) (by omega)
  have f1 := hc (n + 1) (by omega)
  have f2 := hc n (by omega)
  have e1 := hc' (n + 1) (by omega)
  have e2 := hc' n (by omega)
  have bu0 := limb_getD p3 (n + 2)
  have bu1 := limb_getD p3 (n + 1)
  have bu2 := limb_getD p3 n
  have bv1 := limb_getD y3 (n + 1)
  have bv2 := limb_getD y3 n
  generalize ps.getD (n + 2) 0 = u0 at *
  generalize ps.getD (n + 1) 0 = u1 at *
  generalize ps.getD n 0 = u2 at *
  generalize Y.getD (n + 1) 0 = v1 at *
  generalize Y.getD n 0 = v2 at *
  have hN : n + 3 ≤ 9223372036854775807 := by omega
  have hor1 := or_join u0 u1 bu0.1 bu0.2 bu1.1 bu1.2
  obtain ⟨U, hU⟩ : ∃ U, U = u0 * 4294967296 + u1 := ⟨_, rfl⟩
  rw [← hU] at hor1 ⊢
  have hU0 : 0 ≤ U := by omega
  have hUb : U < 18446744073709551616 := by omega
  have hUm : U ≤ v1 * 4294967296 + 4294967295 := by omega
  have HU := hide hU
  clear hc hc' p3 y3 hpl hyl hU
  go_enter Try.func115, Try.ntmps115
  go_wp2
  go_quiet (fail)
  go_wp2
  replace f0 : (w.drewN nq).cell? _ = _ := f0
  replace f1 : (w.drewN nq).cell? _ = _ := f1
  replace f2 : (w.drewN nq).cell? _ = _ := f2
  replace e1 : (w.drewN nq).cell? _ = _ := e1
  replace e2 : (w.drewN nq).cell? _ = _ := e2
  generalize hwq : w.drewN nq = wq at f0 f1 f2 e1 e2 ⊢
  have HQ : Hid (∃ q, wq = w.drewN q) := ⟨_, hwq.symm⟩
  clear hwq
  go_quiet (fail)
  go_wp2
  replace f2 : (wq.drewN nq).cell? _ = _ := f2
  replace HQ : Hid (∃ q, wq.drewN nq = w.drewN q) := by
    obtain ⟨q, hq⟩ := HQ.out
    exact ⟨q + nq, by rw [hq]; simp [World.drewN]; omega⟩
  generalize wq.drewN nq = wz at f2 HQ ⊢
  have hv0 : 0 < v1 := by omega
  have hq0 : 0 ≤ U / v1 := Int.ediv_nonneg hU0 (by omega)
  have hqm := Int.mul_ediv_add_emod U v1
  have hr0 := Int.emod_nonneg U (show v1 ≠ 0 by omega)
  have hr1 := Int.emod_lt_of_pos U hv0
  have hq1 : U / v1 ≤ 4294967297 := guess_max htop hUm (by rw [Int.mul_comm]; exact hqm) hr0
  have t1 : U.tdiv v1 = U / v1 := Int.tdiv_eq_ediv_of_nonneg hU0
  have t2 : IntKind.u64.wrap (U / v1) = U / v1 := by rw [IntKind.wrap_u64]; exact Int.emod_eq_of_lt hq0 (by omega)
  have t3 : U.tmod v1 = U % v1 := Int.tmod_eq_emod_of_nonneg hU0
  have HQM := hide hqm
  clear hqm
  go_quiet (fail)
  go_wp2
  replace f2 : (wz.drewN nq).cell? _ = _ := f2
  replace HQ : Hid (∃ q, wz.drewN nq = w.drewN q) := by
    obtain ⟨q, hq⟩ := HQ.out
    exact ⟨q + nq, by rw [hq]; simp [World.drewN]; omega⟩
  generalize wz.drewN nq = wl at f2 HQ ⊢
  go_loop [9, 10] (fun gv rv => ∃ gu rs : Int, gv = .int .u64 gu ∧ rv = .int .u64 rs ∧ 0 ≤ gu ∧ gu ≤ 4294967297 ∧ 0 ≤ rs ∧ rs < 4294967296 ∧ gu * v1 + rs = U ∧ (4294967296 ≤ gu + 1 ∨ U * 4294967296 + u2 < (gu + 1) * (v1 * 4294967296 + v2))) (fun gv _ => (intOf gv).toNat)
  case atStart => exact ⟨U / v1, U % v1, rfl, rfl, hq0, hq1, hr0, by omega, by rw [Int.mul_comm]; exact HQM.out, .inr (guess_start bv2.1 bu2.2 (by rw [Int.mul_comm]; exact HQM.out.symm) hr1 hq0)⟩
  case round =>
    obtain ⟨gu, rs, rfl, rfl, hg0, hg1, hs0, hs1, hgs, hgb⟩ := hrel
    have HGS := hide hgs
    have HGB := hide hgb
    have hor2 := or_join rs u2 hs0 hs1 bu2.1 bu2.2
    clear hgs hgb t1 t2 t3 hor1
    by_cases hbig : 4294967296 ≤ gu
    · have hne : (gu / 4294967296 != 0) = true := by rw [bne_iff_ne]; omega
      have HN : Hid ((gu - 1) * v1 + (rs + v1) = U) := by have h9 := HGS.out; show _ = _; rw [Int.sub_mul]; omega
      by_cases hbr : 4294967296 ≤ rs + v1
      · have hne2 : ((rs + v1) / 4294967296 != 0) = true := by rw [bne_iff_ne]; omega
        have hgl := guess_top htop hUm HGS.out hs0 hbr
        have HF := hide (guess_break bv2 bu2.1 HN.out hbr (by omega) (by omega))
        go_wp2
        go_ret
        exact ⟨gu - 1, rfl, by omega, HF.out, .inl (by omega), HQ.out⟩
      · have hne2 : ((rs + v1) / 4294967296 != 0) = false := by rw [bne_eq_false_iff_eq]; omega
        go_wp2
        go_round
        case rel => exact ⟨gu - 1, rs + v1, rfl, rfl, by omega, by omega, by omega, by omega, HN.out, .inl (by omega)⟩
        case measure => simp [intOf]; omega
    · have hne : (gu / 4294967296 != 0) = false := by rw [bne_eq_false_iff_eq]; omega
      have hmb := mul_bound (show 0 ≤ gu ∧ gu < 4294967296 by omega) bv2
      by_cases hgt : rs * 4294967296 + u2 < gu * v2
      · have hd : decide (rs * 4294967296 + u2 < gu * v2) = true := decide_eq_true hgt
        have hgu1 : 1 ≤ gu := by
          apply Classical.byContradiction
          intro hn
          have h0 : gu = 0 := by omega
          rw [h0, Int.zero_mul] at hgt
          omega
        have HN : Hid ((gu - 1) * v1 + (rs + v1) = U) := by have h9 := HGS.out; show _ = _; rw [Int.sub_mul]; omega
        have HB2 := hide (guess_gt HGS.out hgt)
        by_cases hbr : 4294967296 ≤ rs + v1
        · have hne2 : ((rs + v1) / 4294967296 != 0) = true := by rw [bne_iff_ne]; omega
          have HF := hide (guess_break bv2 bu2.1 HN.out hbr (by omega) (by omega))
          go_wp2
          go_ret
          exact ⟨gu - 1, rfl, by omega, HF.out, .inr (by rw [Int.sub_add_cancel]; exact HB2.out), HQ.out⟩
        · have hne2 : ((rs + v1) / 4294967296 != 0) = false := by rw [bne_eq_false_iff_eq]; omega
          go_wp2
          go_round
          case rel => exact ⟨gu - 1, rs + v1, rfl, rfl, by omega, by omega, by omega, by omega, HN.out, .inr (by rw [Int.sub_add_cancel]; exact HB2.out)⟩
          case measure => simp [intOf]; omega
      · have hd : decide (rs * 4294967296 + u2 < gu * v2) = false := decide_eq_false hgt
        have HF := hide (guess_le HGS.out (show gu * v2 ≤ rs * 4294967296 + u2 by omega))
        go_wp2
        go_ret
        exact ⟨gu, rfl, by omega, HF.out, HGB.out, HQ.out⟩

end Lm
end Go.Proofs.Ytkdcgnooeojjgab
