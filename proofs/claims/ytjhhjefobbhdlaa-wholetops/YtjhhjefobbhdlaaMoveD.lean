/-
  The contract of moveDown.
-/
import Derived.Test.YtjhhjefobbhdlaaMoveU
namespace Go.Proofs.Ytjhhjefobbhdlaa
namespace Lm
open Go.RowKit

theorem p2_split {s : Nat} (hs : s ≤ 31) : p2 s * p2 (32 - s) = 4294967296 := by
  rw [← p2_add, show s + (32 - s) = 32 by omega]
  decide

theorem down_limb {A C : Int} {s : Nat} (hs : s ≤ 31) (hA : 0 ≤ A ∧ A < 4294967296) (hC : 0 ≤ C) : 0 ≤ (C * 4294967296 + A) / p2 s ∧ p2 s * (((C * 4294967296 + A) / p2 s) % 4294967296) = A - A % p2 s + C % p2 s * 4294967296 := by
  have hP := p2_pos s
  have hR := p2_pos (32 - s)
  have hPR := p2_split hs
  generalize p2 s = P at *
  generalize p2 (32 - s) = R at *
  have e1 : C * 4294967296 + A = A + P * (C * R) := by
    rw [← hPR, ← Int.mul_assoc C, Int.mul_comm C P, Int.mul_assoc]
    omega
  have e2 : (C * 4294967296 + A) / P = A / P + C * R := by rw [e1, Int.add_mul_ediv_left _ _ (by omega)]
  have hq : 0 ≤ A / P := Int.ediv_nonneg hA.1 (by omega)
  have hc0 : 0 ≤ C % P ∧ C % P < P := ⟨Int.emod_nonneg _ (by omega), Int.emod_lt_of_pos _ (by omega)⟩
  have ec := Int.mul_ediv_add_emod C P
  have e3 : C * R = C % P * R + 4294967296 * (C / P) := by
    have : C * R = (P * (C / P) + C % P) * R := by rw [ec]
    rw [this, Int.add_mul, ← hPR, Int.mul_assoc P, Int.mul_comm (C / P) R, ← Int.mul_assoc]
    omega
  have hCR : 0 ≤ C * R := Int.mul_nonneg hC (by omega)
  have h0R : 0 ≤ C % P * R := Int.mul_nonneg hc0.1 (by omega)
  have ea := Int.mul_ediv_add_emod A P
  have ham : 0 ≤ A % P := Int.emod_nonneg _ (by omega)
  have hAR : A / P < R := by
    apply Int.ediv_lt_of_lt_mul (by omega)
    rw [Int.mul_comm, hPR]
    exact hA.2
  have hlt : A / P + C % P * R < 4294967296 := by
    have h1 : (C % P + 1) * R ≤ P * R := Int.mul_le_mul_of_nonneg_right (by omega) (by omega)
    rw [hPR, Int.add_mul] at h1
    omega
  refine ⟨by rw [e2]; omega, ?_⟩
  have e4 : (A / P + C * R) % 4294967296 = A / P + C % P * R := by
    rw [e3, ← Int.add_assoc, Int.add_mul_emod_self_left, Int.emod_eq_of_lt (by omega) hlt]
  rw [e2, e4, Int.mul_add, ← Int.mul_assoc, Int.mul_comm P (C % P), Int.mul_assoc, hPR]
  omega

theorem down_val {xs qs : List Int} {k : Nat} {P o r0 A C : Int} (hk : qs.length = k) (hA : xs.getD k 0 = A) (ho : P * o = A - A % P + C % P * 4294967296) (h : P * val qs + r0 = vf xs k + pw k * (A % P)) : P * val (qs ++ [o]) + r0 = vf xs (k + 1) + pw (k + 1) * (C % P) := by
  rw [val_snoc, vf, hA, hk, pw, Int.mul_add]
  have e1 : P * (pw k * o) = pw k * (P * o) := by rw [← Int.mul_assoc, Int.mul_comm P, Int.mul_assoc]
  have e2 : pw k * (P * o) = pw k * A - pw k * (A % P) + 4294967296 * pw k * (C % P) := by
    rw [ho, Int.mul_add, Int.mul_sub, Int.mul_comm (C % P), ← Int.mul_assoc, Int.mul_comm (pw k) 4294967296]
  omega

set_option maxRecDepth 20000 in
set_option maxHeartbeats 1000000 in
theorem moveDown_any (w : World) (ao : Option Addr) (n cap : Nat) (xs : List Int) (hx : Sl w (.slice ao n cap) xs) (s : Nat) (hs : s ≤ 31) (hm : xs.length ≤ 1000000) :
    Calls Try.prog 96 #[.slice ao n cap, .int .u64 s] w fun e w' => ∃ v, e = .returned v ∧ Is w.heap.size w' v (val xs / p2 s) ∧ Below w.heap.size w w' := by
  obtain ⟨rfl, h1, h2, h3⟩ := hx.parts
  obtain ⟨i0, hi, hz0, hz1, hz2⟩ := info_parts info32
  have H3 := hide h3
  clear h3
  go_enter Try.func96, Try.ntmps96
  go_wp2_with (refine wpList_make_full _ rfl (.tmp 10) (.tmp 10) 22 rfl w.heap.size 51 i0 (.int .u32 0) 1 Try.underlying22 hi hz0 hz1 .i64 .i64 _ _ xs.length rfl rfl (by omega) (by omega) (by rw [hz2]; omega) (by unfold maxLen; omega) (Nat.le_refl _) ?hK)
  case hK =>
    intro w1 hown hgrow
    obtain ⟨_, cur, hh, hcs, hat⟩ := block_of_made hown
    have hb1 : Below w.heap.size w w1 := (Below.refl w.heap.size w).grown hgrow (Nat.le_refl _) (by simp)
    have HH := hide hh
    have HS := hide hcs
    have HA := hide hat
    clear hown hgrow hh hcs hat
    go_wp2
    go_loopw [14] (fun i wr => ∃ (k : Nat) (qs : List Int) (cur' : Array Value), k ≤ xs.length ∧ i = .int .i64 k ∧ qs.length = k ∧ Limb qs ∧ p2 s * val qs + xs.getD 0 0 % p2 s = vf xs k + pw k * (xs.getD k 0 % p2 s) ∧ Wr w1 wr w.heap.size cur' 51 ∧ cur'.size = xs.length ∧ At cur' .u32 0 (qs ++ (List.replicate xs.length 0).drop k)) (fun i _ => xs.length - (intOf i).toNat)
    case atStart => exact ⟨0, [], cur, Nat.zero_le _, rfl, rfl, limb_nil, by simp [val, vf, pw], Wr.refl HH.out, HS.out, by simpa using HA.out⟩
    case round =>
      obtain ⟨k, qs, cur', hk, rfl, hql, hq, hval, hwr, hcs, hat⟩ := hrel
      have HQL := hide hql
      have HQ := hide hq
      have HV := hide hval
      have HW := hide hwr
      have HC := hide hcs
      have HT := hide hat
      clear hql hq hval hwr hcs hat
      by_cases hlt : k < xs.length
      · have sx := HW.out.sl (Nat.le_refl _) hb1 rfl hx
        obtain ⟨b, off, rfl, hcx⟩ := sx.cells (by omega)
        have cx := hcx k (by omega)
        have bx := limb_getD H3.out k
        have by' := limb_getD H3.out (k + 1)
        have kl : Hid (Calls Try.prog 70 #[.slice (some ⟨b, off, none⟩) xs.length cap, .int .i64 ((k : Int) + 1)] wr fun e w' => e = .returned (.int .u32 (xs.getD (k + 1) 0)) ∧ w' = wr) := by
          have h9 := limb_any wr _ xs sx ((k : Int) + 1) (by omega)
          rwa [show ((k : Int) + 1).toNat = k + 1 by omega] at h9
        have HVn := hide (fun o ho => down_val (o := o) (C := xs.getD (k + 1) 0) HQL.out rfl ho HV.out)
        generalize hCe : xs.getD (k + 1) 0 = C at by' kl HVn
        have HCE := hide hCe
        clear hCe
        generalize xs.getD k 0 = A at cx bx HVn
        have hdl := down_limb hs bx by'.1
        have hor := or_join C A by'.1 by'.2 bx.1 bx.2
        have hlen : (qs ++ (List.replicate xs.length (0 : Int)).drop k).length = xs.length := by have := HQL.out; simp; omega
        have hcell := HT.out.cell HW.out.here k (by rw [hlen]; omega)
        rw [Nat.zero_add] at hcell
        generalize (qs ++ (List.replicate xs.length (0 : Int)).drop k).getD k 0 = old at hcell
        have hfree := HW.out.free k
        obtain ⟨M, hM⟩ : ∃ M, M = C * 4294967296 + A := ⟨_, rfl⟩
        rw [← hM] at hor hdl
        have hM0 : 0 ≤ M := by omega
        have hM1 : M < 18446744073709551616 := by omega
        have hpw := p2_pow s
        have HVf := hide (HVn.out _ hdl.2)
        have hd0 := hdl.1
        have HT' := hide (HT.out.set k (M / p2 s % 4294967296))
        have HW' := hide (HW.out.set k (.int .u32 (M / p2 s % 4294967296)))
        have hp1 := p2_pos s
        clear hlen sx hcx hM hdl HVn
        go_wp2_with fail
        refine (kl.out).mono ?_
        rintro e w2 ⟨rfl, rfl⟩
        go_wp2
        go_roundw
        case rel => exact ⟨k + 1, qs ++ [M / p2 s % 4294967296], _, by omega, by go_num, by have := HQL.out; simp; omega, limb_append.2 ⟨HQ.out, limb_cons.2 ⟨by omega, limb_nil⟩⟩, by rw [HCE.out]; exact HVf.out, HW'.out, by simpa using HC.out, by rw [← set_snoc qs _ k _ HQL.out (by simp; omega)]; simpa using HT'.out⟩
        case measure => simp [intOf]; omega
      · have hkM : k = xs.length := by omega
        subst hkM
        have hat2 := HT.out
        rw [List.drop_of_length_le (by simp), List.append_nil] at hat2
        have how : Ow w.heap.size wr (.slice (some ⟨w.heap.size, 0, none⟩) xs.length xs.length) qs := by
          have := HQL.out
          exact ⟨_, xs.length, by rw [this], by omega, by unfold maxLen; omega, HQ.out, .inr ⟨_, 0, _, rfl, Nat.le_refl _, HW.out.here, by rw [HC.out]; omega, hat2⟩⟩
        have hbel : Below w.heap.size w wr := hb1.trans (HW.out.below (Nat.le_refl _))
        have his := how.is_cut (x := val xs / p2 s) (by
          have hv := HV.out
          have hz : xs.getD xs.length 0 = 0 := by rw [List.getD_eq_getElem?_getD, List.getElem?_eq_none (Nat.le_refl _)]; rfl
          rw [hz, Int.zero_emod, Int.mul_zero, Int.add_zero, vf_all xs _ (Nat.le_refl _)] at hv
          have hp1 := p2_pos s
          have hr := Int.emod_lt_of_pos (xs.getD 0 0) (show 0 < p2 s by omega)
          have hr0 := Int.emod_nonneg (xs.getD 0 0) (show p2 s ≠ 0 by omega)
          have := div_of (a := val xs) (b := p2 s) (q := val qs) (by omega) (by rw [← hv, Int.mul_comm]) hr0 hr
          exact this.1.symm)
        clear hat2
        go_wp2_with fail
        refine (cut_any _ _ _ _ _ how.sl).mono ?_
        rintro e w2 ⟨rfl, rfl⟩
        go_wp2
        go_ret
        exact ⟨_, rfl, his, hbel⟩

end Lm
end Go.Proofs.Ytjhhjefobbhdlaa
