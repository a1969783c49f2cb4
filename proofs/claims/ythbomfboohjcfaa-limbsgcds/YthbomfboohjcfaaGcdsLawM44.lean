/-
  The contract of moveDown. The contract of guessLimb. Plain facts on the long division: what the guess of a limb is worth. No program is named here. What the long division keeps from round to round: facts on memory and lists, without the program.
-/
import Derived.Test.YthbomfboohjcfaaGcdsLawM43
import Derived.Test.YthbomfboohjcfaaWrap
import Derived.Deep.QuietTactic
import Derived.BigQuiet
import Derived.Test.YthbomfboohjcfaaPlain
namespace Go.Proofs.Ythbomfboohjcfaa
namespace Lm
open Go.RowKit

theorem p2_split {s : Nat} (hs : s ≤ 31) : p2 s * p2 (32 - s) = 4294967296 := by
  rw [← p2_add, show s + (32 - s) = 32 by omega]
  decide

theorem down_limb {A C : Int} {s : Nat} (hs : s ≤ 31) (hA : 0 ≤ A ∧ A < 4294967296) (hC : 0 ≤ C) : 0 ≤ (C * 4294967296 + A) / p2 s ∧ p2 s * (((C * 4294967296 + A) / p2 s) % 4294967296) = A - A % p2 s + C % p2 s * 4294967296 := by
  have hP := p2_pos s
  have hR := p2_pos (32 - s)
  have hPR := p2_split hs
  generalize p2 s = P at *
  generalize p2 (32 - s) = R at *
  have e1 : C * 4294967296 + A = A + P * (C * R) := by
    rw [← hPR, ← Int.mul_assoc C, Int.mul_comm C P, Int.mul_assoc]
    omega
  have e2 : (C * 4294967296 + A) / P = A / P + C * R := by rw [e1, Int.add_mul_ediv_left _ _ (by omega)]
  have hq : 0 ≤ A / P := Int.ediv_nonneg hA.1 (by omega)
  have hc0 : 0 ≤ C % P ∧ C % P < P := ⟨Int.emod_nonneg _ (by omega), Int.emod_lt_of_pos _ (by omega)⟩
  have ec := Int.mul_ediv_add_emod C P
  have e3 : C * R = C % P * R + 4294967296 * (C / P) := by
    have : C * R = (P * (C / P) + C % P) * R := by rw [ec]
    rw [this, Int.add_mul, ← hPR, Int.mul_assoc P, Int.mul_comm (C / P) R, ← Int.mul_assoc]
    omega
  have hCR : 0 ≤ C * R := Int.mul_nonneg hC (by omega)
  have h0R : 0 ≤ C % P * R := Int.mul_nonneg hc0.1 (by omega)
  have ea := Int.mul_ediv_add_emod A P
  have ham : 0 ≤ A % P := Int.emod_nonneg _ (by omega)
  have hAR : A / P < R := by
    apply Int.ediv_lt_of_lt_mul (by omega)
    rw [Int.mul_comm, hPR]
    exact hA.2
  have hlt : A / P + C % P * R < 4294967296 := by
    have h1 : (C % P + 1) * R ≤ P * R := Int.mul_le_mul_of_nonneg_right (by omega) (by omega)
    rw [hPR, Int.add_mul] at h1
    omega
  refine ⟨by rw [e2]; omega, ?_⟩
  have e4 : (A / P + C * R) % 4294967296 = A / P + C % P * R := by
    rw [e3, ← Int.add_assoc, Int.add_mul_emod_self_left, Int.emod_eq_of_lt (by omega) hlt]
  rw [e2, e4, Int.mul_add, ← Int.mul_assoc, Int.mul_comm P (C % P), Int.mul_assoc, hPR]
  omega

theorem down_val {xs qs : List Int} {k : Nat} {P o r0 A C : Int} (hk : qs.length = k) (hA : xs.getD k 0 = A) (ho : P * o = A - A % P + C % P * 4294967296) (h : P * val qs + r0 = vf xs k + pw k * (A % P)) : P * val (qs ++ [o]) + r0 = vf xs (k + 1) + pw (k + 1) * (C % P) := by
  rw [val_snoc, vf, hA, hk, pw, Int.mul_add]
  have e1 : P * (pw k * o) = pw k * (P * o) := by rw [← Int.mul_assoc, Int.mul_comm P, Int.mul_assoc]
  have e2 : pw k * (P * o) = pw k * A - pw k * (A % P) + 4294967296 * pw k * (C % P) := by
    rw [ho, Int.mul_add, Int.mul_sub, Int.mul_comm (C % P), ← Int.mul_assoc, Int.mul_comm (pw k) 4294967296]
  omega

set_option maxRecDepth 20000 in
set_option maxHeartbeats 1000000 in
theorem moveDown_any (w : World) (ao : Option Addr) (n cap : Nat) (xs : List Int) (hx : Sl w (.slice ao n cap) xs) (s : Nat) (hs : s ≤ 31) (hm : xs.length ≤ 1000000) :
    Calls Try.prog 60 #[.slice ao n cap, .int .u64 s] w fun e w' => ∃ v, e = .returned v ∧ Is w.heap.size w' v (val xs / p2 s) ∧ Below w.heap.size w w' := by
  obtain ⟨rfl, h1, h2, h3⟩ := hx.parts
  obtain ⟨i0, hi, hz0, hz1, hz2⟩ := info_parts info32
  have H3 := hide h3
  clear h3
  go_enter Try.func60, Try.ntmps60
  go_wp2_with (refine wpList_make_full _ rfl (.tmp 10) (.tmp 10) 22 rfl w.heap.size 47 i0 (.int .u32 0) 1 Try.underlying22 hi hz0 hz1 .i64 .i64 _ _ xs.length rfl rfl (by omega) (by omega) (by rw [hz2]; omega) (by unfold maxLen; omega) (Nat.le_refl _) ?hK)
  case hK =>
    intro w1 hown hgrow
    obtain ⟨_, cur, hh, hcs, hat⟩ := block_of_made hown
    have hb1 : Below w.heap.size w w1 := (Below.refl w.heap.size w).grown hgrow (Nat.le_refl _) (by simp)
    have HH := hide hh
    have HS := hide hcs
    have HA := hide hat
    clear hown hgrow hh hcs hat
    go_wp2
    go_loopw [14] (fun i wr => ∃ (k : Nat) (qs : List Int) (cur' : Array Value), k ≤ xs.length ∧ i = .int .i64 k ∧ qs.length = k ∧ Limb qs ∧ p2 s * val qs + xs.getD 0 0 % p2 s = vf xs k + pw k * (xs.getD k 0 % p2 s) ∧ Wr w1 wr w.heap.size cur' 47 ∧ cur'.size = xs.length ∧ At cur' .u32 0 (qs ++ (List.replicate xs.length 0).drop k)) (fun i _ => xs.length - (intOf i).toNat)
    case atStart => exact ⟨0, [], cur, Nat.zero_le _, rfl, rfl, limb_nil, by simp [val, vf, pw], Wr.refl HH.out, HS.out, by simpa using HA.out⟩
    case round =>
      obtain ⟨k, qs, cur', hk, rfl, hql, hq, hval, hwr, hcs, hat⟩ := hrel
      have HQL := hide hql
      have HQ := hide hq
      have HV := hide hval
      have HW := hide hwr
      have HC := hide hcs
      have HT := hide hat
      clear hql hq hval hwr hcs hat
      by_cases hlt : k < xs.length
      · have sx := HW.out.sl (Nat.le_refl _) hb1 rfl hx
        obtain ⟨b, off, rfl, hcx⟩ := sx.cells (by omega)
        have cx := hcx k (by omega)
        have bx := limb_getD H3.out k
        have by' := limb_getD H3.out (k + 1)
        have kl : Hid (Calls Try.prog 47 #[.slice (some ⟨b, off, none⟩) xs.length cap, .int .i64 ((k : Int) + 1)] wr fun e w' => e = .returned (.int .u32 (xs.getD (k + 1) 0)) ∧ w' = wr) := by
          have h9 := limb_any wr _ xs sx ((k : Int) + 1) (by omega)
          rwa [show ((k : Int) + 1).toNat = k + 1 by omega] at h9
        have HVn := hide (fun o ho => down_val (o := o) (C := xs.getD (k + 1) 0) HQL.out rfl ho HV.out)
        generalize hCe : xs.getD (k + 1) 0 = C at by' kl HVn
        have HCE := hide hCe
        clear hCe
        generalize xs.getD k 0 = A at cx bx HVn
        have hdl := down_limb hs bx by'.1
        have hor := or_join C A by'.1 by'.2 bx.1 bx.2
        have hlen : (qs ++ (List.replicate xs.length (0 : Int)).drop k).length = xs.length := by have := HQL.out; simp; omega
        have hcell := HT.out.cell HW.out.here k (by rw [hlen]; omega)
        rw [Nat.zero_add] at hcell
        generalize (qs ++ (List.replicate xs.length (0 : Int)).drop k).getD k 0 = old at hcell
        have hfree := HW.out.free k
        obtain ⟨M, hM⟩ : ∃ M, M = C * 4294967296 + A := ⟨_, rfl⟩
        rw [← hM] at hor hdl
        have hM0 : 0 ≤ M := by omega
        have hM1 : M < 18446744073709551616 := by omega
        have hpw := p2_pow s
        have HVf := hide (HVn.out _ hdl.2)
        have hd0 := hdl.1
        have HT' := hide (HT.out.set k (M / p2 s % 4294967296))
        have HW' := hide (HW.out.set k (.int .u32 (M / p2 s % 4294967296)))
        have hp1 := p2_pos s
        clear hlen sx hcx hM hdl HVn
        go_wp2_with fail
        refine (kl.out).mono ?_
        rintro e w2 ⟨rfl, rfl⟩
        go_wp2
        go_roundw
        case rel => exact ⟨k + 1, qs ++ [M / p2 s % 4294967296], _, by omega, by go_num, by have := HQL.out; simp; omega, limb_append.2 ⟨HQ.out, limb_cons.2 ⟨by omega, limb_nil⟩⟩, by rw [HCE.out]; exact HVf.out, HW'.out, by simpa using HC.out, by rw [← set_snoc qs _ k _ HQL.out (by simp; omega)]; simpa using HT'.out⟩
        case measure => simp [intOf]; omega
      · have hkM : k = xs.length := by omega
        subst hkM
        have hat2 := HT.out
        rw [List.drop_of_length_le (by simp), List.append_nil] at hat2
        have how : Ow w.heap.size wr (.slice (some ⟨w.heap.size, 0, none⟩) xs.length xs.length) qs := by
          have := HQL.out
          exact ⟨_, xs.length, by rw [this], by omega, by unfold maxLen; omega, HQ.out, .inr ⟨_, 0, _, rfl, Nat.le_refl _, HW.out.here, by rw [HC.out]; omega, hat2⟩⟩
        have hbel : Below w.heap.size w wr := hb1.trans (HW.out.below (Nat.le_refl _))
        have his := how.is_cut (x := val xs / p2 s) (by
          have hv := HV.out
          have hz : xs.getD xs.length 0 = 0 := by rw [List.getD_eq_getElem?_getD, List.getElem?_eq_none (Nat.le_refl _)]; rfl
          rw [hz, Int.zero_emod, Int.mul_zero, Int.add_zero, vf_all xs _ (Nat.le_refl _)] at hv
          have hp1 := p2_pos s
          have hr := Int.emod_lt_of_pos (xs.getD 0 0) (show 0 < p2 s by omega)
          have hr0 := Int.emod_nonneg (xs.getD 0 0) (show p2 s ≠ 0 by omega)
          have := div_of (a := val xs) (b := p2 s) (q := val qs) (by omega) (by rw [← hv, Int.mul_comm]) hr0 hr
          exact this.1.symm)
        clear hat2
        go_wp2_with fail
        refine (cut_any _ _ _ _ _ how.sl).mono ?_
        rintro e w2 ⟨rfl, rfl⟩
        go_wp2
        go_ret
        exact ⟨_, rfl, his, hbel⟩

end Lm
end Go.Proofs.Ythbomfboohjcfaa

namespace Go.Proofs.Ythbomfboohjcfaa
namespace Lm
open Go.RowKit

theorem guess_start {v1 v2 u2 U g r : Int} (h2 : 0 ≤ v2) (h3 : u2 < 4294967296) (hg : U = g * v1 + r) (hr : r < v1) (hg0 : 0 ≤ g) : U * 4294967296 + u2 < (g + 1) * (v1 * 4294967296 + v2) := by
  have e1 : (g + 1) * (v1 * 4294967296 + v2) = (g * v1 + v1) * 4294967296 + (g + 1) * v2 := by
    rw [Int.mul_add, ← Int.mul_assoc, Int.add_mul, Int.one_mul]
  have e2 : 0 ≤ (g + 1) * v2 := Int.mul_nonneg (by omega) h2
  rw [e1]
  omega

theorem guess_le {v1 v2 u2 U g r : Int} (hg : g * v1 + r = U) (h : g * v2 ≤ r * 4294967296 + u2) : g * (v1 * 4294967296 + v2) ≤ U * 4294967296 + u2 := by
  rw [Int.mul_add, ← Int.mul_assoc, ← hg]
  omega

theorem guess_gt {v1 v2 u2 U g r : Int} (hg : g * v1 + r = U) (h : r * 4294967296 + u2 < g * v2) : U * 4294967296 + u2 < g * (v1 * 4294967296 + v2) := by
  rw [Int.mul_add, ← Int.mul_assoc, ← hg]
  omega

theorem guess_break {v1 v2 u2 U g r : Int} (hv : 0 ≤ v2 ∧ v2 < 4294967296) (hu : 0 ≤ u2) (hg : g * v1 + r = U) (hr : 4294967296 ≤ r) (hg0 : 0 ≤ g) (hg1 : g < 4294967296) : g * (v1 * 4294967296 + v2) ≤ U * 4294967296 + u2 := by
  apply guess_le hg
  have h1 : g * v2 ≤ 4294967295 * v2 := Int.mul_le_mul_of_nonneg_right (by omega) hv.1
  omega

theorem guess_top {v1 U g r : Int} (hv : 2147483648 ≤ v1) (hU : U ≤ v1 * 4294967296 + 4294967295) (hg : g * v1 + r = U) (_hr : 0 ≤ r) (hb : 4294967296 ≤ r + v1) : g ≤ 4294967296 := by
  apply Classical.byContradiction
  intro hn
  have h1 : 4294967297 * v1 ≤ g * v1 := Int.mul_le_mul_of_nonneg_right (by omega) (by omega)
  omega

theorem guess_max {v1 U g r : Int} (hv : 2147483648 ≤ v1) (hU : U ≤ v1 * 4294967296 + 4294967295) (hg : g * v1 + r = U) (hr : 0 ≤ r) : g ≤ 4294967297 := by
  apply Classical.byContradiction
  intro hn
  have h1 : 4294967298 * v1 ≤ g * v1 := Int.mul_le_mul_of_nonneg_right (by omega) (by omega)
  omega

set_option maxRecDepth 20000 in
set_option maxHeartbeats 2000000 in
theorem guess_any (w : World) (a1 a2 : Option Addr) (n c1 c2 : Nat) (ps Y : List Int) (hp : Sl w (.slice a1 (n + 2 + 1) c1) ps) (hy : Sl w (.slice a2 (n + 2) c2) Y)
    (htop : 2147483648 ≤ Y.getD (n + 1) 0) (hu : ps.getD (n + 2) 0 ≤ Y.getD (n + 1) 0) :
    Calls Try.prog 75 #[.slice a1 (n + 2 + 1) c1, .slice a2 (n + 2) c2] w fun e w' => ∃ g : Int, e = .returned (.int .u32 g) ∧ (0 ≤ g ∧ g < 4294967296) ∧ g * (Y.getD (n + 1) 0 * 4294967296 + Y.getD n 0) ≤ (ps.getD (n + 2) 0 * 4294967296 + ps.getD (n + 1) 0) * 4294967296 + ps.getD n 0 ∧ (4294967296 ≤ g + 1 ∨ (ps.getD (n + 2) 0 * 4294967296 + ps.getD (n + 1) 0) * 4294967296 + ps.getD n 0 < (g + 1) * (Y.getD (n + 1) 0 * 4294967296 + Y.getD n 0)) ∧ ∃ q, w' = w.drewN q := by
  obtain ⟨hpl, p1, p2, p3⟩ := hp.parts
  obtain ⟨hyl, y1, y2, y3⟩ := hy.parts
  obtain ⟨b, off, rfl, hc⟩ := hp.cells (by omega)
  obtain ⟨b', off', rfl, hc'⟩ := hy.cells (by omega)
  have f0 := hc (n + 2) (by omega)
  have f1 := hc (n + 1) (by omega)
  have f2 := hc n (by omega)
  have e1 := hc' (n + 1) (by omega)
  have e2 := hc' n (by omega)
  have bu0 := limb_getD p3 (n + 2)
  have bu1 := limb_getD p3 (n + 1)
  have bu2 := limb_getD p3 n
  have bv1 := limb_getD y3 (n + 1)
  have bv2 := limb_getD y3 n
  generalize ps.getD (n + 2) 0 = u0 at *
  generalize ps.getD (n + 1) 0 = u1 at *
  generalize ps.getD n 0 = u2 at *
  generalize Y.getD (n + 1) 0 = v1 at *
  generalize Y.getD n 0 = v2 at *
  have hN : n + 3 ≤ 9223372036854775807 := by omega
  have hor1 := or_join u0 u1 bu0.1 bu0.2 bu1.1 bu1.2
  obtain ⟨U, hU⟩ : ∃ U, U = u0 * 4294967296 + u1 := ⟨_, rfl⟩
  rw [← hU] at hor1 ⊢
  have hU0 : 0 ≤ U := by omega
  have hUb : U < 18446744073709551616 := by omega
  have hUm : U ≤ v1 * 4294967296 + 4294967295 := by omega
  have HU := hide hU
  clear hc hc' p3 y3 hpl hyl hU
  go_enter Try.func75, Try.ntmps75
  go_wp2
  go_quiet (fail)
  go_wp2
  replace f0 : (w.drewN nq).cell? _ = _ := f0
  replace f1 : (w.drewN nq).cell? _ = _ := f1
  replace f2 : (w.drewN nq).cell? _ = _ := f2
  replace e1 : (w.drewN nq).cell? _ = _ := e1
  replace e2 : (w.drewN nq).cell? _ = _ := e2
  generalize hwq : w.drewN nq = wq at f0 f1 f2 e1 e2 ⊢
  have HQ : Hid (∃ q, wq = w.drewN q) := ⟨_, hwq.symm⟩
  clear hwq
  go_quiet (fail)
  go_wp2
  replace f2 : (wq.drewN nq).cell? _ = _ := f2
  replace HQ : Hid (∃ q, wq.drewN nq = w.drewN q) := by
    obtain ⟨q, hq⟩ := HQ.out
    exact ⟨q + nq, by rw [hq]; simp [World.drewN]; omega⟩
  generalize wq.drewN nq = wz at f2 HQ ⊢
  have hv0 : 0 < v1 := by omega
  have hq0 : 0 ≤ U / v1 := Int.ediv_nonneg hU0 (by omega)
  have hqm := Int.mul_ediv_add_emod U v1
  have hr0 := Int.emod_nonneg U (show v1 ≠ 0 by omega)
  have hr1 := Int.emod_lt_of_pos U hv0
  have hq1 : U / v1 ≤ 4294967297 := guess_max htop hUm (by rw [Int.mul_comm]; exact hqm) hr0
  have t1 : U.tdiv v1 = U / v1 := Int.tdiv_eq_ediv_of_nonneg hU0
  have t2 : IntKind.u64.wrap (U / v1) = U / v1 := by rw [IntKind.wrap_u64]; exact Int.emod_eq_of_lt hq0 (by omega)
  have t3 : U.tmod v1 = U % v1 := Int.tmod_eq_emod_of_nonneg hU0
  have HQM := hide hqm
  clear hqm
  go_quiet (fail)
  go_wp2
  replace f2 : (wz.drewN nq).cell? _ = _ := f2
  replace HQ : Hid (∃ q, wz.drewN nq = w.drewN q) := by
    obtain ⟨q, hq⟩ := HQ.out
    exact ⟨q + nq, by rw [hq]; simp [World.drewN]; omega⟩
  generalize wz.drewN nq = wl at f2 HQ ⊢
  go_loop [9, 10] (fun gv rv => ∃ gu rs : Int, gv = .int .u64 gu ∧ rv = .int .u64 rs ∧ 0 ≤ gu ∧ gu ≤ 4294967297 ∧ 0 ≤ rs ∧ rs < 4294967296 ∧ gu * v1 + rs = U ∧ (4294967296 ≤ gu + 1 ∨ U * 4294967296 + u2 < (gu + 1) * (v1 * 4294967296 + v2))) (fun gv _ => (intOf gv).toNat)
  case atStart => exact ⟨U / v1, U % v1, rfl, rfl, hq0, hq1, hr0, by omega, by rw [Int.mul_comm]; exact HQM.out, .inr (guess_start bv2.1 bu2.2 (by rw [Int.mul_comm]; exact HQM.out.symm) hr1 hq0)⟩
  case round =>
    obtain ⟨gu, rs, rfl, rfl, hg0, hg1, hs0, hs1, hgs, hgb⟩ := hrel
    have HGS := hide hgs
    have HGB := hide hgb
    have hor2 := or_join rs u2 hs0 hs1 bu2.1 bu2.2
    clear hgs hgb t1 t2 t3 hor1
    by_cases hbig : 4294967296 ≤ gu
    · have hne : (gu / 4294967296 != 0) = true := by rw [bne_iff_ne]; omega
      have HN : Hid ((gu - 1) * v1 + (rs + v1) = U) := by have h9 := HGS.out; show _ = _; rw [Int.sub_mul]; omega
      by_cases hbr : 4294967296 ≤ rs + v1
      · have hne2 : ((rs + v1) / 4294967296 != 0) = true := by rw [bne_iff_ne]; omega
        have hgl := guess_top htop hUm HGS.out hs0 hbr
        have HF := hide (guess_break bv2 bu2.1 HN.out hbr (by omega) (by omega))
        go_wp2
        go_ret
        exact ⟨gu - 1, rfl, by omega, HF.out, .inl (by omega), HQ.out⟩
      · have hne2 : ((rs + v1) / 4294967296 != 0) = false := by rw [bne_eq_false_iff_eq]; omega
        go_wp2
        go_round
        case rel => exact ⟨gu - 1, rs + v1, rfl, rfl, by omega, by omega, by omega, by omega, HN.out, .inl (by omega)⟩
        case measure => simp [intOf]; omega
    · have hne : (gu / 4294967296 != 0) = false := by rw [bne_eq_false_iff_eq]; omega
      have hmb := mul_bound (show 0 ≤ gu ∧ gu < 4294967296 by omega) bv2
      by_cases hgt : rs * 4294967296 + u2 < gu * v2
      · have hd : decide (rs * 4294967296 + u2 < gu * v2) = true := decide_eq_true hgt
        have hgu1 : 1 ≤ gu := by
          apply Classical.byContradiction
          intro hn
          have h0 : gu = 0 := by omega
          rw [h0, Int.zero_mul] at hgt
          omega
        have HN : Hid ((gu - 1) * v1 + (rs + v1) = U) := by have h9 := HGS.out; show _ = _; rw [Int.sub_mul]; omega
        have HB2 := hide (guess_gt HGS.out hgt)
        by_cases hbr : 4294967296 ≤ rs + v1
        · have hne2 : ((rs + v1) / 4294967296 != 0) = true := by rw [bne_iff_ne]; omega
          have HF := hide (guess_break bv2 bu2.1 HN.out hbr (by omega) (by omega))
          go_wp2
          go_ret
          exact ⟨gu - 1, rfl, by omega, HF.out, .inr (by rw [Int.sub_add_cancel]; exact HB2.out), HQ.out⟩
        · have hne2 : ((rs + v1) / 4294967296 != 0) = false := by rw [bne_eq_false_iff_eq]; omega
          go_wp2
          go_round
          case rel => exact ⟨gu - 1, rs + v1, rfl, rfl, by omega, by omega, by omega, by omega, HN.out, .inr (by rw [Int.sub_add_cancel]; exact HB2.out)⟩
          case measure => simp [intOf]; omega
      · have hd : decide (rs * 4294967296 + u2 < gu * v2) = false := decide_eq_false hgt
        have HF := hide (guess_le HGS.out (show gu * v2 ≤ rs * 4294967296 + u2 by omega))
        go_wp2
        go_ret
        exact ⟨gu, rfl, by omega, HF.out, HGB.out, HQ.out⟩

end Lm
end Go.Proofs.Ythbomfboohjcfaa

namespace Go.Proofs.Ythbomfboohjcfaa
namespace Lm

/-- The list's value by its upper limb. -/
theorem val_top {zs : List Int} {n : Nat} (hl : zs.length = n + 1) : val zs = val (zs.take n) + pw n * zs.getD n 0 := by
  have e1 : zs = zs.take n ++ [zs.getD n 0] := by
    rw [← take_succ_getD zs n (by omega), List.take_of_length_le (by omega)]
  have e2 := val_append (zs.take n) [zs.getD n 0]
  rw [← e1, List.length_take, Nat.min_eq_left (by omega)] at e2
  rw [e2]
  simp [val]

/-- Two upper limbs. -/
theorem val_top2 {zs : List Int} {n : Nat} (hl : zs.length = n + 2) : val zs = val (zs.take n) + pw n * (zs.getD (n + 1) 0 * 4294967296 + zs.getD n 0) := by
  rw [val_top (n := n + 1) hl, val_top (zs := zs.take (n + 1)) (n := n) (by rw [List.length_take]; omega), List.take_take, Nat.min_eq_left (by omega)]
  have e : (zs.take (n + 1)).getD n 0 = zs.getD n 0 := by
    rw [List.getD_eq_getElem?_getD, List.getD_eq_getElem?_getD, List.getElem?_take, if_pos (by omega)]
  rw [e, pw, Int.mul_add, Int.mul_comm (zs.getD (n + 1) 0) 4294967296, ← Int.mul_assoc, Int.mul_comm (pw n) 4294967296]
  omega

/-- Three upper limbs. -/
theorem val_top3 {zs : List Int} {n : Nat} (hl : zs.length = n + 3) : val zs = val (zs.take n) + pw n * ((zs.getD (n + 2) 0 * 4294967296 + zs.getD (n + 1) 0) * 4294967296 + zs.getD n 0) := by
  rw [val_top (n := n + 2) hl, val_top2 (zs := zs.take (n + 2)) (n := n) (by rw [List.length_take]; omega), List.take_take, Nat.min_eq_left (by omega)]
  have e : ∀ i, i < n + 2 → (zs.take (n + 2)).getD i 0 = zs.getD i 0 := by
    intro i hi
    rw [List.getD_eq_getElem?_getD, List.getD_eq_getElem?_getD, List.getElem?_take, if_pos hi]
  rw [e (n + 1) (by omega), e n (by omega)]
  have e2 : pw (n + 2) = pw n * (4294967296 * 4294967296) := by
    simp only [pw]
    rw [Int.mul_comm (pw n), Int.mul_assoc]
  have e3 : pw n * ((zs.getD (n + 2) 0 * 4294967296 + zs.getD (n + 1) 0) * 4294967296 + zs.getD n 0) = pw n * (4294967296 * 4294967296) * zs.getD (n + 2) 0 + pw n * (zs.getD (n + 1) 0 * 4294967296 + zs.getD n 0) := by
    rw [Int.mul_assoc, ← Int.mul_add]
    congr 1
    omega
  rw [e2, e3]
  omega

theorem top_le {W Y : List Int} {n : Nat} (hW : Limb W) (hY : Limb Y) (h1 : W.length = n + 1) (h2 : Y.length = n + 1) (h : val W < val Y) : W.getD n 0 ≤ Y.getD n 0 := by
  apply Classical.byContradiction
  intro hn
  rw [val_top h1, val_top h2] at h
  have b1 := val_bounds (limb_take hW n)
  have b2 := val_bounds (limb_take hY n)
  rw [List.length_take, Nat.min_eq_left (by omega)] at b1 b2
  have hp := pw_pos n
  have e : pw n * (Y.getD n 0 + 1) ≤ pw n * W.getD n 0 := Int.mul_le_mul_of_nonneg_left (by omega) (by omega)
  rw [Int.mul_add] at e
  omega

/-- The guess is the limb of the quotient, or one more. -/
theorem guess_near {ps Y : List Int} {n : Nat} {g P U : Int} (hp : Limb ps) (hy : Limb Y) (h1 : ps.length = n + 3) (h2 : Y.length = n + 2) (hP : val ps = P) (hU : val Y = U) (htop : 1 ≤ Y.getD (n + 1) 0) (hlt : P < 4294967296 * U) (hg : 0 ≤ g ∧ g < 4294967296)
    (hA : g * (Y.getD (n + 1) 0 * 4294967296 + Y.getD n 0) ≤ (ps.getD (n + 2) 0 * 4294967296 + ps.getD (n + 1) 0) * 4294967296 + ps.getD n 0)
    (hB : 4294967296 ≤ g + 1 ∨ (ps.getD (n + 2) 0 * 4294967296 + ps.getD (n + 1) 0) * 4294967296 + ps.getD n 0 < (g + 1) * (Y.getD (n + 1) 0 * 4294967296 + Y.getD n 0)) :
    P < (g + 1) * U ∧ (g - 1) * U ≤ P := by
  have eP := val_top3 h1
  have eU := val_top2 h2
  have bP := val_bounds (limb_take hp n)
  have bU := val_bounds (limb_take hy n)
  rw [List.length_take, Nat.min_eq_left (by omega)] at bP bU
  rw [hP] at eP
  rw [hU] at eU
  have hv2 := (limb_getD hy n).1
  generalize (ps.getD (n + 2) 0 * 4294967296 + ps.getD (n + 1) 0) * 4294967296 + ps.getD n 0 = P3 at *
  have hU2 : 4294967296 ≤ Y.getD (n + 1) 0 * 4294967296 + Y.getD n 0 := by omega
  generalize Y.getD (n + 1) 0 * 4294967296 + Y.getD n 0 = U2 at *
  generalize val (ps.take n) = Pl at *
  generalize val (Y.take n) = Ul at *
  have hp1 := pw_pos n
  have hUp : 4294967296 * pw n ≤ pw n * U2 := by
    have : pw n * 4294967296 ≤ pw n * U2 := Int.mul_le_mul_of_nonneg_left hU2 (by omega)
    omega
  constructor
  · rcases hB with hB | hB
    · have : 4294967296 * U ≤ (g + 1) * U := Int.mul_le_mul_of_nonneg_right (by omega) (by omega)
      omega
    · have e1 : pw n * (P3 + 1) ≤ pw n * ((g + 1) * U2) := Int.mul_le_mul_of_nonneg_left (by omega) (by omega)
      have e2 : (g + 1) * U = (g + 1) * Ul + pw n * ((g + 1) * U2) := by
        rw [eU, Int.mul_add, ← Int.mul_assoc (g + 1) (pw n), Int.mul_comm (g + 1) (pw n), Int.mul_assoc]
      have e3 : 0 ≤ (g + 1) * Ul := Int.mul_nonneg (by omega) bU.1
      rw [Int.mul_add] at e1
      omega
  · have e1 : pw n * (g * U2) ≤ pw n * P3 := Int.mul_le_mul_of_nonneg_left hA (by omega)
    have e2 : g * U = g * Ul + pw n * (g * U2) := by
      rw [eU, Int.mul_add, ← Int.mul_assoc g (pw n), Int.mul_comm g (pw n), Int.mul_assoc]
    have e3 : g * Ul ≤ 4294967295 * Ul := Int.mul_le_mul_of_nonneg_right (by omega) bU.1
    rw [Int.sub_mul]
    omega

/-- What is left is below the divisor, whether or not it was taken back. -/
theorem rest_near {P U g A b p A2 c : Int} (_hU : 0 < U) (_hp : U < p) (hlow : P < (g + 1) * U) (hhigh : (g - 1) * U ≤ P) (hA : 0 ≤ A ∧ A < p) (_hb : 0 ≤ b ∧ b ≤ 1) (h : A - p * b = P - g * U) :
    (b = 0 → 0 ≤ A ∧ A < U ∧ P = g * U + A) ∧ (b = 1 → 0 ≤ A2 ∧ A2 < p → 0 ≤ c ∧ c ≤ 1 → A2 + p * c = A + U → 0 ≤ A2 ∧ A2 < U ∧ P = (g - 1) * U + A2) := by
  rw [Int.add_mul] at hlow
  rw [Int.sub_mul] at hhigh ⊢
  constructor
  · intro hb0
    rw [hb0, Int.mul_zero] at h
    omega
  · intro hb1 hA2 hc hs
    rw [hb1, Int.mul_one] at h
    have hc01 : c = 0 ∨ c = 1 := by omega
    rcases hc01 with hc0 | hc0
    · rw [hc0, Int.mul_zero] at hs; omega
    · rw [hc0, Int.mul_one] at hs; omega

/-- The window's value is below the base times the divisor. -/
theorem part_lt {W : List Int} {x U : Int} (hx : x < 4294967296) (h : val W < U) : val (x :: W) < 4294967296 * U := by
  rw [val]
  omega

/-- One round of the long division keeps the whole. -/
theorem long_step {lo W W' Q : List Int} {x q U T : Int} (hinv : val (lo ++ [x]) + pw (lo.length + 1) * val W + U * (pw (lo.length + 1) * val Q) = T) (hp : val (x :: W) = q * U + val W') :
    val lo + pw lo.length * val W' + U * (pw lo.length * val (q :: Q)) = T := by
  rw [val_append] at hinv
  have e1 : val [x] = x := by simp [val]
  rw [e1] at hinv
  rw [val] at hp ⊢
  rw [pw] at hinv
  generalize pw lo.length = p at *
  have e2 : p * (x + 4294967296 * val W) = p * (q * U + val W') := by rw [hp]
  have e3 : 4294967296 * p * val W = p * (4294967296 * val W) := by rw [Int.mul_comm 4294967296 p, Int.mul_assoc]
  have e4 : U * (p * (q + 4294967296 * val Q)) = p * (q * U) + U * (4294967296 * p * val Q) := by
    rw [Int.mul_add, Int.mul_add, Int.mul_comm 4294967296 p, Int.mul_assoc p 4294967296, ← Int.mul_assoc U p q, Int.mul_comm U p, Int.mul_assoc p U q, Int.mul_comm U q]
  rw [Int.mul_add, Int.mul_add] at e2
  omega

/-- What is below a power has a nought on top. -/
theorem top_zero {W : List Int} {n : Nat} (hW : Limb W) (hl : W.length = n + 1) (h : val W < pw n) : val (W.take n) = val W ∧ W.getD n 0 = 0 := by
  have e := val_top hl
  have b := val_bounds (limb_take hW n)
  have h0 := (limb_getD hW n).1
  have hp := pw_pos n
  have hz : W.getD n 0 = 0 := by
    apply Classical.byContradiction
    intro hn
    have : pw n * 1 ≤ pw n * W.getD n 0 := Int.mul_le_mul_of_nonneg_left (by omega) (by omega)
    omega
  rw [hz, Int.mul_zero] at e
  exact ⟨by omega, hz⟩

end Lm
end Go.Proofs.Ythbomfboohjcfaa

namespace Go.Proofs.Ythbomfboohjcfaa
namespace Lm
open Go.RowKit

/-- w' is w, but that the blocks g and h hold the cells c and d. -/
structure Wr2 (w w' : World) (g h : Nat) (c d : Array Value) (e : TypeId) : Prop where
  os : w'.os = w.os
  tape : w'.tape = w.tape
  output : w'.output = w.output
  size : w'.heap.size = w.heap.size
  here : w'.heap[g]? = some (.cells c e (0, 0))
  there : w'.heap[h]? = some (.cells d e (0, 0))
  other : ∀ k, k ≠ g → k ≠ h → w'.heap[k]? = w.heap[k]?

theorem Wr2.left {w w' w'' : World} {g h : Nat} {c d c' : Array Value} {e : TypeId} (H : Wr2 w w' g h c d e) (hn : h ≠ g) (K : Wr w' w'' g c' e) : Wr2 w w'' g h c' d e :=
  ⟨K.os.trans H.os, K.tape.trans H.tape, K.output.trans H.output, K.size.trans H.size, K.here, (K.other h hn).trans H.there, fun k h1 h2 => (K.other k h1).trans (H.other k h1 h2)⟩

theorem Wr2.right {w w' w'' : World} {g h : Nat} {c d d' : Array Value} {e : TypeId} (H : Wr2 w w' g h c d e) (hn : g ≠ h) (K : Wr w' w'' h d' e) : Wr2 w w'' g h c d' e :=
  ⟨K.os.trans H.os, K.tape.trans H.tape, K.output.trans H.output, K.size.trans H.size, (K.other g hn).trans H.here, K.here, fun k h1 h2 => (K.other k h2).trans (H.other k h1 h2)⟩

theorem Wr2.drewN {w w' : World} {g h : Nat} {c d : Array Value} {e : TypeId} (H : Wr2 w w' g h c d e) (n : Nat) : Wr2 w (w'.drewN n) g h c d e := ⟨H.os, H.tape, H.output, H.size, H.here, H.there, H.other⟩

theorem Wr2.below {w w' : World} {g h : Nat} {c d : Array Value} {e : TypeId} (H : Wr2 w w' g h c d e) {B : Nat} (h1 : B ≤ g) (h2 : B ≤ h) : Below B w w' :=
  ⟨H.os, H.tape, H.output, by rw [H.size]; exact Nat.le_refl _, fun k hk => H.other k (by omega) (by omega)⟩

theorem sl_of_at {w : World} {g o n cap : Nat} {cur : Array Value} {zs : List Int} (hh : w.heap[g]? = some (.cells cur 47 (0, 0))) (ha : At cur .u32 o zs) (hz : Limb zs) (hl : zs.length = n) (h1 : n ≤ cap) (h2 : cap ≤ maxLen) : Sl w (.slice (some ⟨g, o, none⟩) n cap) zs :=
  ⟨_, cap, by rw [hl], by omega, h2, hz, .inr ⟨g, o, rfl, fun i hi => ha.cell hh i hi⟩⟩

theorem At.take {cur : Array Value} {k : IntKind} {o : Nat} {zs : List Int} (h : At cur k o zs) (n : Nat) : At cur k o (zs.take n) := by
  intro i hi
  rw [List.length_take] at hi
  rw [h i (by omega), List.getD_eq_getElem?_getD, List.getD_eq_getElem?_getD, List.getElem?_take, if_pos (by omega)]

/-- What stands before the round for limb k - 1 of the quotient. -/
structure Dv (w3 wr : World) (A q N m n : Nat) (U T : Int) (k : Nat) (lo W rest Q : List Int) (cur d : Array Value) : Prop where
  two : Wr2 w3 wr A q cur d 47
  csz : cur.size = N + 1
  dsz : d.size = m
  atc : At cur .u32 0 (lo ++ W ++ rest)
  atd : At d .u32 0 (List.replicate k 0 ++ Q)
  lol : lo.length = k
  wl : W.length = n + 2
  ql : k + Q.length = m
  lil : Limb lo
  liW : Limb W
  liQ : Limb Q
  low : val W < U
  inv : val lo + pw k * val W + U * (pw k * val Q) = T

theorem split_last {lo : List Int} {k : Nat} (h : lo.length = k + 1) : ∃ lo' x, lo = lo' ++ [x] ∧ lo'.length = k :=
  ⟨lo.take k, lo.getD k 0, by rw [← take_succ_getD lo k (by omega), List.take_of_length_le (by omega)], by rw [List.length_take]; omega⟩

theorem Dv.mid {w3 wr : World} {A q N m n : Nat} {U T : Int} {k : Nat} {lo W rest Q : List Int} {x : Int} {cur d : Array Value} (D : Dv w3 wr A q N m n U T (k + 1) (lo ++ [x]) W rest Q cur d) (hl : lo.length = k) : At cur .u32 k (x :: W) ∧ Limb (x :: W) := by
  have h1 := D.atc
  rw [show lo ++ [x] ++ W ++ rest = lo ++ (x :: W) ++ rest by simp] at h1
  have h2 := at_mid h1
  rw [hl] at h2
  have h3 := D.lil
  rw [limb_append] at h3
  exact ⟨h2, limb_cons.2 ⟨(limb_cons.1 h3.2).1, D.liW⟩⟩

theorem set_zeros (k : Nat) (Q : List Int) (g : Int) : (List.replicate (k + 1) (0 : Int) ++ Q).set k g = List.replicate k 0 ++ g :: Q := by
  have h := set_cons (List.replicate (k + 1) (0 : Int)) Q k g (by simp)
  rw [List.take_of_length_le (by simp), List.take_replicate, Nat.min_eq_left (by omega)] at h
  exact h

/-- The round's end: what is left lies in the window, the limb in its place. -/
theorem Dv.step {w3 wr w5 : World} {A q N m n : Nat} {U T : Int} {k : Nat} {lo W rest Q qs : List Int} {x g : Int} {cur d cur' : Array Value} (D : Dv w3 wr A q N m n U T (k + 1) (lo ++ [x]) W rest Q cur d) (hl : lo.length = k) (hn : A ≠ q)
    (two : Wr2 w3 w5 A q cur' d 47) (hcs : cur'.size = cur.size) (hat : At cur' .u32 k qs) (hout : ∀ i, i < k ∨ k + (n + 2 + 1) ≤ i → cur'[i]? = cur[i]?) (hq : Limb qs) (hql : qs.length = n + 2 + 1) (hU : U ≤ pw (n + 2)) (hlt : val qs < U) (hv : val (x :: W) = g * U + val qs) (hg : 0 ≤ g ∧ g < 4294967296) :
    Dv w3 (w5.setCell ⟨q, k, none⟩ (.int .u32 g)) A q N m n U T k lo (qs.take (n + 2)) (qs.drop (n + 2) ++ rest) (g :: Q) cur' (d.setIfInBounds k (.int .u32 g)) := by
  have htz := top_zero hq hql (by omega)
  have h3 := D.lil
  rw [limb_append] at h3
  have hinv := D.inv
  rw [← hl] at hinv
  have hat1 : At cur .u32 0 (lo ++ (x :: W) ++ rest) := by
    have := D.atc
    rwa [show lo ++ [x] ++ W ++ rest = lo ++ (x :: W) ++ rest by simp] at this
  have hat2 := at_window hat1 (by rw [hl]; exact hat) (by have := D.wl; simp; omega) (by
    have e : (x :: W).length = n + 2 + 1 := by have := D.wl; simp; omega
    rw [hl, e]; exact hout)
  refine ⟨two.right hn ((Wr.refl two.there).set k _), by rw [hcs]; exact D.csz, by simpa using D.dsz, ?_, ?_, hl, by rw [List.length_take]; omega, by have := D.ql; simp; omega, h3.1, limb_take hq _, limb_cons.2 ⟨hg, D.liQ⟩, by rw [htz.1]; exact hlt, ?_⟩
  · rw [List.append_assoc, ← List.append_assoc (qs.take (n + 2)), List.take_append_drop, ← List.append_assoc]
    exact hat2
  · rw [← set_zeros]
    have := D.atd.set k g
    rwa [Nat.zero_add] at this
  · rw [htz.1]
    have := long_step (W' := qs) (q := g) hinv hv
    rwa [hl] at this

theorem long_start {O : List Int} {m n : Nat} {P : Int} (hO : Limb O) (hm : m ≤ O.length) (hv : val O < pw m * (pw (n + 1) * P)) : val (O.drop m) < pw (n + 1) * P := by
  have h1 := val_append (O.take m) (O.drop m)
  rw [List.take_append_drop, List.length_take, Nat.min_eq_left hm] at h1
  have h2 := (val_bounds (limb_take hO m)).1
  apply Classical.byContradiction
  intro hn
  have h3 : pw m * (pw (n + 1) * P) ≤ pw m * val (O.drop m) := Int.mul_le_mul_of_nonneg_left (by omega) (by have := pw_pos m; omega)
  omega

theorem long_end {X Y Q W P : Int} (hP : 0 < P) (hY : 0 < Y) (h : W + Y * P * Q = X * P) (h0 : 0 ≤ W) (h1 : W < Y * P) : X / Y = Q ∧ X % Y = W / P := by
  have e1 : W = (X - Q * Y) * P := by
    have : Y * P * Q = Q * Y * P := by rw [Int.mul_comm (Y * P), Int.mul_assoc]
    rw [Int.sub_mul]
    omega
  have e2 : W / P = X - Q * Y := by rw [e1]; exact Int.mul_ediv_cancel _ (by omega)
  rw [e2]
  obtain ⟨R, hR⟩ : ∃ R, R = X - Q * Y := ⟨_, rfl⟩
  rw [← hR] at e1 ⊢
  have hR0 : 0 ≤ R := by
    apply Classical.byContradiction
    intro hn
    have : R * P ≤ -1 * P := Int.mul_le_mul_of_nonneg_right (by omega) (by omega)
    omega
  have hR1 : R < Y := by
    apply Classical.byContradiction
    intro hn
    have : Y * P ≤ R * P := Int.mul_le_mul_of_nonneg_right (by omega) (by omega)
    omega
  exact div_of hY (by omega) hR0 hR1

theorem norm_val {v : Int} {n l s : Nat} (hb : IsBits v (32 * (n + 1) + l)) (hl : 0 < l) (hs : s + l = 32) : v * p2 s < pw (n + 2) ∧ pw (n + 1) * 2147483648 ≤ v * p2 s := by
  have hp := p2_pos s
  obtain ⟨h1, h2⟩ := hb
  have h3 : p2 (32 * (n + 1) + l - 1) ≤ v := by rcases h2 with h0 | h0 <;> omega
  constructor
  · have : v * p2 s < p2 (32 * (n + 1) + l) * p2 s := Int.mul_lt_mul_of_pos_right h1 (by omega)
    rw [← p2_add, show 32 * (n + 1) + l + s = 32 * (n + 2) by omega, ← pw_p2] at this
    exact this
  · have : p2 (32 * (n + 1) + l - 1) * p2 s ≤ v * p2 s := Int.mul_le_mul_of_nonneg_right h3 (by omega)
    rw [← p2_add, show 32 * (n + 1) + l - 1 + s = 32 * (n + 1) + 31 by omega, p2_add, ← pw_p2, show p2 31 = 2147483648 from by decide] at this
    exact this

theorem norm_top {Y : List Int} {n : Nat} (hY : Limb Y) (hl : Y.length = n + 2) (h : pw (n + 1) * 2147483648 ≤ val Y) : 2147483648 ≤ Y.getD (n + 1) 0 := by
  have e := val_top (n := n + 1) hl
  have b := val_bounds (limb_take hY (n + 1))
  rw [List.length_take, Nat.min_eq_left (by omega)] at b
  apply Classical.byContradiction
  intro hn
  have : pw (n + 1) * (Y.getD (n + 1) 0 + 1) ≤ pw (n + 1) * 2147483648 := Int.mul_le_mul_of_nonneg_left (by omega) (by have := pw_pos (n + 1); omega)
  rw [Int.mul_add] at this
  omega

end Lm
end Go.Proofs.Ythbomfboohjcfaa
