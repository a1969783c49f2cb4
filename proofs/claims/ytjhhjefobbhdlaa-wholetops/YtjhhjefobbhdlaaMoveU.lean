/-
  The contracts of LeadingZeros32 and moveUp.
-/
import Derived.Test.YtjhhjefobbhdlaaWrap
namespace Go.Proofs.Ytjhhjefobbhdlaa
namespace Lm
open Go.RowKit

set_option maxRecDepth 20000 in
set_option maxHeartbeats 400000 in
theorem lead_any (x : Int) (w : World) (h0 : 0 ≤ x) (h1 : x < 4294967296) :
    Calls Try.prog 91 #[.int .u32 x] w fun e w' => e = .returned (.int .i64 (32 - (Lib.bitLen x.toNat : Nat))) ∧ w' = w := by
  have hl : Lib.bitLen x.toNat ≤ 32 := Lib.bitLen_le _ 32 (by omega) (by omega)
  have kl := hide (len32_any x w h0 h1)
  generalize Lib.bitLen x.toNat = l at hl kl
  go_enter Try.func91, Try.ntmps91
  go_wp2_with fail
  refine (kl.out).mono ?_
  rintro e w' ⟨rfl, rfl⟩
  go_wp2
  go_ret
  exact ⟨rfl, rfl⟩

theorem p2_pow (s : Nat) : (2 : Int) ^ s = p2 s := by
  induction s with
  | zero => rfl
  | succ s ih => rw [Int.pow_succ, ih, p2]; omega

theorem nat_p2 (s : Nat) : ((2 ^ s : Nat) : Int) = p2 s := by
  induction s with
  | zero => rfl
  | succ s ih => rw [Nat.pow_succ, p2]; omega

theorem up_bound {x c : Int} {s : Nat} (h1 : 0 ≤ x) (h2 : x < 4294967296) (hs : s ≤ 31) (h3 : 0 ≤ c) (h4 : c < p2 s) : 0 ≤ x * p2 s + c ∧ x * p2 s + c < 4294967296 * p2 s ∧ x * p2 s + c < 9223372036854775808 ∧ 0 ≤ x * p2 s := by
  have hp := p2_pos s
  have hp2 := p2_mono (m := s) (n := 31) hs
  rw [show p2 31 = 2147483648 from by decide] at hp2
  have e1 : 0 ≤ x * p2 s := Int.mul_nonneg h1 (by omega)
  have e2 : (x + 1) * p2 s ≤ 4294967296 * p2 s := Int.mul_le_mul_of_nonneg_right (by omega) (by omega)
  rw [Int.add_mul] at e2
  omega

theorem or_shift {x c : Int} {s : Nat} (h1 : 0 ≤ x) (h2 : x < 4294967296) (hs : s ≤ 31) (h3 : 0 ≤ c) (h4 : c < p2 s) : bits .or .u64 (IntKind.u64.wrap (x * 2 ^ s)) c = x * p2 s + c := by
  have hb := up_bound h1 h2 hs h3 h4
  have hp := p2_pos s
  rw [p2_pow, IntKind.wrap_u64, Int.emod_eq_of_lt hb.2.2.2 (by omega), u64_or _ _ hb.2.2.2 (by omega) h3 (by omega)]
  obtain ⟨a, rfl⟩ := Int.eq_ofNat_of_zero_le h1
  obtain ⟨d, rfl⟩ := Int.eq_ofNat_of_zero_le h3
  have e1 : ((a : Int) * p2 s).toNat = 2 ^ s * a := by
    rw [← nat_p2, Int.mul_comm, ← Int.natCast_mul, Int.toNat_natCast]
  have hd : d < 2 ^ s := by have := nat_p2 s; omega
  rw [e1, Int.toNat_natCast, ← Nat.two_pow_add_eq_or_of_lt hd, Int.natCast_add, Int.natCast_mul, nat_p2, Int.mul_comm]

theorem up_val {zs qs : List Int} {k : Nat} {z c m t : Int} (hk : qs.length = k) (hz : zs.getD k 0 = z) (hs : t = z * m + c) (h : val qs + pw k * c = vf zs k * m) :
    val (qs ++ [t % 4294967296]) + pw (k + 1) * (t / 4294967296) = vf zs (k + 1) * m := by
  rw [val_snoc, vf, hz, hk, pw, Int.add_mul]
  have e : t = t % 4294967296 + 4294967296 * (t / 4294967296) := by omega
  have e2 : pw k * (t % 4294967296) + 4294967296 * pw k * (t / 4294967296) = pw k * t := by
    rw [Int.mul_comm 4294967296 (pw k), Int.mul_assoc, ← Int.mul_add, ← e]
  have e3 : pw k * z * m = pw k * (z * m) := by rw [Int.mul_assoc]
  rw [Int.add_assoc, e2, hs, Int.mul_add, e3]
  omega

set_option maxRecDepth 20000 in
set_option maxHeartbeats 1000000 in
theorem moveUp_any (w : World) (ao : Option Addr) (n cap : Nat) (xs : List Int) (hx : Sl w (.slice ao n cap) xs) (s : Nat) (hs : s ≤ 31) (hm : xs.length ≤ 1000000) :
    Calls Try.prog 92 #[.slice ao n cap, .int .u64 s] w fun e w' => ∃ cur qs, e = .returned (.slice (some ⟨w.heap.size, 0, none⟩) (n + 1) (n + 1)) ∧ Limb qs ∧ qs.length = n + 1 ∧ val qs = val xs * p2 s ∧ w'.heap[w.heap.size]? = some (.cells cur 51 (0, 0)) ∧ cur.size = n + 1 ∧ At cur .u32 0 qs ∧ Below w.heap.size w w' := by
  obtain ⟨rfl, h1, h2, h3⟩ := hx.parts
  obtain ⟨i0, hi, hz0, hz1, hz2⟩ := info_parts info32
  have H3 := hide h3
  have hp := p2_pos s
  have hp2 := p2_mono (m := s) (n := 31) hs
  rw [show p2 31 = 2147483648 from by decide] at hp2
  clear h3
  go_enter Try.func92, Try.ntmps92
  go_wp2_with (refine wpList_make_full _ rfl (.tmp 12) (.tmp 12) 22 rfl w.heap.size 51 i0 (.int .u32 0) 1 Try.underlying22 hi hz0 hz1 .i64 .i64 _ _ (xs.length + 1) rfl rfl (by omega) (by omega) (by rw [hz2]; omega) (by unfold maxLen; omega) (Nat.le_refl _) ?hK)
  case hK =>
    intro w1 hown hgrow
    obtain ⟨_, cur, hh, hcs, hat⟩ := block_of_made hown
    have hb1 : Below w.heap.size w w1 := (Below.refl w.heap.size w).grown hgrow (Nat.le_refl _) (by simp)
    have HH := hide hh
    have HS := hide hcs
    have HA := hide hat
    clear hown hgrow hh hcs hat
    go_wp2
    go_loopw [6, 16] (fun cv i wr => ∃ (k : Nat) (c : Int) (qs : List Int) (cur' : Array Value), k ≤ xs.length ∧ cv = .int .u64 c ∧ i = .int .i64 k ∧ (0 ≤ c ∧ c < p2 s) ∧ qs.length = k ∧ Limb qs ∧ val qs + pw k * c = vf xs k * p2 s ∧ Wr w1 wr w.heap.size cur' 51 ∧ cur'.size = xs.length + 1 ∧ At cur' .u32 0 (qs ++ (List.replicate (xs.length + 1) 0).drop k)) (fun _ i _ => xs.length - (intOf i).toNat)
    case atStart => exact ⟨0, 0, [], cur, Nat.zero_le _, rfl, rfl, by omega, rfl, limb_nil, by simp [val, vf, pw], Wr.refl HH.out, HS.out, by simpa using HA.out⟩
    case round =>
      obtain ⟨k, c, qs, cur', hk, rfl, rfl, hcb, hql, hq, hval, hwr, hcs, hat⟩ := hrel
      have HQL := hide hql
      have HQ := hide hq
      have HV := hide hval
      have HW := hide hwr
      have HC := hide hcs
      have HT := hide hat
      clear hql hq hval hwr hcs hat
      by_cases hlt : k < xs.length
      · have sx := HW.out.sl (Nat.le_refl _) hb1 rfl hx
        obtain ⟨b, off, rfl, hcx⟩ := sx.cells (by omega)
        have cx := hcx k (by omega)
        have bx := limb_getD H3.out k
        obtain ⟨x, hxk⟩ : ∃ x, xs.getD k 0 = x := ⟨_, rfl⟩
        rw [hxk] at cx bx
        have hlen : (qs ++ (List.replicate (xs.length + 1) (0 : Int)).drop k).length = xs.length + 1 := by have := HQL.out; simp; omega
        have hcell := HT.out.cell HW.out.here k (by rw [hlen]; omega)
        rw [Nat.zero_add] at hcell
        generalize (qs ++ (List.replicate (xs.length + 1) (0 : Int)).drop k).getD k 0 = old at hcell
        have hfree := HW.out.free k
        obtain ⟨M, hM⟩ : ∃ M, M = x * p2 s + c := ⟨_, rfl⟩
        have hor : bits .or .u64 (IntKind.u64.wrap (x * 2 ^ s)) c = M := by rw [hM]; exact or_shift bx.1 bx.2 hs hcb.1 hcb.2
        have hmb := up_bound bx.1 bx.2 hs hcb.1 hcb.2
        rw [← hM] at hmb
        have m1 := hmb.1
        have m2 := hmb.2.1
        have m3 := hmb.2.2.1
        have HV' := hide (up_val HQL.out hxk hM HV.out)
        have HT' := hide (HT.out.set k (M % 4294967296))
        have HW' := hide (HW.out.set k (.int .u32 (M % 4294967296)))
        clear hlen sx hcx hM hmb hxk
        go_wp2
        go_roundw
        case rel => exact ⟨k + 1, M / 4294967296, qs ++ [M % 4294967296], _, by omega, rfl, by go_num, by omega, by have := HQL.out; simp; omega, limb_append.2 ⟨HQ.out, limb_cons.2 ⟨by omega, limb_nil⟩⟩, HV'.out, HW'.out, by simpa using HC.out, by rw [← set_snoc qs _ k _ HQL.out (by simp; omega)]; simpa using HT'.out⟩
        case measure => simp [intOf]; omega
      · have hkM : k = xs.length := by omega
        subst hkM
        have hlen : (qs ++ (List.replicate (xs.length + 1) (0 : Int)).drop xs.length).length = xs.length + 1 := by have := HQL.out; simp; omega
        have hcell := HT.out.cell HW.out.here xs.length (by rw [hlen]; omega)
        rw [Nat.zero_add] at hcell
        have hfree := HW.out.free xs.length
        generalize hold : (qs ++ (List.replicate (xs.length + 1) (0 : Int)).drop xs.length).getD xs.length 0 = old at hcell
        have hat2 := HT.out.set xs.length c
        rw [set_snoc qs _ xs.length c HQL.out (by simp), List.drop_of_length_le (by simp), List.append_nil, Nat.zero_add] at hat2
        have hw2 := HW.out.set xs.length (.int .u32 c)
        have hlr : Limb (qs ++ [c]) := limb_append.2 ⟨HQ.out, limb_cons.2 ⟨by omega, limb_nil⟩⟩
        have R := hide (And.intro hat2 (And.intro hw2 (And.intro hlr (show val (qs ++ [c]) = val xs * p2 s by
          rw [val_snoc, HQL.out, HV.out, vf_all xs _ (Nat.le_refl _)]))))
        have hbel : Below w.heap.size w (wr.setCell ⟨w.heap.size, xs.length, none⟩ (.int .u32 c)) := hb1.trans (hw2.below (Nat.le_refl _))
        have hc2 : c < 4294967296 := by omega
        clear hat2 hw2 hlr hlen hold
        go_wp2
        go_ret
        exact ⟨_, qs ++ [c], rfl, R.out.2.2.1, by have := HQL.out; simp; omega, R.out.2.2.2, R.out.2.1.here, by simpa using HC.out, R.out.1, hbel⟩

end Lm
end Go.Proofs.Ytjhhjefobbhdlaa
