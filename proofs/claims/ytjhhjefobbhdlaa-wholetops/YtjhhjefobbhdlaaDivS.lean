/-
  The contract of divideShort.
-/
import Derived.Test.YtjhhjefobbhdlaaCmp
import Derived.Laws.BitsAllLaws
namespace Go.Proofs.Ytjhhjefobbhdlaa
namespace Lm
open Go.RowKit

theorem or_join (r z : Int) (h1 : 0 ≤ r) (h2 : r < 4294967296) (h3 : 0 ≤ z) (h4 : z < 4294967296) : bits .or .u64 (r * 4294967296) z = r * 4294967296 + z := by
  rw [u64_or _ _ (by omega) (by omega) h3 (by omega)]
  obtain ⟨a, rfl⟩ := Int.eq_ofNat_of_zero_le h1
  obtain ⟨b, rfl⟩ := Int.eq_ofNat_of_zero_le h3
  have e1 : ((a : Int) * 4294967296).toNat = 2 ^ 32 * a := by omega
  rw [e1, Int.toNat_natCast, ← Nat.two_pow_add_eq_or_of_lt (i := 32) (by omega)]
  omega

/-- A step of the division by a short number. -/
theorem div_step {p r z d : Int} (hd : 0 < d) (h1 : 0 ≤ r) (h2 : r < d) (h3 : 0 ≤ z) (h4 : z < 4294967296) (hp : p = r * 4294967296 + z) : 0 ≤ p ∧ 0 ≤ p / d ∧ p / d < 4294967296 ∧ 0 ≤ p % d ∧ p % d < d ∧ p = p / d * d + p % d := by
  have h5 : 0 ≤ p := by omega
  have h6 : p < 4294967296 * d := by omega
  refine ⟨h5, Int.ediv_nonneg h5 (by omega), Int.ediv_lt_of_lt_mul hd h6, Int.emod_nonneg _ (by omega), Int.emod_lt_of_pos _ hd, ?_⟩
  have := Int.mul_ediv_add_emod p d
  rw [Int.mul_comm] at this
  omega

theorem div_val {zs qs : List Int} {k : Nat} {d r z p : Int} (hz : zs.drop k = z :: zs.drop (k + 1)) (h : val (zs.drop (k + 1)) = val qs * d + r) (hp : p = r * 4294967296 + z) (hq : p = p / d * d + p % d) : val (zs.drop k) = val (p / d :: qs) * d + p % d := by
  rw [hz, val, val, h]
  generalize p / d = q at hq ⊢
  generalize p % d = t at hq ⊢
  rw [Int.add_mul, Int.mul_assoc, Int.mul_add]
  generalize q * d = a at hq ⊢
  generalize val qs * d = b
  omega

set_option maxRecDepth 20000 in
set_option maxHeartbeats 400000 in
theorem divideShort_any (w : World) (g off n cap : Nat) (cur : Array Value) (zs : List Int) (d : Int) (hd : 0 < d) (hd2 : d < 4294967296)
    (hh : w.heap[g]? = some (.cells cur 51 (0, 0))) (ha : At cur .u32 off zs) (hz : Limb zs) (hn : zs.length = n) (hm : n ≤ 1000000) :
    Calls Try.prog 82 #[.slice (some ⟨g, off, none⟩) n cap, .int .u32 d] w fun e w' => ∃ qs r cur', e = .returned (.int .u32 r) ∧ 0 ≤ r ∧ r < d ∧ val zs = val qs * d + r ∧ Limb qs ∧ qs.length = n ∧ Wr w w' g cur' 51 ∧ cur'.size = cur.size ∧ At cur' .u32 off qs := by
  subst hn
  have HH := hide hh
  have HZ := hide hz
  have HA := hide ha
  clear hh hz ha
  go_enter Try.func82, Try.ntmps82
  go_wp2
  go_loopw [5, 6] (fun rest i wr => ∃ (k : Nat) (r : Int) (qs : List Int) (cur' : Array Value), k ≤ zs.length ∧ rest = .int .u64 r ∧ i = .int .i64 ((k : Int) - 1) ∧ 0 ≤ r ∧ r < d ∧ val (zs.drop k) = val qs * d + r ∧ Limb qs ∧ qs.length + k = zs.length ∧ Wr w wr g cur' 51 ∧ cur'.size = cur.size ∧ At cur' .u32 off (zs.take k ++ qs)) (fun _ i _ => (intOf i + 1).toNat)
  case atStart => exact ⟨zs.length, 0, [], cur, Nat.le_refl _, rfl, rfl, by omega, by omega, by simp [val], limb_nil, by simp, Wr.refl HH.out, rfl, by simpa using HA.out⟩
  case round =>
    obtain ⟨k, r, qs, cur', hk, rfl, rfl, hr0, hr1, hval, hq, hql, hwr, hcs, hat⟩ := hrel
    have HV := hide hval
    have HQ := hide hq
    have HW := hide hwr
    have HT := hide hat
    have HC := hide hcs
    have HL := hide hql
    clear hval hq hwr hat hcs hql
    cases k with
    | zero =>
      go_wp2
      go_ret
      refine ⟨qs, r, cur', ?_, hr0, hr1, by simpa using HV.out, HQ.out, by simpa using HL.out, HW.out, HC.out, by simpa using HT.out⟩
      rfl
    | succ k =>
      have hcell := HT.out.cell HW.out.here k (by have := HL.out; simp; omega)
      have hfree := HW.out.free (off + k)
      have e1 : (zs.take (k + 1) ++ qs).getD k 0 = zs.getD k 0 := by
        rw [List.getD_eq_getElem?_getD, List.getElem?_append_left (by simp; omega), List.getElem?_take, if_pos (by omega), List.getD_eq_getElem?_getD]
      rw [e1] at hcell
      clear e1
      have hz := limb_getD HZ.out k
      have Hz := hide (drop_getD zs k (by omega))
      generalize zs.getD k 0 = z at hcell hz Hz
      obtain ⟨p, hp⟩ : ∃ p, p = r * 4294967296 + z := ⟨_, rfl⟩
      have hor : bits .or .u64 (r * 4294967296) z = p := by rw [hp]; exact or_join r z hr0 (by omega) hz.1 hz.2
      obtain ⟨s1, s2, s3, s4, s5, s6⟩ := div_step hd hr0 hr1 hz.1 hz.2 hp
      have HV' := hide (div_val Hz.out HV.out hp s6)
      have HQ' : Hid (Limb (p / d :: qs)) := limb_cons.2 ⟨⟨s2, s3⟩, HQ.out⟩
      have HT' := hide ((HT.out.set k (p / d)))
      have HW' := hide (HW.out.set (off + k) (.int .u32 (p / d)))
      have t1 : p.tdiv d = p / d := Int.tdiv_eq_ediv_of_nonneg s1
      have t2 : IntKind.u64.wrap (p / d) = p / d := by rw [IntKind.wrap_u64]; exact Int.emod_eq_of_lt s2 (by omega)
      have t3 : p / d % 4294967296 = p / d := Int.emod_eq_of_lt s2 s3
      clear hp s6
      go_wp2
      go_roundw
      case rel => exact ⟨k, p % d, p / d :: qs, _, by omega, rfl, rfl, s4, s5, HV'.out, HQ'.out, by have := HL.out; simp; omega, HW'.out, by simpa using HC.out, by rw [← set_cons zs qs k _ (by omega)]; exact HT'.out⟩
      case measure => simp [intOf]

end Lm
end Go.Proofs.Ytjhhjefobbhdlaa
