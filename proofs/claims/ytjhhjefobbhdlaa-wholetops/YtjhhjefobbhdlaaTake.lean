/-
  The contracts of takeTimes and addBack.
-/
import Derived.Test.YtjhhjefobbhdlaaWrap
namespace Go.Proofs.Ytjhhjefobbhdlaa
namespace Lm
open Go.RowKit

theorem take_val {ps Y qs : List Int} {k : Nat} {x y a c b t r : Int} (hk : qs.length = k) (hy : Y.getD k 0 = y) (ha : ps.getD k 0 = a) (ht : t = x * y + c) (hr : r = a - t % 4294967296 - b) (h1 : -4294967296 ≤ r) (h2 : r < 4294967296) (h : val qs - pw k * (c + b) = vf ps k - x * vf Y k) :
    val (qs ++ [r % 4294967296]) - pw (k + 1) * (t / 4294967296 + bor r) = vf ps (k + 1) - x * vf Y (k + 1) := by
  rw [val_snoc, vf, vf, ha, hy, hk, pw, sub_step h1 h2]
  have e : t = t % 4294967296 + 4294967296 * (t / 4294967296) := by omega
  have e1 : pw k * (r + 4294967296 * bor r) = pw k * r + 4294967296 * pw k * bor r := by rw [Int.mul_add, Int.mul_comm 4294967296 (pw k), Int.mul_assoc]
  have e2 : 4294967296 * pw k * (t / 4294967296 + bor r) = pw k * (4294967296 * (t / 4294967296)) + 4294967296 * pw k * bor r := by rw [Int.mul_add, Int.mul_comm 4294967296 (pw k), Int.mul_assoc]
  have e3 : pw k * (4294967296 * (t / 4294967296)) = pw k * t - pw k * (t % 4294967296) := by rw [← Int.mul_sub]; congr 1; omega
  have e4 : x * (vf Y k + pw k * y) = x * vf Y k + pw k * (x * y) := by rw [Int.mul_add, ← Int.mul_assoc x, Int.mul_comm x (pw k), Int.mul_assoc]
  have e5 : pw k * t = pw k * (x * y) + pw k * c := by rw [ht, Int.mul_add]
  have e6 : pw k * r = pw k * a - pw k * (t % 4294967296) - pw k * b := by rw [hr, Int.mul_sub, Int.mul_sub]
  have e7 : pw k * (c + b) = pw k * c + pw k * b := Int.mul_add _ _ _
  rw [e1, e2, e3, e4, e5, e6]
  omega

theorem take_carry {Y : List Int} {k : Nat} {x y c t : Int} (hy : Y.getD k 0 = y) (ht : t = x * y + c) (h : pw k * c ≤ x * vf Y k) : pw (k + 1) * (t / 4294967296) ≤ x * vf Y (k + 1) := by
  rw [vf, hy, pw]
  have e1 : 4294967296 * pw k * (t / 4294967296) = pw k * (4294967296 * (t / 4294967296)) := by rw [Int.mul_comm 4294967296 (pw k), Int.mul_assoc]
  have e2 : pw k * (4294967296 * (t / 4294967296)) ≤ pw k * t := Int.mul_le_mul_of_nonneg_left (by omega) (by have := pw_pos k; omega)
  have e3 : pw k * t = pw k * (x * y) + pw k * c := by rw [ht, Int.mul_add]
  have e4 : x * (vf Y k + pw k * y) = x * vf Y k + pw k * (x * y) := by rw [Int.mul_add, ← Int.mul_assoc x, Int.mul_comm x (pw k), Int.mul_assoc]
  omega

theorem carry_zero {Y : List Int} {n : Nat} {x c : Int} (hY : Limb Y) (hl : Y.length = n) (hx : 0 ≤ x ∧ x < 4294967296) (hc : 0 ≤ c) (h : pw (n + 1) * c ≤ x * vf Y (n + 1)) : c = 0 := by
  rw [vf_all Y _ (by omega), pw] at h
  have hb := val_bounds hY
  rw [hl] at hb
  have h1 : x * val Y ≤ 4294967295 * val Y := Int.mul_le_mul_of_nonneg_right (by omega) hb.1
  apply Classical.byContradiction
  intro hn
  have h2 : 4294967296 * pw n * 1 ≤ 4294967296 * pw n * c := Int.mul_le_mul_of_nonneg_left (by omega) (by have := pw_pos n; omega)
  omega

set_option maxRecDepth 20000 in
set_option maxHeartbeats 1000000 in
theorem takeTimes_any (w : World) (g o n cap c2 : Nat) (cur : Array Value) (ps Y : List Int) (a2 : Option Addr) (x : Int) (hx : 0 ≤ x ∧ x < 4294967296)
    (hh : w.heap[g]? = some (.cells cur 51 (0, 0))) (ha : At cur .u32 o ps) (hp : Limb ps) (hpl : ps.length = n + 1) (hm : n ≤ 1000000)
    (hY : ∀ wr cur', Wr w wr g cur' 51 → Sl wr (.slice a2 n c2) Y) :
    Calls Try.prog 94 #[.slice (some ⟨g, o, none⟩) (n + 1) cap, .slice a2 n c2, .int .u32 x] w fun e w' => ∃ qs b cur', e = .returned (.bool (b != 0)) ∧ (0 ≤ b ∧ b ≤ 1) ∧ val qs - pw (n + 1) * b = val ps - x * val Y ∧ Limb qs ∧ qs.length = n + 1 ∧ Wr w w' g cur' 51 ∧ cur'.size = cur.size ∧ At cur' .u32 o qs ∧ (∀ i, i < o ∨ o + (n + 1) ≤ i → cur'[i]? = cur[i]?) := by
  obtain ⟨hYl, g1, g2, g3⟩ := (hY _ _ (Wr.refl hh)).parts
  have HP := hide hp
  have HY := hide g3
  have HYL := hide hYl
  have HPL := hide hpl
  have HH := hide hh
  have HA := hide ha
  clear hp g3 hYl hpl hh ha
  go_enter Try.func94, Try.ntmps94
  go_wp2
  go_loopw [7, 8, 14] (fun cv bv i wr => ∃ (k : Nat) (c b : Int) (qs : List Int) (cur' : Array Value), k ≤ n + 1 ∧ cv = .int .u64 c ∧ bv = .int .i64 b ∧ i = .int .i64 k ∧ (0 ≤ c ∧ c < 4294967296) ∧ (0 ≤ b ∧ b ≤ 1) ∧ qs.length = k ∧ Limb qs ∧ val qs - pw k * (c + b) = vf ps k - x * vf Y k ∧ pw k * c ≤ x * vf Y k ∧ Wr w wr g cur' 51 ∧ cur'.size = cur.size ∧ At cur' .u32 o (qs ++ ps.drop k) ∧ (∀ i, i < o ∨ o + (n + 1) ≤ i → cur'[i]? = cur[i]?)) (fun _ _ i _ => n + 1 - (intOf i).toNat)
  case atStart => exact ⟨0, 0, 0, [], cur, Nat.zero_le _, rfl, rfl, rfl, by omega, by omega, rfl, limb_nil, by simp [val, vf, pw], by simp [vf], Wr.refl HH.out, rfl, by simpa using HA.out, fun _ _ => rfl⟩
  case round =>
    obtain ⟨k, c, b, qs, cur', hk, rfl, rfl, rfl, hc, hbb, hql, hq, hval, hcar, hwr, hcs, hat, hout⟩ := hrel
    have HQL := hide hql
    have HQ := hide hq
    have HV := hide hval
    have HCar := hide hcar
    have HW := hide hwr
    have HC := hide hcs
    have HT := hide hat
    have HO := hide hout
    clear hql hq hval hcar hwr hcs hat hout
    by_cases hlt : k < n + 1
    · have sy := hY _ _ HW.out
      have hlen : (qs ++ ps.drop k).length = n + 1 := by have := HQL.out; have := HPL.out; simp; omega
      have co := HT.out.cell HW.out.here k (by rw [hlen]; omega)
      have e1 : (qs ++ ps.drop k).getD k 0 = ps.getD k 0 := by
        rw [List.getD_eq_getElem?_getD, List.getElem?_append_right (by have := HQL.out; omega), List.getElem?_drop, List.getD_eq_getElem?_getD, HQL.out]
        congr 2
        omega
      rw [e1] at co
      have hfree := HW.out.free (o + k)
      have by' := limb_getD HY.out k
      have ba := limb_getD HP.out k
      obtain ⟨y, hy⟩ : ∃ y, Y.getD k 0 = y := ⟨_, rfl⟩
      obtain ⟨a, hpa⟩ : ∃ a, ps.getD k 0 = a := ⟨_, rfl⟩
      have ky : Hid (Calls Try.prog 70 #[.slice a2 n c2, .int .i64 k] wr fun e w' => e = .returned (.int .u32 y) ∧ w' = wr) := by rw [← hy]; exact limb_nat _ _ Y sy k
      rw [hy] at by'
      rw [hpa] at co ba
      have hxy := mul_bound hx by'
      have s0 : 0 ≤ (x * y + c) % 4294967296 ∧ (x * y + c) % 4294967296 < 4294967296 := by omega
      have s1 : -4294967296 ≤ a - (x * y + c) % 4294967296 - b := by omega
      have s2 : a - (x * y + c) % 4294967296 - b < 4294967296 := by omega
      have hand := and_bor s1 s2
      have hbo := bor_01 (a - (x * y + c) % 4294967296 - b)
      have HV' := hide (take_val (x := x) HQL.out hy hpa rfl rfl s1 s2 HV.out)
      have HCar' := hide (take_carry (x := x) hy rfl HCar.out)
      have HT' := hide (HT.out.set k ((a - (x * y + c) % 4294967296 - b) % 4294967296))
      have HW' := hide (HW.out.set (o + k) (.int .u32 ((a - (x * y + c) % 4294967296 - b) % 4294967296)))
      have d1 : (k : Int) < (n : Int) + 1 := by omega
      clear hlen e1 hy hpa sy
      go_wp2_with fail
      refine (ky.out).mono ?_
      rintro e w2 ⟨rfl, rfl⟩
      go_wp2
      go_roundw
      case rel =>
        refine ⟨k + 1, (x * y + c) / 4294967296, _, qs ++ [(a - (x * y + c) % 4294967296 - b) % 4294967296], _, by omega, rfl, rfl, by go_num, by omega, hbo, by have := HQL.out; simp; omega, limb_append.2 ⟨HQ.out, limb_cons.2 ⟨by omega, limb_nil⟩⟩, HV'.out, HCar'.out, HW'.out, by simpa using HC.out, by rw [← set_snoc qs ps k _ HQL.out (by have := HPL.out; omega)]; exact HT'.out, fun i hi => ?_⟩
        rw [Array.getElem?_setIfInBounds, if_neg (by omega)]
        exact HO.out i hi
      case measure => simp [intOf]; omega
    · have hkn : k = n + 1 := by omega
      subst hkn
      have hc0 := carry_zero HY.out HYL.out.symm hx hc.1 HCar.out
      have HVf : Hid (val qs - pw (n + 1) * b = val ps - x * val Y) := by
        have h9 := HV.out
        rw [hc0, Int.zero_add, vf_all ps _ (by have := HPL.out; omega), vf_all Y _ (by have := HYL.out; omega)] at h9
        exact h9
      have HTf : Hid (At cur' .u32 o qs) := by
        have h9 := HT.out
        rwa [List.drop_of_length_le (by have := HPL.out; omega), List.append_nil] at h9
      clear hc0
      go_wp2
      go_ret
      exact ⟨qs, b, cur', rfl, hbb, HVf.out, HQ.out, HQL.out, HW.out, HC.out, HTf.out, HO.out⟩

end Lm
end Go.Proofs.Ytjhhjefobbhdlaa
