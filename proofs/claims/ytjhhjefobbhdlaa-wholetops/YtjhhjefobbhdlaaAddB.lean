/-
  The contracts of addBack, moveUp and LeadingZeros32.
-/
import Derived.Test.YtjhhjefobbhdlaaTake
import Derived.Deep.QuietTactic
import Derived.BigQuiet
namespace Go.Proofs.Ytjhhjefobbhdlaa
namespace Lm
open Go.RowKit

set_option maxRecDepth 20000 in
set_option maxHeartbeats 1000000 in
theorem addBack_any (w : World) (g o n cap c2 : Nat) (cur : Array Value) (ps Y : List Int) (a2 : Option Addr)
    (hh : w.heap[g]? = some (.cells cur 51 (0, 0))) (ha : At cur .u32 o ps) (hp : Limb ps) (hpl : ps.length = n + 1) (hm : n ≤ 1000000)
    (hY : ∀ wr cur', Wr w wr g cur' 51 → Sl wr (.slice a2 n c2) Y) :
    Calls Try.prog 95 #[.slice (some ⟨g, o, none⟩) (n + 1) cap, .slice a2 n c2] w fun e w' => ∃ qs c cur', e = .returned (.tuple #[]) ∧ (0 ≤ c ∧ c ≤ 1) ∧ val qs + pw (n + 1) * c = val ps + val Y ∧ Limb qs ∧ qs.length = n + 1 ∧ Wr w w' g cur' 51 ∧ cur'.size = cur.size ∧ At cur' .u32 o qs ∧ (∀ i, i < o ∨ o + (n + 1) ≤ i → cur'[i]? = cur[i]?) := by
  obtain ⟨hYl, g1, g2, g3⟩ := (hY _ _ (Wr.refl hh)).parts
  have HP := hide hp
  have HY := hide g3
  have HYL := hide hYl
  have HPL := hide hpl
  have HH := hide hh
  have HA := hide ha
  clear hp g3 hYl hpl hh ha
  go_enter Try.func95, Try.ntmps95
  go_wp2
  go_loopw [4, 9] (fun cv i wr => ∃ (k : Nat) (c : Int) (qs : List Int) (cur' : Array Value), k ≤ n + 1 ∧ cv = .int .u64 c ∧ i = .int .i64 k ∧ (0 ≤ c ∧ c ≤ 1) ∧ qs.length = k ∧ Limb qs ∧ val qs + pw k * c = vf ps k + vf Y k ∧ Wr w wr g cur' 51 ∧ cur'.size = cur.size ∧ At cur' .u32 o (qs ++ ps.drop k) ∧ (∀ i, i < o ∨ o + (n + 1) ≤ i → cur'[i]? = cur[i]?)) (fun _ i _ => n + 1 - (intOf i).toNat)
  case atStart => exact ⟨0, 0, [], cur, Nat.zero_le _, rfl, rfl, by omega, rfl, limb_nil, by simp [val, vf, pw], Wr.refl HH.out, rfl, by simpa using HA.out, fun _ _ => rfl⟩
  case round =>
    obtain ⟨k, c, qs, cur', hk, rfl, rfl, hc, hql, hq, hval, hwr, hcs, hat, hout⟩ := hrel
    have HQL := hide hql
    have HQ := hide hq
    have HV := hide hval
    have HW := hide hwr
    have HC := hide hcs
    have HT := hide hat
    have HO := hide hout
    clear hql hq hval hwr hcs hat hout
    by_cases hlt : k < n + 1
    · have sy := hY _ _ HW.out
      have hlen : (qs ++ ps.drop k).length = n + 1 := by have := HQL.out; have := HPL.out; simp; omega
      have co := HT.out.cell HW.out.here k (by rw [hlen]; omega)
      have e1 : (qs ++ ps.drop k).getD k 0 = ps.getD k 0 := by
        rw [List.getD_eq_getElem?_getD, List.getElem?_append_right (by have := HQL.out; omega), List.getElem?_drop, List.getD_eq_getElem?_getD, HQL.out]
        congr 2
        omega
      rw [e1] at co
      have hfree := HW.out.free (o + k)
      have by' := limb_getD HY.out k
      have ba := limb_getD HP.out k
      obtain ⟨y, hy⟩ : ∃ y, Y.getD k 0 = y := ⟨_, rfl⟩
      obtain ⟨a, hpa⟩ : ∃ a, ps.getD k 0 = a := ⟨_, rfl⟩
      have ky : Hid (∀ q, Calls Try.prog 70 #[.slice a2 n c2, .int .i64 k] (wr.drewN q) fun e w' => e = .returned (.int .u32 y) ∧ w' = wr.drewN q) := by
        intro q; rw [← hy]; exact limb_nat _ _ Y (sy.below (below_drewN (Below.refl _ _) q)) k
      rw [hy] at by'
      rw [hpa] at co ba
      have hst := add_step ba by' hc rfl
      have HV' := hide (add_val HQL.out hpa hy rfl HV.out)
      have HT' := hide (HT.out.set k ((a + y + c) % 4294967296))
      have HW' := hide (HW.out.set (o + k) (.int .u32 ((a + y + c) % 4294967296)))
      have d1 : (k : Int) < (n : Int) + 1 := by omega
      clear hlen e1 hy hpa sy
      go_wp2
      go_quiet ((go_at_call 70; exact Calls.quiet_of_same (ky.out _)))
      go_wp2
      go_roundw
      case rel =>
        refine ⟨k + 1, (a + y + c) / 4294967296, qs ++ [(a + y + c) % 4294967296], _, by omega, rfl, by go_num, by omega, by have := HQL.out; simp; omega, limb_append.2 ⟨HQ.out, limb_cons.2 ⟨by omega, limb_nil⟩⟩, HV'.out, HW'.out.drewN _, by simpa using HC.out, by rw [← set_snoc qs ps k _ HQL.out (by have := HPL.out; omega)]; exact HT'.out, fun i hi => ?_⟩
        rw [Array.getElem?_setIfInBounds, if_neg (by omega)]
        exact HO.out i hi
      case measure => simp [intOf]; omega
    · have hkn : k = n + 1 := by omega
      subst hkn
      have HVf : Hid (val qs + pw (n + 1) * c = val ps + val Y) := by
        have h9 := HV.out
        rw [vf_all ps _ (by have := HPL.out; omega), vf_all Y _ (by have := HYL.out; omega)] at h9
        exact h9
      have HTf : Hid (At cur' .u32 o qs) := by
        have h9 := HT.out
        rwa [List.drop_of_length_le (by have := HPL.out; omega), List.append_nil] at h9
      go_wp2
      go_end0
      exact ⟨qs, c, cur', rfl, hc, HVf.out, HQ.out, HQL.out, HW.out, HC.out, HTf.out, HO.out⟩

end Lm
end Go.Proofs.Ytjhhjefobbhdlaa
