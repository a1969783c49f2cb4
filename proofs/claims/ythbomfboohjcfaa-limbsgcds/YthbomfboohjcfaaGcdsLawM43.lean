/-
  The contract of the reference's DivMod, of naturals. The contracts of takeTimes and addBack. The contracts of addBack, moveUp and LeadingZeros32. The contracts of LeadingZeros32 and moveUp.
-/
import Derived.Test.YthbomfboohjcfaaGcdsLawM42
import Derived.Test.YthbomfboohjcfaaWrap
import Derived.Deep.QuietTactic
import Derived.BigQuiet
namespace Go.Proofs.Ythbomfboohjcfaa
namespace Dm
open Go.RowKit
open Lm (hide lt_of_cell lt_of_heap cmpI cmpI_lt cmpI_gt)

theorem boxed4 (w : World) (nx : Bool) (vx : Value) (ny : Bool) (vy : Value) : ∃ w0 : World, (((w.alloc (.cells #[.bool nx, vx] 56)).alloc (.cells #[.bool ny, vy] 56)).alloc (.cells #[.bool false, .slice none 0 0] 56)).alloc (.cells #[.bool false, .slice none 0 0] 56) = w0 ∧ Box w0 w.heap.size nx vx ∧ Box w0 (w.heap.size + 1) ny vy ∧ Box w0 (w.heap.size + 1 + 1) false (.slice none 0 0) ∧ Box w0 (w.heap.size + 1 + 1 + 1) false (.slice none 0 0) ∧ Below w.heap.size w w0 ∧ w0.heap.size = w.heap.size + 4 := by
  obtain ⟨w0, e0, bx, by', br, hb0, hs0⟩ := boxed3 w nx vx ny vy
  obtain ⟨b5, hb5, hs5⟩ := boxed w0 false (.slice none 0 0)
  rw [e0]
  refine ⟨_, rfl, bx.below hb5, by'.below hb5, br.below hb5, ?_, hb0.trans (hb5.mono hb0.size), by rw [hs5, hs0]⟩
  rw [hs0] at b5
  exact b5

set_option maxRecDepth 20000 in
set_option maxHeartbeats 1000000 in
theorem ndivmod_nat (w : World) (a1 : Option Addr) (c1 : Nat) (A : List Int) (x : Int) (hx : Got w a1 c1 A x) (a2 : Option Addr) (c2 : Nat) (B : List Int) (y : Int) (hy : Got w a2 c2 B y) (m1 : A.length ≤ 300000) (m2 : B.length ≤ 300000) (y0 : 0 < B.length) :
    Calls Try.prog 51 #[.agg #[.bool false, .slice a1 A.length c1], .agg #[.bool false, .slice a2 B.length c2]] w fun e w' => ∃ nq pq qq Q nr pr qr R, e = .returned (.tuple #[.agg #[.bool nq, .slice pq Q.length qq], .agg #[.bool nr, .slice pr R.length qr]]) ∧ Wh w' nq pq qq Q (x / y) ∧ Wh w' nr pr qr R (x % y) ∧ Q.length ≤ A.length ∧ R.length ≤ B.length ∧ Below w.heap.size w w' := by
  obtain ⟨w0, e0, bx, by', b4, b5, hb0, hs0⟩ := boxed4 w false (.slice a1 A.length c1) false (.slice a2 B.length c2)
  have E0 := hide e0
  have hx0 := hx.below hb0
  have hy0 := hy.below hb0
  obtain ⟨_, p1, p2, p3⟩ := hx.sl.parts
  obtain ⟨_, q1, q2, q3⟩ := hy.sl.parts
  clear p3 q3 e0
  go_enter Try.func51, Try.ntmps51
  obtain ⟨bx1, bx2, bx3, bx4⟩ := bx.facts
  obtain ⟨by1, by2, by3, by4⟩ := by'.facts
  go_upto_region 1 with fail
  rw [E0.out]
  go_wp2_with fail
  refine (divided_g _ _ _ _ A _ hx0 _ _ _ B _ hy0 m1 m2 y0).mono ?_
  rintro e w1 ⟨nq, pq, qq, Q, nr, pr, qr, R, rfl, GQ, GR, lQ, lR, hb1⟩
  obtain ⟨w2, e2, bq, bz, hb2, hs2⟩ := boxed2 w1 nq (.slice pq Q.length qq) nr (.slice pr R.length qr)
  have z1 := hb1.size
  have HB := hb0.trans (hb1.mono hb0.size)
  replace HB := HB.trans (hb2.mono HB.size)
  replace bx := (bx.below hb1).below hb2
  replace by' := (by'.below hb1).below hb2
  replace b4 := (b4.below hb1).below hb2
  replace b5 := (b5.below hb1).below hb2
  replace GQ := GQ.below hb2
  replace GR := GR.below hb2
  have E2 := hide e2
  clear e2 bx1 bx2 bx3 bx4 by1 by2 by3 by4 hb1 hb2 E0
  go_upto_region 2 with fail
  rw [E2.out]
  clear E2
  obtain ⟨bx1, bx2, bx3, bx4⟩ := bx.facts
  obtain ⟨by1, by2, by3, by4⟩ := by'.facts
  have ne1 : ¬ (w.heap.size + 1 + 1 = w1.heap.size) := by omega
  have ne2 : ¬ (w.heap.size + 1 + 1 + 1 = w1.heap.size) := by omega
  have ne3 : ¬ (w.heap.size + 1 = w1.heap.size) := by omega
  obtain ⟨bq1, bq2, bq3, bq4⟩ := bq.facts
  obtain ⟨bz1, bz2, bz3, bz4⟩ := bz.facts
  obtain ⟨b41, b42, b43, b44⟩ := b4.facts
  obtain ⟨b51, b52, b53, b54⟩ := b5.facts
  have F1 := hide (box_other (b4.set nq (.slice pq Q.length qq)) (show w.heap.size + 1 + 1 ≠ w.heap.size + 1 + 1 + 1 by omega) (.bool nr) (.slice pr R.length qr)).facts
  have b5' := box_other b5 (show w.heap.size + 1 + 1 + 1 ≠ w.heap.size + 1 + 1 by omega) (.bool nq) (.slice pq Q.length qq)
  have F2 := hide (b5'.set nr (.slice pr R.length qr)).facts
  have Y1 := hide (b5'.wh nr (.slice pr R.length qr) (b4.wh nq (.slice pq Q.length qq) GQ))
  have Y2 := hide (b5'.wh nr (.slice pr R.length qr) (b4.wh nq (.slice pq Q.length qq) GR))
  have Z2 := hide (below_set2 (below_set2 HB (show w.heap.size ≤ w.heap.size + 1 + 1 by omega) (.bool nq) (.slice pq Q.length qq)) (show w.heap.size ≤ w.heap.size + 1 + 1 + 1 by omega) (.bool nr) (.slice pr R.length qr))
  go_wp2_with fail
  go_region_held3 (fun w' => w'.cell? ⟨w1.heap.size, 0, none⟩ = some (.bool nq) ∧ w'.cell? ⟨w1.heap.size, 1, none⟩ = some (.slice pq Q.length qq) ∧ w'.cell? ⟨w1.heap.size + 1, 0, none⟩ = some (.bool nr) ∧ w'.cell? ⟨w1.heap.size + 1, 1, none⟩ = some (.slice pr R.length qr)) (go_keep) (fail)
  all_goals
    go_wp2
    refine bodyPost_ret (v := .tuple #[.agg #[.bool nq, .slice pq Q.length qq], .agg #[.bool nr, .slice pr R.length qr]]) ?_ rfl ⟨nq, pq, qq, Q, nr, pr, qr, R, rfl, Y1.out, Y2.out, by omega, by omega, Below.drew Z2.out⟩
    simp [results, Try.results51, go_sem, F1.out.1, F1.out.2.1, F2.out.1, F2.out.2.1]

end Dm
end Go.Proofs.Ythbomfboohjcfaa

namespace Go.Proofs.Ythbomfboohjcfaa
namespace Lm
open Go.RowKit

theorem take_val {ps Y qs : List Int} {k : Nat} {x y a c b t r : Int} (hk : qs.length = k) (hy : Y.getD k 0 = y) (ha : ps.getD k 0 = a) (ht : t = x * y + c) (hr : r = a - t % 4294967296 - b) (h1 : -4294967296 ≤ r) (h2 : r < 4294967296) (h : val qs - pw k * (c + b) = vf ps k - x * vf Y k) :
    val (qs ++ [r % 4294967296]) - pw (k + 1) * (t / 4294967296 + bor r) = vf ps (k + 1) - x * vf Y (k + 1) := by
  rw [val_snoc, vf, vf, ha, hy, hk, pw, sub_step h1 h2]
  have e : t = t % 4294967296 + 4294967296 * (t / 4294967296) := by omega
  have e1 : pw k * (r + 4294967296 * bor r) = pw k * r + 4294967296 * pw k * bor r := by rw [Int.mul_add, Int.mul_comm 4294967296 (pw k), Int.mul_assoc]
  have e2 : 4294967296 * pw k * (t / 4294967296 + bor r) = pw k * (4294967296 * (t / 4294967296)) + 4294967296 * pw k * bor r := by rw [Int.mul_add, Int.mul_comm 4294967296 (pw k), Int.mul_assoc]
  have e3 : pw k * (4294967296 * (t / 4294967296)) = pw k * t - pw k * (t % 4294967296) := by rw [← Int.mul_sub]; congr 1; omega
  have e4 : x * (vf Y k + pw k * y) = x * vf Y k + pw k * (x * y) := by rw [Int.mul_add, ← Int.mul_assoc x, Int.mul_comm x (pw k), Int.mul_assoc]
  have e5 : pw k * t = pw k * (x * y) + pw k * c := by rw [ht, Int.mul_add]
  have e6 : pw k * r = pw k * a - pw k * (t % 4294967296) - pw k * b := by rw [hr, Int.mul_sub, Int.mul_sub]
  have e7 : pw k * (c + b) = pw k * c + pw k * b := Int.mul_add _ _ _
  rw [e1, e2, e3, e4, e5, e6]
  omega

theorem take_carry {Y : List Int} {k : Nat} {x y c t : Int} (hy : Y.getD k 0 = y) (ht : t = x * y + c) (h : pw k * c ≤ x * vf Y k) : pw (k + 1) * (t / 4294967296) ≤ x * vf Y (k + 1) := by
  rw [vf, hy, pw]
  have e1 : 4294967296 * pw k * (t / 4294967296) = pw k * (4294967296 * (t / 4294967296)) := by rw [Int.mul_comm 4294967296 (pw k), Int.mul_assoc]
  have e2 : pw k * (4294967296 * (t / 4294967296)) ≤ pw k * t := Int.mul_le_mul_of_nonneg_left (by omega) (by have := pw_pos k; omega)
  have e3 : pw k * t = pw k * (x * y) + pw k * c := by rw [ht, Int.mul_add]
  have e4 : x * (vf Y k + pw k * y) = x * vf Y k + pw k * (x * y) := by rw [Int.mul_add, ← Int.mul_assoc x, Int.mul_comm x (pw k), Int.mul_assoc]
  omega

theorem carry_zero {Y : List Int} {n : Nat} {x c : Int} (hY : Limb Y) (hl : Y.length = n) (hx : 0 ≤ x ∧ x < 4294967296) (hc : 0 ≤ c) (h : pw (n + 1) * c ≤ x * vf Y (n + 1)) : c = 0 := by
  rw [vf_all Y _ (by omega), pw] at h
  have hb := val_bounds hY
  rw [hl] at hb
  have h1 : x * val Y ≤ 4294967295 * val Y := Int.mul_le_mul_of_nonneg_right (by omega) hb.1
  apply Classical.byContradiction
  intro hn
  have h2 : 4294967296 * pw n * 1 ≤ 4294967296 * pw n * c := Int.mul_le_mul_of_nonneg_left (by omega) (by have := pw_pos n; omega)
  omega

set_option maxRecDepth 20000 in
set_option maxHeartbeats 1000000 in
theorem takeTimes_any (w : World) (g o n cap c2 : Nat) (cur : Array Value) (ps Y : List Int) (a2 : Option Addr) (x : Int) (hx : 0 ≤ x ∧ x < 4294967296)
    (hh : w.heap[g]? = some (.cells cur 47 (0, 0))) (ha : At cur .u32 o ps) (hp : Limb ps) (hpl : ps.length = n + 1) (hm : n ≤ 1000000)
    (hY : ∀ wr cur', Wr w wr g cur' 47 → Sl wr (.slice a2 n c2) Y) :
    Calls Try.prog 76 #[.slice (some ⟨g, o, none⟩) (n + 1) cap, .slice a2 n c2, .int .u32 x] w fun e w' => ∃ qs b cur', e = .returned (.bool (b != 0)) ∧ (0 ≤ b ∧ b ≤ 1) ∧ val qs - pw (n + 1) * b = val ps - x * val Y ∧ Limb qs ∧ qs.length = n + 1 ∧ Wr w w' g cur' 47 ∧ cur'.size = cur.size ∧ At cur' .u32 o qs ∧ (∀ i, i < o ∨ o + (n + 1) ≤ i → cur'[i]? = cur[i]?) := by
  obtain ⟨hYl, g1, g2, g3⟩ := (hY _ _ (Wr.refl hh)).parts
  have HP := hide hp
  have HY := hide g3
  have HYL := hide hYl
  have HPL := hide hpl
  have HH := hide hh
  have HA := hide ha
  clear hp g3 hYl hpl hh ha
  go_enter Try.func76, Try.ntmps76
  go_wp2
  go_loopw [7, 8, 14] (fun cv bv i wr => ∃ (k : Nat) (c b : Int) (qs : List Int) (cur' : Array Value), k ≤ n + 1 ∧ cv = .int .u64 c ∧ bv = .int .i64 b ∧ i = .int .i64 k ∧ (0 ≤ c ∧ c < 4294967296) ∧ (0 ≤ b ∧ b ≤ 1) ∧ qs.length = k ∧ Limb qs ∧ val qs - pw k * (c + b) = vf ps k - x * vf Y k ∧ pw k * c ≤ x * vf Y k ∧ Wr w wr g cur' 47 ∧ cur'.size = cur.size ∧ At cur' .u32 o (qs ++ ps.drop k) ∧ (∀ i, i < o ∨ o + (n + 1) ≤ i → cur'[i]? = cur[i]?)) (fun _ _ i _ => n + 1 - (intOf i).toNat)
  case atStart => exact ⟨0, 0, 0, [], cur, Nat.zero_le _, rfl, rfl, rfl, by omega, by omega, rfl, limb_nil, by simp [val, vf, pw], by simp [vf], Wr.refl HH.out, rfl, by simpa using HA.out, fun _ _ => rfl⟩
  case round =>
    obtain ⟨k, c, b, qs, cur', hk, rfl, rfl, rfl, hc, hbb, hql, hq, hval, hcar, hwr, hcs, hat, hout⟩ := hrel
    have HQL := hide hql
    have HQ := hide hq
    have HV := hide hval
    have HCar := hide hcar
    have HW := hide hwr
    have HC := hide hcs
    have HT := hide hat
    have HO := hide hout
    clear hql hq hval hcar hwr hcs hat hout
    by_cases hlt : k < n + 1
    · have sy := hY _ _ HW.out
      have hlen : (qs ++ ps.drop k).length = n + 1 := by have := HQL.out; have := HPL.out; simp; omega
      have co := HT.out.cell HW.out.here k (by rw [hlen]; omega)
      have e1 : (qs ++ ps.drop k).getD k 0 = ps.getD k 0 := by
        rw [List.getD_eq_getElem?_getD, List.getElem?_append_right (by have := HQL.out; omega), List.getElem?_drop, List.getD_eq_getElem?_getD, HQL.out]
        congr 2
        omega
      rw [e1] at co
      have hfree := HW.out.free (o + k)
      have by' := limb_getD HY.out k
      have ba := limb_getD HP.out k
      obtain ⟨y, hy⟩ : ∃ y, Y.getD k 0 = y := ⟨_, rfl⟩
      obtain ⟨a, hpa⟩ : ∃ a, ps.getD k 0 = a := ⟨_, rfl⟩
      have ky : Hid (Calls Try.prog 47 #[.slice a2 n c2, .int .i64 k] wr fun e w' => e = .returned (.int .u32 y) ∧ w' = wr) := by rw [← hy]; exact limb_nat _ _ Y sy k
      rw [hy] at by'
      rw [hpa] at co ba
      have hxy := mul_bound hx by'
      have s0 : 0 ≤ (x * y + c) % 4294967296 ∧ (x * y + c) % 4294967296 < 4294967296 := by omega
      have s1 : -4294967296 ≤ a - (x * y + c) % 4294967296 - b := by omega
      have s2 : a - (x * y + c) % 4294967296 - b < 4294967296 := by omega
      have hand := and_bor s1 s2
      have hbo := bor_01 (a - (x * y + c) % 4294967296 - b)
      have HV' := hide (take_val (x := x) HQL.out hy hpa rfl rfl s1 s2 HV.out)
      have HCar' := hide (take_carry (x := x) hy rfl HCar.out)
      have HT' := hide (HT.out.set k ((a - (x * y + c) % 4294967296 - b) % 4294967296))
      have HW' := hide (HW.out.set (o + k) (.int .u32 ((a - (x * y + c) % 4294967296 - b) % 4294967296)))
      have d1 : (k : Int) < (n : Int) + 1 := by omega
      clear hlen e1 hy hpa sy
      go_wp2_with fail
      refine (ky.out).mono ?_
      rintro e w2 ⟨rfl, rfl⟩
      go_wp2
      go_roundw
      case rel =>
        refine ⟨k + 1, (x * y + c) / 4294967296, _, qs ++ [(a - (x * y + c) % 4294967296 - b) % 4294967296], _, by omega, rfl, rfl, by go_num, by omega, hbo, by have := HQL.out; simp; omega, limb_append.2 ⟨HQ.out, limb_cons.2 ⟨by omega, limb_nil⟩⟩, HV'.out, HCar'.out, HW'.out, by simpa using HC.out, by rw [← set_snoc qs ps k _ HQL.out (by have := HPL.out; omega)]; exact HT'.out, fun i hi => ?_⟩
        rw [Array.getElem?_setIfInBounds, if_neg (by omega)]
        exact HO.out i hi
      case measure => simp [intOf]; omega
    · have hkn : k = n + 1 := by omega
      subst hkn
      have hc0 := carry_zero HY.out HYL.out.symm hx hc.1 HCar.out
      have HVf : Hid (val qs - pw (n + 1) * b = val ps - x * val Y) := by
        have h9 := HV.out
        rw [hc0, Int.zero_add, vf_all ps _ (by have := HPL.out; omega), vf_all Y _ (by have := HYL.out; omega)] at h9
        exact h9
      have HTf : Hid (At cur' .u32 o qs) := by
        have h9 := HT.out
        rwa [List.drop_of_length_le (by have := HPL.out; omega), List.append_nil] at h9
      clear hc0
      go_wp2
      go_ret
      exact ⟨qs, b, cur', rfl, hbb, HVf.out, HQ.out, HQL.out, HW.out, HC.out, HTf.out, HO.out⟩

end Lm
end Go.Proofs.Ythbomfboohjcfaa

namespace Go.Proofs.Ythbomfboohjcfaa
namespace Lm
open Go.RowKit

set_option maxRecDepth 20000 in
set_option maxHeartbeats 1000000 in
theorem addBack_any (w : World) (g o n cap c2 : Nat) (cur : Array Value) (ps Y : List Int) (a2 : Option Addr)
    (hh : w.heap[g]? = some (.cells cur 47 (0, 0))) (ha : At cur .u32 o ps) (hp : Limb ps) (hpl : ps.length = n + 1) (hm : n ≤ 1000000)
    (hY : ∀ wr cur', Wr w wr g cur' 47 → Sl wr (.slice a2 n c2) Y) :
    Calls Try.prog 77 #[.slice (some ⟨g, o, none⟩) (n + 1) cap, .slice a2 n c2] w fun e w' => ∃ qs c cur', e = .returned (.tuple #[]) ∧ (0 ≤ c ∧ c ≤ 1) ∧ val qs + pw (n + 1) * c = val ps + val Y ∧ Limb qs ∧ qs.length = n + 1 ∧ Wr w w' g cur' 47 ∧ cur'.size = cur.size ∧ At cur' .u32 o qs ∧ (∀ i, i < o ∨ o + (n + 1) ≤ i → cur'[i]? = cur[i]?) := by
  obtain ⟨hYl, g1, g2, g3⟩ := (hY _ _ (Wr.refl hh)).parts
  have HP := hide hp
  have HY := hide g3
  have HYL := hide hYl
  have HPL := hide hpl
  have HH := hide hh
  have HA := hide ha
  clear hp g3 hYl hpl hh ha
  go_enter Try.func77, Try.ntmps77
  go_wp2
  go_loopw [4, 9] (fun cv i wr => ∃ (k : Nat) (c : Int) (qs : List Int) (cur' : Array Value), k ≤ n + 1 ∧ cv = .int .u64 c ∧ i = .int .i64 k ∧ (0 ≤ c ∧ c ≤ 1) ∧ qs.length = k ∧ Limb qs ∧ val qs + pw k * c = vf ps k + vf Y k ∧ Wr w wr g cur' 47 ∧ cur'.size = cur.size ∧ At cur' .u32 o (qs ++ ps.drop k) ∧ (∀ i, i < o ∨ o + (n + 1) ≤ i → cur'[i]? = cur[i]?)) (fun _ i _ => n + 1 - (intOf i).toNat)
  case atStart => exact ⟨0, 0, [], cur, Nat.zero_le _, rfl, rfl, by omega, rfl, limb_nil, by simp [val, vf, pw], Wr.refl HH.out, rfl, by simpa using HA.out, fun _ _ => rfl⟩
  case round =>
    obtain ⟨k, c, qs, cur', hk, rfl, rfl, hc, hql, hq, hval, hwr, hcs, hat, hout⟩ := hrel
    have HQL := hide hql
    have HQ := hide hq
    have HV := hide hval
    have HW := hide hwr
    have HC := hide hcs
    have HT := hide hat
    have HO := hide hout
    clear hql hq hval hwr hcs hat hout
    by_cases hlt : k < n + 1
    · have sy := hY _ _ HW.out
      have hlen : (qs ++ ps.drop k).length = n + 1 := by have := HQL.out; have := HPL.out; simp; omega
      have co := HT.out.cell HW.out.here k (by rw [hlen]; omega)
      have e1 : (qs ++ ps.drop k).getD k 0 = ps.getD k 0 := by
        rw [List.getD_eq_getElem?_getD, List.getElem?_append_right (by have := HQL.out; omega), List.getElem?_drop, List.getD_eq_getElem?_getD, HQL.out]
        congr 2
        omega
      rw [e1] at co
      have hfree := HW.out.free (o + k)
      have by' := limb_getD HY.out k
      have ba := limb_getD HP.out k
      obtain ⟨y, hy⟩ : ∃ y, Y.getD k 0 = y := ⟨_, rfl⟩
      obtain ⟨a, hpa⟩ : ∃ a, ps.getD k 0 = a := ⟨_, rfl⟩
      have ky : Hid (∀ q, Calls Try.prog 47 #[.slice a2 n c2, .int .i64 k] (wr.drewN q) fun e w' => e = .returned (.int .u32 y) ∧ w' = wr.drewN q) := by
        intro q; rw [← hy]; exact limb_nat _ _ Y (sy.below (below_drewN (Below.refl _ _) q)) k
      rw [hy] at by'
      rw [hpa] at co ba
      have hst := add_step ba by' hc rfl
      have HV' := hide (add_val HQL.out hpa hy rfl HV.out)
      have HT' := hide (HT.out.set k ((a + y + c) % 4294967296))
      have HW' := hide (HW.out.set (o + k) (.int .u32 ((a + y + c) % 4294967296)))
      have d1 : (k : Int) < (n : Int) + 1 := by omega
      clear hlen e1 hy hpa sy
      go_wp2
      go_quiet ((go_at_call 47; exact Calls.quiet_of_same (ky.out _)))
      go_wp2
      go_roundw
      case rel =>
        refine ⟨k + 1, (a + y + c) / 4294967296, qs ++ [(a + y + c) % 4294967296], _, by omega, rfl, by go_num, by omega, by have := HQL.out; simp; omega, limb_append.2 ⟨HQ.out, limb_cons.2 ⟨by omega, limb_nil⟩⟩, HV'.out, HW'.out.drewN _, by simpa using HC.out, by rw [← set_snoc qs ps k _ HQL.out (by have := HPL.out; omega)]; exact HT'.out, fun i hi => ?_⟩
        rw [Array.getElem?_setIfInBounds, if_neg (by omega)]
        exact HO.out i hi
      case measure => simp [intOf]; omega
    · have hkn : k = n + 1 := by omega
      subst hkn
      have HVf : Hid (val qs + pw (n + 1) * c = val ps + val Y) := by
        have h9 := HV.out
        rw [vf_all ps _ (by have := HPL.out; omega), vf_all Y _ (by have := HYL.out; omega)] at h9
        exact h9
      have HTf : Hid (At cur' .u32 o qs) := by
        have h9 := HT.out
        rwa [List.drop_of_length_le (by have := HPL.out; omega), List.append_nil] at h9
      go_wp2
      go_end0
      exact ⟨qs, c, cur', rfl, hc, HVf.out, HQ.out, HQL.out, HW.out, HC.out, HTf.out, HO.out⟩

end Lm
end Go.Proofs.Ythbomfboohjcfaa

namespace Go.Proofs.Ythbomfboohjcfaa
namespace Lm
open Go.RowKit

set_option maxRecDepth 20000 in
set_option maxHeartbeats 400000 in
theorem lead_any (x : Int) (w : World) (h0 : 0 ≤ x) (h1 : x < 4294967296) :
    Calls Try.prog 74 #[.int .u32 x] w fun e w' => e = .returned (.int .i64 (32 - (Lib.bitLen x.toNat : Nat))) ∧ w' = w := by
  have hl : Lib.bitLen x.toNat ≤ 32 := Lib.bitLen_le _ 32 (by omega) (by omega)
  have kl := hide (len32_any x w h0 h1)
  generalize Lib.bitLen x.toNat = l at hl kl
  go_enter Try.func74, Try.ntmps74
  go_wp2_with fail
  refine (kl.out).mono ?_
  rintro e w' ⟨rfl, rfl⟩
  go_wp2
  go_ret
  exact ⟨rfl, rfl⟩

theorem p2_pow (s : Nat) : (2 : Int) ^ s = p2 s := by
  induction s with
  | zero => rfl
  | succ s ih => rw [Int.pow_succ, ih, p2]; omega

theorem nat_p2 (s : Nat) : ((2 ^ s : Nat) : Int) = p2 s := by
  induction s with
  | zero => rfl
  | succ s ih => rw [Nat.pow_succ, p2]; omega

theorem up_bound {x c : Int} {s : Nat} (h1 : 0 ≤ x) (h2 : x < 4294967296) (hs : s ≤ 31) (h3 : 0 ≤ c) (h4 : c < p2 s) : 0 ≤ x * p2 s + c ∧ x * p2 s + c < 4294967296 * p2 s ∧ x * p2 s + c < 9223372036854775808 ∧ 0 ≤ x * p2 s := by
  have hp := p2_pos s
  have hp2 := p2_mono (m := s) (n := 31) hs
  rw [show p2 31 = 2147483648 from by decide] at hp2
  have e1 : 0 ≤ x * p2 s := Int.mul_nonneg h1 (by omega)
  have e2 : (x + 1) * p2 s ≤ 4294967296 * p2 s := Int.mul_le_mul_of_nonneg_right (by omega) (by omega)
  rw [Int.add_mul] at e2
  omega

theorem or_shift {x c : Int} {s : Nat} (h1 : 0 ≤ x) (h2 : x < 4294967296) (hs : s ≤ 31) (h3 : 0 ≤ c) (h4 : c < p2 s) : bits .or .u64 (IntKind.u64.wrap (x * 2 ^ s)) c = x * p2 s + c := by
  have hb := up_bound h1 h2 hs h3 h4
  have hp := p2_pos s
  rw [p2_pow, IntKind.wrap_u64, Int.emod_eq_of_lt hb.2.2.2 (by omega), u64_or _ _ hb.2.2.2 (by omega) h3 (by omega)]
  obtain ⟨a, rfl⟩ := Int.eq_ofNat_of_zero_le h1
  obtain ⟨d, rfl⟩ := Int.eq_ofNat_of_zero_le h3
  have e1 : ((a : Int) * p2 s).toNat = 2 ^ s * a := by
    rw [← nat_p2, Int.mul_comm, ← Int.natCast_mul, Int.toNat_natCast]
  have hd : d < 2 ^ s := by have := nat_p2 s; omega
  rw [e1, Int.toNat_natCast, ← Nat.two_pow_add_eq_or_of_lt hd, Int.natCast_add, Int.natCast_mul, nat_p2, Int.mul_comm]

theorem up_val {zs qs : List Int} {k : Nat} {z c m t : Int} (hk : qs.length = k) (hz : zs.getD k 0 = z) (hs : t = z * m + c) (h : val qs + pw k * c = vf zs k * m) :
    val (qs ++ [t % 4294967296]) + pw (k + 1) * (t / 4294967296) = vf zs (k + 1) * m := by
  rw [val_snoc, vf, hz, hk, pw, Int.add_mul]
  have e : t = t % 4294967296 + 4294967296 * (t / 4294967296) := by omega
  have e2 : pw k * (t % 4294967296) + 4294967296 * pw k * (t / 4294967296) = pw k * t := by
    rw [Int.mul_comm 4294967296 (pw k), Int.mul_assoc, ← Int.mul_add, ← e]
  have e3 : pw k * z * m = pw k * (z * m) := by rw [Int.mul_assoc]
  rw [Int.add_assoc, e2, hs, Int.mul_add, e3]
  omega

set_option maxRecDepth 20000 in
set_option maxHeartbeats 1000000 in
theorem moveUp_any (w : World) (ao : Option Addr) (n cap : Nat) (xs : List Int) (hx : Sl w (.slice ao n cap) xs) (s : Nat) (hs : s ≤ 31) (hm : xs.length ≤ 1000000) :
    Calls Try.prog 59 #[.slice ao n cap, .int .u64 s] w fun e w' => ∃ cur qs, e = .returned (.slice (some ⟨w.heap.size, 0, none⟩) (n + 1) (n + 1)) ∧ Limb qs ∧ qs.length = n + 1 ∧ val qs = val xs * p2 s ∧ w'.heap[w.heap.size]? = some (.cells cur 47 (0, 0)) ∧ cur.size = n + 1 ∧ At cur .u32 0 qs ∧ Below w.heap.size w w' := by
  obtain ⟨rfl, h1, h2, h3⟩ := hx.parts
  obtain ⟨i0, hi, hz0, hz1, hz2⟩ := info_parts info32
  have H3 := hide h3
  have hp := p2_pos s
  have hp2 := p2_mono (m := s) (n := 31) hs
  rw [show p2 31 = 2147483648 from by decide] at hp2
  clear h3
  go_enter Try.func59, Try.ntmps59
  go_wp2_with (refine wpList_make_full _ rfl (.tmp 12) (.tmp 12) 22 rfl w.heap.size 47 i0 (.int .u32 0) 1 Try.underlying22 hi hz0 hz1 .i64 .i64 _ _ (xs.length + 1) rfl rfl (by omega) (by omega) (by rw [hz2]; omega) (by unfold maxLen; omega) (Nat.le_refl _) ?hK)
  case hK =>
    intro w1 hown hgrow
    obtain ⟨_, cur, hh, hcs, hat⟩ := block_of_made hown
    have hb1 : Below w.heap.size w w1 := (Below.refl w.heap.size w).grown hgrow (Nat.le_refl _) (by simp)
    have HH := hide hh
    have HS := hide hcs
    have HA := hide hat
    clear hown hgrow hh hcs hat
    go_wp2
    go_loopw [6, 16] (fun cv i wr => ∃ (k : Nat) (c : Int) (qs : List Int) (cur' : Array Value), k ≤ xs.length ∧ cv = .int .u64 c ∧ i = .int .i64 k ∧ (0 ≤ c ∧ c < p2 s) ∧ qs.length = k ∧ Limb qs ∧ val qs + pw k * c = vf xs k * p2 s ∧ Wr w1 wr w.heap.size cur' 47 ∧ cur'.size = xs.length + 1 ∧ At cur' .u32 0 (qs ++ (List.replicate (xs.length + 1) 0).drop k)) (fun _ i _ => xs.length - (intOf i).toNat)
    case atStart => exact ⟨0, 0, [], cur, Nat.zero_le _, rfl, rfl, by omega, rfl, limb_nil, by simp [val, vf, pw], Wr.refl HH.out, HS.out, by simpa using HA.out⟩
    case round =>
      obtain ⟨k, c, qs, cur', hk, rfl, rfl, hcb, hql, hq, hval, hwr, hcs, hat⟩ := hrel
      have HQL := hide hql
      have HQ := hide hq
      have HV := hide hval
      have HW := hide hwr
      have HC := hide hcs
      have HT := hide hat
      clear hql hq hval hwr hcs hat
      by_cases hlt : k < xs.length
      · have sx := HW.out.sl (Nat.le_refl _) hb1 rfl hx
        obtain ⟨b, off, rfl, hcx⟩ := sx.cells (by omega)
        have cx := hcx k (by omega)
        have bx := limb_getD H3.out k
        obtain ⟨x, hxk⟩ : ∃ x, xs.getD k 0 = x := ⟨_, rfl⟩
        rw [hxk] at cx bx
        have hlen : (qs ++ (List.replicate (xs.length + 1) (0 : Int)).drop k).length = xs.length + 1 := by have := HQL.out; simp; omega
        have hcell := HT.out.cell HW.out.here k (by rw [hlen]; omega)
        rw [Nat.zero_add] at hcell
        generalize (qs ++ (List.replicate (xs.length + 1) (0 : Int)).drop k).getD k 0 = old at hcell
        have hfree := HW.out.free k
        obtain ⟨M, hM⟩ : ∃ M, M = x * p2 s + c := ⟨_, rfl⟩
        have hor : bits .or .u64 (IntKind.u64.wrap (x * 2 ^ s)) c = M := by rw [hM]; exact or_shift bx.1 bx.2 hs hcb.1 hcb.2
        have hmb := up_bound bx.1 bx.2 hs hcb.1 hcb.2
        rw [← hM] at hmb
        have m1 := hmb.1
        have m2 := hmb.2.1
        have m3 := hmb.2.2.1
        have HV' := hide (up_val HQL.out hxk hM HV.out)
        have HT' := hide (HT.out.set k (M % 4294967296))
        have HW' := hide (HW.out.set k (.int .u32 (M % 4294967296)))
        clear hlen sx hcx hM hmb hxk
        go_wp2
        go_roundw
        case rel => exact ⟨k + 1, M / 4294967296, qs ++ [M % 4294967296], _, by omega, rfl, by go_num, by omega, by have := HQL.out; simp; omega, limb_append.2 ⟨HQ.out, limb_cons.2 ⟨by omega, limb_nil⟩⟩, HV'.out, HW'.out, by simpa using HC.out, by rw [← set_snoc qs _ k _ HQL.out (by simp; omega)]; simpa using HT'.out⟩
        case measure => simp [intOf]; omega
      · have hkM : k = xs.length := by omega
        subst hkM
        have hlen : (qs ++ (List.replicate (xs.length + 1) (0 : Int)).drop xs.length).length = xs.length + 1 := by have := HQL.out; simp; omega
        have hcell := HT.out.cell HW.out.here xs.length (by rw [hlen]; omega)
        rw [Nat.zero_add] at hcell
        have hfree := HW.out.free xs.length
        generalize hold : (qs ++ (List.replicate (xs.length + 1) (0 : Int)).drop xs.length).getD xs.length 0 = old at hcell
        have hat2 := HT.out.set xs.length c
        rw [set_snoc qs _ xs.length c HQL.out (by simp), List.drop_of_length_le (by simp), List.append_nil, Nat.zero_add] at hat2
        have hw2 := HW.out.set xs.length (.int .u32 c)
        have hlr : Limb (qs ++ [c]) := limb_append.2 ⟨HQ.out, limb_cons.2 ⟨by omega, limb_nil⟩⟩
        have R := hide (And.intro hat2 (And.intro hw2 (And.intro hlr (show val (qs ++ [c]) = val xs * p2 s by
          rw [val_snoc, HQL.out, HV.out, vf_all xs _ (Nat.le_refl _)]))))
        have hbel : Below w.heap.size w (wr.setCell ⟨w.heap.size, xs.length, none⟩ (.int .u32 c)) := hb1.trans (hw2.below (Nat.le_refl _))
        have hc2 : c < 4294967296 := by omega
        clear hat2 hw2 hlr hlen hold
        go_wp2
        go_ret
        exact ⟨_, qs ++ [c], rfl, R.out.2.2.1, by have := HQL.out; simp; omega, R.out.2.2.2, R.out.2.1.here, by simpa using HC.out, R.out.1, hbel⟩

end Lm
end Go.Proofs.Ythbomfboohjcfaa
