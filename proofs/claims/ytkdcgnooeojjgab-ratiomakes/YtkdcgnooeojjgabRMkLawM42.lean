/-
  The contracts of the calls that only read: the reference's cut. The contract of the reference's small: a magnitude times a number, and one added. The contracts of the reference's cutBy, made, FromLimbs. The contract of the reference's Limbs.
-/
import Derived.Test.YtkdcgnooeojjgabRMkLawM41
import Derived.Test.YtkdcgnooeojjgabWrap
namespace Go.Proofs.Ytkdcgnooeojjgab
namespace Dm
open Go.RowKit

set_option maxRecDepth 20000 in
set_option maxHeartbeats 400000 in
theorem cut_any (w : World) (ao : Option Addr) (n cap : Nat) (zs : List Int) (h : Sl w (.slice ao n cap) zs) :
    Calls Try.prog 102 #[.slice ao n cap] w fun e w' => e = .returned (.slice ao (tl zs) cap) ∧ w' = w := by
  obtain ⟨ao', cap', hv, h1, h2, h3, h4⟩ := h
  obtain ⟨rfl, rfl, rfl⟩ := (Value.slice.injEq .. ▸ hv)
  unfold maxLen at h2
  have ht := tl_le zs
  go_enter Try.func102, Try.ntmps102
  go_wp2
  go_loop [3] (fun n => ∃ k : Nat, k ≤ zs.length ∧ tl zs ≤ k ∧ n = .int .i64 k) (fun n => (intOf n).toNat)
  case atStart => exact ⟨zs.length, Nat.le_refl _, ht, rfl⟩
  case round =>
    obtain ⟨k, hk, hk2, rfl⟩ := hrel
    cases k with
    | zero =>
      have hz : tl zs = 0 := by omega
      have HZ : Hid (tl zs = 0) := hz
      clear hz
      go_wp2
      go_ret
      exact ⟨by rw [HZ.out]; rfl, rfl⟩
    | succ k =>
      rcases h4 with h4 | ⟨b, off, rfl, hc⟩
      · subst h4; simp at hk
      have hcell := hc k (by omega)
      by_cases h0 : zs.getD k 0 = 0
      · have hle := tl_le_of_zero hk2 h0
        rw [h0] at hcell
        clear h0 hc
        go_wp2
        go_round
        case rel => exact ⟨k, by omega, hle, by go_num⟩
        case measure => simp [intOf]
      · have hgt := tl_gt h0
        have HZ : Hid (tl zs = k + 1) := by show _ = _; omega
        have hb : (zs.getD k 0 == 0) = false := by simpa using h0
        generalize zs.getD k 0 = z at hcell hb
        clear h0 hc
        go_wp2
        go_ret
        exact ⟨by rw [HZ.out]; rfl, rfl⟩
end Dm
end Go.Proofs.Ytkdcgnooeojjgab

namespace Go.Proofs.Ytkdcgnooeojjgab
namespace Dm
open Go.RowKit

theorem info64 : (Try.prog.info? 3).map (fun i => (i.zero, i.size, i.bytes)) = some (some (.int .i64 0), 1, 8) := by kernel_rfl

theorem ow_of_row {w : World} {B : Nat} {v : Value} {n : Nat} {zs : List Int} (h : w.ownsRow B 3 1 v n (zs.map (Value.int .i64))) (hz : Limb zs) : Ow B w v zs := by
  obtain ⟨h1, h2⟩ := h
  have hn : zs.length = n := by simpa using h1
  subst hn
  rcases h2 with ⟨rfl, h3⟩ | ⟨g, cap, cur, rfl, hg, hh, hc1, hc2, hs, ht⟩
  · exact ⟨none, 0, by rw [h3], by omega, by simp [maxLen], hz, .inl rfl⟩
  · refine ⟨_, cap, rfl, hc1, hc2, hz, .inr ⟨g, 0, cur, rfl, hg, hh, by omega, fun i hi => ?_⟩⟩
    have e : (cur.toList.take (zs.length * 1))[i]? = (zs.map (Value.int .i64))[i]? := by rw [ht]
    rw [List.getElem?_take, if_pos (by omega)] at e
    rw [Nat.zero_add, ← Array.getElem?_toList, e, List.getElem?_map, List.getElem?_eq_getElem hi, List.getD_eq_getElem?_getD, List.getElem?_eq_getElem hi]
    rfl

theorem Ow.is_cut {B : Nat} {w : World} {ao : Option Addr} {n cap : Nat} {zs : List Int} {x : Int} (h : Ow B w (.slice ao n cap) zs) (hv : val zs = x) : Is B w (.slice ao (tl zs) cap) x := by
  have hl := h.sl.parts.2.2.2
  exact ⟨zs.take (tl zs), h.take (tl_le zs), canon_trim hl, by rw [val_take_tl, hv]⟩

/-- A round of small. -/
theorem small_val {A ds : List Int} {k : Nat} {a c m more s : Int} (hk : ds.length = k) (ha : A.getD k 0 = a) (hs : s = c + a * m) (h : val ds + pw k * c = vf A k * m + more) :
    val (ds ++ [s % 10000]) + pw (k + 1) * (s / 10000) = vf A (k + 1) * m + more := by
  rw [val_snoc, vf, ha, hk, pw, Int.add_mul]
  have e : s = s % 10000 + 10000 * (s / 10000) := by omega
  have e2 : pw k * (s % 10000) + 10000 * pw k * (s / 10000) = pw k * s := by
    rw [Int.mul_comm 10000 (pw k), Int.mul_assoc, ← Int.mul_add, ← e]
  have e3 : pw k * a * m = pw k * (a * m) := by rw [Int.mul_assoc]
  rw [Int.add_assoc, e2, hs, Int.mul_add, e3]
  omega

theorem small_bound {a m : Int} (ha : 0 ≤ a ∧ a < 10000) (hm : 0 ≤ m ∧ m ≤ 4294967296) : 0 ≤ a * m ∧ a * m ≤ 42945378000704 := by
  refine ⟨Int.mul_nonneg ha.1 hm.1, ?_⟩
  have h1 : a * m ≤ 9999 * m := Int.mul_le_mul_of_nonneg_right (by omega) hm.1
  omega

theorem step_own {w wr w1 : World} {v v' : Value} {k : Nat} {ds : List Int} {z : Int} {o : Obj} (h : w1.ownsRow w.heap.size 3 1 v' (k + 1) (ds.map (Value.int .i64) ++ [.int .i64 z])) (hg : (wr.alloc o).grownBy w1 v.ownBlock) (hb : Below w.heap.size w wr) (hl : ∀ j, v.ownBlock = some j → w.heap.size ≤ j ∧ j < wr.heap.size) :
    w1.ownsRow w.heap.size 3 1 v' (k + 1) ((ds ++ [z]).map (Value.int .i64)) ∧ Below w.heap.size w w1 := by
  refine ⟨by simpa using h, ((hb.alloc hb.size o).grown hg ?_ (fun j hj => (hl j hj).1))⟩
  have := hb.size
  simp
  omega

set_option maxRecDepth 20000 in
set_option maxHeartbeats 1000000 in
theorem small_any (w : World) (ao : Option Addr) (n cap : Nat) (A : List Int) (hA : Sl w (.slice ao n cap) A) (m more : Int) (hm : 0 ≤ m ∧ m ≤ 4294967296) (hmo : 0 ≤ more ∧ more ≤ 4294967296) (hl : A.length ≤ 1000000) :
    Calls Try.prog 101 #[.slice ao n cap, .int .i64 m, .int .i64 more] w fun e w' => ∃ v, e = .returned v ∧ Is w.heap.size w' v (val A * m + more) ∧ Below w.heap.size w w' := by
  obtain ⟨rfl, h1, h2, h3⟩ := hA.parts
  obtain ⟨i0, hi, hz0, hz1, hz2⟩ := info_parts info64
  have H3 := hide h3
  clear h3
  go_enter Try.func101, Try.ntmps101
  go_wp2
  go_loopw [7, 8, 9] (fun dv cv iv wr => ∃ (k : Nat) (c : Int) (ds : List Int), cv = .int .i64 c ∧ iv = .int .i64 k ∧ (0 ≤ c ∧ c ≤ 4294967296) ∧ (k : Int) + c ≤ (A.length : Int) + 4294967296 ∧ ds.length = k ∧ Limb ds ∧ val ds + pw k * c = vf A k * m + more ∧ wr.ownsRow w.heap.size 3 1 dv k (ds.map (Value.int .i64)) ∧ Below w.heap.size w wr) (fun _ cv iv _ => (A.length - (intOf iv).toNat) * 8589934592 + (intOf cv).toNat)
  case atStart => exact ⟨0, more, [], rfl, rfl, hmo, by omega, rfl, limb_nil, by simp [val, vf, pw], World.ownsRow_nil _ _ _ _, Below.refl _ _⟩
  case round =>
    obtain ⟨k, c, ds, rfl, rfl, hc, hkc, hdl, hd, hval, hown, hbel⟩ := hrel
    have HD := hide hd
    have HDL := hide hdl
    have HV := hide hval
    clear hd hdl hval
    have hsz := hbel.size
    by_cases hlt : k < A.length
    · have sA := hA.below hbel
      obtain ⟨b, off, rfl, hca⟩ := sA.cells (by omega)
      have ca := hca k hlt
      have ba := limb_getD H3.out k
      obtain ⟨a, hak⟩ : ∃ a, A.getD k 0 = a := ⟨_, rfl⟩
      rw [hak] at ca ba
      have bm := small_bound ba hm
      have HV' := hide (small_val (m := m) HDL.out hak rfl HV.out)
      have d1 : decide ((k : Int) < (A.length : Int)) = true := by simp; omega
      have d2 : (k : Int) < (A.length : Int) := by omega
      clear hak sA hca
      go_wp2_with (at_builtin; refine wpList_append_own _ rfl (.tmp 33) (.tmp 36) 64 rfl w.heap.size 3 i0 (.int .i64 0) 1 8 Try.underlying64 hi hz0 hz1 hz2 rfl (by decide) _ _ _ rfl (hown.alloc _) ⟨wr.heap.size, 0, none⟩ 1 1 [.int .i64 ((c + a * m) % 10000)] rfl rfl (cell_one_new _ _ _) ?c2 ?c3 ?c4 ?c5 ?_)
      case c2 => first | rfl | (intro u hu; simp at hu; subst hu; rfl)
      case c3 => unfold maxLen; omega
      case c4 => omega
      case c5 => first | omega | (simp; omega)
      intro v' w1 hown' hgrow _
      have R := step_own hown' hgrow hbel (hown.lt)
      clear hown' hgrow hown
      go_wp2
      go_roundw
      case rel => exact ⟨k + 1, _, ds ++ [(c + a * m) % 10000], rfl, by go_num, by omega, by omega, by have := HDL.out; simp; omega, limb_append.2 ⟨HD.out, limb_cons.2 ⟨by omega, limb_nil⟩⟩, HV'.out, R.1, R.2⟩
      case measure => simp [intOf]; omega
    · have hak : A.getD k 0 = 0 := by rw [List.getD_eq_getElem?_getD, List.getElem?_eq_none (by omega)]; rfl
      have d1 : decide ((k : Int) < (A.length : Int)) = false := by simp; omega
      have d2 : ¬ (k : Int) < (A.length : Int) := by omega
      by_cases hc0 : 0 < c
      · have HV' := hide (small_val (m := m) (s := c) HDL.out hak (by omega) HV.out)
        clear hak
        go_wp2_with (at_builtin; refine wpList_append_own _ rfl (.tmp 33) (.tmp 36) 64 rfl w.heap.size 3 i0 (.int .i64 0) 1 8 Try.underlying64 hi hz0 hz1 hz2 rfl (by decide) _ _ _ rfl (hown.alloc _) ⟨wr.heap.size, 0, none⟩ 1 1 [.int .i64 (c % 10000)] rfl rfl (cell_one_new _ _ _) ?c2' ?c3' ?c4' ?c5' ?_)
        case c2' => first | rfl | (intro u hu; simp at hu; subst hu; rfl)
        case c3' => unfold maxLen; omega
        case c4' => omega
        case c5' => first | omega | (simp; omega)
        intro v' w1 hown' hgrow _
        have R := step_own hown' hgrow hbel (hown.lt)
        clear hown' hgrow hown
        go_wp2
        go_roundw
        case rel => exact ⟨k + 1, c / 10000, ds ++ [c % 10000], rfl, by go_num, by omega, by omega, by have := HDL.out; simp; omega, limb_append.2 ⟨HD.out, limb_cons.2 ⟨by omega, limb_nil⟩⟩, HV'.out, R.1, R.2⟩
        case measure => simp [intOf]; omega
      · have hc1 : c = 0 := by omega
        subst hc1
        have how := ow_of_row hown HD.out
        have hvv : val ds = val A * m + more := by
          have := HV.out
          rw [Int.mul_zero, Int.add_zero, vf_all A _ (by omega)] at this
          exact this
        obtain ⟨ao', cap', rfl, o1, o2, o3, o4⟩ := how
        have how' : Ow w.heap.size wr (.slice ao' ds.length cap') ds := ⟨ao', cap', rfl, o1, o2, o3, o4⟩
        have his := how'.is_cut hvv
        clear hvv o3 o4 hown hak
        go_wp2_with fail
        refine (cut_any _ _ _ _ _ how'.sl).mono ?_
        rintro e w2 ⟨rfl, rfl⟩
        go_wp2
        go_ret
        exact ⟨_, rfl, his, hbel⟩

end Dm
end Go.Proofs.Ytkdcgnooeojjgab

namespace Go.Proofs.Ytkdcgnooeojjgab
namespace Dm
open Go.RowKit
open Lm (hide lt_of_cell lt_of_heap div_of)

theorem block_of_made {w : World} {B g n : Nat} (h : w.ownsRow B 3 1 (.slice (some ⟨g, 0, none⟩) n n) n (madeCells #[Value.int .i64 0] n).toList) :
    B ≤ g ∧ ∃ cur, w.heap[g]? = some (.cells cur 3 (0, 0)) ∧ cur.size = n ∧ At cur .i64 0 (List.replicate n 0) := by
  rcases h.2 with ⟨h', _⟩ | ⟨g', cap', cur, h', hb, hg, _, _, hs, htake⟩
  · simp at h'
  · simp only [Value.slice.injEq, Option.some.injEq, Addr.mk.injEq, and_true, true_and] at h'
    obtain ⟨rfl, rfl⟩ := h'
    refine ⟨hb, cur, hg, by omega, fun i hi => ?_⟩
    simp at hi
    have e : (cur.toList.take (n * 1))[i]? = ((madeCells #[Value.int .i64 0] n).toList)[i]? := by rw [htake]
    rw [List.getElem?_take, if_pos (by omega)] at e
    rw [Nat.zero_add, ← Array.getElem?_toList, e, Array.getElem?_toList]
    have h0 : i < (Array.range n).size := by simpa using hi
    simp [madeCells, hi, List.getD_eq_getElem?_getD, Nat.mod_one]

theorem div_step {p r z d : Int} (hd : 0 < d) (h1 : 0 ≤ r) (h2 : r < d) (h3 : 0 ≤ z) (h4 : z < 10000) (hp : p = r * 10000 + z) : 0 ≤ p ∧ 0 ≤ p / d ∧ p / d < 10000 ∧ 0 ≤ p % d ∧ p % d < d ∧ p = p / d * d + p % d := by
  have h5 : 0 ≤ p := by omega
  have h6 : p < 10000 * d := by omega
  refine ⟨h5, Int.ediv_nonneg h5 (by omega), Int.ediv_lt_of_lt_mul hd h6, Int.emod_nonneg _ (by omega), Int.emod_lt_of_pos _ hd, ?_⟩
  have := Int.mul_ediv_add_emod p d
  rw [Int.mul_comm] at this
  omega

theorem div_val {zs qs : List Int} {k : Nat} {d r z p : Int} (hz : zs.drop k = z :: zs.drop (k + 1)) (h : val (zs.drop (k + 1)) = val qs * d + r) (hp : p = r * 10000 + z) (hq : p = p / d * d + p % d) : val (zs.drop k) = val (p / d :: qs) * d + p % d := by
  rw [hz, val, val, h]
  generalize p / d = q at hq ⊢
  generalize p % d = t at hq ⊢
  rw [Int.add_mul, Int.mul_assoc, Int.mul_add]
  generalize q * d = a at hq ⊢
  generalize val qs * d = b
  omega

set_option maxRecDepth 20000 in
set_option maxHeartbeats 1000000 in
theorem cutBy_any (w : World) (ao : Option Addr) (n cap : Nat) (A : List Int) (hA : Sl w (.slice ao n cap) A) (d : Int) (hd : 0 < d) (hd2 : d ≤ 4294967296) (hl : A.length ≤ 1000000) :
    Calls Try.prog 103 #[.slice ao n cap, .int .i64 d] w fun e w' => ∃ v, e = .returned (.tuple #[v, .int .i64 (val A % d)]) ∧ Is w.heap.size w' v (val A / d) ∧ Below w.heap.size w w' := by
  obtain ⟨rfl, h1, h2, h3⟩ := hA.parts
  obtain ⟨i0, hi, hz0, hz1, hz2⟩ := info_parts info64
  have H3 := hide h3
  clear h3
  go_enter Try.func103, Try.ntmps103
  go_wp2_with (refine wpList_make_full _ rfl (.tmp 10) (.tmp 10) 64 rfl w.heap.size 3 i0 (.int .i64 0) 1 Try.underlying64 hi hz0 hz1 .i64 .i64 _ _ A.length rfl rfl (by omega) (by omega) (by rw [hz2]; omega) (by unfold maxLen; omega) (Nat.le_refl _) ?hK)
  case hK =>
    intro w1 hown hgrow
    obtain ⟨_, cur, hh, hcs, hat⟩ := block_of_made hown
    have hb1 : Below w.heap.size w w1 := (Below.refl w.heap.size w).grown hgrow (Nat.le_refl _) (by simp)
    have HH := hide hh
    have HS := hide hcs
    have HA := hide hat
    clear hown hgrow hh hcs hat
    go_wp2
    go_loopw [7, 8] (fun rest i wr => ∃ (k : Nat) (r : Int) (qs : List Int) (cur' : Array Value), k ≤ A.length ∧ rest = .int .i64 r ∧ i = .int .i64 ((k : Int) - 1) ∧ 0 ≤ r ∧ r < d ∧ val (A.drop k) = val qs * d + r ∧ Limb qs ∧ qs.length + k = A.length ∧ Wr w1 wr w.heap.size cur' 3 ∧ cur'.size = A.length ∧ At cur' .i64 0 ((List.replicate A.length 0).take k ++ qs)) (fun _ i _ => (intOf i + 1).toNat)
    case atStart => exact ⟨A.length, 0, [], cur, Nat.le_refl _, rfl, rfl, by omega, by omega, by simp [val], limb_nil, by simp, Wr.refl HH.out, HS.out, by rw [List.take_of_length_le (by simp), List.append_nil]; exact HA.out⟩
    case round =>
      obtain ⟨k, r, qs, cur', hk, rfl, rfl, hr0, hr1, hval, hq, hql, hwr, hcs, hat⟩ := hrel
      have HV := hide hval
      have HQ := hide hq
      have HW := hide hwr
      have HT := hide hat
      have HC := hide hcs
      have HL := hide hql
      clear hval hq hwr hat hcs hql
      cases k with
      | zero =>
        have hat0 := HT.out
        rw [List.take_zero, List.nil_append] at hat0
        have hv0 := HV.out
        rw [List.drop_zero] at hv0
        have hdv := div_of hd hv0 hr0 hr1
        have how : Ow w.heap.size wr (.slice (some ⟨w.heap.size, 0, none⟩) A.length A.length) qs := by
          have := HL.out
          exact ⟨_, A.length, by rw [show qs.length = A.length by omega], by omega, by unfold maxLen; omega, HQ.out, .inr ⟨_, 0, _, rfl, Nat.le_refl _, HW.out.here, by rw [HC.out]; omega, hat0⟩⟩
        have hbel : Below w.heap.size w wr := hb1.trans (HW.out.below (Nat.le_refl _))
        have his := how.is_cut hdv.1.symm
        have HR := hide hdv.2
        clear hat0 hv0 hdv
        go_wp2_with fail
        refine (cut_any _ _ _ _ _ how.sl).mono ?_
        rintro e w2 ⟨rfl, rfl⟩
        go_wp2
        go_ret2
        refine ⟨_, ?_, his, hbel⟩
        rw [HR.out]
        rfl
      | succ k =>
        have sA := HW.out.sl (Nat.le_refl _) hb1 rfl hA
        obtain ⟨b, off, rfl, hca⟩ := sA.cells (by omega)
        have ca := hca k (by omega)
        have hz := limb_getD H3.out k
        have Hz := hide (drop_getD A k (by omega))
        generalize A.getD k 0 = z at ca hz Hz
        have hlen : ((List.replicate A.length (0 : Int)).take (k + 1) ++ qs).length = A.length := by have := HL.out; rw [List.length_append, List.length_take, List.length_replicate]; omega
        have hcell := HT.out.cell HW.out.here k (by rw [hlen]; omega)
        rw [Nat.zero_add] at hcell
        generalize ((List.replicate A.length (0 : Int)).take (k + 1) ++ qs).getD k 0 = old at hcell
        have hfree := HW.out.free k
        obtain ⟨s1, s2, s3, s4, s5, s6⟩ := div_step hd hr0 hr1 hz.1 hz.2 rfl
        have HV' := hide (div_val Hz.out HV.out rfl s6)
        have HQ' : Hid (Limb ((r * 10000 + z) / d :: qs)) := limb_cons.2 ⟨⟨s2, s3⟩, HQ.out⟩
        have HT' := hide ((HT.out.set k ((r * 10000 + z) / d)))
        have HW' := hide (HW.out.set k (.int .i64 ((r * 10000 + z) / d)))
        have t1 : (r * 10000 + z).tdiv d = (r * 10000 + z) / d := Int.tdiv_eq_ediv_of_nonneg s1
        clear s6 hlen sA hca
        go_wp2
        go_roundw
        case rel => exact ⟨k, (r * 10000 + z) % d, (r * 10000 + z) / d :: qs, _, by omega, rfl, rfl, s4, s5, HV'.out, HQ'.out, by have := HL.out; simp; omega, HW'.out, by simpa using HC.out, by rw [← set_cons _ qs k _ (by rw [List.length_replicate]; omega)]; simpa using HT'.out⟩
        case measure => simp [intOf]

set_option maxRecDepth 20000 in
set_option maxHeartbeats 400000 in
theorem made_any (w : World) (ng : Bool) (ao : Option Addr) (n cap : Nat) (A : List Int) (hA : Sl w (.slice ao n cap) A) :
    Calls Try.prog 78 #[.bool ng, .slice ao n cap] w fun e w' => e = .returned (.agg #[.bool (ng && decide (0 < tl A)), .slice ao (tl A) cap]) ∧ Below w.heap.size w w' := by
  have hb0 : Below w.heap.size w (w.alloc (.cells #[.bool false, .slice none 0 0] 66)) := (Below.refl _ _).alloc (Nat.le_refl _) _
  have kc := hide (cut_any _ _ _ _ _ (hA.below hb0))
  go_enter Try.func78, Try.ntmps78
  go_wp2_with fail
  refine (kc.out).mono ?_
  rintro e w' ⟨rfl, rfl⟩
  cases ng with
  | false =>
    go_wp2
    refine bodyPost_ret (v := .agg #[.bool false, .slice ao (tl A) cap]) (by simp [results, Try.results78, go_sem]) rfl ⟨by simp, ?_⟩
    exact (Below.refl _ _).alloc (Nat.le_refl _) _
  | true =>
    by_cases h0 : 0 < tl A
    · have h1 : (0 : Int) < ((tl A : Nat) : Int) := by omega
      have h2 : Hid (decide (0 < tl A) = true) := by simpa [Hid] using h0
      go_wp2
      refine bodyPost_ret (v := .agg #[.bool true, .slice ao (tl A) cap]) (by simp [results, Try.results78, go_sem]) rfl ⟨by rw [h2.out]; rfl, ?_⟩
      exact (Below.refl _ _).alloc (Nat.le_refl _) _
    · have h1 : ¬ (0 : Int) < ((tl A : Nat) : Int) := by omega
      have h2 : Hid (decide (0 < tl A) = false) := by simpa [Hid] using h0
      go_wp2
      refine bodyPost_ret (v := .agg #[.bool false, .slice ao (tl A) cap]) (by simp [results, Try.results78, go_sem]) rfl ⟨by rw [h2.out]; rfl, ?_⟩
      exact (Below.refl _ _).alloc (Nat.le_refl _) _

/-- The slice reads as digits without those 0 on top that are worth x. -/
def Got (w : World) (ao : Option Addr) (cap : Nat) (rs : List Int) (x : Int) : Prop := Sl w (.slice ao rs.length cap) rs ∧ Canon rs ∧ val rs = x

theorem Got.sl {w : World} {ao : Option Addr} {cap : Nat} {rs : List Int} {x : Int} (h : Got w ao cap rs x) : Sl w (.slice ao rs.length cap) rs := h.1
theorem Got.canon {w : World} {ao : Option Addr} {cap : Nat} {rs : List Int} {x : Int} (h : Got w ao cap rs x) : Canon rs := h.2.1
theorem Got.val {w : World} {ao : Option Addr} {cap : Nat} {rs : List Int} {x : Int} (h : Got w ao cap rs x) : Dm.val rs = x := h.2.2
theorem Got.below {w w' : World} {ao : Option Addr} {cap : Nat} {rs : List Int} {x : Int} (h : Got w ao cap rs x) (hb : Below w.heap.size w w') : Got w' ao cap rs x := ⟨h.1.below hb, h.2⟩

theorem Is.got {B : Nat} {w : World} {v : Value} {x : Int} (h : Is B w v x) : ∃ ao cap rs, v = .slice ao rs.length cap ∧ Got w ao cap rs x := by
  obtain ⟨rs, ho, hc, hv⟩ := h
  obtain ⟨ao, cap, rfl, h1, h2, h3, h4⟩ := ho.sl
  exact ⟨ao, cap, rs, rfl, ⟨ao, cap, rfl, h1, h2, h3, h4⟩, hc, hv⟩

theorem canon_len {rs : List Int} (h : Canon rs) {m : Nat} (hv : val rs < pw m) : rs.length ≤ m := by
  apply Classical.byContradiction
  intro hn
  have h1 := canon_low h (by intro e; subst e; simp at hn)
  have h2 := pw_mono (m := m) (n := rs.length - 1) (by omega)
  omega

/-- The powers of 2^32 are below those of 10000 to the 3. -/
theorem pw_three (n : Nat) : Lm.pw n ≤ pw (3 * n) := by
  induction n with
  | zero => simp [Lm.pw, pw]
  | succ n ih =>
    rw [show 3 * (n + 1) = 3 * n + 3 by omega]
    simp only [Lm.pw, pw]
    have := Lm.pw_pos n
    omega

theorem len_three {rs : List Int} (h : Canon rs) {xs : List Int} (hx : Lm.Limb xs) (hv : val rs ≤ Lm.val xs) : rs.length ≤ 3 * xs.length := by
  apply canon_len h
  have := (Lm.val_bounds hx).2
  have := pw_three xs.length
  omega

/-- A made number, its digits as they stand, since none is 0 on top. -/
theorem made_g (w : World) (ao : Option Addr) (cap : Nat) (A : List Int) (x : Int) (hA : Got w ao cap A x) :
    Calls Try.prog 78 #[.bool false, .slice ao A.length cap] w fun e w' => e = .returned (.agg #[.bool false, .slice ao A.length cap]) ∧ Below w.heap.size w w' := by
  refine (made_any w false ao A.length cap A hA.sl).mono ?_
  rintro e w' ⟨rfl, hb⟩
  rw [hA.canon.2]
  exact ⟨by simp, hb⟩

theorem Sl.setCell {w : World} {v : Value} {zs : List Int} (h : Sl w v zs) {p : Addr} {u0 : Value} (hp : w.cell? p = some u0) (hne : ∀ z, u0 ≠ .int .i64 z) (u : Value) : Sl (w.setCell p u) v zs := by
  obtain ⟨ao, cap, rfl, h1, h2, h3, h4⟩ := h
  refine ⟨ao, cap, rfl, h1, h2, h3, ?_⟩
  rcases h4 with h4 | ⟨b, off, rfl, hc⟩
  · exact .inl h4
  · refine .inr ⟨b, off, rfl, fun i hi => ?_⟩
    have hd : p ≠ ⟨b, off + i, none⟩ := by
      intro e
      have h5 := hc i hi
      rw [← e, hp] at h5
      exact hne _ (Option.some.inj h5)
    rw [World.cell?_setCell_other _ _ _ _ hd]
    exact hc i hi

set_option maxRecDepth 20000 in
set_option maxHeartbeats 1000000 in
theorem fromLimbs_any (w : World) (ao : Option Addr) (n cap : Nat) (xs : List Int) (hx : Lm.Sl w (.slice ao n cap) xs) (hl : xs.length ≤ 300000) :
    Calls Try.prog 75 #[.slice ao n cap] w fun e w' => ∃ ao' cap' D, e = .returned (.agg #[.bool false, .slice ao' D.length cap']) ∧ Got w' ao' cap' D (Lm.val xs) ∧ D.length ≤ 3 * xs.length ∧ Below w.heap.size w w' := by
  obtain ⟨rfl, h1, h2, h3⟩ := hx.parts
  have H3 := hide h3
  have c0 : (w.alloc (.cells #[.bool false, .slice none 0 0] 66)).cell? ⟨w.heap.size, 0, none⟩ = some (.bool false) := by
    rw [cell_of_row _ _ _ _ _ (0, 0) (heap_alloc_new w _)]; rfl
  have c1 : (w.alloc (.cells #[.bool false, .slice none 0 0] 66)).cell? ⟨w.heap.size, 1, none⟩ = some (.slice none 0 0) := by
    rw [cell_of_row _ _ _ _ _ (0, 0) (heap_alloc_new w _)]; rfl
  have f0 : (w.alloc (.cells #[.bool false, .slice none 0 0] 66)).frozen? ⟨w.heap.size, 0, none⟩ = false := frozen_of_row _ _ _ _ _ (heap_alloc_new w _)
  have f1 : (w.alloc (.cells #[.bool false, .slice none 0 0] 66)).frozen? ⟨w.heap.size, 1, none⟩ = false := frozen_of_row _ _ _ _ _ (heap_alloc_new w _)
  have hb0 : Below w.heap.size w (w.alloc (.cells #[.bool false, .slice none 0 0] 66)) := (Below.refl _ _).alloc (Nat.le_refl _) _
  have hs0 : w.heap.size < (w.alloc (.cells #[.bool false, .slice none 0 0] 66)).heap.size := by simp
  have C := hide (And.intro c0 (And.intro c1 (And.intro f0 (And.intro f1 (And.intro hb0 hs0)))))
  clear h3 c0 c1 f0 f1 hb0 hs0
  go_enter Try.func75, Try.ntmps75
  go_wp2
  generalize w.alloc (.cells #[.bool false, .slice none 0 0] 66) = w0 at C ⊢
  go_loopw [3, 4] (fun dv iv wr => ∃ (k : Nat) (ao' : Option Addr) (cap' : Nat) (D : List Int), k ≤ xs.length ∧ iv = .int .i64 ((k : Int) - 1) ∧ dv = .slice ao' D.length cap' ∧ Got wr ao' cap' D (Lm.val (xs.drop k)) ∧ Below w0.heap.size w0 wr) (fun _ i _ => (intOf i + 1).toNat)
  case atStart => exact ⟨xs.length, none, 0, [], Nat.le_refl _, rfl, rfl, ⟨⟨none, 0, rfl, Nat.le_refl _, by simp [maxLen], limb_nil, .inl rfl⟩, canon_nil, by simp [val, Lm.val]⟩, Below.refl _ _⟩
  case round =>
    obtain ⟨k, ao', cap', D, hk, rfl, rfl, hg, hbel⟩ := hrel
    have hdl := len_three hg.canon (Lm.limb_drop H3.out k) (by rw [hg.val]; omega)
    rw [List.length_drop] at hdl
    cases k with
    | zero =>
      rw [List.drop_zero] at hg
      go_wp2_with fail
      refine (made_g _ _ _ _ _ hg).mono ?_
      rintro e w1 ⟨rfl, hb1⟩
      replace hg := hg.below hb1
      have hB := hbel.trans (hb1.mono hbel.size)
      have d0 := (hB.cell (p := ⟨w.heap.size, 0, none⟩) C.out.2.2.2.2.2).trans C.out.1
      have d1 := (hB.cell (p := ⟨w.heap.size, 1, none⟩) C.out.2.2.2.2.2).trans C.out.2.1
      have g0 := (hB.frozen (p := ⟨w.heap.size, 0, none⟩) C.out.2.2.2.2.2).trans C.out.2.2.1
      have g1 := (hB.frozen (p := ⟨w.heap.size, 1, none⟩) C.out.2.2.2.2.2).trans C.out.2.2.2.1
      have hBw : Below w.heap.size w w1 := C.out.2.2.2.2.1.trans (hB.mono C.out.2.2.2.2.1.size)
      have e0 : Below w.heap.size w ((w1.setCell ⟨w.heap.size, 0, none⟩ (.bool false)).setCell ⟨w.heap.size, 1, none⟩ (.slice ao' D.length cap')) := (hBw.setCell (Nat.le_refl _) _).setCell (Nat.le_refl _) _
      have e1 : (w1.setCell ⟨w.heap.size, 0, none⟩ (.bool false)).cell? ⟨w.heap.size, 1, none⟩ = some (.slice none 0 0) := by
        rw [World.cell?_setCell_other _ _ _ _ (by simp)]; exact d1
      have e2 := hide ((hg.sl.setCell d0 (fun z => by simp) (.bool false)).setCell e1 (fun z => by simp) (.slice ao' D.length cap'))
      have e3 := hide hg.2
      have y0 := World.cell?_setCell_same _ _ (.bool false) d0
      have x1 := World.cell?_setCell_same _ _ (.slice ao' D.length cap') e1
      have X := hide (And.intro y0 x1)
      clear e1 y0 x1
      go_wp2
      refine bodyPost_ret (v := .agg #[.bool false, .slice ao' D.length cap']) ?_ rfl ⟨ao', cap', D, rfl, ⟨e2.out, e3.out⟩, by omega, e0⟩
      simp [results, Try.results75, go_sem, X.out.1, X.out.2]
    | succ k =>
      have sx := (hx.below C.out.2.2.2.2.1).below hbel
      obtain ⟨b, off, rfl, hcx⟩ := sx.cells (by omega)
      have cx := hcx k (by omega)
      have bx := Lm.limb_getD H3.out k
      have Hd := hide (Lm.drop_getD xs k (by omega))
      generalize xs.getD k 0 = z at cx bx Hd
      clear sx hcx
      go_wp2_with fail
      refine (small_any _ _ _ _ D hg.sl 4294967296 z (by omega) (by omega) (by omega)).mono ?_
      rintro e w1 ⟨v, rfl, hi, hb1⟩
      obtain ⟨ao2, cap2, D2, rfl, hg2⟩ := hi.got
      have HG : Hid (Got w1 ao2 cap2 D2 (Lm.val (xs.drop k))) := by
        show Got _ _ _ _ _
        rw [Hd.out, Lm.val, Int.add_comm, Int.mul_comm, ← hg.val]
        exact hg2
      have HBl := hide (hbel.trans (hb1.mono hbel.size))
      clear hg hg2 hi hb1
      go_wp2
      go_roundw
      case rel => exact ⟨k, ao2, cap2, D2, by omega, rfl, rfl, HG.out, HBl.out⟩
      case measure => simp [intOf]

end Dm
end Go.Proofs.Ytkdcgnooeojjgab

namespace Go.Proofs.Ytkdcgnooeojjgab
namespace Dm
open Go.RowKit
open Lm (hide lt_of_cell lt_of_heap div_of info32)

def lenOf : Value → Nat | .slice _ n _ => n | _ => 0

theorem cut_shorter {D E : List Int} (hD : Canon D) (hE : Canon E) (h : val E = val D / 4294967296) (h0 : 0 < D.length) : E.length < D.length := by
  have hb := val_bounds hD.1
  have : E.length ≤ D.length - 1 := by
    apply canon_len hE
    obtain ⟨k, hk⟩ : ∃ k, D.length = k + 1 := ⟨D.length - 1, by omega⟩
    rw [hk] at hb ⊢
    simp only [pw, Nat.add_sub_cancel] at hb ⊢
    rw [h]
    have := pw_pos k
    omega
  omega

theorem Ow.open {B : Nat} {w : World} {v : Value} {rs : List Int} (h : Ow B w v rs) : ∃ ao cap, v = .slice ao rs.length cap ∧ Sl w (.slice ao rs.length cap) rs ∧ rs.length ≤ cap ∧ cap ≤ 9223372036854775807 := by
  obtain ⟨ao, cap, rfl, h1, h2, h3, h4⟩ := h.sl
  exact ⟨ao, cap, rfl, ⟨ao, cap, rfl, h1, h2, h3, h4⟩, h1, h2⟩

/-- What is owned below the heap's end stays owned behind a call that writes nothing old. -/
theorem owns_below {B e n : Nat} {w w' : World} {v : Value} {xs : List Value} (h : w.ownsRow B e 1 v n xs) (hb : Below w.heap.size w w') : w'.ownsRow B e 1 v n xs := by
  obtain ⟨h1, h2⟩ := h
  refine ⟨h1, ?_⟩
  rcases h2 with h2 | ⟨g, cap, cur, hv, hg, hh, r⟩
  · exact .inl h2
  · exact .inr ⟨g, cap, cur, hv, hg, by rw [hb.block g (lt_of_heap hh)]; exact hh, r⟩

theorem Ow.grown {B : Nat} {w w' : World} {v : Value} {zs : List Int} {row : Option Nat} (h : Ow B w v zs) (hg : w.grownBy w' row) (hr : ∀ j, row = some j → j < B) : Ow B w' v zs := by
  obtain ⟨ao, cap, rfl, h1, h2, h3, h4⟩ := h
  refine ⟨ao, cap, rfl, h1, h2, h3, ?_⟩
  rcases h4 with h4 | ⟨g, off, cur, rfl, hB, hh, hs, ha⟩
  · exact .inl h4
  · refine .inr ⟨g, off, cur, rfl, hB, ?_, hs, ha⟩
    rw [hg.block g (lt_of_heap hh) (fun e => by have := hr g e.symm; omega)]
    exact hh

/-- A limb more behind. -/
theorem limbs_val {ls : List Int} {x y : Int} (h : Lm.val ls + Lm.pw ls.length * y = x) : Lm.val (ls ++ [y % 4294967296]) + Lm.pw (ls ++ [y % 4294967296]).length * (y / 4294967296) = x := by
  rw [Lm.val_snoc, List.length_append, List.length_singleton, Lm.pw, ← h]
  have e : y = y % 4294967296 + 4294967296 * (y / 4294967296) := by omega
  have e2 : Lm.pw ls.length * (y % 4294967296) + 4294967296 * Lm.pw ls.length * (y / 4294967296) = Lm.pw ls.length * y := by
    rw [Int.mul_comm 4294967296, Int.mul_assoc, ← Int.mul_add, ← e]
  omega

theorem limbs_top {ls : List Int} {y : Int} (h0 : 0 < y) (h1 : y / 4294967296 = 0) : Lm.tl (ls ++ [y % 4294967296]) = (ls ++ [y % 4294967296]).length := by
  have h2 : y % 4294967296 ≠ 0 := by omega
  have := Lm.tl_gt (zs := ls ++ [y % 4294967296]) (n := ls.length) (by simpa using h2)
  have := Lm.tl_le (ls ++ [y % 4294967296])
  simp at this ⊢
  simp at *
  omega

theorem limbs_room {ls : List Int} {x y : Int} {M : Nat} (hl : Lm.Limb ls) (h : Lm.val ls + Lm.pw ls.length * y = x) (hy : 0 < y) (hx : x < Lm.pw M) : ls.length < M := by
  apply Classical.byContradiction
  intro hn
  have h1 := Lm.pw_mono (m := M) (n := ls.length) (by omega)
  have h2 := (Lm.val_bounds hl).1
  have h3 := Lm.pw_pos ls.length
  have h4 : Lm.pw ls.length * 1 ≤ Lm.pw ls.length * y := Int.mul_le_mul_of_nonneg_left (by omega) (by omega)
  omega

theorem step_own32 {B : Nat} {w wr w1 : World} {v v' : Value} {k : Nat} {ds : List Int} {z : Int} {o : Obj} (h : w1.ownsRow B 73 1 v' (k + 1) (ds.map (Value.int .u32) ++ [.int .u32 z])) (hg : (wr.alloc o).grownBy w1 v.ownBlock) (hb : Below B w wr) (hB : B ≤ wr.heap.size) (hl : ∀ j, v.ownBlock = some j → B ≤ j ∧ j < wr.heap.size) :
    w1.ownsRow B 73 1 v' (k + 1) ((ds ++ [z]).map (Value.int .u32)) ∧ Below B w w1 := by
  refine ⟨by simpa using h, ((hb.alloc hB o).grown hg ?_ (fun j hj => (hl j hj).1))⟩
  simp
  omega

set_option maxRecDepth 20000 in
set_option maxHeartbeats 1000000 in
theorem limbs_loop (w : World) (ng : Bool) (ao : Option Addr) (cap : Nat) (D : List Int) (x : Int) (hD : Got w ao cap D x) (M : Nat) (hx : x < Lm.pw M) (hM : M ≤ 1000000) (hl : D.length ≤ 1000000) (h0 : 0 < D.length) :
    Calls Try.prog 79 #[.agg #[.bool ng, .slice ao D.length cap]] w fun e w' => ∃ v, e = .returned v ∧ Lm.Is w.heap.size w' v x ∧ Below w.heap.size w w' := by
  obtain ⟨_, h1, h2, h3⟩ := hD.sl.parts
  obtain ⟨i0, hi, hz0, hz1, hz2⟩ := info_parts info64
  obtain ⟨j0, hj, jz0, jz1, jz2⟩ := info_parts info32
  obtain ⟨b, off, rfl, hc⟩ := hD.sl.cells h0
  have hcells : ∀ j u, (D.map (Value.int .i64))[j]? = some u → (w.alloc (Obj.cells #[.bool ng, .slice (some ⟨b, off, none⟩) D.length cap] 66)).cell? ((⟨b, off, none⟩ : Addr).add j) = some u := by
    intro j u hu
    rw [List.getElem?_map] at hu
    have hj : j < D.length := by
      apply Classical.byContradiction
      intro hn
      rw [List.getElem?_eq_none (by omega)] at hu
      cases hu
    rw [List.getElem?_eq_getElem hj] at hu
    have hcj := hc j hj
    rw [List.getD_eq_getElem?_getD, List.getElem?_eq_getElem hj] at hcj
    rw [show ((⟨b, off, none⟩ : Addr).add j) = ⟨b, off + j, none⟩ from by simp [Addr.add], World.cell?_alloc_past _ _ _ (lt_of_cell hcj), hcj]
    exact hu
  have hone : ∀ u ∈ D.map (Value.int .i64), u.oneCell' = true := by
    intro u hu
    obtain ⟨z, _, rfl⟩ := List.mem_map.1 hu
    rfl
  have H3 := hide h3
  have HC := hide hD.2
  have HX := hide hx
  clear hc h3 hD hx
  go_enter Try.func79, Try.ntmps79
  go_wp2_with (at_builtin; refine wpList_append_own _ rfl (.const (.slice none 0 0)) (.tmp 7) 64 rfl (w.heap.size + 1) 3 i0 (.int .i64 0) 1 8 Try.underlying64 hi hz0 hz1 hz2 rfl (by decide) _ _ _ rfl (World.ownsRow_nil _ _ _ _) ⟨b, off, none⟩ D.length cap (D.map (Value.int .i64)) rfl (by simp) hcells hone (by unfold maxLen; omega) (by omega) (by simp) ?_)
  intro v' w1 hown hgrow _
  have hb1 : Below w.heap.size w w1 := ((Below.refl w.heap.size w).alloc (Nat.le_refl _) _).grown hgrow (by simp) (by intro k hk; simp [Value.ownBlock] at hk)
  obtain ⟨ao1, cap1, rfl, s1, _, _⟩ := (ow_of_row hown H3.out).open
  have hg1 : Got w1 ao1 cap1 D x := ⟨s1, HC.out⟩
  clear hown hgrow s1 hcells hone
  go_wp2
  go_loopw [3, 4] (fun lv dv wr => ∃ (ls D2 : List Int) (ao2 : Option Addr) (cap2 : Nat) (y : Int), dv = .slice ao2 D2.length cap2 ∧ Got wr ao2 cap2 D2 y ∧ D2.length ≤ D.length ∧ wr.ownsRow w.heap.size 73 1 lv ls.length (ls.map (Value.int .u32)) ∧ Lm.Limb ls ∧ Lm.val ls + Lm.pw ls.length * y = x ∧ (D2 = [] → Lm.tl ls = ls.length) ∧ Below w.heap.size w wr) (fun _ dv _ => lenOf dv)
  case atStart => exact ⟨[], D, ao1, cap1, x, rfl, hg1, Nat.le_refl _, World.ownsRow_nil _ _ _ _, Lm.limb_nil, by simp [Lm.val, Lm.pw], fun e => by rw [e] at h0; simp at h0, hb1⟩
  case round =>
    obtain ⟨ls, D2, ao2, cap2, y, rfl, hg, hdl, hown, hls, hv, htop, hbel⟩ := hrel
    have HLS := hide hls
    have HV := hide hv
    have HT := hide htop
    clear hls hv htop
    by_cases hz : 0 < D2.length
    · have hy : 0 < y := by
        have h5 := val_pos_tl hg.canon.1 (by rw [hg.canon.2]; exact hz)
        rw [hg.val] at h5
        exact h5
      have hroom := limbs_room HLS.out HV.out hy HX.out
      go_wp2_with fail
      refine (cutBy_any _ _ _ _ D2 hg.sl 4294967296 (by omega) (by omega) (by omega)).mono ?_
      rintro e w2 ⟨v2, rfl, i2, hb2⟩
      obtain ⟨D3, ho3, hc3, hv3⟩ := i2
      have hsh := cut_shorter hg.canon hc3 hv3 hz
      rw [hg.val] at hv3 ⊢
      obtain ⟨ao3, cap3, rfl, _, _, _⟩ := ho3.open
      have HO3 := hide ho3
      have HC3 := hide (And.intro hc3 hv3)
      have hls3 : Hid (∀ j, u3.ownBlock = some j → w.heap.size ≤ j ∧ j < wr.heap.size) := hown.lt
      have hbel2 := hbel.trans (hb2.mono hbel.size)
      have hown2 := owns_below hown hb2
      have HV' := hide (limbs_val HV.out)
      have HT' : Hid (D3 = [] → Lm.tl (ls ++ [y % 4294967296]) = (ls ++ [y % 4294967296]).length) := by
        intro e3
        refine limbs_top hy ?_
        rw [e3] at hv3
        exact hv3.symm
      clear ho3 hc3 hv3 hown hbel hb2 hg
      go_wp2_with (at_builtin; refine wpList_append_own _ rfl (.tmp 17) (.tmp 20) 22 rfl w.heap.size 73 j0 (.int .u32 0) 1 4 Try.underlying22 hj jz0 jz1 jz2 rfl (by decide) _ _ _ rfl (hown2.alloc _) ⟨w2.heap.size, 0, none⟩ 1 1 [.int .u32 (y % 4294967296)] rfl rfl (cell_one_new _ _ _) ?c2 ?c3 ?c4 ?c5 ?_)
      case c2 => first | rfl | (intro u hu; simp at hu; subst hu; rfl)
      case c3 => unfold maxLen; omega
      case c4 => omega
      case c5 => have := hbel2.size; first | omega | (simp; omega)
      intro v4 w4 hown4 hgrow4 _
      have R := step_own32 hown4 hgrow4 hbel2 hbel2.size (hown2.lt)
      have HG4 : Hid (Got w4 ao3 cap3 D3 (y / 4294967296)) := ⟨((HO3.out.below ((Below.refl w2.heap.size w2).alloc (Nat.le_refl _) _)).grown hgrow4 (fun j hj => (hls3.out j hj).2)).sl, HC3.out⟩
      clear hown4 hgrow4 hown2
      go_wp2
      go_roundw
      case rel => exact ⟨ls ++ [y % 4294967296], D3, ao3, cap3, y / 4294967296, rfl, HG4.out, by omega, by simpa using R.1, Lm.limb_append.2 ⟨HLS.out, Lm.limb_cons.2 ⟨by omega, Lm.limb_nil⟩⟩, HV'.out, HT'.out, R.2⟩
      case measure => simp [lenOf]; omega
    · have hz0 : D2 = [] := List.eq_nil_of_length_eq_zero (by omega)
      have hy0 : y = 0 := by rw [← hg.val, hz0]; rfl
      have hvx : Lm.val ls = x := by have := HV.out; rw [hy0, Int.mul_zero, Int.add_zero] at this; exact this
      have his : Lm.Is w.heap.size wr u3 x := ⟨ls, Lm.ow_of_row hown HLS.out, ⟨HLS.out, HT.out hz0⟩, hvx⟩
      clear hz0 hy0 hvx hown hg
      go_wp2
      go_ret
      exact ⟨_, rfl, his, hbel⟩

end Dm
end Go.Proofs.Ytkdcgnooeojjgab
