/-
  The contract of the reference's small: a magnitude times a number, and one added.
-/
import Derived.Test.YthbomfboohjcfaaDCut
namespace Go.Proofs.Ythbomfboohjcfaa
namespace Dm
open Go.RowKit

theorem info64 : (Try.prog.info? 3).map (fun i => (i.zero, i.size, i.bytes)) = some (some (.int .i64 0), 1, 8) := by kernel_rfl

theorem ow_of_row {w : World} {B : Nat} {v : Value} {n : Nat} {zs : List Int} (h : w.ownsRow B 3 1 v n (zs.map (Value.int .i64))) (hz : Limb zs) : Ow B w v zs := by
  obtain ⟨h1, h2⟩ := h
  have hn : zs.length = n := by simpa using h1
  subst hn
  rcases h2 with ⟨rfl, h3⟩ | ⟨g, cap, cur, rfl, hg, hh, hc1, hc2, hs, ht⟩
  · exact ⟨none, 0, by rw [h3], by omega, by simp [maxLen], hz, .inl rfl⟩
  · refine ⟨_, cap, rfl, hc1, hc2, hz, .inr ⟨g, 0, cur, rfl, hg, hh, by omega, fun i hi => ?_⟩⟩
    have e : (cur.toList.take (zs.length * 1))[i]? = (zs.map (Value.int .i64))[i]? := by rw [ht]
    rw [List.getElem?_take, if_pos (by omega)] at e
    rw [Nat.zero_add, ← Array.getElem?_toList, e, List.getElem?_map, List.getElem?_eq_getElem hi, List.getD_eq_getElem?_getD, List.getElem?_eq_getElem hi]
    rfl

theorem Ow.is_cut {B : Nat} {w : World} {ao : Option Addr} {n cap : Nat} {zs : List Int} {x : Int} (h : Ow B w (.slice ao n cap) zs) (hv : val zs = x) : Is B w (.slice ao (tl zs) cap) x := by
  have hl := h.sl.parts.2.2.2
  exact ⟨zs.take (tl zs), h.take (tl_le zs), canon_trim hl, by rw [val_take_tl, hv]⟩

/-- A round of small. -/
theorem small_val {A ds : List Int} {k : Nat} {a c m more s : Int} (hk : ds.length = k) (ha : A.getD k 0 = a) (hs : s = c + a * m) (h : val ds + pw k * c = vf A k * m + more) :
    val (ds ++ [s % 10000]) + pw (k + 1) * (s / 10000) = vf A (k + 1) * m + more := by
  rw [val_snoc, vf, ha, hk, pw, Int.add_mul]
  have e : s = s % 10000 + 10000 * (s / 10000) := by omega
  have e2 : pw k * (s % 10000) + 10000 * pw k * (s / 10000) = pw k * s := by
    rw [Int.mul_comm 10000 (pw k), Int.mul_assoc, ← Int.mul_add, ← e]
  have e3 : pw k * a * m = pw k * (a * m) := by rw [Int.mul_assoc]
  rw [Int.add_assoc, e2, hs, Int.mul_add, e3]
  omega

theorem small_bound {a m : Int} (ha : 0 ≤ a ∧ a < 10000) (hm : 0 ≤ m ∧ m ≤ 4294967296) : 0 ≤ a * m ∧ a * m ≤ 42945378000704 := by
  refine ⟨Int.mul_nonneg ha.1 hm.1, ?_⟩
  have h1 : a * m ≤ 9999 * m := Int.mul_le_mul_of_nonneg_right (by omega) hm.1
  omega

theorem step_own {w wr w1 : World} {v v' : Value} {k : Nat} {ds : List Int} {z : Int} {o : Obj} (h : w1.ownsRow w.heap.size 3 1 v' (k + 1) (ds.map (Value.int .i64) ++ [.int .i64 z])) (hg : (wr.alloc o).grownBy w1 v.ownBlock) (hb : Below w.heap.size w wr) (hl : ∀ j, v.ownBlock = some j → w.heap.size ≤ j ∧ j < wr.heap.size) :
    w1.ownsRow w.heap.size 3 1 v' (k + 1) ((ds ++ [z]).map (Value.int .i64)) ∧ Below w.heap.size w w1 := by
  refine ⟨by simpa using h, ((hb.alloc hb.size o).grown hg ?_ (fun j hj => (hl j hj).1))⟩
  have := hb.size
  simp
  omega

set_option maxRecDepth 20000 in
set_option maxHeartbeats 1000000 in
theorem small_any (w : World) (ao : Option Addr) (n cap : Nat) (A : List Int) (hA : Sl w (.slice ao n cap) A) (m more : Int) (hm : 0 ≤ m ∧ m ≤ 4294967296) (hmo : 0 ≤ more ∧ more ≤ 4294967296) (hl : A.length ≤ 1000000) :
    Calls Try.prog 65 #[.slice ao n cap, .int .i64 m, .int .i64 more] w fun e w' => ∃ v, e = .returned v ∧ Is w.heap.size w' v (val A * m + more) ∧ Below w.heap.size w w' := by
  obtain ⟨rfl, h1, h2, h3⟩ := hA.parts
  obtain ⟨i0, hi, hz0, hz1, hz2⟩ := info_parts info64
  have H3 := hide h3
  clear h3
  go_enter Try.func65, Try.ntmps65
  go_wp2
  go_loopw [7, 8, 9] (fun dv cv iv wr => ∃ (k : Nat) (c : Int) (ds : List Int), cv = .int .i64 c ∧ iv = .int .i64 k ∧ (0 ≤ c ∧ c ≤ 4294967296) ∧ (k : Int) + c ≤ (A.length : Int) + 4294967296 ∧ ds.length = k ∧ Limb ds ∧ val ds + pw k * c = vf A k * m + more ∧ wr.ownsRow w.heap.size 3 1 dv k (ds.map (Value.int .i64)) ∧ Below w.heap.size w wr) (fun _ cv iv _ => (A.length - (intOf iv).toNat) * 8589934592 + (intOf cv).toNat)
  case atStart => exact ⟨0, more, [], rfl, rfl, hmo, by omega, rfl, limb_nil, by simp [val, vf, pw], World.ownsRow_nil _ _ _ _, Below.refl _ _⟩
  case round =>
    obtain ⟨k, c, ds, rfl, rfl, hc, hkc, hdl, hd, hval, hown, hbel⟩ := hrel
    have HD := hide hd
    have HDL := hide hdl
    have HV := hide hval
    clear hd hdl hval
    have hsz := hbel.size
    by_cases hlt : k < A.length
    · have sA := hA.below hbel
      obtain ⟨b, off, rfl, hca⟩ := sA.cells (by omega)
      have ca := hca k hlt
      have ba := limb_getD H3.out k
      obtain ⟨a, hak⟩ : ∃ a, A.getD k 0 = a := ⟨_, rfl⟩
      rw [hak] at ca ba
      have bm := small_bound ba hm
      have HV' := hide (small_val (m := m) HDL.out hak rfl HV.out)
      have d1 : decide ((k : Int) < (A.length : Int)) = true := by simp; omega
      have d2 : (k : Int) < (A.length : Int) := by omega
      clear hak sA hca
      go_wp2_with (at_builtin; refine wpList_append_own _ rfl (.tmp 33) (.tmp 36) 54 rfl w.heap.size 3 i0 (.int .i64 0) 1 8 Try.underlying54 hi hz0 hz1 hz2 rfl (by decide) _ _ _ rfl (hown.alloc _) ⟨wr.heap.size, 0, none⟩ 1 1 [.int .i64 ((c + a * m) % 10000)] rfl rfl (cell_one_new _ _ _) ?c2 ?c3 ?c4 ?c5 ?_)
      case c2 => first | rfl | (intro u hu; simp at hu; subst hu; rfl)
      case c3 => unfold maxLen; omega
      case c4 => omega
      case c5 => first | omega | (simp; omega)
      intro v' w1 hown' hgrow _
      have R := step_own hown' hgrow hbel (hown.lt)
      clear hown' hgrow hown
      go_wp2
      go_roundw
      case rel => exact ⟨k + 1, _, ds ++ [(c + a * m) % 10000], rfl, by go_num, by omega, by omega, by have := HDL.out; simp; omega, limb_append.2 ⟨HD.out, limb_cons.2 ⟨by omega, limb_nil⟩⟩, HV'.out, R.1, R.2⟩
      case measure => simp [intOf]; omega
    · have hak : A.getD k 0 = 0 := by rw [List.getD_eq_getElem?_getD, List.getElem?_eq_none (by omega)]; rfl
      have d1 : decide ((k : Int) < (A.length : Int)) = false := by simp; omega
      have d2 : ¬ (k : Int) < (A.length : Int) := by omega
      by_cases hc0 : 0 < c
      · have HV' := hide (small_val (m := m) (s := c) HDL.out hak (by omega) HV.out)
        clear hak
        go_wp2_with (at_builtin; refine wpList_append_own _ rfl (.tmp 33) (.tmp 36) 54 rfl w.heap.size 3 i0 (.int .i64 0) 1 8 Try.underlying54 hi hz0 hz1 hz2 rfl (by decide) _ _ _ rfl (hown.alloc _) ⟨wr.heap.size, 0, none⟩ 1 1 [.int .i64 (c % 10000)] rfl rfl (cell_one_new _ _ _) ?c2' ?c3' ?c4' ?c5' ?_)
        case c2' => first | rfl | (intro u hu; simp at hu; subst hu; rfl)
        case c3' => unfold maxLen; omega
        case c4' => omega
        case c5' => first | omega | (simp; omega)
        intro v' w1 hown' hgrow _
        have R := step_own hown' hgrow hbel (hown.lt)
        clear hown' hgrow hown
        go_wp2
        go_roundw
        case rel => exact ⟨k + 1, c / 10000, ds ++ [c % 10000], rfl, by go_num, by omega, by omega, by have := HDL.out; simp; omega, limb_append.2 ⟨HD.out, limb_cons.2 ⟨by omega, limb_nil⟩⟩, HV'.out, R.1, R.2⟩
        case measure => simp [intOf]; omega
      · have hc1 : c = 0 := by omega
        subst hc1
        have how := ow_of_row hown HD.out
        have hvv : val ds = val A * m + more := by
          have := HV.out
          rw [Int.mul_zero, Int.add_zero, vf_all A _ (by omega)] at this
          exact this
        obtain ⟨ao', cap', rfl, o1, o2, o3, o4⟩ := how
        have how' : Ow w.heap.size wr (.slice ao' ds.length cap') ds := ⟨ao', cap', rfl, o1, o2, o3, o4⟩
        have his := how'.is_cut hvv
        clear hvv o3 o4 hown hak
        go_wp2_with fail
        refine (cut_any _ _ _ _ _ how'.sl).mono ?_
        rintro e w2 ⟨rfl, rfl⟩
        go_wp2
        go_ret
        exact ⟨_, rfl, his, hbel⟩

end Dm
end Go.Proofs.Ythbomfboohjcfaa
