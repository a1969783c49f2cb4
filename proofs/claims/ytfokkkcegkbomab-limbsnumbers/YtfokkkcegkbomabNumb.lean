/-
  LimbsNumbers answers true, whatever number and list of limbs it is handed.
-/
import Derived.Test.YtfokkkcegkbomabDRef
import Derived.OpenShut
namespace Go.Proofs.Ytfokkkcegkbomab
namespace Lm
open Go.RowKit
open Dm (u64 u64ok long_val short_val ret2_u64)

theorem row_cells {w : World} {b off : Nat} {zs : List Int} (hc : ∀ i, i < zs.length → w.cell? ⟨b, off + i, none⟩ = some (.int .u32 (zs.getD i 0))) : ∀ j u, (zs.map (Value.int .u32))[j]? = some u → w.cell? ((⟨b, off, none⟩ : Addr).add j) = some u := by
  intro j u hu
  rw [List.getElem?_map] at hu
  have hj : j < zs.length := by
    apply Classical.byContradiction
    intro hn
    rw [List.getElem?_eq_none (by omega)] at hu
    cases hu
  rw [List.getElem?_eq_getElem hj] at hu
  have hcj := hc j hj
  rw [List.getD_eq_getElem?_getD, List.getElem?_eq_getElem hj] at hcj
  rw [show ((⟨b, off, none⟩ : Addr).add j) = ⟨b, off + j, none⟩ from by simp [Addr.add], hcj]
  exact hu

theorem row_one (zs : List Int) : ∀ u ∈ zs.map (Value.int .u32), u.oneCell' = true := by
  intro u hu
  obtain ⟨z, _, rfl⟩ := List.mem_map.1 hu
  rfl

set_option maxHeartbeats 400000 in
theorem copy_any (w : World) (ao : Option Addr) (n cap : Nat) (xs : List Int) (hx : Sl w (.slice ao n cap) xs) (hl : xs.length ≤ 1000000) :
    Calls Try.prog 11 #[.slice ao n cap] w fun e w' => ∃ v, e = .returned v ∧ Ow w.heap.size w' v xs ∧ Below w.heap.size w w' := by
  obtain ⟨rfl, h1, h2, h3⟩ := hx.parts
  obtain ⟨i0, hi, hz0, hz1, hz2⟩ := info_parts info32
  by_cases h0 : 0 < xs.length
  · obtain ⟨b, off, rfl, hc⟩ := hx.cells h0
    have hcells := row_cells hc
    have H3 := hide h3
    clear hc h3 hx
    go_enter Try.func11, Try.ntmps11
    go_wp2_with (at_builtin; refine wpList_append_own _ rfl (.const (.slice none 0 0)) (.tmp 3) 23 rfl w.heap.size 45 i0 (.int .u32 0) 1 4 Try.underlying23 hi hz0 hz1 hz2 rfl (by decide) _ _ _ rfl (World.ownsRow_nil _ _ _ _) ⟨b, off, none⟩ xs.length cap (xs.map (Value.int .u32)) rfl (by simp) hcells (row_one xs) (by unfold maxLen; omega) (by omega) (by simp) ?_)
    intro v' w1 hown hgrow _
    have hb1 : Below w.heap.size w w1 := (Below.refl w.heap.size w).grown hgrow (by simp) (by intro k hk; simp [Value.ownBlock] at hk)
    have how := ow_of_row (zs := xs) (by simpa using hown) H3.out
    clear hown hgrow
    go_wp2
    go_ret
    exact ⟨_, rfl, how, hb1⟩
  · have e : xs = [] := List.eq_nil_of_length_eq_zero (by omega)
    subst e
    cases ao with
    | none =>
      go_enter Try.func11, Try.ntmps11
      go_wp2
      go_ret
      exact ⟨_, rfl, ⟨none, 0, rfl, Nat.le_refl _, by simp [maxLen], limb_nil, .inl rfl⟩, Below.refl _ _⟩
    | some ad =>
      go_enter Try.func11, Try.ntmps11
      go_wp2
      go_ret
      exact ⟨_, rfl, ⟨none, 0, rfl, Nat.le_refl _, by simp [maxLen], limb_nil, .inl rfl⟩, Below.refl _ _⟩

theorem two_val {rs : List Int} (h : ¬ 2 < rs.length) : rs.getD 1 0 * 4294967296 + rs.getD 0 0 = val rs := by
  match rs, h with
  | [], _ => rfl
  | [x], _ => simp [val]
  | [x, y], _ => simp [val]; omega
  | _ :: _ :: _ :: _, h => simp at h

set_option maxHeartbeats 400000 in
theorem uint_any (w : World) (ao : Option Addr) (n cap : Nat) (xs : List Int) (hx : Sl w (.slice ao n cap) xs) :
    Calls Try.prog 10 #[.slice ao n cap] w fun e w' => e = .returned (.tuple #[.int .u64 (u64 (val xs)), .bool (u64ok (val xs))]) ∧ Below w.heap.size w w' := by
  obtain ⟨rfl, h1, h2, h3⟩ := hx.parts
  have t1 := tl_le xs
  have kc := hide (cut_any w ao _ cap xs hx)
  have hcn := canon_trim h3
  have hX : (xs.take (tl xs)).length = tl xs := by simp; omega
  by_cases hh : 2 < tl xs
  · have HL := long_val hcn (by omega)
    rw [val_take_tl] at HL
    have E1 : Hid (u64 (val xs) = 0) := by simp [Hid, u64, HL]
    have E2 : Hid (u64ok (val xs) = false) := by simp [Hid, u64ok]; omega
    have h2' : (2 : Int) < ((tl xs : Nat) : Int) := by omega
    clear HL hcn hX
    go_enter Try.func10, Try.ntmps10
    go_wp2_with fail
    refine (kc.out).mono ?_
    rintro e w' ⟨rfl, rfl⟩
    go_wp2
    go_ret2
    exact ⟨by rw [E1.out, E2.out]; rfl, Below.refl _ _⟩
  · have HL := short_val hcn.1 (by omega)
    rw [val_take_tl] at HL
    have E1 : Hid (u64 (val xs) = val (xs.take (tl xs))) := by rw [val_take_tl]; simp [Hid, u64, HL]
    have E2 : Hid (u64ok (val xs) = true) := by simp [Hid, u64ok]; omega
    have h2' : ¬ (2 : Int) < ((tl xs : Nat) : Int) := by omega
    have E3 := hide (two_val (rs := xs.take (tl xs)) (by omega))
    have b1 := limb_getD hcn.1 1
    have b0 := limb_getD hcn.1 0
    have k1 := limb_nat w _ _ hx.cut 1
    have k0 := limb_nat w _ _ hx.cut 0
    generalize (xs.take (tl xs)).getD 1 0 = y1 at E3 b1 k1
    generalize (xs.take (tl xs)).getD 0 0 = y0 at E3 b0 k0
    have K1 := hide k1
    have K0 := hide k0
    have hor : bits .or .u64 (y1 * 4294967296) y0 = y1 * 4294967296 + y0 := or_join y1 y0 b1.1 b1.2 b0.1 b0.2
    clear HL hcn hX k1 k0
    go_enter Try.func10, Try.ntmps10
    go_wp2_with fail
    refine (kc.out).mono ?_
    rintro e w' ⟨rfl, rfl⟩
    go_wp2_with fail
    refine (K1.out).mono ?_
    rintro e w' ⟨rfl, rfl⟩
    go_wp2_with fail
    refine (K0.out).mono ?_
    rintro e w' ⟨rfl, rfl⟩
    go_wp2
    go_ret2
    exact ⟨ret2_u64 (by rw [E1.out, E3.out]) E2.out.symm, Below.refl _ _⟩

set_option maxHeartbeats 400000 in
theorem numbers_long (w : World) (v : Int) (a1 : Option Addr) (n1 c1 : Nat) (h : 1500 < (n1 : Int)) (_b1 : n1 ≤ 35184372088832) :
    Calls Try.prog 3 #[.int .u64 v, .slice a1 n1 c1] w fun e w' => e = .returned (.bool true) ∧ Below w.heap.size w w' := by
  go_enter Try.func3, Try.ntmps3
  go_wp2_with fail
  refine (awake_any _).mono ?_
  rintro e w1 ⟨rfl, hb⟩
  go_wp2
  go_ret
  exact ⟨rfl, hb⟩

theorem small_g (w : World) (n : Int) (h0 : 0 ≤ n) (h1 : n < 18446744073709551616) :
    Calls Try.prog 14 #[.int .u64 n] w fun e w' => ∃ ao cap rs, e = .returned (.slice ao rs.length cap) ∧ Got w' ao cap rs n ∧ rs.length ≤ 2 ∧ Below w.heap.size w w' := by
  refine (small_any w n h0 h1).mono ?_
  rintro e w' ⟨v, rfl, hi, hb⟩
  obtain ⟨ao, cap, rs, rfl, hg⟩ := hi.got
  refine ⟨ao, cap, rs, rfl, hg, canon_len hg.canon ?_, hb⟩
  rw [hg.val, show pw 2 = 18446744073709551616 from by decide]
  exact h1

set_option maxHeartbeats 1000000 in
theorem numbers_short (w : World) (v : Int) (a1 : Option Addr) (n1 c1 : Nat) (xs : List Int) (h0 : 0 ≤ v) (h1 : v < 18446744073709551616) (hx : Sl w (.slice a1 n1 c1) xs) (h : ¬ 1500 < (n1 : Int)) :
    Calls Try.prog 3 #[.int .u64 v, .slice a1 n1 c1] w fun e w' => e = .returned (.bool true) ∧ Below w.heap.size w w' := by
  obtain ⟨rfl, _, _, lx⟩ := hx.parts
  have HB := Below.refl w.heap.size w
  have K1 := hide (fun w ao n cap xs hx => uint_any w ao n cap xs hx)
  have K2 := hide (fun w ao n cap xs hx hl => Dm.ruint_any w ao n cap xs hx hl)
  clear lx
  go_enter Try.func3, Try.ntmps3
  go_wp2_with fail
  refine (awake_any _).mono ?_
  rintro e w1 ⟨rfl, hb1⟩
  replace HB := HB.trans (hb1.mono HB.size)
  replace hx := hx.below hb1
  go_wp2_with fail
  refine (copy_any _ _ _ _ xs hx (by omega)).mono ?_
  rintro e w2 ⟨v2, rfl, o2, hb2⟩
  replace HB := HB.trans (hb2.mono HB.size)
  replace hx := hx.below hb2
  obtain ⟨p2, q2, rfl, _, _, _, _⟩ := o2.sl
  go_wp2_with fail
  refine (uint_any _ _ _ _ xs o2.sl).mono ?_
  rintro e w3 ⟨rfl, hb3⟩
  replace HB := HB.trans (hb3.mono HB.size)
  replace hx := hx.below hb3
  go_wp2_with fail
  refine (Dm.ruint_any _ _ _ _ xs hx (by omega)).mono ?_
  rintro e w4 ⟨rfl, hb4⟩
  replace HB := HB.trans (hb4.mono HB.size)
  replace hx := hx.below hb4
  go_wp2_with fail
  refine (small_g _ v h0 h1).mono ?_
  rintro e w5 ⟨p5, q5, r5, rfl, G5, l5, hb5⟩
  replace HB := HB.trans (hb5.mono HB.size)
  go_wp2_with fail
  refine (Dm.rsmall_any _ v h0 h1).mono ?_
  rintro e w6 ⟨p6, q6, r6, rfl, G6, l6, hb6⟩
  replace HB := HB.trans (hb6.mono HB.size)
  replace G5 := G5.below hb6
  go_wp2_with fail
  refine (same_g _ _ _ _ _ r5 r6 _ _ G5 G6 rfl).mono ?_
  rintro e w7 ⟨rfl, hb7⟩
  replace HB := HB.trans (hb7.mono HB.size)
  go_wp2
  go_ret
  exact ⟨rfl, HB⟩

theorem numbers_law (w : World) (v : Int) (a1 : Option Addr) (n1 c1 : Nat) (xs : List Int) (hv : (Lit.int .u64 v).wf = true) (hx : Sl w (.slice a1 n1 c1) xs) (b1 : n1 ≤ 35184372088832) :
    Calls Try.prog 3 #[.int .u64 v, .slice a1 n1 c1] w fun e w' => e = .returned (.bool true) ∧ Below w.heap.size w w' := by
  by_cases h : 1500 < (n1 : Int)
  · exact numbers_long w v a1 n1 c1 h b1
  · have := bounds_u64 hv
    exact numbers_short w v a1 n1 c1 xs this.1 (by omega) hx h

end Lm
end Go.Proofs.Ytfokkkcegkbomab
