/-
  The contracts of Left and Right.
-/
import Derived.Test.YthbomfboohjcfacDivL
namespace Go.Proofs.Ythbomfboohjcfac
namespace Lm
open Go.RowKit

theorem owns_below {B e n : Nat} {w w' : World} {v : Value} {xs : List Value} (h : w.ownsRow B e 1 v n xs) (hb : Below w.heap.size w w') : w'.ownsRow B e 1 v n xs := by
  obtain ⟨h1, h2⟩ := h
  refine ⟨h1, ?_⟩
  rcases h2 with h2 | ⟨g, cap, cur, hv, hg, hh, r⟩
  · exact .inl h2
  · exact .inr ⟨g, cap, cur, hv, hg, by rw [hb.block g (lt_of_heap hh)]; exact hh, r⟩

theorem cells_row {w : World} {b off : Nat} {zs : List Int} (hc : ∀ i, i < zs.length → w.cell? ⟨b, off + i, none⟩ = some (.int .u32 (zs.getD i 0))) : ∀ j u, (zs.map (Value.int .u32))[j]? = some u → w.cell? ((⟨b, off, none⟩ : Addr).add j) = some u := by
  intro j u hu
  rw [List.getElem?_map] at hu
  have hj : j < zs.length := by
    apply Classical.byContradiction
    intro hn
    rw [List.getElem?_eq_none (by omega)] at hu
    cases hu
  rw [List.getElem?_eq_getElem hj] at hu
  have hcj := hc j hj
  rw [List.getD_eq_getElem?_getD, List.getElem?_eq_getElem hj] at hcj
  rw [show ((⟨b, off, none⟩ : Addr).add j) = ⟨b, off + j, none⟩ from by simp [Addr.add], hcj]
  exact hu

theorem one_row (zs : List Int) : ∀ u ∈ zs.map (Value.int .u32), u.oneCell' = true := by
  intro u hu
  obtain ⟨z, _, rfl⟩ := List.mem_map.1 hu
  rfl

theorem made_zeros (n : Nat) : (madeCells #[Value.int .u32 0] n).toList = (List.replicate n (0 : Int)).map (Value.int .u32) := by
  apply List.ext_getElem?
  intro i
  rw [List.getElem?_map, List.getElem?_replicate, Array.getElem?_toList]
  by_cases hi : i < n
  · have h0 : i < (Array.range n).size := by simpa using hi
    simp [madeCells, hi, Nat.mod_one]
  · have h0 : ¬ i < (Array.range n).size := by simpa using hi
    simp [madeCells, hi]

theorem p2_div (k : Nat) : p2 k = pw (k / 32) * p2 (k % 32) := by
  rw [pw_p2, ← p2_add, Nat.div_add_mod]

set_option maxRecDepth 20000 in
set_option maxHeartbeats 1000000 in
theorem left_any (w : World) (ao : Option Addr) (n cap : Nat) (xs : List Int) (hx : Sl w (.slice ao n cap) xs) (hm : xs.length ≤ 500000) (k : Nat) (hk : k ≤ 4096) :
    Calls Try.prog 10 #[.slice ao n cap, .int .i64 k] w fun e w' => ∃ v, e = .returned (.tuple #[v, .int .i64 0]) ∧ Is w.heap.size w' v (val xs * p2 k) ∧ Below w.heap.size w w' := by
  obtain ⟨rfl, h1, h2, h3⟩ := hx.parts
  obtain ⟨i0, hi, hz0, hz1, hz2⟩ := info_parts info32
  obtain ⟨N, hN⟩ : ∃ N, N = k / 32 := ⟨_, rfl⟩
  obtain ⟨s, hs⟩ : ∃ s, s = k % 32 := ⟨_, rfl⟩
  have PK : Hid (p2 k = pw N * p2 s) := by rw [hN, hs]; exact p2_div k
  have n1 : 32 * N + s ≤ k := by omega
  have n2 : k ≤ 32 * N + s := by omega
  have hs31 : s ≤ 31 := by omega
  clear hN hs h3
  go_enter Try.func10, Try.ntmps10
  have km : Hid (∀ w : World, Sl w (.slice ao xs.length cap) xs → Calls Try.prog 56 #[.slice ao xs.length cap, .int .u64 ((k : Int) % 32)] w fun e w' => ∃ cur qs, e = .returned (.slice (some ⟨w.heap.size, 0, none⟩) (xs.length + 1) (xs.length + 1)) ∧ Limb qs ∧ qs.length = xs.length + 1 ∧ val qs = val xs * p2 s ∧ w'.heap[w.heap.size]? = some (.cells cur 27 (0, 0)) ∧ cur.size = xs.length + 1 ∧ At cur .u32 0 qs ∧ Below w.heap.size w w') := by
    intro w hw
    rw [show (k : Int) % 32 = (s : Nat) by omega]
    exact moveUp_any w ao _ cap xs hw s hs31 (by omega)
  go_wp2_with (refine wpList_make_full _ rfl (.tmp 12) (.tmp 12) 22 rfl w.heap.size 27 i0 (.int .u32 0) 1 Try.underlying22 hi hz0 hz1 .i64 .i64 _ _ N rfl rfl (by omega) (by omega) (by rw [hz2]; omega) (by unfold maxLen; omega) (Nat.le_refl _) ?hK)
  case hK =>
    intro w1 hown hgrow
    have hb1 : Below w.heap.size w w1 := (Below.refl w.heap.size w).grown hgrow (Nat.le_refl _) (by simp)
    rw [made_zeros] at hown
    have hx1 := hx.below hb1
    clear hgrow
    go_wp2_with fail
    refine (km.out _ hx1).mono ?_
    rintro e w2 ⟨cur, qs, rfl, hq, hql, hqv, hqh, hqs, hqa, hb2⟩
    have hown2 := owns_below hown hb2
    have hcells := cells_row (fun i hi => hqa.cell hqh i hi)
    have hbel := hb1.trans (hb2.mono hb1.size)
    have HQ := hide hq
    have HL := hide hql
    have HV := hide hqv
    clear hown hb2 hb1 hx1 hq hql hqv hqh hqs hqa
    go_wp2_with (at_builtin; (refine wpList_append_own _ rfl (.tmp 14) (.tmp 19) 22 rfl w.heap.size 27 i0 (.int .u32 0) 1 4 Try.underlying22 hi hz0 hz1 hz2 rfl (by decide) _ _ _ rfl hown2 ⟨w1.heap.size, 0, none⟩ (xs.length + 1) (xs.length + 1) (qs.map (Value.int .u32)) rfl (by rw [List.length_map, Nat.mul_one]; exact HL.out) hcells (one_row qs) ?c3 ?c4 ?c5 ?_))
    case c3 => unfold maxLen; omega
    case c4 => omega
    case c5 => have := hbel.size; first | omega | (simp; omega)
    intro v3 w3 hown3 hgrow3 _
    have hb3 : Below w.heap.size w w3 := hbel.grown hgrow3 (by have := hbel.size; first | omega | (simp; omega)) (fun j hj => (hown2.lt j hj).1)
    have how : Ow w.heap.size w3 v3 (List.replicate N 0 ++ qs) := ow_of_row (by simpa using hown3) (limb_append.2 ⟨limb_zeros _, HQ.out⟩)
    have hval : val (List.replicate N (0 : Int) ++ qs) = val xs * p2 k := by
      rw [val_append, val_zeros, HV.out, PK.out, List.length_replicate, Int.zero_add, ← Int.mul_assoc, Int.mul_comm (pw N), Int.mul_assoc]
    have HL2 : Hid ((List.replicate N (0 : Int) ++ qs).length = N + (xs.length + 1)) := by
      have := HL.out
      show _ = _
      rw [List.length_append, List.length_replicate, this]
    generalize List.replicate N (0 : Int) ++ qs = zs at how hval HL2
    obtain ⟨ao3, cap3, hv3, o1, o2, o3, o4⟩ := how
    have how' : Ow w.heap.size w3 (.slice ao3 zs.length cap3) zs := ⟨ao3, cap3, rfl, o1, o2, o3, o4⟩
    subst hv3
    have his := how'.is_cut hval
    have hsl := how'.sl
    clear hown3 hgrow3 hown2 hcells hval o3 o4 how'
    go_wp2_with fail
    refine (cut_any _ _ _ _ _ hsl).mono ?_
    rintro e w4 ⟨rfl, rfl⟩
    go_wp2
    go_ret2
    exact ⟨_, rfl, his, hb3⟩

theorem down_over {xs : List Int} {k : Nat} (hx : Limb xs) : val (xs.drop (min (k / 32) xs.length)) / p2 (k % 32) = val xs / p2 k := by
  have hp := pw_pos (k / 32)
  have e0 : val (xs.drop (min (k / 32) xs.length)) = val xs / pw (k / 32) := by
    by_cases h : k / 32 ≤ xs.length
    · rw [Nat.min_eq_left h]
      have e := val_append (xs.take (k / 32)) (xs.drop (k / 32))
      rw [List.take_append_drop, List.length_take, Nat.min_eq_left h] at e
      have b := val_bounds (limb_take hx (k / 32))
      rw [List.length_take, Nat.min_eq_left h] at b
      exact (div_of (a := val xs) (b := pw (k / 32)) (by omega) (by rw [e, Int.mul_comm]; omega) b.1 b.2).1.symm
    · rw [Nat.min_eq_right (by omega), List.drop_of_length_le (Nat.le_refl _)]
      have b := val_bounds hx
      have hm := pw_mono (m := xs.length) (n := k / 32) (by omega)
      rw [Int.ediv_eq_zero_of_lt b.1 (by omega)]
      rfl
  rw [e0, p2_div k, Int.ediv_ediv_of_nonneg (by omega)]

theorem Sl.drop {w : World} {ao : Option Addr} {n cap : Nat} {zs : List Int} (h : Sl w (.slice ao n cap) zs) {k : Nat} (hk : k ≤ zs.length) {b off : Nat} (ha : ao = some ⟨b, off, none⟩) : Sl w (.slice (some ⟨b, off + k, none⟩) (zs.length - k) (cap - k)) (zs.drop k) := by
  obtain ⟨ao', cap', hv, h1, h2, h3, h4⟩ := h
  obtain ⟨rfl, rfl, rfl⟩ := (Value.slice.injEq .. ▸ hv)
  refine ⟨_, cap - k, by rw [List.length_drop], by rw [List.length_drop]; omega, by omega, limb_drop h3 _, ?_⟩
  rcases h4 with rfl | ⟨b', off', e, hc⟩
  · exact .inl (by simp)
  · rw [ha] at e
    obtain ⟨rfl, rfl⟩ : b = b' ∧ off = off' := by simpa using e
    refine .inr ⟨b, off + k, rfl, fun i hi => ?_⟩
    rw [List.length_drop] at hi
    rw [show off + k + i = off + (k + i) by omega, hc (k + i) (by omega), List.getD_eq_getElem?_getD, List.getD_eq_getElem?_getD, List.getElem?_drop]

theorem sl_empty (w : World) (ao : Option Addr) (n cap : Nat) (hn : n = 0) (hc : cap ≤ maxLen) : Sl w (.slice ao n cap) [] := ⟨ao, cap, by rw [hn]; rfl, Nat.zero_le _, hc, limb_nil, .inl rfl⟩

set_option maxRecDepth 20000 in
set_option maxHeartbeats 1000000 in
theorem right_any (w : World) (ao : Option Addr) (n cap : Nat) (xs : List Int) (hx : Sl w (.slice ao n cap) xs) (hm : xs.length ≤ 500000) (k : Nat) (hk : k ≤ 9223372036854775807) :
    Calls Try.prog 11 #[.slice ao n cap, .int .i64 k] w fun e w' => ∃ v, e = .returned (.tuple #[v, .int .i64 0]) ∧ Is w.heap.size w' v (val xs / p2 k) ∧ Below w.heap.size w w' := by
  obtain ⟨rfl, h1, h2, h3⟩ := hx.parts
  have DO := hide (down_over (k := k) h3)
  obtain ⟨N, hN⟩ : ∃ N, N = k / 32 := ⟨_, rfl⟩
  obtain ⟨s, hs⟩ : ∃ s, s = k % 32 := ⟨_, rfl⟩
  have e1 : (k : Int) / 32 = (N : Nat) := by omega
  have e2 : (k : Int) % 32 = (s : Nat) := by omega
  have hs31 : s ≤ 31 := by omega
  rw [← hN, ← hs] at DO
  clear h3 hN hs
  by_cases hlt : N < xs.length
  · obtain ⟨b, off, rfl, hc⟩ := hx.cells (by omega)
    have hsl := hx.drop (k := N) (by omega) rfl
    have hl : (xs.drop N).length ≤ 1000000 := by rw [List.length_drop]; omega
    rw [Nat.min_eq_left (by omega)] at DO
    have d1 : ¬ (xs.length : Int) < (N : Int) := by omega
    have d2 : ¬ cap = N := by omega
    clear hc
    go_enter Try.func11, Try.ntmps11
    go_wp2_with fail
    refine (moveDown_any _ _ _ _ _ hsl s hs31 hl).mono ?_
    rintro e w1 ⟨v, rfl, hi, hb⟩
    rw [DO.out] at hi
    go_wp2
    go_ret2
    exact ⟨_, rfl, hi, hb⟩
  · rw [Nat.min_eq_right (by omega), List.drop_of_length_le (Nat.le_refl _)] at DO
    have d1 : (xs.length : Int) ≤ (N : Int) := by omega
    have hl : ([] : List Int).length ≤ 1000000 := by simp
    by_cases hc : cap = xs.length
    · subst hc
      go_enter Try.func11, Try.ntmps11
      go_wp2_with fail
      all_goals
        refine (moveDown_any _ _ _ _ [] (sl_empty _ _ _ _ (by omega) (by unfold maxLen; omega)) s hs31 hl).mono ?_
        rintro e w1 ⟨v, rfl, hi, hb⟩
        rw [DO.out] at hi
        go_wp2
        go_ret2
        exact ⟨_, rfl, hi, hb⟩
    · go_enter Try.func11, Try.ntmps11
      go_wp2_with fail
      all_goals
        refine (moveDown_any _ _ _ _ [] (sl_empty _ _ _ _ (by omega) (by unfold maxLen; omega)) s hs31 hl).mono ?_
        rintro e w1 ⟨v, rfl, hi, hb⟩
        rw [DO.out] at hi
        go_wp2
        go_ret2
        exact ⟨_, rfl, hi, hb⟩

end Lm
end Go.Proofs.Ythbomfboohjcfac
