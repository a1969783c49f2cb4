/-
  The contracts of Left and Right. The contracts of the reference's Two, Left and Right. LimbsMoves answers true, whatever list of limbs and number it is handed. The given statement on LimbsMoves, for every input: the call answers true, and each argument reads behind it as it read before. No condition beyond the statement's own.
-/
import Derived.Test.YthbomfboohjcfaaMovesLawM46
import Derived.Test.YthbomfboohjcfaaROps
import Derived.Test.YthbomfboohjcfaaMovesLawM44
import Derived.Test.YthbomfboohjcfaaProds
import Derived.OpenShut
import Derived.Test.YthbomfboohjcfaaRows
import Derived.ProofKit
import Derived.ShutString
import Derived.ChangeOld
import Derived.SizedLaws
namespace Go.Proofs.Ythbomfboohjcfaa
namespace Lm
open Go.RowKit

theorem owns_below {B e n : Nat} {w w' : World} {v : Value} {xs : List Value} (h : w.ownsRow B e 1 v n xs) (hb : Below w.heap.size w w') : w'.ownsRow B e 1 v n xs := by
  obtain ⟨h1, h2⟩ := h
  refine ⟨h1, ?_⟩
  rcases h2 with h2 | ⟨g, cap, cur, hv, hg, hh, r⟩
  · exact .inl h2
  · exact .inr ⟨g, cap, cur, hv, hg, by rw [hb.block g (lt_of_heap hh)]; exact hh, r⟩

theorem cells_row {w : World} {b off : Nat} {zs : List Int} (hc : ∀ i, i < zs.length → w.cell? ⟨b, off + i, none⟩ = some (.int .u32 (zs.getD i 0))) : ∀ j u, (zs.map (Value.int .u32))[j]? = some u → w.cell? ((⟨b, off, none⟩ : Addr).add j) = some u := by
  intro j u hu
  rw [List.getElem?_map] at hu
  have hj : j < zs.length := by
    apply Classical.byContradiction
    intro hn
    rw [List.getElem?_eq_none (by omega)] at hu
    cases hu
  rw [List.getElem?_eq_getElem hj] at hu
  have hcj := hc j hj
  rw [List.getD_eq_getElem?_getD, List.getElem?_eq_getElem hj] at hcj
  rw [show ((⟨b, off, none⟩ : Addr).add j) = ⟨b, off + j, none⟩ from by simp [Addr.add], hcj]
  exact hu

theorem one_row (zs : List Int) : ∀ u ∈ zs.map (Value.int .u32), u.oneCell' = true := by
  intro u hu
  obtain ⟨z, _, rfl⟩ := List.mem_map.1 hu
  rfl

theorem made_zeros (n : Nat) : (madeCells #[Value.int .u32 0] n).toList = (List.replicate n (0 : Int)).map (Value.int .u32) := by
  apply List.ext_getElem?
  intro i
  rw [List.getElem?_map, List.getElem?_replicate, Array.getElem?_toList]
  by_cases hi : i < n
  · have h0 : i < (Array.range n).size := by simpa using hi
    simp [madeCells, hi, Nat.mod_one]
  · have h0 : ¬ i < (Array.range n).size := by simpa using hi
    simp [madeCells, hi]

theorem p2_div (k : Nat) : p2 k = pw (k / 32) * p2 (k % 32) := by
  rw [pw_p2, ← p2_add, Nat.div_add_mod]

set_option maxRecDepth 20000 in
set_option maxHeartbeats 1000000 in
theorem left_any (w : World) (ao : Option Addr) (n cap : Nat) (xs : List Int) (hx : Sl w (.slice ao n cap) xs) (hm : xs.length ≤ 500000) (k : Nat) (hk : k ≤ 4096) :
    Calls Try.prog 31 #[.slice ao n cap, .int .i64 k] w fun e w' => ∃ v, e = .returned (.tuple #[v, .int .i64 0]) ∧ Is w.heap.size w' v (val xs * p2 k) ∧ Below w.heap.size w w' := by
  obtain ⟨rfl, h1, h2, h3⟩ := hx.parts
  obtain ⟨i0, hi, hz0, hz1, hz2⟩ := info_parts info32
  obtain ⟨N, hN⟩ : ∃ N, N = k / 32 := ⟨_, rfl⟩
  obtain ⟨s, hs⟩ : ∃ s, s = k % 32 := ⟨_, rfl⟩
  have PK : Hid (p2 k = pw N * p2 s) := by rw [hN, hs]; exact p2_div k
  have n1 : 32 * N + s ≤ k := by omega
  have n2 : k ≤ 32 * N + s := by omega
  have hs31 : s ≤ 31 := by omega
  clear hN hs h3
  go_enter Try.func31, Try.ntmps31
  have km : Hid (∀ w : World, Sl w (.slice ao xs.length cap) xs → Calls Try.prog 59 #[.slice ao xs.length cap, .int .u64 ((k : Int) % 32)] w fun e w' => ∃ cur qs, e = .returned (.slice (some ⟨w.heap.size, 0, none⟩) (xs.length + 1) (xs.length + 1)) ∧ Limb qs ∧ qs.length = xs.length + 1 ∧ val qs = val xs * p2 s ∧ w'.heap[w.heap.size]? = some (.cells cur 47 (0, 0)) ∧ cur.size = xs.length + 1 ∧ At cur .u32 0 qs ∧ Below w.heap.size w w') := by
    intro w hw
    rw [show (k : Int) % 32 = (s : Nat) by omega]
    exact moveUp_any w ao _ cap xs hw s hs31 (by omega)
  go_wp2_with (refine wpList_make_full _ rfl (.tmp 12) (.tmp 12) 22 rfl w.heap.size 47 i0 (.int .u32 0) 1 Try.underlying22 hi hz0 hz1 .i64 .i64 _ _ N rfl rfl (by omega) (by omega) (by rw [hz2]; omega) (by unfold maxLen; omega) (Nat.le_refl _) ?hK)
  case hK =>
    intro w1 hown hgrow
    have hb1 : Below w.heap.size w w1 := (Below.refl w.heap.size w).grown hgrow (Nat.le_refl _) (by simp)
    rw [made_zeros] at hown
    have hx1 := hx.below hb1
    clear hgrow
    go_wp2_with fail
    refine (km.out _ hx1).mono ?_
    rintro e w2 ⟨cur, qs, rfl, hq, hql, hqv, hqh, hqs, hqa, hb2⟩
    have hown2 := owns_below hown hb2
    have hcells := cells_row (fun i hi => hqa.cell hqh i hi)
    have hbel := hb1.trans (hb2.mono hb1.size)
    have HQ := hide hq
    have HL := hide hql
    have HV := hide hqv
    clear hown hb2 hb1 hx1 hq hql hqv hqh hqs hqa
    go_wp2_with (at_builtin; (refine wpList_append_own _ rfl (.tmp 14) (.tmp 19) 22 rfl w.heap.size 47 i0 (.int .u32 0) 1 4 Try.underlying22 hi hz0 hz1 hz2 rfl (by decide) _ _ _ rfl hown2 ⟨w1.heap.size, 0, none⟩ (xs.length + 1) (xs.length + 1) (qs.map (Value.int .u32)) rfl (by rw [List.length_map, Nat.mul_one]; exact HL.out) hcells (one_row qs) ?c3 ?c4 ?c5 ?_))
    case c3 => unfold maxLen; omega
    case c4 => omega
    case c5 => have := hbel.size; first | omega | (simp; omega)
    intro v3 w3 hown3 hgrow3 _
    have hb3 : Below w.heap.size w w3 := hbel.grown hgrow3 (by have := hbel.size; first | omega | (simp; omega)) (fun j hj => (hown2.lt j hj).1)
    have how : Ow w.heap.size w3 v3 (List.replicate N 0 ++ qs) := ow_of_row (by simpa using hown3) (limb_append.2 ⟨limb_zeros _, HQ.out⟩)
    have hval : val (List.replicate N (0 : Int) ++ qs) = val xs * p2 k := by
      rw [val_append, val_zeros, HV.out, PK.out, List.length_replicate, Int.zero_add, ← Int.mul_assoc, Int.mul_comm (pw N), Int.mul_assoc]
    have HL2 : Hid ((List.replicate N (0 : Int) ++ qs).length = N + (xs.length + 1)) := by
      have := HL.out
      show _ = _
      rw [List.length_append, List.length_replicate, this]
    generalize List.replicate N (0 : Int) ++ qs = zs at how hval HL2
    obtain ⟨ao3, cap3, hv3, o1, o2, o3, o4⟩ := how
    have how' : Ow w.heap.size w3 (.slice ao3 zs.length cap3) zs := ⟨ao3, cap3, rfl, o1, o2, o3, o4⟩
    subst hv3
    have his := how'.is_cut hval
    have hsl := how'.sl
    clear hown3 hgrow3 hown2 hcells hval o3 o4 how'
    go_wp2_with fail
    refine (cut_any _ _ _ _ _ hsl).mono ?_
    rintro e w4 ⟨rfl, rfl⟩
    go_wp2
    go_ret2
    exact ⟨_, rfl, his, hb3⟩

theorem down_over {xs : List Int} {k : Nat} (hx : Limb xs) : val (xs.drop (min (k / 32) xs.length)) / p2 (k % 32) = val xs / p2 k := by
  have hp := pw_pos (k / 32)
  have e0 : val (xs.drop (min (k / 32) xs.length)) = val xs / pw (k / 32) := by
    by_cases h : k / 32 ≤ xs.length
    · rw [Nat.min_eq_left h]
      have e := val_append (xs.take (k / 32)) (xs.drop (k / 32))
      rw [List.take_append_drop, List.length_take, Nat.min_eq_left h] at e
      have b := val_bounds (limb_take hx (k / 32))
      rw [List.length_take, Nat.min_eq_left h] at b
      exact (div_of (a := val xs) (b := pw (k / 32)) (by omega) (by rw [e, Int.mul_comm]; omega) b.1 b.2).1.symm
    · rw [Nat.min_eq_right (by omega), List.drop_of_length_le (Nat.le_refl _)]
      have b := val_bounds hx
      have hm := pw_mono (m := xs.length) (n := k / 32) (by omega)
      rw [Int.ediv_eq_zero_of_lt b.1 (by omega)]
      rfl
  rw [e0, p2_div k, Int.ediv_ediv_of_nonneg (by omega)]

theorem Sl.drop {w : World} {ao : Option Addr} {n cap : Nat} {zs : List Int} (h : Sl w (.slice ao n cap) zs) {k : Nat} (hk : k ≤ zs.length) {b off : Nat} (ha : ao = some ⟨b, off, none⟩) : Sl w (.slice (some ⟨b, off + k, none⟩) (zs.length - k) (cap - k)) (zs.drop k) := by
  obtain ⟨ao', cap', hv, h1, h2, h3, h4⟩ := h
  obtain ⟨rfl, rfl, rfl⟩ := (Value.slice.injEq .. ▸ hv)
  refine ⟨_, cap - k, by rw [List.length_drop], by rw [List.length_drop]; omega, by omega, limb_drop h3 _, ?_⟩
  rcases h4 with rfl | ⟨b', off', e, hc⟩
  · exact .inl (by simp)
  · rw [ha] at e
    obtain ⟨rfl, rfl⟩ : b = b' ∧ off = off' := by simpa using e
    refine .inr ⟨b, off + k, rfl, fun i hi => ?_⟩
    rw [List.length_drop] at hi
    rw [show off + k + i = off + (k + i) by omega, hc (k + i) (by omega), List.getD_eq_getElem?_getD, List.getD_eq_getElem?_getD, List.getElem?_drop]

theorem sl_empty (w : World) (ao : Option Addr) (n cap : Nat) (hn : n = 0) (hc : cap ≤ maxLen) : Sl w (.slice ao n cap) [] := ⟨ao, cap, by rw [hn]; rfl, Nat.zero_le _, hc, limb_nil, .inl rfl⟩

set_option maxRecDepth 20000 in
set_option maxHeartbeats 1000000 in
theorem right_any (w : World) (ao : Option Addr) (n cap : Nat) (xs : List Int) (hx : Sl w (.slice ao n cap) xs) (hm : xs.length ≤ 500000) (k : Nat) (hk : k ≤ 9223372036854775807) :
    Calls Try.prog 32 #[.slice ao n cap, .int .i64 k] w fun e w' => ∃ v, e = .returned (.tuple #[v, .int .i64 0]) ∧ Is w.heap.size w' v (val xs / p2 k) ∧ Below w.heap.size w w' := by
  obtain ⟨rfl, h1, h2, h3⟩ := hx.parts
  have DO := hide (down_over (k := k) h3)
  obtain ⟨N, hN⟩ : ∃ N, N = k / 32 := ⟨_, rfl⟩
  obtain ⟨s, hs⟩ : ∃ s, s = k % 32 := ⟨_, rfl⟩
  have e1 : (k : Int) / 32 = (N : Nat) := by omega
  have e2 : (k : Int) % 32 = (s : Nat) := by omega
  have hs31 : s ≤ 31 := by omega
  rw [← hN, ← hs] at DO
  clear h3 hN hs
  by_cases hlt : N < xs.length
  · obtain ⟨b, off, rfl, hc⟩ := hx.cells (by omega)
    have hsl := hx.drop (k := N) (by omega) rfl
    have hl : (xs.drop N).length ≤ 1000000 := by rw [List.length_drop]; omega
    rw [Nat.min_eq_left (by omega)] at DO
    have d1 : ¬ (xs.length : Int) < (N : Int) := by omega
    have d2 : ¬ cap = N := by omega
    clear hc
    go_enter Try.func32, Try.ntmps32
    go_wp2_with fail
    refine (moveDown_any _ _ _ _ _ hsl s hs31 hl).mono ?_
    rintro e w1 ⟨v, rfl, hi, hb⟩
    rw [DO.out] at hi
    go_wp2
    go_ret2
    exact ⟨_, rfl, hi, hb⟩
  · rw [Nat.min_eq_right (by omega), List.drop_of_length_le (Nat.le_refl _)] at DO
    have d1 : (xs.length : Int) ≤ (N : Int) := by omega
    have hl : ([] : List Int).length ≤ 1000000 := by simp
    by_cases hc : cap = xs.length
    · subst hc
      go_enter Try.func32, Try.ntmps32
      go_wp2_with fail
      all_goals
        refine (moveDown_any _ _ _ _ [] (sl_empty _ _ _ _ (by omega) (by unfold maxLen; omega)) s hs31 hl).mono ?_
        rintro e w1 ⟨v, rfl, hi, hb⟩
        rw [DO.out] at hi
        go_wp2
        go_ret2
        exact ⟨_, rfl, hi, hb⟩
    · go_enter Try.func32, Try.ntmps32
      go_wp2_with fail
      all_goals
        refine (moveDown_any _ _ _ _ [] (sl_empty _ _ _ _ (by omega) (by unfold maxLen; omega)) s hs31 hl).mono ?_
        rintro e w1 ⟨v, rfl, hi, hb⟩
        rw [DO.out] at hi
        go_wp2
        go_ret2
        exact ⟨_, rfl, hi, hb⟩

end Lm
end Go.Proofs.Ythbomfboohjcfaa

namespace Go.Proofs.Ythbomfboohjcfaa
namespace Dm
open Go.RowKit
open Lm (hide lt_of_cell lt_of_heap p2 info32)

theorem two_val (N s : Nat) : Lm.val ((List.replicate (N + 1) (0 : Int)).set N (p2 s)) = Lm.pw N * p2 s := by
  have e : (List.replicate (N + 1) (0 : Int)).set N (p2 s) = List.replicate N 0 ++ [p2 s] := by
    rw [List.replicate_succ', List.set_append_right _ _ (by simp)]
    simp
  rw [e, Lm.val_append, Lm.val_zeros]
  simp [Lm.val]

set_option maxRecDepth 20000 in
set_option maxHeartbeats 1000000 in
theorem two_any (w : World) (k : Nat) (hk : k ≤ 1000000) :
    Calls Try.prog 61 #[.int .i64 k] w fun e w' => ∃ ao cap rs, e = .returned (.agg #[.bool false, .slice ao rs.length cap]) ∧ Got w' ao cap rs (p2 k) ∧ rs.length ≤ 3 * (k / 32 + 1) ∧ Below w.heap.size w w' := by
  obtain ⟨w0, e0, br, hb0, hs0⟩ := boxed0 w false (.slice none 0 0)
  obtain ⟨i0, hi, hz0, hz1, hz2⟩ := info_parts info32
  have E0 := hide e0
  obtain ⟨N, hN⟩ : ∃ N, N = k / 32 := ⟨_, rfl⟩
  obtain ⟨s, hs⟩ : ∃ s, s = k % 32 := ⟨_, rfl⟩
  have hd : ((k : Nat) : Int).tdiv 32 = (N : Int) := by rw [hN, Int.tdiv_eq_ediv_of_nonneg (by omega)]; omega
  have hd1 : ((k : Nat) : Int) / 32 = (N : Int) := by omega
  have hm1 : ((k : Nat) : Int) % 32 = (s : Int) := by omega
  have PK : Hid (p2 k = Lm.pw N * p2 s) := by rw [hN, hs]; exact Lm.p2_div k
  have hp := Lm.p2_pos s
  have hp2 := Lm.p2_mono (m := s) (n := 31) (by omega)
  rw [show p2 31 = 2147483648 from by decide] at hp2
  have hs31 : s ≤ 31 := by omega
  have hN2 : N ≤ 31250 := by omega
  have HN := hide hN
  clear e0 hN hs
  go_enter Try.func61, Try.ntmps61
  go_wp2_with (refine wpList_make_full _ rfl (.tmp 6) (.tmp 6) 22 rfl w0.heap.size 47 i0 (.int .u32 0) 1 Try.underlying22 hi hz0 hz1 .i64 .i64 _ _ (N + 1) rfl rfl (by omega) (by omega) (by rw [hz2]; omega) (by unfold maxLen; omega) (by rw [E0.out]; exact Nat.le_refl _) ?hK)
  case hK =>
    intro w1 hown hgrow
    rw [E0.out] at hgrow
    obtain ⟨hgB, cur, hh, hcs, hat⟩ := Lm.block_of_made hown
    have hb1 : Below w0.heap.size w0 w1 := (Below.refl _ _).grown hgrow (Nat.le_refl _) (by simp)
    have HB := hb0.trans (hb1.mono hb0.size)
    replace br := br.below hb1
    have cm := hat.cell hh N (by simp)
    rw [Nat.zero_add] at cm
    have fm := frozen_of_row w1 _ N cur _ hh
    have hset := hat.set N (p2 s)
    rw [Nat.zero_add] at hset
    have HH := hide (And.intro hh (And.intro hcs hset))
    have hz : (List.replicate (N + 1) (0 : Int)).getD N 0 = 0 := by simp [List.getD_eq_getElem?_getD]
    rw [hz] at cm
    clear hown hgrow hh hcs hat hset hb1 E0 hz
    have e2 : (2 : Int) ^ s % 4294967296 = p2 s := by rw [Lm.p2_pow]; omega
    have E2 := hide e2
    clear e2
    go_upto_region 3 with fail
    rw [E2.out]
    have ho : (w1.setCell ⟨w.heap.size + 1, N, none⟩ (.int .u32 (p2 s))).heap[w.heap.size + 1]? = some (.cells (cur.setIfInBounds N (.int .u32 (p2 s))) 47 (0, 0)) := heap_setCell_same w1 _ N cur _ _ HH.out.1
    have hbr : Box (w1.setCell ⟨w.heap.size + 1, N, none⟩ (.int .u32 (p2 s))) w.heap.size false (.slice none 0 0) := (heap_setCell_other w1 ⟨w.heap.size + 1, N, none⟩ w.heap.size _ (by simp)).trans br
    have HB2 := HB.setCell (p := ⟨w.heap.size + 1, N, none⟩) (show w.heap.size ≤ w.heap.size + 1 by omega) (.int .u32 (p2 s))
    generalize w1.setCell ⟨w.heap.size + 1, N, none⟩ (.int .u32 (p2 s)) = ws at ho hbr HB2 ⊢
    have hlim : Lm.Limb ((List.replicate (N + 1) (0 : Int)).set N (p2 s)) := by
      intro z hz
      rcases List.mem_or_eq_of_mem_set hz with h1 | h1
      · have := List.eq_of_mem_replicate h1
        omega
      · omega
    have sl : Lm.Sl ws (.slice (some ⟨w.heap.size + 1, 0, none⟩) (N + 1) (N + 1)) ((List.replicate (N + 1) (0 : Int)).set N (p2 s)) :=
      (show Lm.Ow (w.heap.size + 1) ws _ _ from ⟨_, N + 1, by simp, by simp, by unfold maxLen; omega, hlim, .inr ⟨w.heap.size + 1, 0, _, rfl, Nat.le_refl _, ho, by rw [Array.size_setIfInBounds, HH.out.2.1]; omega, HH.out.2.2⟩⟩).sl
    have hv := hide (two_val N s)
    clear cm fm br HB HH ho hlim
    go_wp2_with fail
    refine (fromLimbs_any _ _ _ _ _ sl (by simp; omega)).mono ?_
    rintro e w2 ⟨p, q, D, rfl, G, lD, hb2⟩
    rw [hv.out, ← PK.out] at G
    replace hbr := hbr.below hb2
    replace HB2 := HB2.trans (hb2.mono HB2.size)
    obtain ⟨br1, br2, br3, br4⟩ := hbr.facts
    have F := hide (hbr.set false (.slice p D.length q)).facts
    have Y := hide (hbr.sl false (.slice p D.length q) G.sl)
    have Z := hide (below_set2 HB2 (show w.heap.size ≤ w.heap.size by omega) (.bool false) (.slice p D.length q))
    have lD2 : D.length ≤ 3 * (N + 1) := by simpa using lD
    have GG := hide G.2
    clear sl hv lD
    go_wp2
    refine bodyPost_ret (v := .agg #[.bool false, .slice p D.length q]) ?_ rfl ⟨p, q, D, rfl, ⟨Y.out, GG.out⟩, by have := HN.out; omega, Z.out⟩
    simp [results, Try.results61, go_sem, F.out.1, F.out.2.1]

theorem p2_lt (k : Nat) : p2 k < Lm.pw (k / 32 + 1) := by
  rw [Lm.p2_div, Lm.pw]
  have h1 := Lm.p2_mono (m := k % 32) (n := 31) (by omega)
  rw [show p2 31 = 2147483648 from by decide] at h1
  have h2 := Lm.pw_pos (k / 32)
  have h3 : Lm.pw (k / 32) * p2 (k % 32) ≤ Lm.pw (k / 32) * 2147483648 := Int.mul_le_mul_of_nonneg_left h1 (by omega)
  omega

set_option maxRecDepth 20000 in
set_option maxHeartbeats 1000000 in
theorem rleft_any (w : World) (ao : Option Addr) (n cap : Nat) (xs : List Int) (hx : Lm.Sl w (.slice ao n cap) xs) (hm : xs.length ≤ 100000) (k : Nat) (hk : k ≤ 4096) :
    Calls Try.prog 33 #[.slice ao n cap, .int .i64 k] w fun e w' => ∃ v, e = .returned (.tuple #[v, .int .i64 0]) ∧ Lm.Is w.heap.size w' v (Lm.val xs * p2 k) ∧ Below w.heap.size w w' := by
  have hvx := hide (Lm.val_bounds hx.parts.2.2.2)
  have hp := Lm.p2_pos k
  have hpl := p2_lt k
  have HPL := hide hpl
  have dK : ((k : Nat) : Int) ≤ 4096 := by omega
  clear hpl
  go_enter Try.func33, Try.ntmps33
  go_wp2_with fail
  refine (fromLimbs_any w ao n cap xs hx (by omega)).mono ?_
  rintro e w1 ⟨p1, q1, D1, rfl, g1, d1, hb1⟩
  go_wp2_with fail
  refine (two_any w1 k (by omega)).mono ?_
  rintro e w2 ⟨pT, qT, D2, rfl, g2, d2, hb2⟩
  go_wp2_with fail
  refine (nmul_g w2 _ p1 q1 D1 _ (Wh.natu (g1.below hb2)) _ pT qT D2 _ (Wh.natu g2) (by omega) (by omega)).mono ?_
  rintro e w3 ⟨n3, p3, q3, D3, rfl, G3, l3, hb3⟩
  go_wp2_with fail
  refine (limbs_any w3 _ _ _ D3 _ G3.1 (xs.length + (k / 32 + 1)) (by have := mul_pw hvx.out ⟨by omega, HPL.out⟩; rw [natAbs_of (Int.mul_nonneg hvx.out.1 (by omega))]; exact this) (by omega) (by omega)).mono ?_
  rintro e w4 ⟨v4, rfl, i4, hb4⟩
  have HB := (hb1.trans (hb2.mono hb1.size))
  replace HB := HB.trans (hb3.mono HB.size)
  have s3 := HB.size
  replace HB := HB.trans (hb4.mono HB.size)
  rw [natAbs_of (Int.mul_nonneg hvx.out.1 (by omega))] at i4
  clear hb1 hb2 hb3 hb4
  go_wp2
  go_ret2
  exact ⟨_, rfl, i4.mono s3, HB⟩

set_option maxRecDepth 20000 in
set_option maxHeartbeats 1000000 in
theorem rright_far (w : World) (ao : Option Addr) (n cap : Nat) (xs : List Int) (hx : Lm.Sl w (.slice ao n cap) xs) (hm : xs.length ≤ 100000) (k : Nat) (hk : k ≤ 9223372036854775807) (hge : 32 * xs.length ≤ k) :
    Calls Try.prog 34 #[.slice ao n cap, .int .i64 k] w fun e w' => ∃ v, e = .returned (.tuple #[v, .int .i64 0]) ∧ Lm.Is w.heap.size w' v (Lm.val xs / p2 k) ∧ Below w.heap.size w w' := by
  obtain ⟨rfl, h1, h2, h3⟩ := hx.parts
  have hz : Hid (Lm.val xs / p2 k = 0) := by
    have hb := Lm.val_bounds h3
    have e1 : Lm.pw xs.length ≤ p2 k := by rw [Lm.pw_p2]; exact Lm.p2_mono hge
    exact Int.ediv_eq_zero_of_lt hb.1 (by omega)
  have dK : ¬ ((k : Nat) : Int) < 32 * (xs.length : Int) := by omega
  have dK2 : 32 * (xs.length : Int) ≤ (k : Int) := by omega
  have dW : IntKind.i64.wrap (32 * (xs.length : Int)) = 32 * (xs.length : Int) := by rw [IntKind.wrap_i64]; omega
  rw [hz.out]
  clear hz h3
  go_enter Try.func34, Try.ntmps34
  go_wp2
  go_ret2
  exact ⟨_, rfl, is_nil _ _, Below.refl _ _⟩

set_option maxRecDepth 20000 in
set_option maxHeartbeats 2000000 in
theorem rright_near (w : World) (ao : Option Addr) (n cap : Nat) (xs : List Int) (hx : Lm.Sl w (.slice ao n cap) xs) (hm : xs.length ≤ 20000) (k : Nat) (hlt : k < 32 * xs.length) :
    Calls Try.prog 34 #[.slice ao n cap, .int .i64 k] w fun e w' => ∃ v, e = .returned (.tuple #[v, .int .i64 0]) ∧ Lm.Is w.heap.size w' v (Lm.val xs / p2 k) ∧ Below w.heap.size w w' := by
  obtain ⟨rfl, h1, h2, h3⟩ := hx.parts
  have hvx := hide (Lm.val_bounds h3)
  have hp := Lm.p2_pos k
  have dK : ((k : Nat) : Int) < 32 * (xs.length : Int) := by omega
  have dW : IntKind.i64.wrap (32 * (xs.length : Int)) = 32 * (xs.length : Int) := by rw [IntKind.wrap_i64]; omega
  clear h3
  go_enter Try.func34, Try.ntmps34
  go_wp2_with fail
  refine (fromLimbs_any w ao _ cap xs hx (by omega)).mono ?_
  rintro e w1 ⟨p1, q1, D1, rfl, g1, d1, hb1⟩
  go_wp2_with fail
  refine (two_any w1 k (by omega)).mono ?_
  rintro e w2 ⟨pT, qT, D2, rfl, g2, d2, hb2⟩
  have hl2 : 0 < D2.length := by
    apply Classical.byContradiction
    intro hn
    have := got_zero g2 (by omega)
    omega
  go_wp2_with fail
  refine (ndivmod_nat w2 p1 q1 D1 _ (g1.below hb2) pT qT D2 _ g2 (by omega) (by omega) hl2).mono ?_
  rintro e w3 ⟨nq, pq, qq, Q, nr, pr, qr, R, rfl, GQ, GR, lQ, lR, hb3⟩
  obtain ⟨w4, e4, bq, bz, hb4, hs4⟩ := boxed2 w3 nq (.slice pq Q.length qq) nr (.slice pr R.length qr)
  have E4 := hide e4
  have HB := (hb1.trans (hb2.mono hb1.size))
  replace HB := HB.trans (hb3.mono HB.size)
  replace HB := HB.trans (hb4.mono HB.size)
  replace GQ := GQ.below hb4
  clear e4 hb1 hb2 hb3 hb4 bz
  go_upto_region 6 with fail
  rw [E4.out]
  obtain ⟨bq1, bq2, bq3, bq4⟩ := bq.facts
  have hdn : 0 ≤ Lm.val xs / p2 k := Int.ediv_nonneg hvx.out.1 (by omega)
  have hdl : Hid (((Lm.val xs / p2 k).natAbs : Int) < Lm.pw xs.length) := by
    show (((Lm.val xs / p2 k).natAbs : Nat) : Int) < Lm.pw xs.length
    rw [natAbs_of hdn]
    have := Int.ediv_le_self (p2 k) hvx.out.1
    have := hvx.out
    omega
  go_wp2_with fail
  refine (limbs_any w4 _ _ _ Q _ GQ.1 xs.length hdl.out (by omega) (by omega)).mono ?_
  rintro e w5 ⟨v5, rfl, i5, hb5⟩
  have s4 := HB.size
  replace HB := HB.trans (hb5.mono HB.size)
  rw [natAbs_of hdn] at i5
  clear hb5
  go_wp2
  go_ret2
  exact ⟨_, rfl, i5.mono s4, HB⟩

set_option maxRecDepth 20000 in
set_option maxHeartbeats 400000 in
theorem rleft_neg (w : World) (ao : Option Addr) (n cap : Nat) (k : Int) (hk : k < 0) (_h2 : -9223372036854775808 ≤ k) :
    Calls Try.prog 33 #[.slice ao n cap, .int .i64 k] w fun e w' => ∃ v, e = .returned (.tuple #[v, .int .i64 1]) ∧ Lm.Is w.heap.size w' v 0 ∧ Below w.heap.size w w' := by
  go_enter Try.func33, Try.ntmps33
  go_wp2
  go_ret2
  exact ⟨_, rfl, is_nil _ _, Below.refl _ _⟩
set_option maxRecDepth 20000 in
set_option maxHeartbeats 400000 in
theorem rright_neg (w : World) (ao : Option Addr) (n cap : Nat) (k : Int) (hk : k < 0) (_h2 : -9223372036854775808 ≤ k) :
    Calls Try.prog 34 #[.slice ao n cap, .int .i64 k] w fun e w' => ∃ v, e = .returned (.tuple #[v, .int .i64 1]) ∧ Lm.Is w.heap.size w' v 0 ∧ Below w.heap.size w w' := by
  go_enter Try.func34, Try.ntmps34
  go_wp2
  go_ret2
  exact ⟨_, rfl, is_nil _ _, Below.refl _ _⟩
set_option maxRecDepth 20000 in
set_option maxHeartbeats 400000 in
theorem rleft_big (w : World) (ao : Option Addr) (n cap : Nat) (k : Int) (hk : 4096 < k) (_h2 : k ≤ 9223372036854775807) :
    Calls Try.prog 33 #[.slice ao n cap, .int .i64 k] w fun e w' => ∃ v, e = .returned (.tuple #[v, .int .i64 2]) ∧ Lm.Is w.heap.size w' v 0 ∧ Below w.heap.size w w' := by
  go_enter Try.func33, Try.ntmps33
  go_wp2
  go_ret2
  exact ⟨_, rfl, is_nil _ _, Below.refl _ _⟩

end Dm
end Go.Proofs.Ythbomfboohjcfaa

namespace Go.Proofs.Ythbomfboohjcfaa
namespace Lm
open Go.RowKit

theorem num_any (w : World) (k : Int) : Calls Try.prog 35 #[.int .i64 k] w fun e w' => e = .returned (.int .i64 k) ∧ w' = w := by
  go_enter Try.func35, Try.ntmps35
  go_wp2
  go_ret
  exact ⟨rfl, rfl⟩

set_option maxRecDepth 20000 in
set_option maxHeartbeats 400000 in
theorem moves_long (w : World) (a0 : Option Addr) (n0 c0 : Nat) (k : Int) (h : 1500 < (n0 : Int)) (_b0 : n0 ≤ 35184372088832) :
    Calls Try.prog 8 #[.slice a0 n0 c0, .int .i64 k] w fun e w' => e = .returned (.bool true) ∧ Below w.heap.size w w' := by
  go_enter Try.func8, Try.ntmps8
  go_wp2_with fail
  refine (awake_any _).mono ?_
  rintro e w1 ⟨rfl, hb⟩
  go_wp2
  go_ret
  exact ⟨rfl, hb⟩

theorem lender_new (w : World) : (w.alloc (.cells #[.slice none 0 0, .int .i64 0] 25)).heap[w.heap.size]? = some (.cells #[.slice none 0 0, .int .i64 0] 25 (0, 0)) ∧ Below w.heap.size w (w.alloc (.cells #[.slice none 0 0, .int .i64 0] 25)) ∧ (w.alloc (.cells #[.slice none 0 0, .int .i64 0] 25)).heap.size = w.heap.size + 1 :=
  ⟨heap_alloc_new w _, (Below.refl _ _).alloc (Nat.le_refl _) _, by simp⟩

def Moved (f : Nat) (xs : List Int) (k er r : Int) : Prop := ∀ (w : World) (a : Option Addr) (n c : Nat), Sl w (.slice a n c) xs → Calls Try.prog f #[.slice a n c, .int .i64 k] w fun e w' => ∃ v, e = .returned (.tuple #[v, .int .i64 er]) ∧ Is w.heap.size w' v r ∧ Below w.heap.size w w'

set_option maxRecDepth 20000 in
set_option maxHeartbeats 1000000 in
theorem moves_short (w : World) (a0 : Option Addr) (n0 c0 : Nat) (xs : List Int) (k el er rl rr : Int) (hx : Sl w (.slice a0 n0 c0) xs) (h : ¬ 1500 < (n0 : Int)) (_hk : -9223372036854775808 ≤ k ∧ k ≤ 9223372036854775807)
    (KL : Moved 31 xs k el rl) (KR : Moved 32 xs k er rr) (RL : Moved 33 xs k el rl) (RR : Moved 34 xs k er rr) :
    Calls Try.prog 8 #[.slice a0 n0 c0, .int .i64 k] w fun e w' => e = .returned (.bool true) ∧ Below w.heap.size w w' := by
  obtain ⟨rfl, _, _, _⟩ := hx.parts
  have lx := hide hx.lt
  have HB := Below.refl w.heap.size w
  go_enter Try.func8, Try.ntmps8
  go_wp2_with fail
  refine (awake_any _).mono ?_
  rintro e w1 ⟨rfl, hb1⟩
  replace HB := HB.trans (hb1.mono HB.size)
  go_wp2_with fail
  have L := hide (lender_new w1)
  have hLs := L.out.2.2
  have z1 := hb1.size
  replace HB := HB.trans (L.out.2.1.mono HB.size)
  refine (lend_any _ _ _ _ _ _ _ xs L.out.1 (hx.below HB) (by omega) (fun h0 b off e => by have := lx.out h0 b off e; omega)).mono ?_
  rintro e w2 ⟨rfl, S1, t2⟩
  rw [hLs] at S1 ⊢
  replace HB := HB.trans (t2.below (by omega) (by omega))
  have z2 := S1.lt
  clear t2 L hLs hb1
  go_wp2_with fail
  refine (KL _ _ _ _ (S1.sl (by omega))).mono ?_
  rintro e w3 ⟨v3, rfl, I3, hb3⟩
  obtain ⟨p3, q3, r3, rfl, F3⟩ := I3.fr
  have z3 := hb3.size
  replace HB := HB.trans (hb3.mono HB.size)
  replace S1 := S1.below hb3
  clear hb3 I3
  go_wp2_with fail
  refine (KR _ _ _ _ (S1.sl (by omega))).mono ?_
  rintro e w4 ⟨v4, rfl, I4, hb4⟩
  obtain ⟨p4, q4, r4, rfl, F4⟩ := I4.fr
  have z4 := hb4.size
  replace HB := HB.trans (hb4.mono HB.size)
  replace S1 := S1.below hb4
  replace F3 := F3.below hb4
  clear hb4 I4
  go_wp2_with fail
  refine (RL _ _ _ _ (hx.below HB)).mono ?_
  rintro e w5 ⟨v5, rfl, I5, hb5⟩
  obtain ⟨p5, q5, r5, rfl, F5⟩ := I5.fr
  have z5 := hb5.size
  replace HB := HB.trans (hb5.mono HB.size)
  replace S1 := S1.below hb5
  replace F3 := F3.below hb5
  replace F4 := F4.below hb5
  clear hb5 I5
  go_wp2_with fail
  refine (RR _ _ _ _ (hx.below HB)).mono ?_
  rintro e w6 ⟨v6, rfl, I6, hb6⟩
  obtain ⟨p6, q6, r6, rfl, F6⟩ := I6.fr
  have z6 := hb6.size
  replace HB := HB.trans (hb6.mono HB.size)
  replace S1 := S1.below hb6
  replace F3 := F3.below hb6
  replace F4 := F4.below hb6
  replace F5 := F5.below hb6
  clear hb6 I6
  go_wp2_with fail
  have BN := hide (book_new w6)
  replace HB := HB.trans (BN.out.2.1.mono HB.size)
  replace S1 := S1.below BN.out.2.1
  replace F3 := F3.below BN.out.2.1
  replace F4 := F4.below BN.out.2.1
  replace F5 := F5.below BN.out.2.1
  replace F6 := F6.below BN.out.2.1
  have BK : Bs _ w6.heap.size w2.heap.size [] 0 := Bs.new BN.out.1
  have zb := BN.out.2.2
  refine (back_any _ _ _ _ _ _ xs S1 (by omega) (hx.below HB) (by omega) (fun h0 b off e => by have := lx.out h0 b off e; omega)).mono ?_
  rintro e w7 ⟨rfl, t7⟩
  replace HB := HB.trans (t7.below (by omega) (by omega))
  replace BK := BK.touch t7 (by omega) (by simp)
  replace F3 := F3.touch t7 (by omega)
  replace F4 := F4.touch t7 (by omega)
  replace F5 := F5.touch t7 (by omega)
  replace F6 := F6.touch t7 (by omega)
  have z7 := t7.size
  clear t7 S1 BN
  go_wp2_with fail
  refine (num_any _ _).mono ?_
  rintro e w8 ⟨rfl, rfl⟩
  go_wp2_with fail
  refine (num_any _ _).mono ?_
  rintro e w8 ⟨rfl, rfl⟩
  go_wp2_with fail
  refine (same_g _ _ _ _ _ r3 r5 _ _ F3.got F5.got rfl).mono ?_
  rintro e w9 ⟨rfl, hb9⟩
  replace HB := HB.trans (hb9.mono HB.size)
  replace BK := BK.below hb9
  replace F3 := F3.below hb9
  replace F4 := F4.below hb9
  replace F6 := F6.below hb9
  have z9 := hb9.size
  clear hb9 F5
  go_wp2_with fail
  refine (same_g _ _ _ _ _ r4 r6 _ _ F4.got F6.got rfl).mono ?_
  rintro e w10 ⟨rfl, hb10⟩
  replace HB := HB.trans (hb10.mono HB.size)
  replace BK := BK.below hb10
  replace F3 := F3.below hb10
  replace F4 := F4.below hb10
  have z10 := hb10.size
  clear hb10 F6
  go_wp2_with fail
  refine (own_b _ _ _ _ [] BK (by omega) _ _ _ _ _ _ F3 (by omega) (by omega) (fun j hj => by simp at hj)).mono ?_
  rintro e w11 ⟨rfl, bs11, BK11, kp11, hj11⟩
  have lo11 : ∀ j, j ∈ bs11 → w2.heap.size ≤ j ∧ (j < w3.heap.size ∨ w4.heap.size ≤ j) := fun j hj => by rcases hj11 j hj with a | a | a; (simp at a); omega; omega
  replace F4 := F4.kp kp11 (by omega) (fun j hj => (lo11 j hj).2)
  replace HB := HB.trans (kp11.below (by omega) (fun j hj => by have := lo11 j hj; omega) (by omega))
  have z11 := kp11.size
  clear BK kp11 hj11 F3
  go_wp2_with fail
  refine (own_b _ _ _ _ bs11 BK11 (by omega) _ _ _ _ _ _ F4 (by omega) (by omega) (fun j hj => (lo11 j hj).2)).mono ?_
  rintro e w12 ⟨rfl, bs12, BK12, kp12, hj12⟩
  replace HB := HB.trans (kp12.below (by omega) (fun j hj => by rcases hj12 j hj with a | a | a; (have := lo11 j a; omega); omega; omega) (by omega))
  clear BK11 kp12 hj12 F4 lo11
  go_wp2_with fail
  refine (done_b _ _ _ _ bs12 BK12 (by omega)).mono ?_
  rintro e w13 ⟨rfl, hb13⟩
  replace HB := HB.trans (hb13.mono HB.size)
  go_wp2
  go_ret
  exact ⟨rfl, HB⟩

set_option maxRecDepth 20000 in
set_option maxHeartbeats 400000 in
theorem left_neg (w : World) (ao : Option Addr) (n cap : Nat) (k : Int) (hk : k < 0) (_h2 : -9223372036854775808 ≤ k) :
    Calls Try.prog 31 #[.slice ao n cap, .int .i64 k] w fun e w' => ∃ v, e = .returned (.tuple #[v, .int .i64 1]) ∧ Is w.heap.size w' v 0 ∧ Below w.heap.size w w' := by
  go_enter Try.func31, Try.ntmps31
  go_wp2
  go_ret2
  exact ⟨_, rfl, Dm.is_nil _ _, Below.refl _ _⟩
set_option maxRecDepth 20000 in
set_option maxHeartbeats 400000 in
theorem right_neg (w : World) (ao : Option Addr) (n cap : Nat) (k : Int) (hk : k < 0) (_h2 : -9223372036854775808 ≤ k) :
    Calls Try.prog 32 #[.slice ao n cap, .int .i64 k] w fun e w' => ∃ v, e = .returned (.tuple #[v, .int .i64 1]) ∧ Is w.heap.size w' v 0 ∧ Below w.heap.size w w' := by
  go_enter Try.func32, Try.ntmps32
  go_wp2
  go_ret2
  exact ⟨_, rfl, Dm.is_nil _ _, Below.refl _ _⟩
set_option maxRecDepth 20000 in
set_option maxHeartbeats 400000 in
theorem left_big (w : World) (ao : Option Addr) (n cap : Nat) (k : Int) (hk : 4096 < k) (_h2 : k ≤ 9223372036854775807) :
    Calls Try.prog 31 #[.slice ao n cap, .int .i64 k] w fun e w' => ∃ v, e = .returned (.tuple #[v, .int .i64 2]) ∧ Is w.heap.size w' v 0 ∧ Below w.heap.size w w' := by
  go_enter Try.func31, Try.ntmps31
  go_wp2
  go_ret2
  exact ⟨_, rfl, Dm.is_nil _ _, Below.refl _ _⟩

theorem moves_law (w : World) (a0 : Option Addr) (n0 c0 : Nat) (xs : List Int) (k : Int) (hx : Sl w (.slice a0 n0 c0) xs) (b0 : n0 ≤ 35184372088832) (wk : (Lit.int .i64 k).wf = true) :
    Calls Try.prog 8 #[.slice a0 n0 c0, .int .i64 k] w fun e w' => e = .returned (.bool true) ∧ Below w.heap.size w w' := by
  have hk := bounds_i64 wk
  by_cases h : 1500 < (n0 : Int)
  · exact moves_long w a0 n0 c0 k h b0
  · have e0 := hx.parts.1
    by_cases hneg : k < 0
    · exact moves_short w a0 n0 c0 xs k 1 1 0 0 hx h (by omega) (fun w a n c _ => left_neg w a n c k hneg (by omega)) (fun w a n c _ => right_neg w a n c k hneg (by omega)) (fun w a n c _ => Dm.rleft_neg w a n c k hneg (by omega)) (fun w a n c _ => Dm.rright_neg w a n c k hneg (by omega))
    · obtain ⟨m, rfl⟩ : ∃ m : Nat, k = m := ⟨k.toNat, by omega⟩
      have KR : Moved 32 xs m 0 (val xs / p2 m) := fun w a n c hx => right_any w a n c xs hx (by omega) m (by omega)
      have RR : Moved 34 xs m 0 (val xs / p2 m) := fun w a n c hx => by
        by_cases hf : 32 * xs.length ≤ m
        · exact Dm.rright_far w a n c xs hx (by omega) m (by omega) hf
        · exact Dm.rright_near w a n c xs hx (by omega) m (by omega)
      by_cases hbig : 4096 < m
      · exact moves_short w a0 n0 c0 xs m 2 0 0 _ hx h (by omega) (fun w a n c _ => left_big w a n c m (by omega) (by omega)) KR (fun w a n c _ => Dm.rleft_big w a n c m (by omega) (by omega)) RR
      · exact moves_short w a0 n0 c0 xs m 0 0 _ _ hx h (by omega) (fun w a n c hx => left_any w a n c xs hx (by omega) m (by omega)) KR (fun w a n c hx => Dm.rleft_any w a n c xs hx (by omega) m (by omega)) RR

end Lm
end Go.Proofs.Ythbomfboohjcfaa

namespace Go.Proofs.Ythbomfboohjcfaa
namespace limbsMovesLaw
open Go.ChangeShapes Go.WideShapes Go.ChangeAt Go.RowKit
open Go.ChangeMaps (open_string shut_string)

theorem own : ownKnob Try.prog.godebug = none := by kernel_rfl
theorem laidOut : laidOutB Try.prog = true := by kernel_rfl
theorem bytes4 : Try.prog.bytesOf 47 = 4 := by kernel_rfl

theorem sl_of {w : World} {x : Addr} {l c : Nat} {zs : List Int} (hl : l ≤ c) (hm : c ≤ maxLen) (hz : zs.length = c) (hcell : ∀ i, i < zs.length → w.cell? (x.add i) = some (.int .u32 (zs.getD i 0))) (hwz : ∀ n ∈ zs, (Lit.int .u32 n).wf = true) : Lm.Sl w (.slice (some x) l c) (zs.take l) := by
  have hll : (zs.take l).length = l := by rw [List.length_take]; omega
  refine ⟨some x, c, by rw [hll], by omega, hm, fun n hn => ?_, ?_⟩
  · have := bounds_u32 (hwz n (List.mem_of_mem_take hn))
    omega
  · by_cases h0 : l = 0
    · exact .inl (List.eq_nil_of_length_eq_zero (by omega))
    · obtain ⟨b, off, spot⟩ := x
      have h1 := hcell 0 (by omega)
      have hspot : spot = none := by simpa [Addr.add] using World.cell?_spot h1
      subst hspot
      refine .inr ⟨b, off, rfl, fun i hi => ?_⟩
      have h2 := hcell i (by omega)
      rw [Lm.getD_take _ _ _ (by omega)]
      have e : (⟨b, off, none⟩ : Addr).add i = ⟨b, off + i, none⟩ := by
        by_cases hi0 : i = 0
        · subst hi0; simp [Addr.add]
        · simp [Addr.add, hi0]
      rwa [e] at h2

set_option linter.unusedVariables false in
set_option maxRecDepth 100000 in
theorem lifted (os : Os) (started : os.Started) (H : Type) (enc : TypeId × Value → H) :
    ReturnsInHanded {} Try.checked os 8 .any (Rows.limbsMovesSpec.pre6 enc Try.prog Try.f8 Rows.limbsMovesRow.domain false) (Rows.limbsMovesSpec.post enc Try.prog Try.f8 false true false false) := by
  refine returnsInHanded_of_change_sized (C := Try.checked) own started (by kernel_rfl) Try.func8
    (ChangeSpec.witness6 (enc := enc) (C := Try.checked) false ⟨#[], #[.slice none 0 0, .int .i64 0], []⟩ 8 (by kernel_rfl) (by kernel_rfl) (by kernel_rfl) (by kernel_rfl)) ?_
  intro W base args ds gs before hval0 hW hcnd hsz0 _
  have hval : ∀ (j : Nat) t v, Try.f8.params[j]? = some t → args[j]? = some v → Value.okWide Try.prog W .any base t v := hval0
  have hW' := hW
  obtain ⟨p, q, hA0, hV, rfl, hfz, hnd⟩ := hW
  have hA : DataW.TrodAll enc Try.prog W 0 (fun _ => true) true Try.f8.params.toList args.toList ds p := hA0
  have hsz : (DataW.weightsEach Try.prog (Try.f8.params.toList ++ Rows.limbsMovesSpec.plain.varTypes Try.prog) (ds ++ gs)).all (· ≤ reachBytes) = true := hsz0
  rw [Try.params8] at hA hval hsz
  obtain ⟨v0, vs0, d0, ds0, p0, q0, hargs, rfl, rfl, h0, r0⟩ := trodAll_cons hA
  obtain ⟨v1, vs1, d1, ds1, p1, q1, rfl, rfl, rfl, h1, r1⟩ := trodAll_cons r0
  obtain ⟨rfl, rfl, rfl⟩ := trodAll_nil r1
  obtain rfl : args = #[v0, v1] := by cases args; simp_all
  obtain ⟨rfl, rfl⟩ := trodVars_none hV
  obtain ⟨a0, len0, cap0, rfl⟩ := okWide_slice Try.underlying22 (hval 0 22 v0 rfl rfl)
  have k0 := h0
  have lt0 : ∀ x ∈ p0, x.block < W.heap.size := by obtain ⟨m, hm⟩ := k0; exact DataW.trod_lt m _ _ _ hm
  obtain ⟨z0, w0, b0⟩ : ∃ zs, Lm.Sl W (.slice a0 len0 cap0) zs ∧ len0 ≤ 35184372088832 := by
    obtain ⟨fuel, hf⟩ := h0
    rcases open_ints Try.underlying22 Try.underlying47 (by kernel_rfl) hf with ⟨hcs, _⟩ | ⟨x, l, c, zs, hcs, _, hl, hm, hz, hx, hcell, hwz⟩
    · simp [Value.cells] at hcs
      obtain ⟨rfl, rfl, rfl⟩ := hcs
      exact ⟨[], ⟨none, 0, rfl, Nat.le_refl _, by simp [maxLen], Lm.limb_nil, .inl rfl⟩, by omega⟩
    · simp [Value.cells] at hcs
      obtain ⟨rfl, rfl, rfl⟩ := hcs
      have hx1 : d0 = .slice (lits .u32 (zs.take len0)) (lits .u32 (zs.drop len0)) := congrArg Prod.fst hx
      have hz' : zs.length = cap0 := by simpa using hz
      refine ⟨_, sl_of hl hm hz' hcell hwz, ?_⟩
      have hs := sized_slice hsz (j := 0) (t := 22) (e := 47) rfl (congrArg some hx1) Try.underlying22
      rw [bytes4] at hs
      simp only [lits, List.length_map, List.length_take, List.length_drop, reachBytes] at hs
      omega
  obtain ⟨a1, rfl, rfl, rfl, w1⟩ := open_int Try.underlying3 (hval 1 3 v1 rfl rfl) h1
  clear hA0 hval0
  refine (Lm.moves_law W a0 len0 cap0 z0 a1 w0 b0 w1 ).mono fun e W' ⟨he, bel⟩ => ?_
  subst he
  exact ⟨_, rfl, _, _, _, [], _, [], hW', trodAll_mk1 (shut_bool Try.underlying4 _), (trodAll_cons_mk (Below.trod laidOut (by kernel_rfl) (of_decide_eq_true (by kernel_rfl)) k0 bel lt0) (trodAll_cons_mk (shut_int Try.underlying3 w1) trodAll_mk0)), rfl, bel.frame _, fun h => by cases h⟩

theorem over : Rows.limbsMovesRow.holds Try.pinned (OpenSpec.ofChange Rows.limbsMovesSpec) :=
  OpenClaim.holds_of_wide 8 Try.f8 rfl rfl rfl rfl rfl rfl rfl ⟨rfl, rfl, rfl, rfl, rfl⟩ rfl rfl rfl rfl rfl (by kernel_rfl) Try.func8 (by kernel_rfl)
    (of_decide_eq_true (by kernel_rfl)) (by unfold Func.isWrapper; first | (rw [if_pos (by decide +kernel)]; kernel_rfl) | (rw [if_neg (by decide +kernel)]; exact ⟨rfl, rfl⟩))
    (fun os started H enc _ => lifted os started H enc)
end limbsMovesLaw

theorem limbsMoves_holds : Rows.LimbsMovesSaid := limbsMovesLaw.over
#print axioms limbsMoves_holds
end Go.Proofs.Ythbomfboohjcfaa
