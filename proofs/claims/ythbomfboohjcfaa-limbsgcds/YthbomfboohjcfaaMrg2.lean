/-
  The contracts of the calls that only read: cut, limb. The contracts of slices.Clone and of Trim. The contracts of SameLimbs and of Compare.
-/
import Derived.Test.YthbomfboohjcfaaMem
import Derived.Deep.QuietTactic
import Derived.BigQuiet
namespace Go.Proofs.Ythbomfboohjcfaa
namespace Lm
open Go.RowKit

set_option maxRecDepth 20000 in
set_option maxHeartbeats 400000 in
theorem cut_any (w : World) (ao : Option Addr) (n cap : Nat) (zs : List Int) (h : Sl w (.slice ao n cap) zs) :
    Calls Try.prog 38 #[.slice ao n cap] w fun e w' => e = .returned (.slice ao (tl zs) cap) ∧ w' = w := by
  obtain ⟨ao', cap', hv, h1, h2, h3, h4⟩ := h
  obtain ⟨rfl, rfl, rfl⟩ := (Value.slice.injEq .. ▸ hv)
  unfold maxLen at h2
  have ht := tl_le zs
  go_enter Try.func38, Try.ntmps38
  go_wp2
  go_loop [3] (fun n => ∃ k : Nat, k ≤ zs.length ∧ tl zs ≤ k ∧ n = .int .i64 k) (fun n => (intOf n).toNat)
  case atStart => exact ⟨zs.length, Nat.le_refl _, ht, rfl⟩
  case round =>
    obtain ⟨k, hk, hk2, rfl⟩ := hrel
    cases k with
    | zero =>
      have hz : tl zs = 0 := by omega
      have HZ : Hid (tl zs = 0) := hz
      clear hz
      go_wp2
      go_ret
      exact ⟨by rw [HZ.out]; rfl, rfl⟩
    | succ k =>
      rcases h4 with h4 | ⟨b, off, rfl, hc⟩
      · subst h4; simp at hk
      have hcell := hc k (by omega)
      by_cases h0 : zs.getD k 0 = 0
      · have hle := tl_le_of_zero hk2 h0
        rw [h0] at hcell
        clear h0 hc
        go_wp2
        go_round
        case rel => exact ⟨k, by omega, hle, by go_num⟩
        case measure => simp [intOf]
      · have hgt := tl_gt h0
        have HZ : Hid (tl zs = k + 1) := by show _ = _; omega
        have hb : (zs.getD k 0 == 0) = false := by simpa using h0
        generalize zs.getD k 0 = z at hcell hb
        clear h0 hc
        go_wp2
        go_ret
        exact ⟨by rw [HZ.out]; rfl, rfl⟩
set_option maxRecDepth 20000 in
set_option maxHeartbeats 400000 in
theorem limb_any (w : World) (v : Value) (zs : List Int) (h : Sl w v zs) (i : Int) (h0 : 0 ≤ i) :
    Calls Try.prog 47 #[v, .int .i64 i] w fun e w' => e = .returned (.int .u32 (zs.getD i.toNat 0)) ∧ w' = w := by
  obtain ⟨ao, cap, rfl, h1, h2, h3, h4⟩ := h
  unfold maxLen at h2
  obtain ⟨k, rfl⟩ := Int.eq_ofNat_of_zero_le h0
  rw [Int.toNat_natCast]
  by_cases hk : k < zs.length
  · rcases h4 with h4 | ⟨b, off, rfl, hc⟩
    · subst h4; simp at hk
    have hcell := hc k hk
    have hd : (k : Int) < (zs.length : Int) := by omega
    generalize zs.getD k 0 = z at hcell
    clear hc
    go_enter Try.func47, Try.ntmps47
    go_wp2
    go_ret
    exact ⟨rfl, rfl⟩
  · have hd : ¬ (k : Int) < (zs.length : Int) := by omega
    have hz : zs.getD k 0 = 0 := by rw [List.getD_eq_getElem?_getD, List.getElem?_eq_none (by omega)]; rfl
    rw [hz]
    clear hz
    go_enter Try.func47, Try.ntmps47
    go_wp2
    go_ret
    exact ⟨rfl, rfl⟩

theorem limb_nat (w : World) (v : Value) (zs : List Int) (h : Sl w v zs) (k : Nat) :
    Calls Try.prog 47 #[v, .int .i64 k] w fun e w' => e = .returned (.int .u32 (zs.getD k 0)) ∧ w' = w := by
  have := limb_any w v zs h k (by omega)
  rwa [Int.toNat_natCast] at this

end Lm
end Go.Proofs.Ythbomfboohjcfaa

namespace Go.Proofs.Ythbomfboohjcfaa
namespace Lm
open Go.RowKit

theorem info32 : (Try.prog.info? 47).map (fun i => (i.zero, i.size, i.bytes)) = some (some (.int .u32 0), 1, 4) := by kernel_rfl

/-- What a made or grown row owns, as 'Ow' says it. -/
theorem ow_of_row {w : World} {B : Nat} {v : Value} {n : Nat} {zs : List Int} (h : w.ownsRow B 47 1 v n (zs.map (Value.int .u32))) (hz : Limb zs) : Ow B w v zs := by
  obtain ⟨h1, h2⟩ := h
  have hn : zs.length = n := by simpa using h1
  subst hn
  rcases h2 with ⟨rfl, h3⟩ | ⟨g, cap, cur, rfl, hg, hh, hc1, hc2, hs, ht⟩
  · exact ⟨none, 0, by rw [h3], by omega, by simp [maxLen], hz, .inl rfl⟩
  · refine ⟨_, cap, rfl, hc1, hc2, hz, .inr ⟨g, 0, cur, rfl, hg, hh, by omega, fun i hi => ?_⟩⟩
    have e : (cur.toList.take (zs.length * 1))[i]? = (zs.map (Value.int .u32))[i]? := by rw [ht]
    rw [List.getElem?_take, if_pos (by omega)] at e
    rw [Nat.zero_add, ← Array.getElem?_toList, e, List.getElem?_map, List.getElem?_eq_getElem hi, List.getD_eq_getElem?_getD, List.getElem?_eq_getElem hi]
    rfl

set_option maxRecDepth 20000 in
set_option maxHeartbeats 400000 in
theorem clone_any (w : World) (ao : Option Addr) (n cap : Nat) (zs : List Int) (h : Sl w (.slice ao n cap) zs) (hz : zs.length ≤ 1000000) :
    Calls Try.prog 37 #[.slice ao n cap] w fun e w' => ∃ v, e = .returned v ∧ Ow w.heap.size w' v zs ∧ Below w.heap.size w w' := by
  obtain ⟨ao', cap', hv, h1, h2, h3, h4⟩ := h
  obtain ⟨rfl, rfl, rfl⟩ := (Value.slice.injEq .. ▸ hv)
  clear hv
  unfold maxLen at h2
  obtain ⟨i0, hi, hz0, hz1, hz2⟩ := info_parts info32
  have hnil := fun (w : World) (a : Option Addr) (n c : Nat) => Lib.run_eql_slice_nil (P := Try.prog) w 22 47 a n c 0 0 Try.underlying22
  by_cases he : zs = []
  · subst he
    clear h4
    cases ao with
    | none =>
      go_enter Try.func37, Try.ntmps37
      go_wp2
      go_ret
      exact ⟨_, rfl, ⟨none, 0, rfl, Nat.le_refl _, by simp [maxLen], h3, .inl rfl⟩, Below.refl _ _⟩
    | some ad =>
      go_enter Try.func37, Try.ntmps37
      go_wp2
      go_ret
      exact ⟨_, rfl, ⟨_, 0, rfl, Nat.le_refl _, by simp [maxLen], h3, .inl rfl⟩, (Below.refl _ _).alloc (Nat.le_refl _) _⟩
  · rcases h4 with h4 | ⟨b, off, rfl, hc⟩
    · exact absurd h4 he
    have hpos : 0 < zs.length := by cases zs with | nil => exact absurd rfl he | cons _ _ => simp
    have hcells : ∀ j u, (zs.map (Value.int .u32))[j]? = some u → (w.alloc (Obj.cells #[] 47)).cell? ((⟨b, off, none⟩ : Addr).add j) = some u := by
      intro j u hu
      rw [List.getElem?_map] at hu
      have hj : j < zs.length := by
        apply Classical.byContradiction
        intro hn
        rw [List.getElem?_eq_none (by omega)] at hu
        cases hu
      rw [List.getElem?_eq_getElem hj] at hu
      have hcj := hc j hj
      rw [List.getD_eq_getElem?_getD, List.getElem?_eq_getElem hj] at hcj
      rw [show ((⟨b, off, none⟩ : Addr).add j) = ⟨b, off + j, none⟩ from by simp [Addr.add], World.cell?_alloc_past _ _ _ (lt_of_cell hcj), hcj]
      exact hu
    have hone : ∀ u ∈ zs.map (Value.int .u32), u.oneCell' = true := by
      intro u hu
      obtain ⟨z, _, rfl⟩ := List.mem_map.1 hu
      rfl
    have H3 : Hid (Limb zs) := h3
    clear hc h3 he
    go_enter Try.func37, Try.ntmps37
    go_wp2_with (at_builtin; refine wpList_append_grows _ rfl (.tmp 5) (.tmp 6) 22 rfl 47 i0 (.int .u32 0) 1 4 Try.underlying22 hi hz0 hz1 hz2 rfl (by decide) _ 0 0 [] rfl (fun _ => ⟨rfl, rfl⟩) rfl (by intro _ _ _ _ h; simp at h) ⟨b, off, none⟩ zs.length cap (zs.map (Value.int .u32)) rfl (by simp) hcells hone (by omega) (by unfold maxLen; omega) (by omega) ?grow)
    case grow =>
      intro v' w' hown hgrow
      have R := ow_of_row (zs := zs) (by simpa using hown) (H3.out)
      have hb : Below w.heap.size w w' := ((Below.refl w.heap.size w).alloc (Nat.le_refl _) (Obj.cells #[] 47)).grown hgrow (by simp) (by simp)
      clear hown hgrow
      go_wp2
      go_ret
      exact ⟨_, rfl, R.mono (by simp), hb⟩

set_option maxRecDepth 20000 in
set_option maxHeartbeats 400000 in
theorem trim_any (w : World) (ao : Option Addr) (n cap : Nat) (zs : List Int) (h : Sl w (.slice ao n cap) zs) (hz : zs.length ≤ 1000000) :
    Calls Try.prog 11 #[.slice ao n cap] w fun e w' => ∃ v, e = .returned v ∧ Ow w.heap.size w' v (zs.take (tl zs)) ∧ Below w.heap.size w w' := by
  go_enter Try.func11, Try.ntmps11
  go_wp2_with fail
  refine (cut_any w ao n cap zs h).mono ?_
  rintro e w' ⟨rfl, rfl⟩
  go_wp2_with fail
  refine (clone_any _ _ _ _ (zs.take (tl zs)) (h.cut) (by have := tl_le zs; simp; omega)).mono ?_
  rintro e w' ⟨v, rfl, ho, hb⟩
  go_wp2
  go_ret
  exact ⟨_, rfl, ho, hb⟩

end Lm
end Go.Proofs.Ythbomfboohjcfaa

namespace Go.Proofs.Ythbomfboohjcfaa
namespace Lm
open Go.RowKit

/-- Are two lists one? -/
def sameB (xs ys : List Int) : Bool := decide (xs = ys)
theorem sameB_self (xs : List Int) : sameB xs xs = true := by simp [sameB]
theorem sameB_of {xs ys : List Int} (h : xs = ys) : sameB xs ys = true := by simp [sameB, h]

theorem take_eq_snoc {xs ys : List Int} {k : Nat} (hl : xs.length = ys.length) (hk : k < xs.length) (h : xs.take k = ys.take k) (e : xs.getD k 0 = ys.getD k 0) : xs.take (k + 1) = ys.take (k + 1) := by
  rw [take_succ_getD xs k hk, take_succ_getD ys k (by omega), h, e]

set_option maxRecDepth 20000 in
set_option maxHeartbeats 400000 in
theorem same_any (w : World) (a1 a2 : Option Addr) (n1 n2 c1 c2 : Nat) (xs ys : List Int) (hx : Sl w (.slice a1 n1 c1) xs) (hy : Sl w (.slice a2 n2 c2) ys) :
    Calls Try.prog 15 #[.slice a1 n1 c1, .slice a2 n2 c2] w fun e w' => e = .returned (.bool (sameB xs ys)) ∧ Below w.heap.size w w' := by
  obtain ⟨ao', cap', hv, h1, h2, h3, h4⟩ := hx
  obtain ⟨rfl, rfl, rfl⟩ := (Value.slice.injEq .. ▸ hv)
  obtain ⟨ao', cap', hv', g1, g2, g3, g4⟩ := hy
  obtain ⟨rfl, rfl, rfl⟩ := (Value.slice.injEq .. ▸ hv')
  clear hv hv' h3 g3
  unfold maxLen at h2 g2
  by_cases hl : xs.length = ys.length
  · have hb : (((xs.length : Nat) : Int) != ((ys.length : Nat) : Int)) = false := by simp [hl]
    have HL : Hid (xs.length = ys.length) := hl
    have hl1 : xs.length ≤ ys.length := by omega
    have hl2 : ys.length ≤ xs.length := by omega
    clear hl
    go_enter Try.func15, Try.ntmps15
    go_wp2
    go_loopw [5] (fun i wr => ∃ k : Nat, k ≤ xs.length ∧ xs.take k = ys.take k ∧ i = .int .i64 k ∧ Below w.heap.size w wr) (fun i _ => xs.length - (intOf i).toNat)
    case atStart => exact ⟨0, Nat.zero_le _, by simp, rfl, Below.refl _ _⟩
    case round =>
      obtain ⟨k, hk, ht, rfl, hbel⟩ := hrel
      have HT : Hid (xs.take k = ys.take k) := ht
      clear ht
      by_cases hlt : k < xs.length
      · rcases h4 with h4 | ⟨b, off, rfl, hc⟩
        · subst h4; simp at hlt
        rcases g4 with g4 | ⟨b', off', rfl, hc'⟩
        · exfalso; rw [g4, List.length_nil] at hl1; omega
        have e1 := hc k hlt
        have e2 := hc' k (by omega)
        have f1 := (hbel.cell (p := ⟨b, off + k, none⟩) (lt_of_cell e1)).trans e1
        have f2 := (hbel.cell (p := ⟨b', off' + k, none⟩) (lt_of_cell e2)).trans e2
        have d1 : (k : Int) < (xs.length : Int) := by omega
        have d2 : (k : Int) < (ys.length : Int) := by omega
        clear e1 e2 hc hc'
        by_cases he : xs.getD k 0 = ys.getD k 0
        · have HE : Hid (xs.take (k + 1) = ys.take (k + 1)) := take_eq_snoc HL.out hlt HT.out he
          rw [he] at f1
          clear he
          generalize ys.getD k 0 = z at f1 f2
          go_wp2
          go_quiet (fail)
          go_wp2
          go_roundw
          case rel => exact ⟨k + 1, by omega, HE.out, by go_num, below_drewN hbel _⟩
          case measure => simp [intOf]; omega
        · have HE : Hid (sameB xs ys = false) := by
            show _ = _
            simp only [sameB, decide_eq_false_iff_not]
            intro e; rw [e] at he; exact he rfl
          have hne : (xs.getD k 0 != ys.getD k 0) = true := by rw [bne_iff_ne]; exact he
          clear he
          generalize xs.getD k 0 = z at f1 hne
          generalize ys.getD k 0 = z' at f2 hne
          go_wp2
          go_quiet (fail)
          go_wp2
          go_ret
          exact ⟨by rw [HE.out]; rfl, below_drewN hbel _⟩
      · have HE : Hid (sameB xs ys = true) := by
          show _ = _
          have e := HT.out
          rw [List.take_of_length_le (by omega), List.take_of_length_le (by omega)] at e
          exact sameB_of e
        have d1 : ¬ (k : Int) < (xs.length : Int) := by omega
        go_wp2
        go_ret
        exact ⟨by rw [HE.out]; rfl, hbel⟩
  · have hb : (((xs.length : Nat) : Int) != ((ys.length : Nat) : Int)) = true := by rw [bne_iff_ne]; omega
    have HE : Hid (sameB xs ys = false) := by
      show _ = _
      simp only [sameB, decide_eq_false_iff_not]
      intro e; rw [e] at hl; exact hl rfl
    clear hl
    go_enter Try.func15, Try.ntmps15
    go_wp2
    go_ret
    exact ⟨by rw [HE.out]; rfl, Below.refl _ _⟩

end Lm
end Go.Proofs.Ythbomfboohjcfaa
