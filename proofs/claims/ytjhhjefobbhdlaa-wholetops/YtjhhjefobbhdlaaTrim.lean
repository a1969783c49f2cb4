/-
  The contracts of slices.Clone and of Trim.
-/
import Derived.Test.YtjhhjefobbhdlaaCut
namespace Go.Proofs.Ytjhhjefobbhdlaa
namespace Lm
open Go.RowKit

theorem info32 : (Try.prog.info? 51).map (fun i => (i.zero, i.size, i.bytes)) = some (some (.int .u32 0), 1, 4) := by kernel_rfl

/-- What a made or grown row owns, as 'Ow' says it. -/
theorem ow_of_row {w : World} {B : Nat} {v : Value} {n : Nat} {zs : List Int} (h : w.ownsRow B 51 1 v n (zs.map (Value.int .u32))) (hz : Limb zs) : Ow B w v zs := by
  obtain ⟨h1, h2⟩ := h
  have hn : zs.length = n := by simpa using h1
  subst hn
  rcases h2 with ⟨rfl, h3⟩ | ⟨g, cap, cur, rfl, hg, hh, hc1, hc2, hs, ht⟩
  · exact ⟨none, 0, by rw [h3], by omega, by simp [maxLen], hz, .inl rfl⟩
  · refine ⟨_, cap, rfl, hc1, hc2, hz, .inr ⟨g, 0, cur, rfl, hg, hh, by omega, fun i hi => ?_⟩⟩
    have e : (cur.toList.take (zs.length * 1))[i]? = (zs.map (Value.int .u32))[i]? := by rw [ht]
    rw [List.getElem?_take, if_pos (by omega)] at e
    rw [Nat.zero_add, ← Array.getElem?_toList, e, List.getElem?_map, List.getElem?_eq_getElem hi, List.getD_eq_getElem?_getD, List.getElem?_eq_getElem hi]
    rfl

set_option maxRecDepth 20000 in
set_option maxHeartbeats 400000 in
theorem clone_any (w : World) (ao : Option Addr) (n cap : Nat) (zs : List Int) (h : Sl w (.slice ao n cap) zs) (hz : zs.length ≤ 1000000) :
    Calls Try.prog 74 #[.slice ao n cap] w fun e w' => ∃ v, e = .returned v ∧ Ow w.heap.size w' v zs ∧ Below w.heap.size w w' := by
  obtain ⟨ao', cap', hv, h1, h2, h3, h4⟩ := h
  obtain ⟨rfl, rfl, rfl⟩ := (Value.slice.injEq .. ▸ hv)
  clear hv
  unfold maxLen at h2
  obtain ⟨i0, hi, hz0, hz1, hz2⟩ := info_parts info32
  have hnil := fun (w : World) (a : Option Addr) (n c : Nat) => Lib.run_eql_slice_nil (P := Try.prog) w 22 51 a n c 0 0 Try.underlying22
  by_cases he : zs = []
  · subst he
    clear h4
    cases ao with
    | none =>
      go_enter Try.func74, Try.ntmps74
      go_wp2
      go_ret
      exact ⟨_, rfl, ⟨none, 0, rfl, Nat.le_refl _, by simp [maxLen], h3, .inl rfl⟩, Below.refl _ _⟩
    | some ad =>
      go_enter Try.func74, Try.ntmps74
      go_wp2
      go_ret
      exact ⟨_, rfl, ⟨_, 0, rfl, Nat.le_refl _, by simp [maxLen], h3, .inl rfl⟩, (Below.refl _ _).alloc (Nat.le_refl _) _⟩
  · rcases h4 with h4 | ⟨b, off, rfl, hc⟩
    · exact absurd h4 he
    have hpos : 0 < zs.length := by cases zs with | nil => exact absurd rfl he | cons _ _ => simp
    have hcells : ∀ j u, (zs.map (Value.int .u32))[j]? = some u → (w.alloc (Obj.cells #[] 51)).cell? ((⟨b, off, none⟩ : Addr).add j) = some u := by
      intro j u hu
      rw [List.getElem?_map] at hu
      have hj : j < zs.length := by
        apply Classical.byContradiction
        intro hn
        rw [List.getElem?_eq_none (by omega)] at hu
        cases hu
      rw [List.getElem?_eq_getElem hj] at hu
      have hcj := hc j hj
      rw [List.getD_eq_getElem?_getD, List.getElem?_eq_getElem hj] at hcj
      rw [show ((⟨b, off, none⟩ : Addr).add j) = ⟨b, off + j, none⟩ from by simp [Addr.add], World.cell?_alloc_past _ _ _ (lt_of_cell hcj), hcj]
      exact hu
    have hone : ∀ u ∈ zs.map (Value.int .u32), u.oneCell' = true := by
      intro u hu
      obtain ⟨z, _, rfl⟩ := List.mem_map.1 hu
      rfl
    have H3 : Hid (Limb zs) := h3
    clear hc h3 he
    go_enter Try.func74, Try.ntmps74
    go_wp2_with (at_builtin; refine wpList_append_grows _ rfl (.tmp 5) (.tmp 6) 22 rfl 51 i0 (.int .u32 0) 1 4 Try.underlying22 hi hz0 hz1 hz2 rfl (by decide) _ 0 0 [] rfl (fun _ => ⟨rfl, rfl⟩) rfl (by intro _ _ _ _ h; simp at h) ⟨b, off, none⟩ zs.length cap (zs.map (Value.int .u32)) rfl (by simp) hcells hone (by omega) (by unfold maxLen; omega) (by omega) ?grow)
    case grow =>
      intro v' w' hown hgrow
      have R := ow_of_row (zs := zs) (by simpa using hown) (H3.out)
      have hb : Below w.heap.size w w' := ((Below.refl w.heap.size w).alloc (Nat.le_refl _) (Obj.cells #[] 51)).grown hgrow (by simp) (by simp)
      clear hown hgrow
      go_wp2
      go_ret
      exact ⟨_, rfl, R.mono (by simp), hb⟩

set_option maxRecDepth 20000 in
set_option maxHeartbeats 400000 in
theorem trim_any (w : World) (ao : Option Addr) (n cap : Nat) (zs : List Int) (h : Sl w (.slice ao n cap) zs) (hz : zs.length ≤ 1000000) :
    Calls Try.prog 49 #[.slice ao n cap] w fun e w' => ∃ v, e = .returned v ∧ Ow w.heap.size w' v (zs.take (tl zs)) ∧ Below w.heap.size w w' := by
  go_enter Try.func49, Try.ntmps49
  go_wp2_with fail
  refine (cut_any w ao n cap zs h).mono ?_
  rintro e w' ⟨rfl, rfl⟩
  go_wp2_with fail
  refine (clone_any _ _ _ _ (zs.take (tl zs)) (h.cut) (by have := tl_le zs; simp; omega)).mono ?_
  rintro e w' ⟨v, rfl, ho, hb⟩
  go_wp2
  go_ret
  exact ⟨_, rfl, ho, hb⟩

end Lm
end Go.Proofs.Ytjhhjefobbhdlaa
