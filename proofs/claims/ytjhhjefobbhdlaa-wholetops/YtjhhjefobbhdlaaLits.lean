/-
  Short lists of limbs that are written out.
-/
import Derived.Test.YtjhhjefobbhdlaaText
namespace Go.Proofs.Ytjhhjefobbhdlaa
namespace Lm
open Go.RowKit

theorem sl_two (w : World) (x y : Int) (hl : Limb [x, y]) : Sl (w.alloc (.cells #[.int .u32 x, .int .u32 y] 51)) (.slice (some ⟨w.heap.size, 0, none⟩) 2 2) [x, y] := by
  refine Ow.sl (B := w.heap.size) ⟨_, 2, rfl, Nat.le_refl _, by simp [maxLen], hl, .inr ⟨w.heap.size, 0, _, rfl, Nat.le_refl _, heap_alloc_new w _, by simp, fun i hi => ?_⟩⟩
  match i, hi with
  | 0, _ => rfl
  | 1, _ => rfl

theorem sl_one (w : World) (x : Int) (hl : Limb [x]) : Sl (w.alloc (.cells #[.int .u32 x] 51)) (.slice (some ⟨w.heap.size, 0, none⟩) 1 1) [x] := by
  refine Ow.sl (B := w.heap.size) ⟨_, 1, rfl, Nat.le_refl _, by simp [maxLen], hl, .inr ⟨w.heap.size, 0, _, rfl, Nat.le_refl _, heap_alloc_new w _, by simp, fun i hi => ?_⟩⟩
  match i, hi with
  | 0, _ => rfl

theorem limb_lits {zs : List Int} (h : zs.all (fun z => decide (0 ≤ z ∧ z < 4294967296)) = true) : Limb zs := fun z hz => by
  have := List.all_eq_true.1 h z hz
  simpa using this

/-- A list that is worth a short number. -/
theorem is_short {B : Nat} {w : World} {v : Value} {x : Int} (h : Is B w v x) (h0 : 0 < x) (h1 : x < 4294967296) : ∃ b off cap, v = .slice (some ⟨b, off, none⟩) 1 cap ∧ w.cell? ⟨b, off, none⟩ = some (.int .u32 x) ∧ cap ≤ 9223372036854775807 ∧ 1 ≤ cap := by
  obtain ⟨rs, ho, hc, hv⟩ := h
  have e : rs = [x] := by
    refine canon_one hc ⟨limb_cons.2 ⟨by omega, limb_nil⟩, ?_⟩ (by simp [hv, val])
    have : x ≠ 0 := by omega
    simp [tl, this]
  subst e
  obtain ⟨ao, cap, rfl, h2, h3, _, h4⟩ := ho.sl
  rcases h4 with h4 | ⟨b, off, rfl, hcell⟩
  · cases h4
  · exact ⟨b, off, cap, rfl, by simpa using hcell 0 (by simp), h3, by simpa using h2⟩

end Lm
end Go.Proofs.Ytjhhjefobbhdlaa
