/-
  The contracts of Small and of Uint.
-/
import Derived.Test.YtjhhjefobbhdlaaDivS
namespace Go.Proofs.Ytjhhjefobbhdlaa
namespace Lm
open Go.RowKit

theorem Ow.is_cut {B : Nat} {w : World} {ao : Option Addr} {n cap : Nat} {zs : List Int} {x : Int} (h : Ow B w (.slice ao n cap) zs) (hv : val zs = x) : Is B w (.slice ao (tl zs) cap) x := by
  have hl := h.sl.parts.2.2.2
  exact ⟨zs.take (tl zs), h.take (tl_le zs), canon_trim hl, by rw [val_take_tl, hv]⟩

theorem Is.mono {B B' : Nat} {w : World} {v : Value} {x : Int} (h : Is B w v x) (hB : B' ≤ B) : Is B' w v x := by
  obtain ⟨rs, h1, h2, h3⟩ := h
  exact ⟨rs, h1.mono hB, h2, h3⟩

theorem Is.below {B : Nat} {w w' : World} {v : Value} {x : Int} (h : Is B w v x) (hb : Below w.heap.size w w') : Is B w' v x := by
  obtain ⟨rs, h1, h2, h3⟩ := h
  exact ⟨rs, h1.below hb, h2, h3⟩

theorem val_two (x y : Int) : val [x, y] = x + 4294967296 * y := by simp [val]

set_option maxRecDepth 20000 in
set_option maxHeartbeats 400000 in
theorem small_any (w : World) (n : Int) (h0 : 0 ≤ n) (h1 : n < 18446744073709551616) :
    Calls Try.prog 55 #[.int .u64 n] w fun e w' => ∃ v, e = .returned v ∧ Is w.heap.size w' v n ∧ Below w.heap.size w w' := by
  have hl : Limb [n % 4294967296, n / 4294967296] := by
    intro z hz
    simp at hz
    rcases hz with rfl | rfl <;> omega
  have how : Ow w.heap.size (w.alloc (.cells #[.int .u32 (n % 4294967296), .int .u32 (n / 4294967296)] 51)) (.slice (some ⟨w.heap.size, 0, none⟩) 2 2) [n % 4294967296, n / 4294967296] := by
    refine ⟨_, 2, rfl, Nat.le_refl _, by simp [maxLen], hl, .inr ⟨w.heap.size, 0, _, rfl, Nat.le_refl _, heap_alloc_new w _, by simp, fun i hi => ?_⟩⟩
    match i, hi with
    | 0, _ => rfl
    | 1, _ => rfl
  have hbel : Below w.heap.size w (w.alloc (.cells #[.int .u32 (n % 4294967296), .int .u32 (n / 4294967296)] 51)) := (Below.refl _ _).alloc (Nat.le_refl _) _
  have his := how.is_cut (x := n) (by rw [val_two]; omega)
  clear hl
  go_enter Try.func55, Try.ntmps55
  go_wp2_with fail
  refine (cut_any _ _ _ _ _ how.sl).mono ?_
  rintro e w' ⟨rfl, rfl⟩
  go_wp2
  go_ret
  exact ⟨_, rfl, his, hbel⟩

end Lm
end Go.Proofs.Ytjhhjefobbhdlaa
