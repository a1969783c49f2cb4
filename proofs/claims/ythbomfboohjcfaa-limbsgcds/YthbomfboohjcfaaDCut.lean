/-
  The contracts of the calls that only read: the reference's cut.
-/
import Derived.Test.YthbomfboohjcfaaDMem
namespace Go.Proofs.Ythbomfboohjcfaa
namespace Dm
open Go.RowKit

set_option maxRecDepth 20000 in
set_option maxHeartbeats 400000 in
theorem cut_any (w : World) (ao : Option Addr) (n cap : Nat) (zs : List Int) (h : Sl w (.slice ao n cap) zs) :
    Calls Try.prog 81 #[.slice ao n cap] w fun e w' => e = .returned (.slice ao (tl zs) cap) ∧ w' = w := by
  obtain ⟨ao', cap', hv, h1, h2, h3, h4⟩ := h
  obtain ⟨rfl, rfl, rfl⟩ := (Value.slice.injEq .. ▸ hv)
  unfold maxLen at h2
  have ht := tl_le zs
  go_enter Try.func81, Try.ntmps81
  go_wp2
  go_loop [3] (fun n => ∃ k : Nat, k ≤ zs.length ∧ tl zs ≤ k ∧ n = .int .i64 k) (fun n => (intOf n).toNat)
  case atStart => exact ⟨zs.length, Nat.le_refl _, ht, rfl⟩
  case round =>
    obtain ⟨k, hk, hk2, rfl⟩ := hrel
    cases k with
    | zero =>
      have hz : tl zs = 0 := by omega
      have HZ : Hid (tl zs = 0) := hz
      clear hz
      go_wp2
      go_ret
      exact ⟨by rw [HZ.out]; rfl, rfl⟩
    | succ k =>
      rcases h4 with h4 | ⟨b, off, rfl, hc⟩
      · subst h4; simp at hk
      have hcell := hc k (by omega)
      by_cases h0 : zs.getD k 0 = 0
      · have hle := tl_le_of_zero hk2 h0
        rw [h0] at hcell
        clear h0 hc
        go_wp2
        go_round
        case rel => exact ⟨k, by omega, hle, by go_num⟩
        case measure => simp [intOf]
      · have hgt := tl_gt h0
        have HZ : Hid (tl zs = k + 1) := by show _ = _; omega
        have hb : (zs.getD k 0 == 0) = false := by simpa using h0
        generalize zs.getD k 0 = z at hcell hb
        clear h0 hc
        go_wp2
        go_ret
        exact ⟨by rw [HZ.out]; rfl, rfl⟩
end Dm
end Go.Proofs.Ythbomfboohjcfaa
