/-
  The contract of Lender's Back.
-/
import Derived.Test.YthbomfboohjcfaaLend
namespace Go.Proofs.Ythbomfboohjcfaa
namespace Lm
open Go.RowKit

theorem limb_lent {xs : List Int} (hl : Limb xs) (hm : xs.length ≤ 100000) {i : Nat} (hi : i < xs.length + 10) : 0 ≤ (lent xs).getD i 0 ∧ (lent xs).getD i 0 < 4294967296 := by
  by_cases h1 : i < 5
  · rw [lent_low h1]; omega
  · by_cases h2 : i < 5 + xs.length
    · rw [lent_mid (by omega) h2]; exact limb_getD hl _
    · rw [lent_high (by omega) hi]; omega

set_option maxRecDepth 20000 in
set_option maxHeartbeats 2000000 in
theorem back_any (w : World) (L g : Nat) (a1 : Option Addr) (n c1 : Nat) (xs : List Int) (hs : LendS w L g xs) (hLg : L ≠ g) (hx : Sl w (.slice a1 n c1) xs) (hm : xs.length ≤ 100000)
    (hne : 0 < xs.length → ∀ b off, a1 = some ⟨b, off, none⟩ → b ≠ g) :
    Calls Try.prog 14 #[.pointer (some ⟨L, 0, none⟩), .slice a1 n c1] w fun e w' => e = .returned (.bool true) ∧ Touch w w' g := by
  obtain ⟨rfl, h1, h2, h3⟩ := hx.parts
  obtain ⟨hL, cur, hh, hcs, hat, _⟩ := hs
  have dL := (cell_of_row w L 1 _ _ (0, 0) hL).trans (show (#[.slice (some ⟨g, 0, none⟩) (xs.length + 10) (xs.length + 10), .int .i64 xs.length] : Array Value)[1]? = some _ from rfl)
  have H3 := hide h3
  have HL := hide hL
  have HH := hide hh
  have HS := hide hcs
  have HA := hide hat
  clear h3 hL hh hcs hat
  go_enter Try.func14, Try.ntmps14
  go_wp2
  go_loopw [5, 6] (fun ok i wr => ∃ (k : Nat) (cur' : Array Value), k ≤ xs.length + 10 ∧ ok = .bool true ∧ i = .int .i64 k ∧ Wr w wr g cur' 47 ∧ cur'.size = xs.length + 10 ∧ (∀ j, k ≤ j → j < xs.length + 10 → cur'[j]? = some (.int .u32 ((lent xs).getD j 0)))) (fun _ i _ => xs.length + 10 - (intOf i).toNat)
  case atStart => exact ⟨0, cur, Nat.zero_le _, rfl, rfl, Wr.refl HH.out, HS.out, fun j _ hj => by have := HA.out j (by rw [lent_length]; exact hj); rwa [Nat.zero_add] at this⟩
  case round =>
    obtain ⟨k, cur', hk, rfl, rfl, hwr, hcs, hat⟩ := hrel
    have HW := hide hwr
    have HC := hide hcs
    have HT := hide hat
    have hLr : wr.heap[L]? = some (.cells #[.slice (some ⟨g, 0, none⟩) (xs.length + 10) (xs.length + 10), .int .i64 xs.length] 25 (0, 0)) := by
      rw [hwr.other L hLg]; exact HL.out
    have cLr := (cell_of_row wr L 0 _ _ (0, 0) hLr).trans (show (#[.slice (some ⟨g, 0, none⟩) (xs.length + 10) (xs.length + 10), .int .i64 xs.length] : Array Value)[0]? = some _ from rfl)
    clear hwr hcs hat hLr
    by_cases hlt : k < xs.length + 10
    · have hcell : wr.cell? ⟨g, k, none⟩ = some (.int .u32 ((lent xs).getD k 0)) := by
        rw [cell_of_row wr g k cur' _ (0, 0) HW.out.here]; exact HT.out k (Nat.le_refl _) hlt
      have hbl := limb_lent H3.out hm hlt
      have hfree := HW.out.free k
      have HN : Hid (∀ (u : Value) (j : Nat), k + 1 ≤ j → j < xs.length + 10 → (cur'.setIfInBounds k u)[j]? = some (.int .u32 ((lent xs).getD j 0))) := by
        intro u j hj hj2
        rw [Array.getElem?_setIfInBounds, if_neg (by omega)]
        exact HT.out j (by omega) hj2
      by_cases h5 : k < 5
      · rw [lent_low h5] at hcell
        have d5 : decide ((5 : Int) ≤ (k : Int)) = false := by simp; omega
        go_wp2
        go_region
        all_goals go_wp2
        go_roundw
        case rel => exact ⟨k + 1, _, by omega, rfl, by go_num, (HW.out.set k _).drew, by simpa using HC.out, HN.out _⟩
        case measure => simp [intOf]; omega
      · by_cases h6 : k < 5 + xs.length
        · obtain ⟨m, rfl⟩ : ∃ m, k = m + 5 := ⟨k - 5, by omega⟩
          rw [lent_mid (by omega) h6, Nat.add_sub_cancel] at hcell
          have sx := hx.touch HW.out.touch hne
          obtain ⟨b, off, rfl, hcx⟩ := sx.cells (by omega)
          have cx := hcx m (by omega)
          generalize xs.getD m 0 = z at hcell cx
          have hm5 : ((m + 5 : Nat) : Int) = (m : Int) + 5 := by omega
          rw [hm5]
          have d5 : decide ((5 : Int) ≤ (m : Int) + 5) = true := decide_eq_true (by omega)
          have d6 : decide ((m : Int) + 5 < 5 + (xs.length : Int)) = true := by simp; omega
          have d7 : (m : Int) + 5 < 5 + (xs.length : Int) := by omega
          clear sx hcx hbl hm5
          go_wp2
          go_region
          all_goals go_wp2
          go_roundw
          case rel => exact ⟨m + 5 + 1, _, by omega, rfl, by go_num, (HW.out.set (m + 5) _).drew, by simpa using HC.out, HN.out _⟩
          case measure => simp [intOf]; omega
        · rw [lent_high (by omega) hlt] at hcell
          have d5 : decide ((5 : Int) ≤ (k : Int)) = true := by simp; omega
          have d6 : decide ((k : Int) < 5 + (xs.length : Int)) = false := by simp; omega
          have d7 : ¬ (k : Int) < 5 + (xs.length : Int) := by omega
          have d8 : (5 : Int) ≤ (k : Int) := by omega
          go_wp2
          go_region
          all_goals go_wp2
          go_roundw
          case rel => exact ⟨k + 1, _, by omega, rfl, by go_num, (HW.out.set k _).drew, by simpa using HC.out, HN.out _⟩
          case measure => simp [intOf]; omega
    · have hkn : k = xs.length + 10 := by omega
      subst hkn
      go_wp2
      go_ret
      exact ⟨rfl, HW.out.touch⟩

end Lm
end Go.Proofs.Ythbomfboohjcfaa
