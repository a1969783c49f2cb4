/-
  The contract of Book's Done.
-/
import Derived.Test.YthbomfboohjcfaaBookO
namespace Go.Proofs.Ythbomfboohjcfaa
namespace Lm
open Go.RowKit

/-- The cells of a row. -/
theorem owns_cell {w : World} {B e n : Nat} {a : Option Addr} {c : Nat} {xs : List Value} (h : w.ownsRow B e 1 (.slice a n c) n xs) {i : Nat} (hi : i < n) : ∃ g u, a = some ⟨g, 0, none⟩ ∧ xs[i]? = some u ∧ w.cell? ⟨g, i, none⟩ = some u := by
  have hl := h.1
  rcases h.2 with ⟨e, rfl⟩ | ⟨g, cap, cur, e, _, hh, h1, h2, hs, ht⟩
  · omega
  · simp only [Value.slice.injEq] at e
    obtain ⟨rfl, _, rfl⟩ := e
    have hx : xs[i]? = some (xs[i]'(by omega)) := List.getElem?_eq_getElem (by omega)
    refine ⟨g, _, rfl, hx, ?_⟩
    rw [cell_of_row w g i cur _ (0, 0) hh, ← Array.getElem?_toList, ← hx, ← ht, List.getElem?_take, if_pos (by omega)]

set_option maxRecDepth 20000 in
set_option maxHeartbeats 1000000 in
theorem done_any (w : World) (p Q : Nat) (bs : List Nat) (rv : List Value) (lv mv : Value) (hk : Bk w p Q bs rv rv.length lv mv) (_hr : rv.length ≤ 1000) :
    Calls Try.prog 24 #[.pointer (some ⟨p, 0, none⟩)] w fun e w' => e = .returned (.bool true) ∧ Below w.heap.size w w' := by
  obtain ⟨al, cl, rfl, al1, al2⟩ := owns_shape hk.lists
  obtain ⟨am, cm, rfl, am1, am2⟩ := owns_shape hk.marks
  go_enter Try.func24, Try.ntmps24
  go_wp2
  go_loopw [3] (fun iv wr => ∃ i : Nat, i ≤ rv.length ∧ iv = .int .i64 i ∧ Below w.heap.size w wr) (fun iv _ => rv.length - (intOf iv).toNat)
  case atStart => exact ⟨0, Nat.zero_le _, rfl, Below.refl _ _⟩
  case round =>
    obtain ⟨i, hi, rfl, hbel⟩ := hrel
    obtain ⟨k0, k1, k2, k3⟩ := (hk.below hbel).facts
    by_cases hlt : i < rv.length
    · have dI : (i : Int) < (rv.length : Int) := by omega
      have HBL := hide hbel
      clear hbel
      go_wp2
      clear k0 k1 k2 k3
      obtain ⟨g1, u, rfl, hu, hc1⟩ := owns_cell hk.lists hlt
      obtain ⟨g2, u2, rfl, hu2, hc2⟩ := owns_cell hk.marks hlt
      rw [bmks_get hlt] at hu2
      simp only [Option.some.injEq] at hu2
      subst hu2
      obtain ⟨ao, n, cap, rfl, n1, n2, n3, n4⟩ := hk.rooms i u hu
      have C1 := hide hc1
      have C2 := hide hc2
      have N4 := hide n4
      clear hc1 hc2 n4 hu
      go_loopw [4] (fun kv wr => ∃ k : Nat, k ≤ n ∧ kv = .int .i64 k ∧ Below w.heap.size w wr) (fun kv _ => n - (intOf kv).toNat)
      case atStart => exact ⟨0, Nat.zero_le _, rfl, HBL.out⟩
      case round =>
        clear HBL
        obtain ⟨k, hkn, rfl, hbel⟩ := hrel
        obtain ⟨k0, k1, k2, k3⟩ := (hk.below hbel).facts
        have c1 := (hbel.cell (p := ⟨g1, i, none⟩) (lt_of_cell C1.out)).trans C1.out
        have c2 := (hbel.cell (p := ⟨g2, i, none⟩) (lt_of_cell C2.out)).trans C2.out
        by_cases hlt2 : k < n
        · have dK : (k : Int) < (n : Int) := by omega
          rcases N4.out with h0 | ⟨g, off, rfl, _, _, _, hc⟩
          · omega
          have c3 := (hbel.cell (p := ⟨g, off + k, none⟩) (lt_of_cell (hc k hlt2))).trans (hc k hlt2)
          clear hc N4
          simp only [bmk] at c2 c3
          go_wp2
          go_quiet (fail)
          go_wp2
          go_roundw
          case rel => exact ⟨k + 1, by omega, by go_num, below_drewN hbel _⟩
          case measure => simp [intOf]; omega
        · have dK : ¬ (k : Int) < (n : Int) := by omega
          go_wp2
          go_roundw
          case rel => exact ⟨i + 1, by omega, by go_num, hbel⟩
          case measure => simp [intOf]; omega
    · have dI : ¬ (i : Int) < (rv.length : Int) := by omega
      go_wp2
      go_ret
      exact ⟨rfl, hbel⟩

theorem done_b (w : World) (p Q n : Nat) (bs : List Nat) (hb : Bs w p Q bs n) (hn : n ≤ 1000) :
    Calls Try.prog 24 #[.pointer (some ⟨p, 0, none⟩)] w fun e w' => e = .returned (.bool true) ∧ Below w.heap.size w w' := by
  obtain ⟨rv, lv, mv, rfl, hk⟩ := hb
  exact done_any w p Q bs rv lv mv hk hn

end Lm
end Go.Proofs.Ythbomfboohjcfaa
