/-
  The contracts of SameLimbs and of Compare.
-/
import Derived.Test.YtjhhjefobbhdlaaTrim
import Derived.Deep.QuietTactic
import Derived.BigQuiet
namespace Go.Proofs.Ytjhhjefobbhdlaa
namespace Lm
open Go.RowKit

/-- Are two lists one? -/
def sameB (xs ys : List Int) : Bool := decide (xs = ys)
theorem sameB_self (xs : List Int) : sameB xs xs = true := by simp [sameB]
theorem sameB_of {xs ys : List Int} (h : xs = ys) : sameB xs ys = true := by simp [sameB, h]

theorem take_eq_snoc {xs ys : List Int} {k : Nat} (hl : xs.length = ys.length) (hk : k < xs.length) (h : xs.take k = ys.take k) (e : xs.getD k 0 = ys.getD k 0) : xs.take (k + 1) = ys.take (k + 1) := by
  rw [take_succ_getD xs k hk, take_succ_getD ys k (by omega), h, e]

set_option maxRecDepth 20000 in
set_option maxHeartbeats 400000 in
theorem same_any (w : World) (a1 a2 : Option Addr) (n1 n2 c1 c2 : Nat) (xs ys : List Int) (hx : Sl w (.slice a1 n1 c1) xs) (hy : Sl w (.slice a2 n2 c2) ys) :
    Calls Try.prog 53 #[.slice a1 n1 c1, .slice a2 n2 c2] w fun e w' => e = .returned (.bool (sameB xs ys)) ∧ Below w.heap.size w w' := by
  obtain ⟨ao', cap', hv, h1, h2, h3, h4⟩ := hx
  obtain ⟨rfl, rfl, rfl⟩ := (Value.slice.injEq .. ▸ hv)
  obtain ⟨ao', cap', hv', g1, g2, g3, g4⟩ := hy
  obtain ⟨rfl, rfl, rfl⟩ := (Value.slice.injEq .. ▸ hv')
  clear hv hv' h3 g3
  unfold maxLen at h2 g2
  by_cases hl : xs.length = ys.length
  · have hb : (((xs.length : Nat) : Int) != ((ys.length : Nat) : Int)) = false := by simp [hl]
    have HL : Hid (xs.length = ys.length) := hl
    have hl1 : xs.length ≤ ys.length := by omega
    have hl2 : ys.length ≤ xs.length := by omega
    clear hl
    go_enter Try.func53, Try.ntmps53
    go_wp2
    go_loopw [5] (fun i wr => ∃ k : Nat, k ≤ xs.length ∧ xs.take k = ys.take k ∧ i = .int .i64 k ∧ Below w.heap.size w wr) (fun i _ => xs.length - (intOf i).toNat)
    case atStart => exact ⟨0, Nat.zero_le _, by simp, rfl, Below.refl _ _⟩
    case round =>
      obtain ⟨k, hk, ht, rfl, hbel⟩ := hrel
      have HT : Hid (xs.take k = ys.take k) := ht
      clear ht
      by_cases hlt : k < xs.length
      · rcases h4 with h4 | ⟨b, off, rfl, hc⟩
        · subst h4; simp at hlt
        rcases g4 with g4 | ⟨b', off', rfl, hc'⟩
        · exfalso; rw [g4, List.length_nil] at hl1; omega
        have e1 := hc k hlt
        have e2 := hc' k (by omega)
        have f1 := (hbel.cell (p := ⟨b, off + k, none⟩) (lt_of_cell e1)).trans e1
        have f2 := (hbel.cell (p := ⟨b', off' + k, none⟩) (lt_of_cell e2)).trans e2
        have d1 : (k : Int) < (xs.length : Int) := by omega
        have d2 : (k : Int) < (ys.length : Int) := by omega
        clear e1 e2 hc hc'
        by_cases he : xs.getD k 0 = ys.getD k 0
        · have HE : Hid (xs.take (k + 1) = ys.take (k + 1)) := take_eq_snoc HL.out hlt HT.out he
          rw [he] at f1
          clear he
          generalize ys.getD k 0 = z at f1 f2
          go_wp2
          go_quiet (fail)
          go_wp2
          go_roundw
          case rel => exact ⟨k + 1, by omega, HE.out, by go_num, below_drewN hbel _⟩
          case measure => simp [intOf]; omega
        · have HE : Hid (sameB xs ys = false) := by
            show _ = _
            simp only [sameB, decide_eq_false_iff_not]
            intro e; rw [e] at he; exact he rfl
          have hne : (xs.getD k 0 != ys.getD k 0) = true := by rw [bne_iff_ne]; exact he
          clear he
          generalize xs.getD k 0 = z at f1 hne
          generalize ys.getD k 0 = z' at f2 hne
          go_wp2
          go_quiet (fail)
          go_wp2
          go_ret
          exact ⟨by rw [HE.out]; rfl, below_drewN hbel _⟩
      · have HE : Hid (sameB xs ys = true) := by
          show _ = _
          have e := HT.out
          rw [List.take_of_length_le (by omega), List.take_of_length_le (by omega)] at e
          exact sameB_of e
        have d1 : ¬ (k : Int) < (xs.length : Int) := by omega
        go_wp2
        go_ret
        exact ⟨by rw [HE.out]; rfl, hbel⟩
  · have hb : (((xs.length : Nat) : Int) != ((ys.length : Nat) : Int)) = true := by rw [bne_iff_ne]; omega
    have HE : Hid (sameB xs ys = false) := by
      show _ = _
      simp only [sameB, decide_eq_false_iff_not]
      intro e; rw [e] at hl; exact hl rfl
    clear hl
    go_enter Try.func53, Try.ntmps53
    go_wp2
    go_ret
    exact ⟨by rw [HE.out]; rfl, Below.refl _ _⟩

end Lm
end Go.Proofs.Ytjhhjefobbhdlaa
