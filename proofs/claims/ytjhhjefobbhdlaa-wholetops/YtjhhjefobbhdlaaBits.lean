/-
  The contracts of bits.Len32 and of Bits.
-/
import Derived.Test.YtjhhjefobbhdlaaDivM
import Derived.Lib.BitFns
namespace Go.Proofs.Ytjhhjefobbhdlaa
namespace Lm
open Go.RowKit

def p2 : Nat → Int
  | 0 => 1
  | n + 1 => 2 * p2 n

theorem p2_pos (n : Nat) : 1 ≤ p2 n := by
  induction n with
  | zero => simp [p2]
  | succ n ih => simp only [p2]; omega

theorem p2_add (m n : Nat) : p2 (m + n) = p2 m * p2 n := by
  induction m with
  | zero => simp [p2]
  | succ m ih => rw [Nat.succ_add]; simp only [p2, ih, Int.mul_assoc]

theorem p2_mono {m n : Nat} (h : m ≤ n) : p2 m ≤ p2 n := by
  obtain ⟨k, rfl⟩ := Nat.le.dest h
  rw [p2_add]
  have h1 := p2_pos m
  have h2 := p2_pos k
  have : p2 m * 1 ≤ p2 m * p2 k := Int.mul_le_mul_of_nonneg_left h2 (by omega)
  omega

theorem pw_p2 (n : Nat) : pw n = p2 (32 * n) := by
  induction n with
  | zero => rfl
  | succ n ih =>
    rw [Nat.mul_succ, p2_add, Int.mul_comm, ← ih, show p2 32 = 4294967296 from by decide, pw]

/-- k is the least number of bits in which x fits. -/
def IsBits (x : Int) (k : Nat) : Prop := x < p2 k ∧ (k = 0 ∨ p2 (k - 1) ≤ x)

theorem isBits_mono {x y : Int} {k l : Nat} (hx : IsBits x k) (hy : IsBits y l) (h : x ≤ y) : k ≤ l := by
  apply Classical.byContradiction
  intro hn
  rcases hx.2 with h0 | h0
  · omega
  · have := p2_mono (m := l) (n := k - 1) (by omega)
    have := hy.1
    omega

theorem isBits_one {x : Int} {k l : Nat} (hx : IsBits x k) (hy : IsBits x l) : k = l :=
  Nat.le_antisymm (isBits_mono hx hy (Int.le_refl _)) (isBits_mono hy hx (Int.le_refl _))

theorem isBits_zero {k : Nat} (h : IsBits 0 k) : k = 0 := by
  rcases h.2 with h0 | h0
  · exact h0
  · have := p2_pos (k - 1); omega

theorem isBits_pos {x : Int} {k : Nat} (h : IsBits x k) (hx : 0 < x) : 0 < k := by
  apply Classical.byContradiction
  intro hn
  have h0 : k = 0 := by omega
  have := h.1
  rw [h0, p2] at this
  omega

theorem bitLenAux_bits (f : Nat) : ∀ x : Nat, (x : Int) < p2 f → IsBits x (Lib.bitLenAux f x) := by
  induction f with
  | zero =>
    intro x hx
    simp only [p2] at hx
    have : x = 0 := by omega
    subst this
    exact ⟨by simp [Lib.bitLenAux, p2], .inl rfl⟩
  | succ f ih =>
    intro x hx
    simp only [p2] at hx
    simp only [Lib.bitLenAux]
    by_cases h0 : x = 0
    · subst h0
      exact ⟨by simp [p2], .inl (by simp)⟩
    · rw [if_neg h0]
      have hi := ih (x / 2) (by omega)
      refine ⟨?_, .inr ?_⟩
      · rw [Nat.add_comm, p2]
        have := hi.1
        omega
      · rw [Nat.add_sub_cancel_left]
        rcases hi.2 with h1 | h1
        · rw [h1, p2]; omega
        · by_cases h2 : Lib.bitLenAux f (x / 2) = 0
          · rw [h2, p2]; omega
          · obtain ⟨m, hm⟩ : ∃ m, Lib.bitLenAux f (x / 2) = m + 1 := ⟨Lib.bitLenAux f (x / 2) - 1, by omega⟩
            rw [hm] at h1 ⊢
            simp only [Nat.add_sub_cancel, p2] at h1 ⊢
            omega

theorem bitLen_bits (x : Nat) (h : x < 18446744073709551616) : IsBits x (Lib.bitLen x) :=
  bitLenAux_bits 64 x (by rw [show p2 64 = 18446744073709551616 from by decide]; omega)

/-- The bits of a number by its top limb. -/
theorem bits_top {zs : List Int} (h : Canon zs) {n l : Nat} (hn : zs.length = n + 1) (ht : IsBits (zs.getD n 0) l) (hp : 0 < zs.getD n 0) : IsBits (val zs) (32 * n + l) := by
  have hl := isBits_pos ht hp
  have e : val zs = val (zs.take n) + pw n * zs.getD n 0 := by
    have e1 : zs = zs.take n ++ [zs.getD n 0] := by
      rw [← take_succ_getD zs n (by omega), List.take_of_length_le (by omega)]
    have e2 := val_append (zs.take n) [zs.getD n 0]
    rw [← e1, List.length_take, Nat.min_eq_left (by omega)] at e2
    rw [e2]
    simp [val]
  have hb := val_bounds (limb_take h.1 n)
  rw [List.length_take, Nat.min_eq_left (by omega)] at hb
  generalize zs.getD n 0 = t at *
  rw [e]
  have hpw := pw_pos n
  refine ⟨?_, .inr ?_⟩
  · rw [p2_add, ← pw_p2]
    have : pw n * (t + 1) ≤ pw n * p2 l := Int.mul_le_mul_of_nonneg_left (by have := ht.1; omega) (by omega)
    rw [Int.mul_add] at this
    omega
  · rw [show 32 * n + l - 1 = 32 * n + (l - 1) by omega, p2_add, ← pw_p2]
    have hlow : p2 (l - 1) ≤ t := by rcases ht.2 with h0 | h0 <;> omega
    have : pw n * p2 (l - 1) ≤ pw n * t := Int.mul_le_mul_of_nonneg_left hlow (by omega)
    omega

theorem tab_all : ∀ n : Fin 256, (Lib.len8tab[n.val]?.getD 0).toNat = Lib.bitLen n.val := by decide +kernel

theorem tab_get (y : Int) (h : y.toNat < Lib.len8tab.size) (h0 : 0 ≤ y) (h1 : y < 256) : ((Lib.len8tab[y.toNat]'h).toNat : Int) = (Lib.bitLen y.toNat : Nat) := by
  have e := tab_all ⟨y.toNat, by omega⟩
  simp only [getElem?_pos Lib.len8tab y.toNat h, Option.getD_some] at e
  rw [e]

theorem len_of {x y : Int} {k : Nat} (hk : k ≤ 24) (h : y.toNat < Lib.len8tab.size) (h0 : 0 ≤ y) (h1 : y < 256) (hb : Lib.bitLen x.toNat = k + Lib.bitLen y.toNat) : wrap64 ((k : Int) + wrap64 ((Lib.len8tab[y.toNat]'h).toNat : Int)) = (Lib.bitLen x.toNat : Nat) := by
  have l := Lib.bitLen_le8' y h0 (by omega)
  rw [tab_get y h h0 h1, hb]
  simp only [wrap64]
  omega

theorem len_of0 {x : Int} (h : x.toNat < Lib.len8tab.size) (h0 : 0 ≤ x) (h1 : x < 256) : wrap64 (wrap64 ((Lib.len8tab[x.toNat]'h).toNat : Int)) = (Lib.bitLen x.toNat : Nat) := by
  have l := Lib.bitLen_le8' x h0 (by omega)
  rw [tab_get x h h0 h1]
  simp only [wrap64]
  omega

set_option maxRecDepth 20000 in
set_option maxHeartbeats 4000000 in
set_option maxRecDepth 100000 in
theorem len32_any (x : Int) (w : World) (h0 : 0 ≤ x) (h1 : x < 4294967296) :
    Calls Try.prog 75 #[.int .u32 x] w fun e w' => e = .returned (.int .i64 (Lib.bitLen x.toNat : Nat)) ∧ w' = w := by
  have hs : (256 : Int) ≤ (Lib.len8tab.size : Int) := by decide
  by_cases c1 : 65536 ≤ x
  · by_cases c2 : 256 ≤ x / 65536
    · go_enter Try.func75, Try.ntmps75
      go_wp2
      go_ret
      refine ⟨congrArg Ending.returned (congrArg (Value.int IntKind.i64) ?_), rfl⟩
      exact len_of (k := 24) (by omega) _ (by omega) (by omega) (by rw [Lib.bitLen_shift24 x.toNat (by omega) (by omega)]; congr 2; omega)
    · go_enter Try.func75, Try.ntmps75
      go_wp2
      go_ret
      refine ⟨congrArg Ending.returned (congrArg (Value.int IntKind.i64) ?_), rfl⟩
      exact len_of (k := 16) (by omega) _ (by omega) (by omega) (by rw [Lib.bitLen_shift16 x.toNat (by omega) (by omega)]; congr 2; omega)
  · by_cases c2 : 256 ≤ x
    · go_enter Try.func75, Try.ntmps75
      go_wp2
      go_ret
      refine ⟨congrArg Ending.returned (congrArg (Value.int IntKind.i64) ?_), rfl⟩
      exact len_of (k := 8) (by omega) _ (by omega) (by omega) (by rw [Lib.bitLen_shift8 x.toNat (by omega) (by omega)]; congr 2; omega)
    · go_enter Try.func75, Try.ntmps75
      go_wp2
      go_ret
      refine ⟨congrArg Ending.returned (congrArg (Value.int IntKind.i64) ?_), rfl⟩
      exact len_of0 _ (by omega) (by omega)

set_option maxRecDepth 20000 in
set_option maxHeartbeats 400000 in
theorem bits_any (w : World) (ao : Option Addr) (n cap : Nat) (zs : List Int) (h : Sl w (.slice ao n cap) zs) (hm : zs.length ≤ 1000000) :
    Calls Try.prog 50 #[.slice ao n cap] w fun e w' => ∃ k : Nat, e = .returned (.int .i64 k) ∧ IsBits (val zs) k ∧ w' = w := by
  obtain ⟨rfl, h1, h2, h3⟩ := h.parts
  have t1 := tl_le zs
  have kc := hide (cut_any w ao _ cap zs h)
  by_cases h0 : tl zs = 0
  · have HB : Hid (IsBits (val zs) 0) := by rw [tl_zero h0]; exact ⟨by decide, .inl rfl⟩
    rw [h0] at kc
    clear h0
    go_enter Try.func50, Try.ntmps50
    go_wp2_with fail
    refine (kc.out).mono ?_
    rintro e w' ⟨rfl, rfl⟩
    go_wp2
    go_ret
    exact ⟨0, rfl, HB.out, rfl⟩
  · obtain ⟨k, hk⟩ : ∃ k, tl zs = k + 1 := ⟨tl zs - 1, by omega⟩
    obtain ⟨b, off, rfl, hc⟩ := h.cells (by omega)
    have hcell := hc k (by omega)
    have hl := limb_getD h3 k
    have hp : 0 < zs.getD k 0 := by
      have : zs.getD k 0 ≠ 0 := fun e0 => by
        have := tl_le_of_zero (zs := zs) (n := k) (by omega) e0
        omega
      omega
    have hbt := bitLen_bits (zs.getD k 0).toNat (by omega)
    rw [Int.toNat_of_nonneg hl.1] at hbt
    have hlb : Lib.bitLen (zs.getD k 0).toNat ≤ 32 := Lib.bitLen_le _ 32 (by omega) (by omega)
    have HB : Hid (IsBits (val zs) (32 * k + Lib.bitLen (zs.getD k 0).toNat)) := by
      have hcn := canon_trim h3
      have e1 := getD_take zs k (tl zs) (by omega)
      have := bits_top hcn (n := k) (l := Lib.bitLen (zs.getD k 0).toNat) (by simp; omega) (by rw [e1]; exact hbt) (by rw [e1]; exact hp)
      rwa [val_take_tl] at this
    have kl := hide (fun w => len32_any (zs.getD k 0) w hl.1 hl.2)
    generalize Lib.bitLen (zs.getD k 0).toNat = l at HB hlb kl
    generalize zs.getD k 0 = z at hcell kl
    rw [hk] at kc
    have hk1 : k ≤ 1000000 := by omega
    clear h0 hk hc hbt hl hp
    go_enter Try.func50, Try.ntmps50
    go_wp2_with fail
    refine (kc.out).mono ?_
    rintro e w' ⟨rfl, rfl⟩
    go_wp2_with fail
    refine (kl.out _).mono ?_
    rintro e w' ⟨rfl, rfl⟩
    go_wp2
    go_ret
    refine ⟨32 * k + l, ?_, HB.out, rfl⟩
    exact ret_i64 (by omega)

end Lm
end Go.Proofs.Ytjhhjefobbhdlaa
