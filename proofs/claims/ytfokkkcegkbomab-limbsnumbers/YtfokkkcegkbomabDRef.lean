/-
  The contracts of the reference's Trim, Uint, Small, and of Uint and CopyLimbs.
-/
import Derived.Test.YtfokkkcegkbomabDLimbs
namespace Go.Proofs.Ytfokkkcegkbomab
namespace Dm
open Go.RowKit
open Lm (hide lt_of_cell lt_of_heap div_of info32)

set_option maxHeartbeats 400000 in
theorem limbs_none (w : World) (ng : Bool) (ao : Option Addr) (cap : Nat) (_hcap : cap ≤ 9223372036854775807) :
    Calls Try.prog 37 #[.agg #[.bool ng, .slice ao 0 cap]] w fun e w' => ∃ v, e = .returned v ∧ Lm.Is w.heap.size w' v 0 ∧ Below w.heap.size w w' := by
  cases ao with
  | none =>
    go_enter Try.func37, Try.ntmps37
    go_wp2
    refine wp_loop_rounds 1 ?_
    rw [rounds_succ]
    go_wp2
    go_ret
    exact ⟨_, rfl, ⟨[], ⟨none, 0, rfl, Nat.le_refl _, by simp [maxLen], Lm.limb_nil, .inl rfl⟩, Lm.canon_nil, rfl⟩, (Below.refl _ _).alloc (Nat.le_refl _) _⟩
  | some ad =>
    go_enter Try.func37, Try.ntmps37
    go_wp2
    refine wp_loop_rounds 1 ?_
    rw [rounds_succ]
    go_wp2
    go_ret
    exact ⟨_, rfl, ⟨[], ⟨none, 0, rfl, Nat.le_refl _, by simp [maxLen], Lm.limb_nil, .inl rfl⟩, Lm.canon_nil, rfl⟩, (Below.refl _ _).alloc (Nat.le_refl _) _⟩

theorem limbs_any (w : World) (ng : Bool) (ao : Option Addr) (cap : Nat) (D : List Int) (x : Int) (hD : Got w ao cap D x) (M : Nat) (hx : x < Lm.pw M) (hM : M ≤ 1000000) (hl : D.length ≤ 1000000) :
    Calls Try.prog 37 #[.agg #[.bool ng, .slice ao D.length cap]] w fun e w' => ∃ v, e = .returned v ∧ Lm.Is w.heap.size w' v x ∧ Below w.heap.size w w' := by
  by_cases h0 : 0 < D.length
  · exact limbs_loop w ng ao cap D x hD M hx hM hl h0
  · have e : D = [] := List.eq_nil_of_length_eq_zero (by omega)
    have hx0 : x = 0 := by rw [← hD.val, e]; rfl
    have hc := hD.sl.parts.2.2.1
    rw [hx0, e]
    exact limbs_none w ng ao cap hc

set_option maxHeartbeats 400000 in
theorem rtrim_any (w : World) (ao : Option Addr) (n cap : Nat) (xs : List Int) (hx : Lm.Sl w (.slice ao n cap) xs) (hl : xs.length ≤ 300000) :
    Calls Try.prog 33 #[.slice ao n cap] w fun e w' => ∃ v, e = .returned v ∧ Lm.Is w.heap.size w' v (Lm.val xs) ∧ Below w.heap.size w w' := by
  have hv := hide (Lm.val_bounds hx.parts.2.2.2).2
  go_enter Try.func33, Try.ntmps33
  go_wp2_with fail
  refine (fromLimbs_any w ao n cap xs hx hl).mono ?_
  rintro e w1 ⟨ao1, cap1, D, rfl, hg, hd, hb1⟩
  go_wp2_with fail
  refine (limbs_any _ _ _ _ D _ hg xs.length hv.out (by omega) (by omega)).mono ?_
  rintro e w2 ⟨v, rfl, hi, hb2⟩
  go_wp2
  go_ret
  exact ⟨_, rfl, hi.mono hb1.size, hb1.trans (hb2.mono hb1.size)⟩

theorem rtrim_g (w : World) (ao : Option Addr) (n cap : Nat) (xs : List Int) (hx : Lm.Sl w (.slice ao n cap) xs) (hl : xs.length ≤ 300000) :
    Calls Try.prog 33 #[.slice ao n cap] w fun e w' => ∃ ao cap rs, e = .returned (.slice ao rs.length cap) ∧ Lm.Got w' ao cap rs (Lm.val xs) ∧ rs.length ≤ xs.length ∧ Below w.heap.size w w' := by
  refine (rtrim_any w ao n cap xs hx hl).mono ?_
  rintro e w' ⟨v, rfl, hi, hb⟩
  obtain ⟨ao, cap, rs, rfl, hg⟩ := hi.got
  exact ⟨ao, cap, rs, rfl, hg, Lm.le_len hx.parts.2.2.2 hg.canon (by rw [hg.val]; omega), hb⟩

/-- What a list says as a number of 64 bits: 0, if it is longer. -/
def u64 (x : Int) : Int := if x < 18446744073709551616 then x else 0
def u64ok (x : Int) : Bool := decide (x < 18446744073709551616)

theorem long_val {rs : List Int} (h : Lm.Canon rs) (h2 : 2 < rs.length) : ¬ Lm.val rs < 18446744073709551616 := by
  have h1 := Lm.canon_low h (by intro e; subst e; simp at h2)
  have h3 := Lm.pw_mono (m := 2) (n := rs.length - 1) (by omega)
  rw [show Lm.pw 2 = 18446744073709551616 from by decide] at h3
  omega

theorem short_val {rs : List Int} (h : Lm.Limb rs) (h2 : ¬ 2 < rs.length) : Lm.val rs < 18446744073709551616 := by
  have h1 := (Lm.val_bounds h).2
  have h3 := Lm.pw_mono (m := rs.length) (n := 2) (by omega)
  rw [show Lm.pw 2 = 18446744073709551616 from by decide] at h3
  omega

theorem ret2_u64 {a b : Int} {c d : Bool} (h : a = b) (h' : c = d) : Ending.returned (.tuple #[.int .u64 a, .bool c]) = .returned (.tuple #[.int .u64 b, .bool d]) := by rw [h, h']

set_option maxHeartbeats 1000000 in
theorem ruint_any (w : World) (ao : Option Addr) (n cap : Nat) (xs : List Int) (hx : Lm.Sl w (.slice ao n cap) xs) (hl : xs.length ≤ 300000) :
    Calls Try.prog 12 #[.slice ao n cap] w fun e w' => e = .returned (.tuple #[.int .u64 (u64 (Lm.val xs)), .bool (u64ok (Lm.val xs))]) ∧ Below w.heap.size w w' := by
  go_enter Try.func12, Try.ntmps12
  go_wp2_with fail
  refine (rtrim_g w ao n cap xs hx hl).mono ?_
  rintro e w1 ⟨ao1, cap1, rs, rfl, hg, hrl, hb1⟩
  obtain ⟨_, g1, g2, g3⟩ := hg.sl.parts
  by_cases h2 : 2 < rs.length
  · have HL := long_val hg.canon h2
    rw [hg.val] at HL
    have E1 : Hid (u64 (Lm.val xs) = 0) := by simp [Hid, u64, HL]
    have E2 : Hid (u64ok (Lm.val xs) = false) := by simp [Hid, u64ok]; omega
    have h2' : (2 : Int) < (rs.length : Int) := by omega
    clear HL hg g3
    go_wp2
    go_ret2
    exact ⟨by rw [E1.out, E2.out]; rfl, hb1⟩
  · have HL := short_val hg.canon.1 h2
    rw [hg.val] at HL
    have E1 : Hid (u64 (Lm.val xs) = Lm.val rs) := by rw [hg.val]; simp [Hid, u64, HL]
    have E2 : Hid (u64ok (Lm.val xs) = true) := by simp [Hid, u64ok]; omega
    have h2' : ¬ (2 : Int) < (rs.length : Int) := by omega
    have h2'' : rs.length ≤ 2 := by omega
    have G3 := hide g3
    have HR : Hid (Lm.val rs < 18446744073709551616) := by rw [hg.val]; exact HL
    have hsl := hg.sl
    clear HL hg g3
    go_wp2
    go_loop [5, 6] (fun v i => ∃ (k : Nat) (u : Int), k ≤ rs.length ∧ i = .int .i64 ((k : Int) - 1) ∧ v = .int .u64 u ∧ u = Lm.val (rs.drop k)) (fun _ i => (intOf i + 1).toNat)
    case atStart => exact ⟨rs.length, 0, Nat.le_refl _, rfl, rfl, by simp [Lm.val]⟩
    case round =>
      obtain ⟨k, u, hk, rfl, rfl, hu⟩ := hrel
      have HU := hide hu
      have hub := Lm.val_bounds (Lm.limb_drop G3.out k)
      rw [← hu, List.length_drop] at hub
      have hu0 := hub.1
      clear hu
      cases k with
      | zero =>
        have hfin : Hid (u = Lm.val rs) := by have := HU.out; rwa [List.drop_zero] at this
        clear hub
        go_wp2
        go_ret2
        exact ⟨ret2_u64 (by rw [E1.out, hfin.out]) E2.out.symm, hb1⟩
      | succ k =>
        obtain ⟨b, off, rfl, hc⟩ := hsl.cells (by omega)
        have cx := hc k (by omega)
        have bx := Lm.limb_getD G3.out k
        have Hd := hide (Lm.drop_getD rs k (by omega))
        have hu1 : u < 4294967296 := by
          have h6 := hub.2
          have h7 := Lm.pw_mono (m := rs.length - (k + 1)) (n := 1) (by omega)
          rw [show Lm.pw 1 = 4294967296 from by decide] at h7
          omega
        generalize rs.getD k 0 = z at cx bx Hd
        clear hub hc
        go_wp2
        go_round
        case rel => exact ⟨k, u * 4294967296 + z, by omega, rfl, rfl, by rw [Hd.out, Lm.val, HU.out]; omega⟩
        case measure => simp [intOf]

set_option maxHeartbeats 400000 in
theorem rsmall_any (w : World) (n : Int) (h0 : 0 ≤ n) (h1 : n < 18446744073709551616) :
    Calls Try.prog 15 #[.int .u64 n] w fun e w' => ∃ ao cap rs, e = .returned (.slice ao rs.length cap) ∧ Lm.Got w' ao cap rs n ∧ rs.length ≤ 2 ∧ Below w.heap.size w w' := by
  have hl : Lm.Limb [n % 4294967296, n / 4294967296] := by
    intro z hz
    simp at hz
    rcases hz with rfl | rfl <;> omega
  have hs := hide (Lm.sl_two w _ _ hl)
  have hbel : Below w.heap.size w (w.alloc (.cells #[.int .u32 (n % 4294967296), .int .u32 (n / 4294967296)] 45)) := (Below.refl _ _).alloc (Nat.le_refl _) _
  have hv := hide (show Lm.val [n % 4294967296, n / 4294967296] = n by rw [Lm.val_two]; omega)
  clear hl
  go_enter Try.func15, Try.ntmps15
  go_wp2_with fail
  refine (rtrim_g _ _ _ _ _ hs.out (by simp)).mono ?_
  rintro e w1 ⟨ao1, cap1, rs, rfl, hg, hrl, hb1⟩
  rw [hv.out] at hg
  go_wp2
  go_ret
  exact ⟨_, _, rs, rfl, hg, by simpa using hrl, hbel.trans (hb1.mono (by simp))⟩

end Dm
end Go.Proofs.Ytfokkkcegkbomab
