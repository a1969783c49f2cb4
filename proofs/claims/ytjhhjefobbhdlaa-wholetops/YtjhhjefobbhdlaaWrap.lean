/-
  The contracts, in the form in which the laws use them.
-/
import Derived.Test.YtjhhjefobbhdlaaLits
import Derived.Test.YtjhhjefobbhdlaaBits
import Derived.Test.YtjhhjefobbhdlaaMul
namespace Go.Proofs.Ytjhhjefobbhdlaa
namespace Lm
open Go.RowKit

/-- The slice reads as a list without limbs 0 on top that is worth x. -/
def Got (w : World) (ao : Option Addr) (cap : Nat) (rs : List Int) (x : Int) : Prop := Sl w (.slice ao rs.length cap) rs ∧ Canon rs ∧ val rs = x

theorem Got.sl {w : World} {ao : Option Addr} {cap : Nat} {rs : List Int} {x : Int} (h : Got w ao cap rs x) : Sl w (.slice ao rs.length cap) rs := h.1
theorem Got.canon {w : World} {ao : Option Addr} {cap : Nat} {rs : List Int} {x : Int} (h : Got w ao cap rs x) : Canon rs := h.2.1
theorem Got.val {w : World} {ao : Option Addr} {cap : Nat} {rs : List Int} {x : Int} (h : Got w ao cap rs x) : Lm.val rs = x := h.2.2
theorem Got.below {w w' : World} {ao : Option Addr} {cap : Nat} {rs : List Int} {x : Int} (h : Got w ao cap rs x) (hb : Below w.heap.size w w') : Got w' ao cap rs x := ⟨h.1.below hb, h.2⟩

theorem Is.got {B : Nat} {w : World} {v : Value} {x : Int} (h : Is B w v x) : ∃ ao cap rs, v = .slice ao rs.length cap ∧ Got w ao cap rs x := by
  obtain ⟨rs, ho, hc, hv⟩ := h
  obtain ⟨ao, cap, rfl, h1, h2, h3, h4⟩ := ho.sl
  exact ⟨ao, cap, rs, rfl, ⟨ao, cap, rfl, h1, h2, h3, h4⟩, hc, hv⟩

/-- How long a list without limbs 0 on top can be. -/
theorem canon_len {rs : List Int} (h : Canon rs) {m : Nat} (hv : val rs < pw m) : rs.length ≤ m := by
  apply Classical.byContradiction
  intro hn
  have h1 := canon_low h (by intro e; subst e; simp at hn)
  have h2 := pw_mono (m := m) (n := rs.length - 1) (by omega)
  omega

theorem val_lt_pw {xs : List Int} (h : Limb xs) {m : Nat} (hm : xs.length ≤ m) : val xs < pw m := by
  have := (val_bounds h).2
  have := pw_mono hm
  omega

theorem add_len {xs ys rs : List Int} (hx : Limb xs) (hy : Limb ys) (hr : Canon rs) (hv : val rs = val xs + val ys) : rs.length ≤ xs.length + ys.length + 1 := by
  apply canon_len hr
  have a1 := val_lt_pw hx (m := xs.length + ys.length) (by omega)
  have a2 := val_lt_pw hy (m := xs.length + ys.length) (by omega)
  rw [hv, pw]
  have := pw_pos (xs.length + ys.length)
  omega

theorem mul_len {xs ys rs : List Int} (hx : Limb xs) (hy : Limb ys) (hr : Canon rs) (hv : val rs = val xs * val ys) : rs.length ≤ xs.length + ys.length := by
  apply canon_len hr
  have a1 := val_bounds hx
  have a2 := val_bounds hy
  rw [hv, pw_add]
  have h1 : val xs * val ys ≤ val xs * pw ys.length := Int.mul_le_mul_of_nonneg_left (by omega) a1.1
  have h2 : val xs * pw ys.length < pw xs.length * pw ys.length := Int.mul_lt_mul_of_pos_right a1.2 (by have := pw_pos ys.length; omega)
  omega

theorem le_len {rs xs : List Int} (hx : Limb xs) (hr : Canon rs) (hv : val rs ≤ val xs) : rs.length ≤ xs.length := by
  apply canon_len hr
  have := (val_bounds hx).2
  omega

theorem add_g (w : World) (a1 a2 : Option Addr) (n1 n2 c1 c2 : Nat) (xs ys : List Int) (hx : Sl w (.slice a1 n1 c1) xs) (hy : Sl w (.slice a2 n2 c2) ys) (hm1 : xs.length ≤ 1000000) (hm2 : ys.length ≤ 1000000) :
    Calls Try.prog 65 #[.slice a1 n1 c1, .slice a2 n2 c2] w fun e w' => ∃ ao cap rs, e = .returned (.slice ao rs.length cap) ∧ Got w' ao cap rs (val xs + val ys) ∧ rs.length ≤ xs.length + ys.length + 1 ∧ Below w.heap.size w w' := by
  refine (add_any w a1 a2 n1 n2 c1 c2 xs ys hx hy hm1 hm2).mono ?_
  rintro e w' ⟨v, rfl, hi, hb⟩
  obtain ⟨ao, cap, rs, rfl, hg⟩ := hi.got
  exact ⟨ao, cap, rs, rfl, hg, add_len hx.parts.2.2.2 hy.parts.2.2.2 hg.canon hg.val, hb⟩

theorem mul_g (w : World) (a1 a2 : Option Addr) (n1 n2 c1 c2 : Nat) (xs ys : List Int) (hx : Sl w (.slice a1 n1 c1) xs) (hy : Sl w (.slice a2 n2 c2) ys) (hm1 : xs.length ≤ 500000) (hm2 : ys.length ≤ 500000) :
    Calls Try.prog 60 #[.slice a1 n1 c1, .slice a2 n2 c2] w fun e w' => ∃ ao cap rs, e = .returned (.slice ao rs.length cap) ∧ Got w' ao cap rs (val xs * val ys) ∧ rs.length ≤ xs.length + ys.length ∧ Below w.heap.size w w' := by
  refine (mul_any w a1 a2 n1 n2 c1 c2 xs ys hx hy hm1 hm2).mono ?_
  rintro e w' ⟨v, rfl, hi, hb⟩
  obtain ⟨ao, cap, rs, rfl, hg⟩ := hi.got
  exact ⟨ao, cap, rs, rfl, hg, mul_len hx.parts.2.2.2 hy.parts.2.2.2 hg.canon hg.val, hb⟩

theorem sub_g (w : World) (a1 a2 : Option Addr) (n1 n2 c1 c2 : Nat) (xs ys : List Int) (hx : Sl w (.slice a1 n1 c1) xs) (hy : Sl w (.slice a2 n2 c2) ys) (hm1 : xs.length ≤ 1000000) (hge : val ys ≤ val xs) :
    Calls Try.prog 66 #[.slice a1 n1 c1, .slice a2 n2 c2] w fun e w' => ∃ ao cap rs, e = .returned (.tuple #[.slice ao rs.length cap, .bool true]) ∧ Got w' ao cap rs (val xs - val ys) ∧ rs.length ≤ xs.length ∧ Below w.heap.size w w' := by
  refine (sub_yes w a1 a2 n1 n2 c1 c2 xs ys hx hy hm1 hge).mono ?_
  rintro e w' ⟨v, rfl, hi, hb⟩
  obtain ⟨ao, cap, rs, rfl, hg⟩ := hi.got
  have := (val_bounds hy.parts.2.2.2).1
  exact ⟨ao, cap, rs, rfl, hg, le_len hx.parts.2.2.2 hg.canon (by rw [hg.val]; omega), hb⟩

theorem trim_g (w : World) (ao : Option Addr) (n cap : Nat) (zs : List Int) (h : Sl w (.slice ao n cap) zs) (hz : zs.length ≤ 1000000) :
    Calls Try.prog 49 #[.slice ao n cap] w fun e w' => ∃ ao cap rs, e = .returned (.slice ao rs.length cap) ∧ Got w' ao cap rs (val zs) ∧ rs.length ≤ zs.length ∧ Below w.heap.size w w' := by
  refine (trim_any w ao n cap zs h hz).mono ?_
  rintro e w' ⟨v, rfl, ho, hb⟩
  obtain ⟨ao', cap', rs, rfl, hg⟩ := Is.got (B := w.heap.size) ⟨_, ho, canon_trim h.parts.2.2.2, val_take_tl zs⟩
  exact ⟨ao', cap', rs, rfl, hg, le_len h.parts.2.2.2 hg.canon (by rw [hg.val]; omega), hb⟩

theorem same_g (w : World) (a1 a2 : Option Addr) (c1 c2 : Nat) (xs ys : List Int) (x y : Int) (hx : Got w a1 c1 xs x) (hy : Got w a2 c2 ys y) (h : x = y) :
    Calls Try.prog 53 #[.slice a1 xs.length c1, .slice a2 ys.length c2] w fun e w' => e = .returned (.bool true) ∧ Below w.heap.size w w' := by
  refine (same_any w a1 a2 _ _ c1 c2 xs ys hx.sl hy.sl).mono ?_
  rintro e w' ⟨rfl, hb⟩
  rw [sameB_of (canon_one hx.canon hy.canon (by rw [hx.val, hy.val, h]))]
  exact ⟨rfl, hb⟩

theorem sl_nil (w : World) : Sl w (.slice none 0 0) [] := ⟨none, 0, rfl, Nat.le_refl _, by simp [maxLen], limb_nil, .inl rfl⟩

end Lm
end Go.Proofs.Ytjhhjefobbhdlaa
