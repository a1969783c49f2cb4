/-
  Whole numbers: the contracts of SameWhole, LenWhole and Of.
-/
import Derived.Test.YtjhhjefobbhdlaaWP
namespace Go.Proofs.Ytjhhjefobbhdlaa
namespace Lm
open Go.RowKit

theorem wh_same {w : World} {n1 n2 : Bool} {a1 a2 : Option Addr} {c1 c2 : Nat} {xs ys : List Int} {z1 z2 : Int} (hx : Wh w n1 a1 c1 xs z1) (hy : Wh w n2 a2 c2 ys z2) : (n1 = n2 → sameB xs ys = decide (z1 = z2)) ∧ (n1 ≠ n2 → decide (z1 = z2) = false) := by
  have e1 := hx.1.val
  have e2 := hy.1.val
  have s1 := hx.2
  have s2 := hy.2
  constructor
  · intro hn
    rw [s1, s2] at hn
    have hn' := decide_eq_decide.1 hn
    by_cases hz : z1 = z2
    · subst hz
      rw [sameB_of (canon_one hx.1.canon hy.1.canon (by rw [e1, e2]))]
      simp
    · simp only [hz, decide_false, sameB, decide_eq_false_iff_not]
      intro e
      rw [e, e2] at e1
      omega
  · intro hn
    refine decide_eq_false fun hz => hn ?_
    rw [s1, s2, hz]

set_option maxRecDepth 20000 in
set_option maxHeartbeats 400000 in
theorem wsame_any (w : World) (n1 n2 : Bool) (a1 a2 : Option Addr) (c1 c2 : Nat) (xs ys : List Int) (z1 z2 : Int) (hx : Wh w n1 a1 c1 xs z1) (hy : Wh w n2 a2 c2 ys z2) :
    Calls Try.prog 18 #[.agg #[.bool n1, .slice a1 xs.length c1], .agg #[.bool n2, .slice a2 ys.length c2]] w fun e w' => e = .returned (.bool (decide (z1 = z2))) ∧ Below w.heap.size w w' := by
  obtain ⟨w0, e0, bx, by', hb0, hs0⟩ := boxed2 w n1 (.slice a1 xs.length c1) n2 (.slice a2 ys.length c2)
  have E0 := hide e0
  have hx0 := hx.sl.below hb0
  have hy0 := hy.sl.below hb0
  have SM := hide (wh_same hx hy)
  clear e0 hs0 hx hy
  by_cases hn : n1 = n2
  · subst hn
    have R := hide (SM.out.1 rfl)
    go_enter Try.func18, Try.ntmps18
    go_wp2_with fail
    rw [E0.out]
    refine (same_any _ _ _ _ _ _ _ xs ys hx0 hy0).mono ?_
    rintro e w1 ⟨rfl, hb1⟩
    rw [R.out]
    have Z := hide (hb0.trans (hb1.mono hb0.size))
    go_wp2
    go_ret
    exact ⟨rfl, Z.out⟩
  · have R := hide (SM.out.2 hn)
    have hn' : n2 = !n1 := by cases n1 <;> cases n2 <;> simp_all
    subst hn'
    clear hn
    cases n1
    all_goals
      go_enter Try.func18, Try.ntmps18
      go_wp2
      go_ret
      exact ⟨by rw [R.out]; rfl, E0.out ▸ hb0⟩

theorem wsame_g (w : World) (n1 n2 : Bool) (a1 a2 : Option Addr) (c1 c2 : Nat) (xs ys : List Int) (z1 z2 : Int) (hx : Wh w n1 a1 c1 xs z1) (hy : Wh w n2 a2 c2 ys z2) (hz : z1 = z2) :
    Calls Try.prog 18 #[.agg #[.bool n1, .slice a1 xs.length c1], .agg #[.bool n2, .slice a2 ys.length c2]] w fun e w' => e = .returned (.bool true) ∧ Below w.heap.size w w' := by
  refine (wsame_any w n1 n2 a1 a2 c1 c2 xs ys z1 z2 hx hy).mono ?_
  rintro e w' ⟨rfl, hb⟩
  exact ⟨by rw [decide_eq_true hz], hb⟩

set_option maxRecDepth 20000 in
set_option maxHeartbeats 400000 in
theorem wlen_any (w : World) (ng : Bool) (ao : Option Addr) (n cap : Nat) (hn : n ≤ 35184372088832) :
    Calls Try.prog 8 #[.agg #[.bool ng, .slice ao n cap]] w fun e w' => e = .returned (.int .i64 (1 + (n : Int))) ∧ Below w.heap.size w w' := by
  obtain ⟨w0, e0, bx, hb0, hs0⟩ := boxed0 w ng (.slice ao n cap)
  have E0 := hide e0
  clear e0 hs0
  go_enter Try.func8, Try.ntmps8
  go_wp2
  go_ret
  exact ⟨rfl, E0.out ▸ hb0⟩

theorem got_small {w : World} {v : Value} {x : Int} {B : Nat} (h : Is B w v x) (hx : x < 18446744073709551616) : ∃ ao cap rs, v = .slice ao rs.length cap ∧ Got w ao cap rs x ∧ rs.length ≤ 2 := by
  obtain ⟨ao, cap, rs, rfl, hg⟩ := h.got
  refine ⟨ao, cap, rs, rfl, hg, canon_len hg.canon ?_⟩
  rw [hg.val, show pw 2 = 18446744073709551616 from by decide]
  exact hx

set_option maxRecDepth 20000 in
set_option maxHeartbeats 400000 in
theorem wof_g (w : World) (v : Int) (h1 : -9223372036854775808 ≤ v) (h2 : v ≤ 9223372036854775807) :
    Calls Try.prog 20 #[.int .i64 v] w fun e w' => ∃ ng' ao cap rs, e = .returned (.agg #[.bool ng', .slice ao rs.length cap]) ∧ Wh w' ng' ao cap rs v ∧ rs.length ≤ 2 ∧ Below w.heap.size w w' := by
  obtain ⟨w0, e0, br, hb0, hs0⟩ := boxed0 w false (.slice none 0 0)
  have E0 := hide e0
  clear e0 hs0
  by_cases h0 : v < 0
  · have hw : IntKind.u64.wrap (-IntKind.u64.wrap v) = -v := by rw [IntKind.wrap_u64, IntKind.wrap_u64]; omega
    have hsg : Hid (sg true (-v) = v) := by show _ = _; simp [sg]
    go_enter Try.func20, Try.ntmps20
    go_wp2_with fail
    rw [E0.out]
    refine (small_any _ (-v) (by omega) (by omega)).mono ?_
    rintro e w1 ⟨v1, rfl, hi1, hb1⟩
    obtain ⟨p1, q1, r1, rfl, G1, l1⟩ := got_small hi1 (by omega)
    clear hi1
    go_wp2_with fail
    refine (signed_g _ true _ _ r1 _ G1 (by omega)).mono ?_
    rintro e w2 ⟨ng2, rfl, G2, hb2⟩
    have br2 := (br.below hb1).below hb2
    obtain ⟨ka, kb, kc, kd⟩ := br2.facts
    have X := hide (br2.set ng2 (.slice p1 r1.length q1)).facts
    have Y := hide (br2.wh ng2 (.slice p1 r1.length q1) G2)
    have Z := hide (below_set2 (hb0.trans ((hb1.trans (hb2.mono hb1.size)).mono hb0.size)) (Nat.le_refl _) (.bool ng2) (.slice p1 r1.length q1))
    skip
    go_wp2
    refine bodyPost_ret (v := .agg #[.bool ng2, .slice p1 r1.length q1]) ?_ rfl ⟨ng2, p1, q1, r1, rfl, hsg.out ▸ Y.out, by omega, Z.out⟩
    simp [results, Try.results20, go_sem, X.out.1, X.out.2.1]

  · have hsg : Hid (sg false v = v) := by show _ = _; simp [sg]
    go_enter Try.func20, Try.ntmps20
    go_wp2_with fail
    rw [E0.out]
    refine (small_any _ v (by omega) (by omega)).mono ?_
    rintro e w1 ⟨v1, rfl, hi1, hb1⟩
    obtain ⟨p1, q1, r1, rfl, G1, l1⟩ := got_small hi1 (by omega)
    clear hi1
    go_wp2_with fail
    refine (signed_g _ false _ _ r1 _ G1 (by omega)).mono ?_
    rintro e w2 ⟨ng2, rfl, G2, hb2⟩
    have br2 := (br.below hb1).below hb2
    obtain ⟨ka, kb, kc, kd⟩ := br2.facts
    have X := hide (br2.set ng2 (.slice p1 r1.length q1)).facts
    have Y := hide (br2.wh ng2 (.slice p1 r1.length q1) G2)
    have Z := hide (below_set2 (hb0.trans ((hb1.trans (hb2.mono hb1.size)).mono hb0.size)) (Nat.le_refl _) (.bool ng2) (.slice p1 r1.length q1))
    skip
    go_wp2
    refine bodyPost_ret (v := .agg #[.bool ng2, .slice p1 r1.length q1]) ?_ rfl ⟨ng2, p1, q1, r1, rfl, hsg.out ▸ Y.out, by omega, Z.out⟩
    simp [results, Try.results20, go_sem, X.out.1, X.out.2.1]

end Lm
end Go.Proofs.Ytjhhjefobbhdlaa
