/-
  Whole numbers: the contracts of Neg, Sign, join, Add, Sub, Mul and Cmp.
-/
import Derived.Test.YtjhhjefobbhdlaaWA
namespace Go.Proofs.Ytjhhjefobbhdlaa
namespace Lm
open Go.RowKit

theorem sg_neg (ng : Bool) (x : Int) : sg (!ng) x = - sg ng x := by cases ng <;> simp [sg]

theorem boxed0 (w : World) (ng : Bool) (v : Value) : ∃ w0 : World, w.alloc (.cells #[.bool ng, v] 24) = w0 ∧ Box w0 w.heap.size ng v ∧ Below w.heap.size w w0 ∧ w0.heap.size = w.heap.size + 1 :=
  ⟨_, rfl, (boxed w ng v).1, (boxed w ng v).2.1, (boxed w ng v).2.2⟩

theorem boxed2 (w : World) (nx : Bool) (vx : Value) (ny : Bool) (vy : Value) : ∃ w0 : World, (w.alloc (.cells #[.bool nx, vx] 24)).alloc (.cells #[.bool ny, vy] 24) = w0 ∧ Box w0 w.heap.size nx vx ∧ Box w0 (w.heap.size + 1) ny vy ∧ Below w.heap.size w w0 ∧ w0.heap.size = w.heap.size + 2 := by
  have h1 := boxed w nx vx
  have h2 := boxed (w.alloc (.cells #[.bool nx, vx] 24)) ny vy
  rw [h1.2.2] at h2
  refine ⟨_, rfl, h1.1.below (by rw [h1.2.2]; exact h2.2.1), h2.1, h1.2.1.trans (h2.2.1.mono (by omega)), h2.2.2⟩

theorem boxed3 (w : World) (nx : Bool) (vx : Value) (ny : Bool) (vy : Value) : ∃ w0 : World, ((w.alloc (.cells #[.bool nx, vx] 24)).alloc (.cells #[.bool ny, vy] 24)).alloc (.cells #[.bool false, .slice none 0 0] 24) = w0 ∧ Box w0 w.heap.size nx vx ∧ Box w0 (w.heap.size + 1) ny vy ∧ Box w0 (w.heap.size + 1 + 1) false (.slice none 0 0) ∧ Below w.heap.size w w0 ∧ w0.heap.size = w.heap.size + 3 := by
  obtain ⟨w2, e2, b1, b2, hb, hs⟩ := boxed2 w nx vx ny vy
  have h2 := boxed w2 false (.slice none 0 0)
  rw [e2]
  refine ⟨_, rfl, b1.below h2.2.1, b2.below h2.2.1, ?_, hb.trans (h2.2.1.mono (by omega)), by rw [h2.2.2, hs]⟩
  have h3 := h2.1
  rw [hs] at h3
  exact h3

set_option maxRecDepth 20000 in
set_option maxHeartbeats 400000 in
theorem wneg_g (w : World) (ng : Bool) (ao : Option Addr) (n cap : Nat) (zs : List Int) (h : Sl w (.slice ao n cap) zs) (hz : zs.length ≤ 1000000) :
    Calls Try.prog 29 #[.agg #[.bool ng, .slice ao n cap]] w fun e w' => ∃ ng' ao cap rs, e = .returned (.agg #[.bool ng', .slice ao rs.length cap]) ∧ Wh w' ng' ao cap rs (-sg ng (val zs)) ∧ rs.length ≤ zs.length ∧ Below w.heap.size w w' := by
  obtain ⟨w0, e0, bx, br, hb0, hs0⟩ := boxed1 w ng (.slice ao n cap)
  have E0 := hide e0
  have h0 := h.below hb0
  clear e0 hs0
  go_enter Try.func29, Try.ntmps29
  go_wp2_with fail
  rw [E0.out]
  obtain ⟨c0, c1, f0, f1⟩ := bx.facts
  obtain ⟨d0, d1, g0, g1⟩ := br.facts
  go_region_held3 (fun w' => w'.cell? ⟨w.heap.size, 0, none⟩ = some (.bool ng) ∧ w'.cell? ⟨w.heap.size, 1, none⟩ = some (.slice ao n cap)) (go_keep) (first
    | (go_at_call 49; refine (trim_g _ _ _ _ zs (h0.below (by repeat (first | exact Below.refl _ _ | refine Below.drew ?_))) hz).mono ?_; rintro e w1 ⟨p1, q1, r1, rfl, G1, l1, hb1⟩; have hb1' : Below w0.heap.size w0 w1 := (show Below w0.heap.size w0 _ by repeat (first | exact Below.refl _ _ | refine Below.drew ?_)).trans hb1; have bx1 := bx.below hb1'; obtain ⟨bx1a, bx1b, bx1c, bx1d⟩ := bx1.facts; have br1 := br.below hb1'; obtain ⟨br1a, br1b, br1c, br1d⟩ := br1.facts)
    | (go_at_call 48; refine (signed_g _ _ _ _ r1 _ (G1.below (by repeat (first | exact Below.refl _ _ | refine Below.drew ?_))) (by omega)).mono ?_; rintro e w2 ⟨ng2, rfl, G2, hb2⟩; have hb2' : Below w1.heap.size w1 w2 := (show Below w1.heap.size w1 _ by repeat (first | exact Below.refl _ _ | refine Below.drew ?_)).trans hb2; have bx2 := bx1.below hb2'; obtain ⟨bx2a, bx2b, bx2c, bx2d⟩ := bx2.facts; have br2 := br1.below hb2'; obtain ⟨br2a, br2b, br2c, br2d⟩ := br2.facts))
  all_goals
    have X := hide (br2.set ng2 (.slice p1 r1.length q1)).facts
    have Y := hide (br2.wh ng2 (.slice p1 r1.length q1) G2)
    have Z := hide (below_set2 (hb0.trans ((hb1'.trans (hb2'.mono hb1'.size)).mono hb0.size)) (Nat.le_succ _) (.bool ng2) (.slice p1 r1.length q1))
    clear bx2a bx2b bx2c bx2d br2a br2b br2c br2d bx1a bx1b bx1c bx1d br1a br1b br1c br1d c0 c1 f0 f1 d0 d1 g0 g1
    go_wp2
    refine bodyPost_ret (v := .agg #[.bool ng2, .slice p1 r1.length q1]) ?_ rfl ⟨ng2, p1, q1, r1, rfl, by rw [← sg_neg]; exact Y.out, l1, Z.out⟩
    simp [results, Try.results29, go_sem, X.out.1, X.out.2.1]

set_option maxRecDepth 20000 in
set_option maxHeartbeats 400000 in
theorem wsign_any (w : World) (ng : Bool) (ao : Option Addr) (n cap : Nat) (zs : List Int) (h : Sl w (.slice ao n cap) zs) (hz : zs.length ≤ 1000000) :
    Calls Try.prog 13 #[.agg #[.bool ng, .slice ao n cap]] w fun e w' => e = .returned (.int .i64 (Int.sign (sg ng (val zs)))) ∧ Below w.heap.size w w' := by
  obtain ⟨w0, e0, bx, hb0, hs0⟩ := boxed0 w ng (.slice ao n cap)
  have E0 := hide e0
  have h0 := h.below hb0
  have hv := val_bounds h.parts.2.2.2
  clear e0 hs0
  go_enter Try.func13, Try.ntmps13
  go_wp2_with fail
  rw [E0.out]
  obtain ⟨c0, c1, f0, f1⟩ := bx.facts
  refine (bits_any _ _ _ _ zs h0 hz).mono ?_
  rintro e w1 ⟨l, rfl, t, rfl⟩
  by_cases hz0 : val zs = 0
  · have hl : l = 0 := isBits_zero (by rw [← hz0]; exact t)
    subst hl
    have R : Hid (Int.sign (sg ng (val zs)) = 0) := by show _ = _; rw [hz0]; cases ng <;> simp [sg]
    clear t
    go_wp2
    go_ret
    exact ⟨ret_i64 R.out.symm, hb0⟩
  · have hl : ((l : Int) == 0) = false := by
      have := isBits_pos t (by omega)
      simp
      omega
    clear t
    cases ng with
    | false =>
      have R : Hid (Int.sign (sg false (val zs)) = 1) := by show _ = _; simp only [sg]; exact Int.sign_eq_one_of_pos (by simp; omega)
      go_wp2
      go_ret
      exact ⟨ret_i64 R.out.symm, hb0⟩
    | true =>
      have R : Hid (Int.sign (sg true (val zs)) = -1) := by show _ = _; simp only [sg]; exact Int.sign_eq_neg_one_of_neg (by simp; omega)
      go_wp2
      go_ret
      exact ⟨ret_i64 R.out.symm, hb0⟩

theorem sg_add (ng : Bool) (x y : Int) : sg ng (x + y) = sg ng x + sg ng y := by cases ng <;> simp [sg] <;> omega
theorem sg_sub (ng : Bool) (x y : Int) : sg ng (x - y) = sg ng x + sg (!ng) y := by cases ng <;> simp [sg] <;> omega
theorem sg_sub' (ng : Bool) (x y : Int) : sg (!ng) (y - x) = sg ng x + sg (!ng) y := by cases ng <;> simp [sg] <;> omega
theorem sg_mul (n1 n2 : Bool) (x y : Int) : sg (n1 != n2) (x * y) = sg n1 x * sg n2 y := by cases n1 <;> cases n2 <;> simp [sg, Int.mul_neg, Int.neg_mul]

set_option maxRecDepth 20000 in
set_option maxHeartbeats 1000000 in
theorem join_same (w : World) (nx : Bool) (a1 : Option Addr) (n1 c1 : Nat) (xs : List Int) (hx : Sl w (.slice a1 n1 c1) xs) (a2 : Option Addr) (n2 c2 : Nat) (ys : List Int) (hy : Sl w (.slice a2 n2 c2) ys) (hm1 : xs.length ≤ 400000) (hm2 : ys.length ≤ 400000) :
    Calls Try.prog 59 #[.agg #[.bool nx, .slice a1 n1 c1], .bool nx, .slice a2 n2 c2] w fun e w' => ∃ ng' ao cap rs, e = .returned (.agg #[.bool ng', .slice ao rs.length cap]) ∧ Wh w' ng' ao cap rs (sg nx (val xs) + sg nx (val ys)) ∧ rs.length ≤ xs.length + ys.length + 1 ∧ Below w.heap.size w w' := by
  obtain ⟨w0, e0, bx, br, hb0, hs0⟩ := boxed1 w nx (.slice a1 n1 c1)
  have E0 := hide e0
  have hx0 := hx.below hb0
  have hy0 := hy.below hb0
  clear e0 hs0
  go_enter Try.func59, Try.ntmps59
  go_wp2_with fail
  rw [E0.out]
  obtain ⟨ca, cb, cc, cd⟩ := bx.facts
  obtain ⟨da, db, dc, dd⟩ := br.facts
  refine (add_g _ _ _ _ _ _ _ xs ys hx0 hy0 (by omega) (by omega)).mono ?_
  rintro e w1 ⟨p1, q1, r1, rfl, G1, l1, hb1⟩
  go_wp2_with fail
  refine (signed_g _ _ _ _ r1 _ G1 (by omega)).mono ?_
  rintro e w2 ⟨ng2, rfl, G2, hb2⟩
  have br2 := (br.below hb1).below hb2
  obtain ⟨ka, kb, kc, kd⟩ := br2.facts
  have X := hide (br2.set ng2 (.slice p1 r1.length q1)).facts
  have Y := hide (br2.wh ng2 (.slice p1 r1.length q1) G2)
  have Z := hide (below_set2 (hb0.trans ((hb1.trans (hb2.mono hb1.size)).mono hb0.size)) (Nat.le_succ _) (.bool ng2) (.slice p1 r1.length q1))
  skip
  go_wp2
  refine bodyPost_ret (v := .agg #[.bool ng2, .slice p1 r1.length q1]) ?_ rfl ⟨ng2, p1, q1, r1, rfl, by rw [← sg_add]; exact Y.out, by omega, Z.out⟩
  simp [results, Try.results59, go_sem, X.out.1, X.out.2.1]

set_option maxRecDepth 20000 in
set_option maxHeartbeats 1000000 in
theorem join_ge (w : World) (nx : Bool) (a1 : Option Addr) (n1 c1 : Nat) (xs : List Int) (hx : Sl w (.slice a1 n1 c1) xs) (a2 : Option Addr) (n2 c2 : Nat) (ys : List Int) (hy : Sl w (.slice a2 n2 c2) ys) (hm1 : xs.length ≤ 400000) (hm2 : ys.length ≤ 400000) (hge : val ys ≤ val xs) :
    Calls Try.prog 59 #[.agg #[.bool nx, .slice a1 n1 c1], .bool (!nx), .slice a2 n2 c2] w fun e w' => ∃ ng' ao cap rs, e = .returned (.agg #[.bool ng', .slice ao rs.length cap]) ∧ Wh w' ng' ao cap rs (sg nx (val xs) + sg (!nx) (val ys)) ∧ rs.length ≤ xs.length + ys.length + 1 ∧ Below w.heap.size w w' := by
  obtain ⟨w0, e0, bx, br, hb0, hs0⟩ := boxed1 w nx (.slice a1 n1 c1)
  have E0 := hide e0
  have hx0 := hx.below hb0
  have hy0 := hy.below hb0
  clear e0 hs0
  cases nx
  all_goals
    go_enter Try.func59, Try.ntmps59
    go_wp2_with fail
    rw [E0.out]
    obtain ⟨ca, cb, cc, cd⟩ := bx.facts
    obtain ⟨da, db, dc, dd⟩ := br.facts
    refine (sub_g _ _ _ _ _ _ _ xs ys hx0 hy0 (by omega) hge).mono ?_
    rintro e w1 ⟨p1, q1, r1, rfl, G1, l1, hb1⟩
    have bx1 := bx.below hb1
    obtain ⟨ia, ib, ic, id⟩ := bx1.facts
    go_wp2_with fail
    refine (signed_g _ _ _ _ r1 _ G1 (by omega)).mono ?_
    rintro e w2 ⟨ng2, rfl, G2, hb2⟩
    have br2 := (br.below hb1).below hb2
    obtain ⟨ka, kb, kc, kd⟩ := br2.facts
    have X := hide (br2.set ng2 (.slice p1 r1.length q1)).facts
    have Y := hide (br2.wh ng2 (.slice p1 r1.length q1) G2)
    have Z := hide (below_set2 (hb0.trans ((hb1.trans (hb2.mono hb1.size)).mono hb0.size)) (Nat.le_succ _) (.bool ng2) (.slice p1 r1.length q1))
    skip
    go_wp2
    refine bodyPost_ret (v := .agg #[.bool ng2, .slice p1 r1.length q1]) ?_ rfl ⟨ng2, p1, q1, r1, rfl, by rw [← sg_sub]; exact Y.out, by omega, Z.out⟩
    simp [results, Try.results59, go_sem, X.out.1, X.out.2.1]

set_option maxRecDepth 20000 in
set_option maxHeartbeats 1000000 in
theorem join_lt (w : World) (nx : Bool) (a1 : Option Addr) (n1 c1 : Nat) (xs : List Int) (hx : Sl w (.slice a1 n1 c1) xs) (a2 : Option Addr) (n2 c2 : Nat) (ys : List Int) (hy : Sl w (.slice a2 n2 c2) ys) (hm1 : xs.length ≤ 400000) (hm2 : ys.length ≤ 400000) (hlt : val xs < val ys) :
    Calls Try.prog 59 #[.agg #[.bool nx, .slice a1 n1 c1], .bool (!nx), .slice a2 n2 c2] w fun e w' => ∃ ng' ao cap rs, e = .returned (.agg #[.bool ng', .slice ao rs.length cap]) ∧ Wh w' ng' ao cap rs (sg nx (val xs) + sg (!nx) (val ys)) ∧ rs.length ≤ xs.length + ys.length + 1 ∧ Below w.heap.size w w' := by
  obtain ⟨w0, e0, bx, br, hb0, hs0⟩ := boxed1 w nx (.slice a1 n1 c1)
  have E0 := hide e0
  have hx0 := hx.below hb0
  have hy0 := hy.below hb0
  clear e0 hs0
  cases nx
  all_goals
    go_enter Try.func59, Try.ntmps59
    go_wp2_with fail
    rw [E0.out]
    obtain ⟨ca, cb, cc, cd⟩ := bx.facts
    obtain ⟨da, db, dc, dd⟩ := br.facts
    refine (sub_no _ _ _ _ _ _ _ xs ys hx0 hy0 hlt).mono ?_
    rintro e w9 ⟨rfl, hb9⟩
    have hx9 := hx0.below hb9
    have hy9 := hy0.below hb9
    have bx9 := bx.below hb9
    have br9 := br.below hb9
    obtain ⟨ia, ib, ic, id⟩ := bx9.facts
    go_wp2_with fail
    refine (sub_g _ _ _ _ _ _ _ ys xs hy9 hx9 (by omega) (by omega)).mono ?_
    rintro e w1 ⟨p1, q1, r1, rfl, G1, l1, hb1⟩
    go_wp2_with fail
    refine (signed_g _ _ _ _ r1 _ G1 (by omega)).mono ?_
    rintro e w2 ⟨ng2, rfl, G2, hb2⟩
    have br2 := (br9.below hb1).below hb2
    obtain ⟨ka, kb, kc, kd⟩ := br2.facts
    have X := hide (br2.set ng2 (.slice p1 r1.length q1)).facts
    have Y := hide (br2.wh ng2 (.slice p1 r1.length q1) G2)
    have Z := hide (below_set2 (hb0.trans ((hb9.trans ((hb1.trans (hb2.mono hb1.size)).mono hb9.size)).mono hb0.size)) (Nat.le_succ _) (.bool ng2) (.slice p1 r1.length q1))
    skip
    go_wp2
    refine bodyPost_ret (v := .agg #[.bool ng2, .slice p1 r1.length q1]) ?_ rfl ⟨ng2, p1, q1, r1, rfl, by rw [← sg_sub']; exact Y.out, by omega, Z.out⟩
    simp [results, Try.results59, go_sem, X.out.1, X.out.2.1]

theorem join_g (w : World) (nx : Bool) (a1 : Option Addr) (n1 c1 : Nat) (xs : List Int) (hx : Sl w (.slice a1 n1 c1) xs) (ny : Bool) (a2 : Option Addr) (n2 c2 : Nat) (ys : List Int) (hy : Sl w (.slice a2 n2 c2) ys) (hm1 : xs.length ≤ 400000) (hm2 : ys.length ≤ 400000) :
    Calls Try.prog 59 #[.agg #[.bool nx, .slice a1 n1 c1], .bool ny, .slice a2 n2 c2] w fun e w' => ∃ ng' ao cap rs, e = .returned (.agg #[.bool ng', .slice ao rs.length cap]) ∧ Wh w' ng' ao cap rs (sg nx (val xs) + sg ny (val ys)) ∧ rs.length ≤ xs.length + ys.length + 1 ∧ Below w.heap.size w w' := by
  by_cases hn : ny = nx
  · subst hn
    exact join_same w ny a1 n1 c1 xs hx a2 n2 c2 ys hy hm1 hm2
  · have hn' : ny = !nx := by cases nx <;> cases ny <;> simp_all
    subst hn'
    by_cases h : val ys ≤ val xs
    · exact join_ge w nx a1 n1 c1 xs hx a2 n2 c2 ys hy hm1 hm2 h
    · exact join_lt w nx a1 n1 c1 xs hx a2 n2 c2 ys hy hm1 hm2 (by omega)

end Lm
end Go.Proofs.Ytjhhjefobbhdlaa
