/-
  LimbsSums answers true, whatever two lists of limbs it is handed.
-/
import Derived.Test.YthbomfboohjcfaaProds
namespace Go.Proofs.Ythbomfboohjcfaa
namespace Lm
open Go.RowKit

set_option maxRecDepth 20000 in
set_option maxHeartbeats 400000 in
theorem sums_long (w : World) (a0 a1 : Option Addr) (n0 n1 c0 c1 : Nat) (h : 1500 < (n0 : Int) + n1) (b0 : n0 ≤ 35184372088832) (b1 : n1 ≤ 35184372088832) :
    Calls Try.prog 4 #[.slice a0 n0 c0, .slice a1 n1 c1] w fun e w' => e = .returned (.bool true) ∧ Below w.heap.size w w' := by
  go_enter Try.func4, Try.ntmps4
  go_wp2_with fail
  refine (awake_any _).mono ?_
  rintro e w1 ⟨rfl, hb⟩
  go_wp2
  go_ret
  exact ⟨rfl, hb⟩

set_option maxRecDepth 20000 in
set_option maxHeartbeats 1000000 in
theorem sums_short_true (w : World) (a0 a1 : Option Addr) (n0 n1 c0 c1 : Nat) (xs ys : List Int) (hx : Sl w (.slice a0 n0 c0) xs) (hy : Sl w (.slice a1 n1 c1) ys) (h : ¬ 1500 < (n0 : Int) + n1) (dv : Int) (KS : Hid (∀ (w : World) (a1 a2 : Option Addr) (n1 n2 c1 c2 : Nat), Sl w (.slice a1 n1 c1) xs → Sl w (.slice a2 n2 c2) ys → Calls Try.prog 22 #[.slice a1 n1 c1, .slice a2 n2 c2] w fun e w' => ∃ v, e = .returned (.tuple #[v, .bool true]) ∧ Is w.heap.size w' v dv ∧ Below w.heap.size w w')) (KR : Hid (∀ (w : World) (a1 a2 : Option Addr) (n1 n2 c1 c2 : Nat), Sl w (.slice a1 n1 c1) xs → Sl w (.slice a2 n2 c2) ys → Calls Try.prog 19 #[.slice a1 n1 c1, .slice a2 n2 c2] w fun e w' => ∃ v, e = .returned (.tuple #[v, .bool true]) ∧ Is w.heap.size w' v dv ∧ Below w.heap.size w w')) :
    Calls Try.prog 4 #[.slice a0 n0 c0, .slice a1 n1 c1] w fun e w' => e = .returned (.bool true) ∧ Below w.heap.size w w' := by
  obtain ⟨rfl, _, _, _⟩ := hx.parts
  obtain ⟨rfl, _, _, _⟩ := hy.parts
  have lx := hide hx.lt
  have ly := hide hy.lt
  have HB := Below.refl w.heap.size w
  go_enter Try.func4, Try.ntmps4
  go_wp2_with fail
  refine (awake_any _).mono ?_
  rintro e w1 ⟨rfl, hb1⟩
  replace HB := HB.trans (hb1.mono HB.size)
  go_wp2_with fail
  have BN := hide (book_new w1)
  replace HB := HB.trans (BN.out.2.1.mono HB.size)
  have z1 := hb1.size
  refine (KR.out _ _ _ _ _ _ _ (hx.below HB) (hy.below HB)).mono ?_
  rintro e w2 ⟨v2, rfl, I2, hb2⟩
  obtain ⟨p2, q2, r2, rfl, F2⟩ := I2.fr
  replace HB := HB.trans (hb2.mono HB.size)
  have z2 := hb2.size
  have B2 := hide ((hb2.block w1.heap.size (by rw [BN.out.2.2]; omega)).trans BN.out.1)
  rw [BN.out.2.2] at F2 z2
  clear I2 BN hb1 hb2
  go_wp2_with fail
  refine (Dm.radd_any _ _ _ _ _ _ _ xs ys (hx.below HB) (hy.below HB) (by omega) (by omega)).mono ?_
  rintro e w2' ⟨v2', rfl, I2', hb2'⟩
  obtain ⟨p2', q2', r2', rfl, F2'⟩ := I2'.fr
  replace HB := HB.trans (hb2'.mono HB.size)
  have z2' := hb2'.size
  replace F2 := F2.below hb2'
  have BK : Bs w2' w1.heap.size w2'.heap.size [] 0 := Bs.new ((hb2'.block _ (by omega)).trans B2.out)
  clear I2' hb2' B2
  go_wp2
  go_loopw [9] (fun iv wr => ∃ (i : Nat) (bs : List Nat), i ≤ 2 ∧ iv = .int .i64 i ∧ Bs wr w1.heap.size w2'.heap.size bs (2 * i) ∧ Touch w2' wr w1.heap.size) (fun iv _ => 2 - (intOf iv).toNat)
  case atStart => exact ⟨0, [], Nat.zero_le _, rfl, BK, Touch.refl _ _⟩
  case round =>
    clear BK
    obtain ⟨i, bs, hi, rfl, BK, T0⟩ := hrel
    have HBr := HB.trans (T0.below z1 HB.size)
    have hlow := BK.low
    have ht := T0.size
    by_cases hlt : i < 2
    · have dI : (i : Int) < 2 := by omega
      go_wp2_with fail
      have L := hide (lenders wr _ rfl)
      have hLs := L.out.2.2.2
      replace T0 := T0.calm L.out.2.2.1
      replace BK := BK.below L.out.2.2.1
      replace HBr := HBr.trans (L.out.2.2.1.mono HBr.size)
      refine (lend_any _ _ _ _ _ _ _ xs L.out.1 (hx.below HBr) (by omega) (fun h0 b off e => by have := lx.out h0 b off e; omega)).mono ?_
      rintro e w3 ⟨rfl, S1, t3⟩
      rw [hLs] at S1 ⊢
      replace T0 := T0.newer t3 (by omega)
      replace BK := BK.touch t3 (by omega) (fun hj => by have := hlow _ hj; omega)
      have hL2 := hide ((t3.other (wr.heap.size + 1) (by omega) (by omega)).trans L.out.2.1)
      have z3 := S1.lt
      have HB3 := HB.trans (T0.below z1 HB.size)
      clear t3 L hLs HBr
      go_wp2_with fail
      refine (lend_any _ _ _ _ _ _ _ ys hL2.out (hy.below HB3) (by omega) (fun h0 b off e => by have := ly.out h0 b off e; omega)).mono ?_
      rintro e w4 ⟨rfl, S2, t4⟩
      replace T0 := T0.newer t4 (by omega)
      replace BK := BK.touch t4 (by omega) (fun hj => by have := hlow _ hj; omega)
      replace S1 := S1.touch t4 (by omega) (by omega)
      have z4 := S2.lt
      clear t4 hL2 HB3
      go_wp2_with fail
      refine (add_any _ _ _ _ _ _ _ xs ys (S1.sl (by omega)) (S2.sl (by omega)) (by omega) (by omega)).mono ?_
      rintro e w5 ⟨v5, rfl, I5, hb5⟩
      obtain ⟨p5, q5, r5, rfl, F5⟩ := I5.fr
      have z5 := hb5.size
      replace T0 := T0.calm hb5
      replace BK := BK.below hb5
      replace S1 := S1.below hb5
      replace S2 := S2.below hb5
      clear hb5 I5
      go_wp2_with fail
      refine (KS.out _ _ _ _ _ _ _ (S1.sl (by omega)) (S2.sl (by omega))).mono ?_
      rintro e w5' ⟨v5', rfl, I5', hb5'⟩
      obtain ⟨p5', q5', r5', rfl, F5'⟩ := I5'.fr
      have z5' := hb5'.size
      replace T0 := T0.calm hb5'
      replace BK := BK.below hb5'
      replace S1 := S1.below hb5'
      replace S2 := S2.below hb5'
      replace F5 := F5.below hb5'
      clear hb5' I5'
      have HB5 := HB.trans (T0.below z1 HB.size)
      go_wp2_with fail
      refine (back_any _ _ _ _ _ _ xs S1 (by omega) (hx.below HB5) (by omega) (fun h0 b off e => by have := lx.out h0 b off e; omega)).mono ?_
      rintro e w6 ⟨rfl, t6⟩
      replace T0 := T0.newer t6 (by omega)
      replace BK := BK.touch t6 (by omega) (fun hj => by have := hlow _ hj; omega)
      replace S2 := S2.touch t6 (by omega) (by omega)
      replace F5 := F5.touch t6 (by omega)
      replace F5' := F5'.touch t6 (by omega)
      have z6 := t6.size
      have HB6 := HB.trans (T0.below z1 HB.size)
      clear t6 S1 HB5
      go_wp2_with fail
      refine (back_any _ _ _ _ _ _ ys S2 (by omega) (hy.below HB6) (by omega) (fun h0 b off e => by have := ly.out h0 b off e; omega)).mono ?_
      rintro e w7 ⟨rfl, t7⟩
      replace T0 := T0.newer t7 (by omega)
      replace BK := BK.touch t7 (by omega) (fun hj => by have := hlow _ hj; omega)
      replace F5 := F5.touch t7 (by omega)
      replace F5' := F5'.touch t7 (by omega)
      have z7 := t7.size
      clear t7 S2 HB6
      have G2 := F2.touch T0 (by omega)
      have G2' := F2'.touch T0 (by omega)
      go_wp2_with fail
      refine (same_g _ _ _ _ _ r5 r2' _ _ F5.got G2'.got rfl).mono ?_
      rintro e w8 ⟨rfl, hb8⟩
      replace T0 := T0.calm hb8
      replace BK := BK.below hb8
      replace F5 := F5.below hb8
      replace F5' := F5'.below hb8
      replace G2 := G2.below hb8
      have z8 := hb8.size
      clear hb8 G2'
      go_wp2_with fail
      refine (same_g _ _ _ _ _ r5' r2 _ _ F5'.got G2.got rfl).mono ?_
      rintro e w8' ⟨rfl, hb8⟩
      replace T0 := T0.calm hb8
      replace BK := BK.below hb8
      replace F5 := F5.below hb8
      replace F5' := F5'.below hb8
      have z8' := hb8.size
      clear hb8 G2
      go_wp2_with fail
      refine (own_b _ _ _ _ bs BK (by omega) _ _ _ _ _ _ F5 (by omega) (by omega) (fun j hj => by have := hlow j hj; omega)).mono ?_
      rintro e w9 ⟨rfl, bs9, BK9, kp9, hj9⟩
      have lo9 : ∀ j, j ∈ bs9 → w2'.heap.size ≤ j ∧ (j < w5.heap.size ∨ w5'.heap.size ≤ j) := fun j hj => by rcases hj9 j hj with a | a | a; (have := hlow j a; omega); omega; omega
      replace T0 := T0.kp kp9 (fun j hj => (lo9 j hj).1)
      replace F5' := F5'.kp kp9 (by omega) (fun j hj => (lo9 j hj).2)
      have z9 := kp9.size
      clear BK kp9 hj9 F5 hlow
      go_wp2_with fail
      refine (own_b _ _ _ _ bs9 BK9 (by omega) _ _ _ _ _ _ F5' (by omega) (by omega) (fun j hj => (lo9 j hj).2)).mono ?_
      rintro e w10 ⟨rfl, bs10, BK10, kp10, hj10⟩
      replace T0 := T0.kp kp10 (fun j hj => by rcases hj10 j hj with a | a | a; exact (lo9 j a).1; omega; omega)
      clear BK9 kp10 hj10 F5' lo9
      go_wp2
      go_roundw
      case rel => exact ⟨i + 1, bs10, by omega, by go_num, BK10, T0⟩
      case measure => simp [intOf]; omega
    · have dI : ¬ (i : Int) < 2 := by omega
      go_wp2_with fail
      refine (done_b _ _ _ _ bs BK (by omega)).mono ?_
      rintro e w3 ⟨rfl, hb3⟩
      replace HBr := HBr.trans (hb3.mono HBr.size)
      go_wp2
      go_ret
      exact ⟨rfl, HBr⟩

set_option maxRecDepth 20000 in
set_option maxHeartbeats 1000000 in
theorem sums_short_false (w : World) (a0 a1 : Option Addr) (n0 n1 c0 c1 : Nat) (xs ys : List Int) (hx : Sl w (.slice a0 n0 c0) xs) (hy : Sl w (.slice a1 n1 c1) ys) (h : ¬ 1500 < (n0 : Int) + n1) (dv : Int) (KS : Hid (∀ (w : World) (a1 a2 : Option Addr) (n1 n2 c1 c2 : Nat), Sl w (.slice a1 n1 c1) xs → Sl w (.slice a2 n2 c2) ys → Calls Try.prog 22 #[.slice a1 n1 c1, .slice a2 n2 c2] w fun e w' => ∃ v, e = .returned (.tuple #[v, .bool false]) ∧ Is w.heap.size w' v dv ∧ Below w.heap.size w w')) (KR : Hid (∀ (w : World) (a1 a2 : Option Addr) (n1 n2 c1 c2 : Nat), Sl w (.slice a1 n1 c1) xs → Sl w (.slice a2 n2 c2) ys → Calls Try.prog 19 #[.slice a1 n1 c1, .slice a2 n2 c2] w fun e w' => ∃ v, e = .returned (.tuple #[v, .bool false]) ∧ Is w.heap.size w' v dv ∧ Below w.heap.size w w')) :
    Calls Try.prog 4 #[.slice a0 n0 c0, .slice a1 n1 c1] w fun e w' => e = .returned (.bool true) ∧ Below w.heap.size w w' := by
  obtain ⟨rfl, _, _, _⟩ := hx.parts
  obtain ⟨rfl, _, _, _⟩ := hy.parts
  have lx := hide hx.lt
  have ly := hide hy.lt
  have HB := Below.refl w.heap.size w
  go_enter Try.func4, Try.ntmps4
  go_wp2_with fail
  refine (awake_any _).mono ?_
  rintro e w1 ⟨rfl, hb1⟩
  replace HB := HB.trans (hb1.mono HB.size)
  go_wp2_with fail
  have BN := hide (book_new w1)
  replace HB := HB.trans (BN.out.2.1.mono HB.size)
  have z1 := hb1.size
  refine (KR.out _ _ _ _ _ _ _ (hx.below HB) (hy.below HB)).mono ?_
  rintro e w2 ⟨v2, rfl, I2, hb2⟩
  obtain ⟨p2, q2, r2, rfl, F2⟩ := I2.fr
  replace HB := HB.trans (hb2.mono HB.size)
  have z2 := hb2.size
  have B2 := hide ((hb2.block w1.heap.size (by rw [BN.out.2.2]; omega)).trans BN.out.1)
  rw [BN.out.2.2] at F2 z2
  clear I2 BN hb1 hb2
  go_wp2_with fail
  refine (Dm.radd_any _ _ _ _ _ _ _ xs ys (hx.below HB) (hy.below HB) (by omega) (by omega)).mono ?_
  rintro e w2' ⟨v2', rfl, I2', hb2'⟩
  obtain ⟨p2', q2', r2', rfl, F2'⟩ := I2'.fr
  replace HB := HB.trans (hb2'.mono HB.size)
  have z2' := hb2'.size
  replace F2 := F2.below hb2'
  have BK : Bs w2' w1.heap.size w2'.heap.size [] 0 := Bs.new ((hb2'.block _ (by omega)).trans B2.out)
  clear I2' hb2' B2
  go_wp2
  go_loopw [9] (fun iv wr => ∃ (i : Nat) (bs : List Nat), i ≤ 2 ∧ iv = .int .i64 i ∧ Bs wr w1.heap.size w2'.heap.size bs (2 * i) ∧ Touch w2' wr w1.heap.size) (fun iv _ => 2 - (intOf iv).toNat)
  case atStart => exact ⟨0, [], Nat.zero_le _, rfl, BK, Touch.refl _ _⟩
  case round =>
    clear BK
    obtain ⟨i, bs, hi, rfl, BK, T0⟩ := hrel
    have HBr := HB.trans (T0.below z1 HB.size)
    have hlow := BK.low
    have ht := T0.size
    by_cases hlt : i < 2
    · have dI : (i : Int) < 2 := by omega
      go_wp2_with fail
      have L := hide (lenders wr _ rfl)
      have hLs := L.out.2.2.2
      replace T0 := T0.calm L.out.2.2.1
      replace BK := BK.below L.out.2.2.1
      replace HBr := HBr.trans (L.out.2.2.1.mono HBr.size)
      refine (lend_any _ _ _ _ _ _ _ xs L.out.1 (hx.below HBr) (by omega) (fun h0 b off e => by have := lx.out h0 b off e; omega)).mono ?_
      rintro e w3 ⟨rfl, S1, t3⟩
      rw [hLs] at S1 ⊢
      replace T0 := T0.newer t3 (by omega)
      replace BK := BK.touch t3 (by omega) (fun hj => by have := hlow _ hj; omega)
      have hL2 := hide ((t3.other (wr.heap.size + 1) (by omega) (by omega)).trans L.out.2.1)
      have z3 := S1.lt
      have HB3 := HB.trans (T0.below z1 HB.size)
      clear t3 L hLs HBr
      go_wp2_with fail
      refine (lend_any _ _ _ _ _ _ _ ys hL2.out (hy.below HB3) (by omega) (fun h0 b off e => by have := ly.out h0 b off e; omega)).mono ?_
      rintro e w4 ⟨rfl, S2, t4⟩
      replace T0 := T0.newer t4 (by omega)
      replace BK := BK.touch t4 (by omega) (fun hj => by have := hlow _ hj; omega)
      replace S1 := S1.touch t4 (by omega) (by omega)
      have z4 := S2.lt
      clear t4 hL2 HB3
      go_wp2_with fail
      refine (add_any _ _ _ _ _ _ _ xs ys (S1.sl (by omega)) (S2.sl (by omega)) (by omega) (by omega)).mono ?_
      rintro e w5 ⟨v5, rfl, I5, hb5⟩
      obtain ⟨p5, q5, r5, rfl, F5⟩ := I5.fr
      have z5 := hb5.size
      replace T0 := T0.calm hb5
      replace BK := BK.below hb5
      replace S1 := S1.below hb5
      replace S2 := S2.below hb5
      clear hb5 I5
      go_wp2_with fail
      refine (KS.out _ _ _ _ _ _ _ (S1.sl (by omega)) (S2.sl (by omega))).mono ?_
      rintro e w5' ⟨v5', rfl, I5', hb5'⟩
      obtain ⟨p5', q5', r5', rfl, F5'⟩ := I5'.fr
      have z5' := hb5'.size
      replace T0 := T0.calm hb5'
      replace BK := BK.below hb5'
      replace S1 := S1.below hb5'
      replace S2 := S2.below hb5'
      replace F5 := F5.below hb5'
      clear hb5' I5'
      have HB5 := HB.trans (T0.below z1 HB.size)
      go_wp2_with fail
      refine (back_any _ _ _ _ _ _ xs S1 (by omega) (hx.below HB5) (by omega) (fun h0 b off e => by have := lx.out h0 b off e; omega)).mono ?_
      rintro e w6 ⟨rfl, t6⟩
      replace T0 := T0.newer t6 (by omega)
      replace BK := BK.touch t6 (by omega) (fun hj => by have := hlow _ hj; omega)
      replace S2 := S2.touch t6 (by omega) (by omega)
      replace F5 := F5.touch t6 (by omega)
      replace F5' := F5'.touch t6 (by omega)
      have z6 := t6.size
      have HB6 := HB.trans (T0.below z1 HB.size)
      clear t6 S1 HB5
      go_wp2_with fail
      refine (back_any _ _ _ _ _ _ ys S2 (by omega) (hy.below HB6) (by omega) (fun h0 b off e => by have := ly.out h0 b off e; omega)).mono ?_
      rintro e w7 ⟨rfl, t7⟩
      replace T0 := T0.newer t7 (by omega)
      replace BK := BK.touch t7 (by omega) (fun hj => by have := hlow _ hj; omega)
      replace F5 := F5.touch t7 (by omega)
      replace F5' := F5'.touch t7 (by omega)
      have z7 := t7.size
      clear t7 S2 HB6
      have G2 := F2.touch T0 (by omega)
      have G2' := F2'.touch T0 (by omega)
      go_wp2_with fail
      refine (same_g _ _ _ _ _ r5 r2' _ _ F5.got G2'.got rfl).mono ?_
      rintro e w8 ⟨rfl, hb8⟩
      replace T0 := T0.calm hb8
      replace BK := BK.below hb8
      replace F5 := F5.below hb8
      replace F5' := F5'.below hb8
      replace G2 := G2.below hb8
      have z8 := hb8.size
      clear hb8 G2'
      go_wp2_with fail
      refine (same_g _ _ _ _ _ r5' r2 _ _ F5'.got G2.got rfl).mono ?_
      rintro e w8' ⟨rfl, hb8⟩
      replace T0 := T0.calm hb8
      replace BK := BK.below hb8
      replace F5 := F5.below hb8
      replace F5' := F5'.below hb8
      have z8' := hb8.size
      clear hb8 G2
      go_wp2_with fail
      refine (own_b _ _ _ _ bs BK (by omega) _ _ _ _ _ _ F5 (by omega) (by omega) (fun j hj => by have := hlow j hj; omega)).mono ?_
      rintro e w9 ⟨rfl, bs9, BK9, kp9, hj9⟩
      have lo9 : ∀ j, j ∈ bs9 → w2'.heap.size ≤ j ∧ (j < w5.heap.size ∨ w5'.heap.size ≤ j) := fun j hj => by rcases hj9 j hj with a | a | a; (have := hlow j a; omega); omega; omega
      replace T0 := T0.kp kp9 (fun j hj => (lo9 j hj).1)
      replace F5' := F5'.kp kp9 (by omega) (fun j hj => (lo9 j hj).2)
      have z9 := kp9.size
      clear BK kp9 hj9 F5 hlow
      go_wp2_with fail
      refine (own_b _ _ _ _ bs9 BK9 (by omega) _ _ _ _ _ _ F5' (by omega) (by omega) (fun j hj => (lo9 j hj).2)).mono ?_
      rintro e w10 ⟨rfl, bs10, BK10, kp10, hj10⟩
      replace T0 := T0.kp kp10 (fun j hj => by rcases hj10 j hj with a | a | a; exact (lo9 j a).1; omega; omega)
      clear BK9 kp10 hj10 F5' lo9
      go_wp2
      go_roundw
      case rel => exact ⟨i + 1, bs10, by omega, by go_num, BK10, T0⟩
      case measure => simp [intOf]; omega
    · have dI : ¬ (i : Int) < 2 := by omega
      go_wp2_with fail
      refine (done_b _ _ _ _ bs BK (by omega)).mono ?_
      rintro e w3 ⟨rfl, hb3⟩
      replace HBr := HBr.trans (hb3.mono HBr.size)
      go_wp2
      go_ret
      exact ⟨rfl, HBr⟩


theorem sums_law (w : World) (a0 : Option Addr) (n0 c0 : Nat) (xs : List Int) (a1 : Option Addr) (n1 c1 : Nat) (ys : List Int)
    (hx : Sl w (.slice a0 n0 c0) xs) (b0 : n0 ≤ 35184372088832) (hy : Sl w (.slice a1 n1 c1) ys) (b1 : n1 ≤ 35184372088832) :
    Calls Try.prog 4 #[.slice a0 n0 c0, .slice a1 n1 c1] w fun e w' => e = .returned (.bool true) ∧ Below w.heap.size w w' := by
  by_cases h : 1500 < (n0 : Int) + n1
  · exact sums_long w a0 a1 n0 n1 c0 c1 h b0 b1
  · have e0 := hx.parts.1
    have e1 := hy.parts.1
    have KS := hide (fun w a1 a2 n1 n2 c1 c2 hx hy => sub_is w a1 a2 n1 n2 c1 c2 xs ys hx hy (by omega))
    have KR := hide (fun w a1 a2 n1 n2 c1 c2 hx hy => Dm.rsub_any w a1 a2 n1 n2 c1 c2 xs ys hx hy (by omega) (by omega))
    generalize decide (val ys ≤ val xs) = b at KS KR
    generalize (if val ys ≤ val xs then val xs - val ys else 0) = dv at KS KR
    cases b with
    | true => exact sums_short_true w a0 a1 n0 n1 c0 c1 xs ys hx hy h dv KS KR
    | false => exact sums_short_false w a0 a1 n0 n1 c0 c1 xs ys hx hy h dv KS KR

end Lm
end Go.Proofs.Ythbomfboohjcfaa
