/-
  LimbsProducts answers true, whatever two lists of limbs it is handed.
-/
import Derived.Test.YthbomfboohjcfaaBack
import Derived.Test.YthbomfboohjcfaaBookD
import Derived.Test.YthbomfboohjcfaaROps
namespace Go.Proofs.Ythbomfboohjcfaa
namespace Lm
open Go.RowKit

theorem Sl.lt {w : World} {a : Option Addr} {n c : Nat} {zs : List Int} (h : Sl w (.slice a n c) zs) (h0 : 0 < zs.length) (b off : Nat) (e : a = some ⟨b, off, none⟩) : b < w.heap.size := by
  obtain ⟨b', off', e', hc⟩ := h.cells h0
  rw [e] at e'
  simp only [Option.some.injEq, Addr.mk.injEq, and_true] at e'
  have := lt_of_cell (hc 0 h0)
  omega

/-- Two lenders, side by side, new. -/
theorem lenders (w : World) (o : Obj) (ho : o = .cells #[.slice none 0 0, .int .i64 0] 25) :
    ((w.alloc o).alloc o).heap[w.heap.size]? = some (.cells #[.slice none 0 0, .int .i64 0] 25 (0, 0)) ∧ ((w.alloc o).alloc o).heap[w.heap.size + 1]? = some (.cells #[.slice none 0 0, .int .i64 0] 25 (0, 0)) ∧ Below w.heap.size w ((w.alloc o).alloc o) ∧ ((w.alloc o).alloc o).heap.size = w.heap.size + 2 := by
  subst ho
  refine ⟨?_, ?_, ((Below.refl _ _).alloc (Nat.le_refl _) _).alloc (by simp) _, by simp⟩
  · rw [Below.heap_alloc _ _ _ (by simp)]
    exact heap_alloc_new w _
  · have := heap_alloc_new (w.alloc (.cells #[.slice none 0 0, .int .i64 0] 25)) (.cells #[.slice none 0 0, .int .i64 0] 25)
    rwa [World.size_alloc] at this

theorem LendS.lt {w : World} {L g : Nat} {xs : List Int} (h : LendS w L g xs) : g < w.heap.size := by
  obtain ⟨_, cur, hh, _⟩ := h
  exact lt_of_heap hh

/-- A new book in a new block. -/
theorem book_new (w : World) : (w.alloc (.cells #[.slice none 0 0, .slice none 0 0] 34)).heap[w.heap.size]? = some (.cells #[.slice none 0 0, .slice none 0 0] 34 (0, 0)) ∧ Below w.heap.size w (w.alloc (.cells #[.slice none 0 0, .slice none 0 0] 34)) ∧ (w.alloc (.cells #[.slice none 0 0, .slice none 0 0] 34)).heap.size = w.heap.size + 1 :=
  ⟨heap_alloc_new w _, (Below.refl _ _).alloc (Nat.le_refl _) _, by simp⟩

set_option maxRecDepth 20000 in
set_option maxHeartbeats 400000 in
theorem prods_long (w : World) (a0 a1 : Option Addr) (n0 n1 c0 c1 : Nat) (h : 1500 < (n0 : Int) + n1) (b0 : n0 ≤ 35184372088832) (b1 : n1 ≤ 35184372088832) :
    Calls Try.prog 5 #[.slice a0 n0 c0, .slice a1 n1 c1] w fun e w' => e = .returned (.bool true) ∧ Below w.heap.size w w' := by
  go_enter Try.func5, Try.ntmps5
  go_wp2_with fail
  refine (awake_any _).mono ?_
  rintro e w1 ⟨rfl, hb⟩
  go_wp2
  go_ret
  exact ⟨rfl, hb⟩

set_option maxRecDepth 20000 in
set_option maxHeartbeats 1000000 in
theorem prods_short (w : World) (a0 a1 : Option Addr) (n0 n1 c0 c1 : Nat) (xs ys : List Int) (hx : Sl w (.slice a0 n0 c0) xs) (hy : Sl w (.slice a1 n1 c1) ys) (h : ¬ 1500 < (n0 : Int) + n1) :
    Calls Try.prog 5 #[.slice a0 n0 c0, .slice a1 n1 c1] w fun e w' => e = .returned (.bool true) ∧ Below w.heap.size w w' := by
  obtain ⟨rfl, _, _, _⟩ := hx.parts
  obtain ⟨rfl, _, _, _⟩ := hy.parts
  have lx := hide hx.lt
  have ly := hide hy.lt
  have HB := Below.refl w.heap.size w
  go_enter Try.func5, Try.ntmps5
  go_wp2_with fail
  refine (awake_any _).mono ?_
  rintro e w1 ⟨rfl, hb1⟩
  replace HB := HB.trans (hb1.mono HB.size)
  go_wp2_with fail
  have BN := hide (book_new w1)
  replace HB := HB.trans (BN.out.2.1.mono HB.size)
  have z1 := hb1.size
  refine (Dm.rmul_any _ _ _ _ _ _ _ xs ys (hx.below HB) (hy.below HB) (by omega) (by omega)).mono ?_
  rintro e w2 ⟨v2, rfl, I2, hb2⟩
  obtain ⟨p2, q2, r2, rfl, F2⟩ := I2.fr
  replace HB := HB.trans (hb2.mono HB.size)
  have z2 := hb2.size
  rw [BN.out.2.2] at F2 z2
  have BK : Bs w2 w1.heap.size w2.heap.size [] 0 := Bs.new ((hb2.block _ (by rw [BN.out.2.2]; omega)).trans BN.out.1)
  clear I2 BN hb1 hb2
  go_wp2
  go_loopw [7] (fun iv wr => ∃ (i : Nat) (bs : List Nat), i ≤ 2 ∧ iv = .int .i64 i ∧ Bs wr w1.heap.size w2.heap.size bs i ∧ Touch w2 wr w1.heap.size) (fun iv _ => 2 - (intOf iv).toNat)
  case atStart => exact ⟨0, [], Nat.zero_le _, rfl, BK, Touch.refl _ _⟩
  case round =>
    clear BK
    obtain ⟨i, bs, hi, rfl, BK, T0⟩ := hrel
    have HBr := HB.trans (T0.below z1 HB.size)
    have hlow := BK.low
    have ht := T0.size
    by_cases hlt : i < 2
    · have dI : (i : Int) < 2 := by omega
      go_wp2_with fail
      have L := hide (lenders wr _ rfl)
      have hLs := L.out.2.2.2
      replace T0 := T0.calm L.out.2.2.1
      replace BK := BK.below L.out.2.2.1
      replace HBr := HBr.trans (L.out.2.2.1.mono HBr.size)
      refine (lend_any _ _ _ _ _ _ _ xs L.out.1 (hx.below HBr) (by omega) (fun h0 b off e => by have := lx.out h0 b off e; omega)).mono ?_
      rintro e w3 ⟨rfl, S1, t3⟩
      rw [hLs] at S1 ⊢
      replace T0 := T0.newer t3 (by omega)
      replace BK := BK.touch t3 (by omega) (fun hj => by have := hlow _ hj; omega)
      have hL2 := hide ((t3.other (wr.heap.size + 1) (by omega) (by omega)).trans L.out.2.1)
      have z3 := S1.lt
      have HB3 := HB.trans (T0.below z1 HB.size)
      clear t3 L hLs HBr
      go_wp2_with fail
      refine (lend_any _ _ _ _ _ _ _ ys hL2.out (hy.below HB3) (by omega) (fun h0 b off e => by have := ly.out h0 b off e; omega)).mono ?_
      rintro e w4 ⟨rfl, S2, t4⟩
      replace T0 := T0.newer t4 (by omega)
      replace BK := BK.touch t4 (by omega) (fun hj => by have := hlow _ hj; omega)
      replace S1 := S1.touch t4 (by omega) (by omega)
      have z4 := S2.lt
      clear t4 hL2 HB3
      go_wp2_with fail
      refine (mul_any _ _ _ _ _ _ _ xs ys (S1.sl (by omega)) (S2.sl (by omega)) (by omega) (by omega)).mono ?_
      rintro e w5 ⟨v5, rfl, I5, hb5⟩
      obtain ⟨p5, q5, r5, rfl, F5⟩ := I5.fr
      have z5 := hb5.size
      replace T0 := T0.calm hb5
      replace BK := BK.below hb5
      replace S1 := S1.below hb5
      replace S2 := S2.below hb5
      have HB5 := HB.trans (T0.below z1 HB.size)
      clear hb5 I5
      go_wp2_with fail
      refine (back_any _ _ _ _ _ _ xs S1 (by omega) (hx.below HB5) (by omega) (fun h0 b off e => by have := lx.out h0 b off e; omega)).mono ?_
      rintro e w6 ⟨rfl, t6⟩
      replace T0 := T0.newer t6 (by omega)
      replace BK := BK.touch t6 (by omega) (fun hj => by have := hlow _ hj; omega)
      replace S2 := S2.touch t6 (by omega) (by omega)
      replace F5 := F5.touch t6 (by omega)
      have z6 := t6.size
      have HB6 := HB.trans (T0.below z1 HB.size)
      clear t6 S1 HB5
      go_wp2_with fail
      refine (back_any _ _ _ _ _ _ ys S2 (by omega) (hy.below HB6) (by omega) (fun h0 b off e => by have := ly.out h0 b off e; omega)).mono ?_
      rintro e w7 ⟨rfl, t7⟩
      replace T0 := T0.newer t7 (by omega)
      replace BK := BK.touch t7 (by omega) (fun hj => by have := hlow _ hj; omega)
      replace F5 := F5.touch t7 (by omega)
      have z7 := t7.size
      clear t7 S2 HB6
      have F2' := F2.touch T0 (by omega)
      go_wp2_with fail
      refine (same_g _ _ _ _ _ r5 r2 _ _ F5.got F2'.got rfl).mono ?_
      rintro e w8 ⟨rfl, hb8⟩
      replace T0 := T0.calm hb8
      replace BK := BK.below hb8
      replace F5 := F5.below hb8
      have z8 := hb8.size
      clear hb8 F2'
      go_wp2_with fail
      refine (own_b _ _ _ _ bs BK (by omega) _ _ _ _ _ _ F5 (by omega) (by omega) (fun j hj => by have := hlow j hj; omega)).mono ?_
      rintro e w9 ⟨rfl, bs9, BK9, kp9, hj9⟩
      replace T0 := T0.kp kp9 (fun j hj => by rcases hj9 j hj with a | a | a; (have := hlow j a; omega); omega; omega)
      clear BK kp9 hj9 F5 hlow
      go_wp2
      go_roundw
      case rel => exact ⟨i + 1, bs9, by omega, by go_num, BK9, T0⟩
      case measure => simp [intOf]; omega
    · have dI : ¬ (i : Int) < 2 := by omega
      go_wp2_with fail
      refine (done_b _ _ _ _ bs BK (by omega)).mono ?_
      rintro e w3 ⟨rfl, hb3⟩
      replace HBr := HBr.trans (hb3.mono HBr.size)
      go_wp2
      go_ret
      exact ⟨rfl, HBr⟩

theorem prods_law (w : World) (a0 : Option Addr) (n0 c0 : Nat) (xs : List Int) (a1 : Option Addr) (n1 c1 : Nat) (ys : List Int)
    (hx : Sl w (.slice a0 n0 c0) xs) (b0 : n0 ≤ 35184372088832) (hy : Sl w (.slice a1 n1 c1) ys) (b1 : n1 ≤ 35184372088832) :
    Calls Try.prog 5 #[.slice a0 n0 c0, .slice a1 n1 c1] w fun e w' => e = .returned (.bool true) ∧ Below w.heap.size w w' := by
  by_cases h : 1500 < (n0 : Int) + n1
  · exact prods_long w a0 a1 n0 n1 c0 c1 h b0 b1
  · exact prods_short w a0 a1 n0 n1 c0 c1 xs ys hx hy h

end Lm
end Go.Proofs.Ythbomfboohjcfaa
