/-
  LimbsTrims answers true, whatever two lists of limbs it is handed.
-/
import Derived.Test.YtfokkkcegkbomaaBack
import Derived.Test.YtfokkkcegkbomaaDCmp
import Derived.Test.YtfokkkcegkbomaaRBits
namespace Go.Proofs.Ytfokkkcegkbomaa
namespace Lm
open Go.RowKit

set_option maxHeartbeats 400000 in
theorem trims_long (w : World) (a0 a1 : Option Addr) (n0 n1 c0 c1 : Nat) (h : 1500 < (n0 : Int) + n1) (b0 : n0 ≤ 35184372088832) (b1 : n1 ≤ 35184372088832) :
    Calls Try.prog 3 #[.slice a0 n0 c0, .slice a1 n1 c1] w fun e w' => e = .returned (.bool true) ∧ Below w.heap.size w w' := by
  go_enter Try.func3, Try.ntmps3
  go_wp2_with fail
  refine (awake_any _).mono ?_
  rintro e w1 ⟨rfl, hb⟩
  go_wp2
  go_ret
  exact ⟨rfl, hb⟩

theorem Sl.lt {w : World} {a : Option Addr} {n c : Nat} {zs : List Int} (h : Sl w (.slice a n c) zs) (h0 : 0 < zs.length) (b off : Nat) (e : a = some ⟨b, off, none⟩) : b < w.heap.size := by
  obtain ⟨b', off', e', hc⟩ := h.cells h0
  rw [e] at e'
  simp only [Option.some.injEq, Addr.mk.injEq, and_true] at e'
  have := lt_of_cell (hc 0 h0)
  omega

/-- Two lenders, side by side, new. -/
theorem lenders (w : World) (o : Obj) (ho : o = .cells #[.slice none 0 0, .int .i64 0] 25) :
    ((w.alloc o).alloc o).heap[w.heap.size]? = some (.cells #[.slice none 0 0, .int .i64 0] 25 (0, 0)) ∧ ((w.alloc o).alloc o).heap[w.heap.size + 1]? = some (.cells #[.slice none 0 0, .int .i64 0] 25 (0, 0)) ∧ Below w.heap.size w ((w.alloc o).alloc o) ∧ ((w.alloc o).alloc o).heap.size = w.heap.size + 2 := by
  subst ho
  refine ⟨?_, ?_, ((Below.refl _ _).alloc (Nat.le_refl _) _).alloc (by simp) _, by simp⟩
  · rw [Below.heap_alloc _ _ _ (by simp)]
    exact heap_alloc_new w _
  · have := heap_alloc_new (w.alloc (.cells #[.slice none 0 0, .int .i64 0] 25)) (.cells #[.slice none 0 0, .int .i64 0] 25)
    rwa [World.size_alloc] at this

theorem Ow.shape {B : Nat} {w : World} {v : Value} {rs : List Int} (h : Ow B w v rs) : ∃ ao cap, v = .slice ao rs.length cap := by
  obtain ⟨ao, cap, rfl, _⟩ := h
  exact ⟨ao, cap, rfl⟩

theorem LendS.lt {w : World} {L g : Nat} {xs : List Int} (h : LendS w L g xs) : g < w.heap.size := by
  obtain ⟨_, cur, hh, _⟩ := h
  exact lt_of_heap hh

set_option maxHeartbeats 1000000 in
theorem trims_short (w : World) (a0 a1 : Option Addr) (n0 n1 c0 c1 : Nat) (xs ys : List Int) (hx : Sl w (.slice a0 n0 c0) xs) (hy : Sl w (.slice a1 n1 c1) ys) (h : ¬ 1500 < (n0 : Int) + n1) :
    Calls Try.prog 3 #[.slice a0 n0 c0, .slice a1 n1 c1] w fun e w' => e = .returned (.bool true) ∧ Below w.heap.size w w' := by
  obtain ⟨rfl, _, _, hlx⟩ := hx.parts
  obtain ⟨rfl, _, _, _⟩ := hy.parts
  have HLX := hide hlx
  have lx := hide hx.lt
  have ly := hide hy.lt
  have HB := Below.refl w.heap.size w
  clear hlx
  go_enter Try.func3, Try.ntmps3
  go_wp2_with fail
  refine (awake_any _).mono ?_
  rintro e w1 ⟨rfl, hb1⟩
  replace HB := HB.trans (hb1.mono HB.size)
  replace hx := hx.below hb1
  replace hy := hy.below hb1
  go_wp2_with fail
  have L := hide (lenders w1 _ rfl)
  have hs1 := HB.size
  replace hx := hx.below L.out.2.2.1
  replace hy := hy.below L.out.2.2.1
  refine (lend_any _ _ _ _ _ _ _ xs L.out.1 hx (by omega) (fun h0 b off e => by have := lx.out h0 b off e; omega)).mono ?_
  rintro e w2 ⟨rfl, S1, t2⟩
  have hLs := L.out.2.2.2
  rw [hLs] at S1 ⊢
  replace HB : Below w.heap.size w w2 := HB.trans ((L.out.2.2.1.mono HB.size).trans (t2.below HB.size (by omega)))
  replace hx := hx.touch t2 (fun h0 b off e => by have := lx.out h0 b off e; omega)
  replace hy := hy.touch t2 (fun h0 b off e => by have := ly.out h0 b off e; omega)
  have hL2 := hide ((t2.other (w1.heap.size + 1) (by omega) (by omega)).trans L.out.2.1)
  have z2 := S1.lt
  clear t2 hLs L
  go_wp2_with fail
  refine (lend_any _ _ _ _ _ _ _ ys hL2.out hy (by omega) (fun h0 b off e => by have := ly.out h0 b off e; omega)).mono ?_
  rintro e w3 ⟨rfl, S2, t3⟩
  replace HB := HB.trans (t3.below (by omega) (by omega))
  replace hx := hx.touch t3 (fun h0 b off e => by have := lx.out h0 b off e; omega)
  replace hy := hy.touch t3 (fun h0 b off e => by have := ly.out h0 b off e; omega)
  replace S1 := S1.touch t3 (by omega) (by omega)
  have z3 := S2.lt
  clear t3 hL2
  go_wp2_with fail
  refine (trim_any _ _ _ _ xs (S1.sl (by omega)) (by omega)).mono ?_
  rintro e w4 ⟨v4, rfl, o4, hb4⟩
  replace HB := HB.trans (hb4.mono HB.size)
  replace hx := hx.below hb4
  replace hy := hy.below hb4
  replace S1 := S1.below hb4
  replace S2 := S2.below hb4
  obtain ⟨r4, o4, c4, e4⟩ : Is w3.heap.size w4 v4 (val xs) := ⟨_, o4, canon_trim HLX.out, val_take_tl xs⟩
  obtain ⟨p4, q4, rfl⟩ := o4.shape
  have C4 := hide (And.intro c4 e4)
  have z4 := hb4.size
  clear c4 e4
  go_wp2_with fail
  refine (cmp_any _ _ _ _ _ _ _ xs ys (S1.sl (by omega)) (S2.sl (by omega))).mono ?_
  rintro e w5 ⟨rfl, hb5⟩
  replace HB := HB.trans (hb5.mono HB.size)
  replace hx := hx.below hb5
  replace hy := hy.below hb5
  replace S1 := S1.below hb5
  replace S2 := S2.below hb5
  replace o4 := o4.below hb5
  have z5 := hb5.size
  go_wp2_with fail
  refine (bits_any _ _ _ _ xs (S1.sl (by omega)) (by omega)).mono ?_
  rintro e w6 ⟨k6, rfl, t6, rfl⟩
  go_wp2_with fail
  refine (back_any _ _ _ _ _ _ xs S1 (by omega) hx (by omega) (fun h0 b off e => by have := lx.out h0 b off e; omega)).mono ?_
  rintro e w7 ⟨rfl, t7⟩
  replace HB := HB.trans (t7.below (by omega) (by omega))
  replace hx := hx.touch t7 (fun h0 b off e => by have := lx.out h0 b off e; omega)
  replace hy := hy.touch t7 (fun h0 b off e => by have := ly.out h0 b off e; omega)
  replace S2 := S2.touch t7 (by omega) (by omega)
  replace o4 := o4.touch t7 (by omega)
  have z7 := t7.size
  clear t7 S1
  go_wp2_with fail
  refine (back_any _ _ _ _ _ _ ys S2 (by omega) hy (by omega) (fun h0 b off e => by have := ly.out h0 b off e; omega)).mono ?_
  rintro e w8 ⟨rfl, t8⟩
  replace HB := HB.trans (t8.below (by omega) (by omega))
  replace hx := hx.touch t8 (fun h0 b off e => by have := lx.out h0 b off e; omega)
  replace hy := hy.touch t8 (fun h0 b off e => by have := ly.out h0 b off e; omega)
  replace o4 := o4.touch t8 (by omega)
  clear t8 S2
  go_wp2_with fail
  refine (Dm.rtrim_g _ _ _ _ xs hx (by omega)).mono ?_
  rintro e w9 ⟨p9, q9, r9, rfl, G9, l9, hb9⟩
  replace HB := HB.trans (hb9.mono HB.size)
  replace hx := hx.below hb9
  replace hy := hy.below hb9
  replace o4 := o4.below hb9
  go_wp2_with fail
  refine (same_g _ _ _ _ _ r4 r9 _ _ ⟨o4.sl, C4.out⟩ G9 rfl).mono ?_
  rintro e w10 ⟨rfl, hb10⟩
  replace HB := HB.trans (hb10.mono HB.size)
  replace hx := hx.below hb10
  replace hy := hy.below hb10
  go_wp2_with fail
  refine (Dm.rcmp_any _ _ _ _ _ _ _ xs ys hx hy (by omega) (by omega)).mono ?_
  rintro e w11 ⟨rfl, hb11⟩
  replace HB := HB.trans (hb11.mono HB.size)
  replace hx := hx.below hb11
  go_wp2_with fail
  refine (Dm.rbits_any _ _ _ _ xs hx (by omega)).mono ?_
  rintro e w12 ⟨k12, rfl, t12, hb12⟩
  replace HB := HB.trans (hb12.mono HB.size)
  have ek : k12 = k6 := isBits_one t12 t6
  subst ek
  clear t12 t6
  go_wp2
  go_ret
  exact ⟨rfl, HB⟩

theorem trims_law (w : World) (a0 : Option Addr) (n0 c0 : Nat) (xs : List Int) (a1 : Option Addr) (n1 c1 : Nat) (ys : List Int)
    (hx : Sl w (.slice a0 n0 c0) xs) (b0 : n0 ≤ 35184372088832) (hy : Sl w (.slice a1 n1 c1) ys) (b1 : n1 ≤ 35184372088832) :
    Calls Try.prog 3 #[.slice a0 n0 c0, .slice a1 n1 c1] w fun e w' => e = .returned (.bool true) ∧ Below w.heap.size w w' := by
  by_cases h : 1500 < (n0 : Int) + n1
  · exact trims_long w a0 a1 n0 n1 c0 c1 h b0 b1
  · exact trims_short w a0 a1 n0 n1 c0 c1 xs ys hx hy h

end Lm
end Go.Proofs.Ytfokkkcegkbomaa
