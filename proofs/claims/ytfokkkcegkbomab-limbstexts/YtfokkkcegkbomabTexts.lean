/-
  LimbsTexts answers true, whatever text and list of limbs it is handed.
-/
import Derived.Test.YtfokkkcegkbomabRParse
import Derived.Test.YtfokkkcegkbomabBack
namespace Go.Proofs.Ytfokkkcegkbomab
namespace Lm
open Go.RowKit
open Dm (Err Fine err_one err_fine err_ne)

/-- What Parse answers, with the error's number. -/
theorem parse_e (w : World) (s : ByteArray) :
    Calls Try.prog 18 #[.string s] w fun e w' => ((∃ k : Int, Err s k ∧ e = .returned (.tuple #[.slice none 0 0, .int .i64 k])) ∨ (Fine s ∧ ∃ v, e = .returned (.tuple #[v, .int .i64 0]) ∧ Is w.heap.size w' v (dval (bytesOf s)))) ∧ Below w.heap.size w w' := by
  by_cases h1 : (5120 : Int) < (s.size : Int)
  · refine (parse_long w s h1).mono ?_
    rintro e w' ⟨rfl, hb⟩
    exact ⟨.inl ⟨2, .inl ⟨rfl, by omega⟩, rfl⟩, hb⟩
  · by_cases h2 : s.size = 0
    · refine (parse_none w s h2).mono ?_
      rintro e w' ⟨rfl, hb⟩
      exact ⟨.inl ⟨10, .inr ⟨rfl, by omega, fun hx => by omega⟩, rfl⟩, hb⟩
    · refine (parse_some w s (by omega) (by omega)).mono ?_
      rintro e w' ⟨hr, hb⟩
      rcases hr with ⟨hd, v, rfl, hi⟩ | ⟨hn, rfl⟩
      · exact ⟨.inr ⟨⟨by omega, by omega, hd⟩, v, rfl, hi⟩, hb⟩
      · exact ⟨.inl ⟨10, .inr ⟨rfl, by omega, fun hx => hn hx.2⟩, rfl⟩, hb⟩

set_option maxHeartbeats 400000 in
theorem num_any (w : World) (k : Int) : Calls Try.prog 22 #[.int .i64 k] w fun e w' => e = .returned (.int .i64 k) ∧ w' = w := by
  go_enter Try.func22, Try.ntmps22
  go_wp2
  go_ret
  exact ⟨rfl, rfl⟩

set_option maxHeartbeats 400000 in
theorem texts_long (w : World) (s : ByteArray) (a1 : Option Addr) (n1 c1 : Nat) (h : 1500 < (n1 : Int)) :
    Calls Try.prog 4 #[.string s, .slice a1 n1 c1] w fun e w' => e = .returned (.bool true) ∧ Below w.heap.size w w' := by
  go_enter Try.func4, Try.ntmps4
  go_wp2_with fail
  refine (awake_any _).mono ?_
  rintro e w1 ⟨rfl, hb⟩
  go_wp2
  go_ret
  exact ⟨rfl, hb⟩

theorem Sl.lt {w : World} {a : Option Addr} {n c : Nat} {zs : List Int} (h : Sl w (.slice a n c) zs) (h0 : 0 < zs.length) (b off : Nat) (e : a = some ⟨b, off, none⟩) : b < w.heap.size := by
  obtain ⟨b', off', e', hc⟩ := h.cells h0
  rw [e] at e'
  simp only [Option.some.injEq, Addr.mk.injEq, and_true] at e'
  have := lt_of_cell (hc 0 h0)
  omega

theorem LendS.lt {w : World} {L g : Nat} {xs : List Int} (h : LendS w L g xs) : g < w.heap.size := by
  obtain ⟨_, cur, hh, _⟩ := h
  exact lt_of_heap hh

/-- A lender, new. -/
theorem lender (w : World) (o : Obj) (ho : o = .cells #[.slice none 0 0, .int .i64 0] 32) :
    (w.alloc o).heap[w.heap.size]? = some (.cells #[.slice none 0 0, .int .i64 0] 32 (0, 0)) ∧ Below w.heap.size w (w.alloc o) ∧ (w.alloc o).heap.size = w.heap.size + 1 := by
  subst ho
  exact ⟨heap_alloc_new w _, (Below.refl _ _).alloc (Nat.le_refl _) _, by simp⟩

theorem Ow.shape {B : Nat} {w : World} {v : Value} {rs : List Int} (h : Ow B w v rs) : ∃ ao cap, v = .slice ao rs.length cap := by
  obtain ⟨ao, cap, rfl, _⟩ := h
  exact ⟨ao, cap, rfl⟩

set_option maxHeartbeats 1000000 in
theorem texts_short (w : World) (s : ByteArray) (a1 : Option Addr) (n1 c1 : Nat) (xs : List Int) (hx : Sl w (.slice a1 n1 c1) xs) (h : ¬ 1500 < (n1 : Int)) :
    Calls Try.prog 4 #[.string s, .slice a1 n1 c1] w fun e w' => e = .returned (.bool true) ∧ Below w.heap.size w w' := by
  obtain ⟨rfl, _, _, _⟩ := hx.parts
  have lx := hide hx.lt
  have HB := Below.refl w.heap.size w
  go_enter Try.func4, Try.ntmps4
  go_wp2_with fail
  refine (awake_any _).mono ?_
  rintro e w1 ⟨rfl, hb1⟩
  replace HB := HB.trans (hb1.mono HB.size)
  replace hx := hx.below hb1
  go_wp2_with fail
  have L := hide (lender w1 _ rfl)
  have hs1 := HB.size
  replace hx := hx.below L.out.2.1
  refine (lend_any _ _ _ _ _ _ _ xs L.out.1 hx (by omega) (fun h0 b off e => by have := lx.out h0 b off e; omega)).mono ?_
  rintro e w2 ⟨rfl, S1, t2⟩
  have hLs := L.out.2.2
  rw [hLs] at S1 ⊢
  replace HB : Below w.heap.size w w2 := HB.trans ((L.out.2.1.mono HB.size).trans (t2.below HB.size (by omega)))
  replace hx := hx.touch t2 (fun h0 b off e => by have := lx.out h0 b off e; omega)
  have z2 := S1.lt
  clear t2 hLs L
  go_wp2_with fail
  refine (text_any _ _ _ _ xs (S1.sl (by omega)) (by omega)).mono ?_
  rintro e w3 ⟨ds, rfl, hd, hb3⟩
  replace HB := HB.trans (hb3.mono HB.size)
  replace hx := hx.below hb3
  replace S1 := S1.below hb3
  have z3 := hb3.size
  go_wp2_with fail
  refine (parse_e _ s).mono ?_
  rintro e w4 ⟨hr, hb4⟩
  replace HB := HB.trans (hb4.mono HB.size)
  replace hx := hx.below hb4
  replace S1 := S1.below hb4
  have z4 := hb4.size
  rcases hr with ⟨k, hk, rfl⟩ | ⟨hf, v4, rfl, i4⟩
  · clear hb4
    go_wp2_with fail
    refine (Dm.rparse_any _ s).mono ?_
    rintro e w5 ⟨k5, v5, x5, rfl, i5, hc5, hb5⟩
    replace HB := HB.trans (hb5.mono HB.size)
    replace hx := hx.below hb5
    replace S1 := S1.below hb5
    have z5 := hb5.size
    have ek : k5 = k := by
      rcases hc5 with ⟨he, _⟩ | ⟨hf, _⟩
      · exact err_one he hk
      · exact absurd hf (fun hf => err_fine hk hf)
    subst ek
    have k0 := (err_ne hk).1
    have k1 := (err_ne hk).2
    obtain ⟨r5, o5, _, _⟩ := i5
    obtain ⟨p5, q5, rfl⟩ := o5.shape
    clear hc5 hb5 o5 hk
    go_wp2_with fail
    refine (back_any _ _ _ _ _ _ xs S1 (by omega) hx (by omega) (fun h0 b off e => by have := lx.out h0 b off e; omega)).mono ?_
    rintro e w7 ⟨rfl, t7⟩
    replace HB := HB.trans (t7.below (by omega) (by omega))
    replace hx := hx.touch t7 (fun h0 b off e => by have := lx.out h0 b off e; omega)
    clear t7 S1
    go_wp2_with fail
    refine (Dm.rtext_any _ _ _ _ xs hx (by omega)).mono ?_
    rintro e w8 ⟨ds8, rfl, hd8, hb8⟩
    replace HB := HB.trans (hb8.mono HB.size)
    have e8 := isDec_one hd8 hd
    subst e8
    clear hd8 hd
    go_wp2_with fail
    refine (num_any _ _).mono ?_
    rintro e w9 ⟨rfl, rfl⟩
    go_wp2
    go_ret
    exact ⟨rfl, HB⟩
  · obtain ⟨r4, o4, c4, e4⟩ := i4
    obtain ⟨p4, q4, rfl⟩ := o4.shape
    have C4 := hide (And.intro c4 e4)
    clear hb4 c4 e4
    go_wp2_with fail
    refine (Dm.rparse_any _ s).mono ?_
    rintro e w5 ⟨k5, v5, x5, rfl, i5, hc5, hb5⟩
    replace HB := HB.trans (hb5.mono HB.size)
    replace hx := hx.below hb5
    replace S1 := S1.below hb5
    replace o4 := o4.below hb5
    have z5 := hb5.size
    obtain ⟨ek, ex⟩ : k5 = 0 ∧ x5 = dval (bytesOf s) := by
      rcases hc5 with ⟨he, _⟩ | ⟨_, h2, h3⟩
      · exact absurd hf (fun hf => err_fine he hf)
      · exact ⟨h2, h3⟩
    subst ek ex
    obtain ⟨r5, o5, c5, e5⟩ := i5
    obtain ⟨p5, q5, rfl⟩ := o5.shape
    have C5 := hide (And.intro c5 e5)
    clear hc5 hb5 c5 e5 hf
    go_wp2_with fail
    refine (back_any _ _ _ _ _ _ xs S1 (by omega) hx (by omega) (fun h0 b off e => by have := lx.out h0 b off e; omega)).mono ?_
    rintro e w7 ⟨rfl, t7⟩
    replace HB := HB.trans (t7.below (by omega) (by omega))
    replace hx := hx.touch t7 (fun h0 b off e => by have := lx.out h0 b off e; omega)
    replace o4 := o4.touch t7 (by omega)
    replace o5 := o5.touch t7 (by omega)
    clear t7 S1
    go_wp2_with fail
    refine (Dm.rtext_any _ _ _ _ xs hx (by omega)).mono ?_
    rintro e w8 ⟨ds8, rfl, hd8, hb8⟩
    replace HB := HB.trans (hb8.mono HB.size)
    replace o4 := o4.below hb8
    replace o5 := o5.below hb8
    have e8 := isDec_one hd8 hd
    subst e8
    clear hd8 hd
    go_wp2_with fail
    refine (num_any _ _).mono ?_
    rintro e w9 ⟨rfl, rfl⟩
    go_wp2_with fail
    refine (same_g _ _ _ _ _ r4 r5 _ _ ⟨o4.sl, C4.out⟩ ⟨o5.sl, C5.out⟩ rfl).mono ?_
    rintro e w10 ⟨rfl, hb10⟩
    replace HB := HB.trans (hb10.mono HB.size)
    go_wp2
    go_ret
    exact ⟨rfl, HB⟩

theorem texts_law (w : World) (s : ByteArray) (a1 : Option Addr) (n1 c1 : Nat) (xs : List Int) (_hs : s.size ≤ maxLen) (hx : Sl w (.slice a1 n1 c1) xs) (_b1 : n1 ≤ 35184372088832) :
    Calls Try.prog 4 #[.string s, .slice a1 n1 c1] w fun e w' => e = .returned (.bool true) ∧ Below w.heap.size w w' := by
  by_cases h : 1500 < (n1 : Int)
  · exact texts_long w s a1 n1 c1 h
  · exact texts_short w s a1 n1 c1 xs hx h

end Lm
end Go.Proofs.Ytfokkkcegkbomab
