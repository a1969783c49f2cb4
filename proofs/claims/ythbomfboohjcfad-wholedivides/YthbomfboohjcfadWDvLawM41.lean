/-
  What the laws with lenders and books use beside their contracts. Plain facts on numbers written in digits to the base 10000: what a list of limbs is worth, its form without limbs 0 on top, and that this form is one. No program is named here. What the contracts say of slices of digits in memory: that a slice reads as a list of digits, that a slice lies in memory that the call itself made, and what a store does to it. The contracts of the calls that only read: the reference's cut.
-/
import Derived.Test.YthbomfboohjcfadWDvLawM40
import Derived.Test.YthbomfboohjcfadProg
import Derived.WalkKit
import Derived.WalkSpells
import Derived.WalkLawsBesides
namespace Go.Proofs.Ythbomfboohjcfad
namespace Lm
open Go.RowKit

theorem Sl.lt {w : World} {a : Option Addr} {n c : Nat} {zs : List Int} (h : Sl w (.slice a n c) zs) (h0 : 0 < zs.length) (b off : Nat) (e : a = some ⟨b, off, none⟩) : b < w.heap.size := by
  obtain ⟨b', off', e', hc⟩ := h.cells h0
  rw [e] at e'
  simp only [Option.some.injEq, Addr.mk.injEq, and_true] at e'
  have := lt_of_cell (hc 0 h0)
  omega

/-- Two lenders, side by side, new. -/
theorem lenders (w : World) (o : Obj) (ho : o = .cells #[.slice none 0 0, .int .i64 0] 28) :
    ((w.alloc o).alloc o).heap[w.heap.size]? = some (.cells #[.slice none 0 0, .int .i64 0] 28 (0, 0)) ∧ ((w.alloc o).alloc o).heap[w.heap.size + 1]? = some (.cells #[.slice none 0 0, .int .i64 0] 28 (0, 0)) ∧ Below w.heap.size w ((w.alloc o).alloc o) ∧ ((w.alloc o).alloc o).heap.size = w.heap.size + 2 := by
  subst ho
  refine ⟨?_, ?_, ((Below.refl _ _).alloc (Nat.le_refl _) _).alloc (by simp) _, by simp⟩
  · rw [Below.heap_alloc _ _ _ (by simp)]
    exact heap_alloc_new w _
  · have := heap_alloc_new (w.alloc (.cells #[.slice none 0 0, .int .i64 0] 28)) (.cells #[.slice none 0 0, .int .i64 0] 28)
    rwa [World.size_alloc] at this

theorem LendS.lt {w : World} {L g : Nat} {xs : List Int} (h : LendS w L g xs) : g < w.heap.size := by
  obtain ⟨_, cur, hh, _⟩ := h
  exact lt_of_heap hh

/-- A new book in a new block. -/
theorem book_new (w : World) : (w.alloc (.cells #[.slice none 0 0, .slice none 0 0] 36)).heap[w.heap.size]? = some (.cells #[.slice none 0 0, .slice none 0 0] 36 (0, 0)) ∧ Below w.heap.size w (w.alloc (.cells #[.slice none 0 0, .slice none 0 0] 36)) ∧ (w.alloc (.cells #[.slice none 0 0, .slice none 0 0] 36)).heap.size = w.heap.size + 1 :=
  ⟨heap_alloc_new w _, (Below.refl _ _).alloc (Nat.le_refl _) _, by simp⟩

end Lm
end Go.Proofs.Ythbomfboohjcfad

namespace Go.Proofs.Ythbomfboohjcfad
namespace Dm

/-- Each number of the list is a limb. -/
def Limb (zs : List Int) : Prop := ∀ z ∈ zs, 0 ≤ z ∧ z < 10000

/-- The base's powers. -/
def pw : Nat → Int
  | 0 => 1
  | n + 1 => 10000 * pw n

/-- What a list of limbs is worth, the lowest limb first. -/
def val : List Int → Int
  | [] => 0
  | z :: zs => z + 10000 * val zs

/-- How long the list is without the limbs 0 on top. -/
def tl : List Int → Nat
  | [] => 0
  | z :: zs => if tl zs = 0 then (if z = 0 then 0 else 1) else tl zs + 1

/-- Limbs, and none is 0 on top. -/
def Canon (zs : List Int) : Prop := Limb zs ∧ tl zs = zs.length

theorem pw_pos (n : Nat) : 1 ≤ pw n := by
  induction n with
  | zero => simp [pw]
  | succ n ih => simp only [pw]; omega

theorem pw_add (m n : Nat) : pw (m + n) = pw m * pw n := by
  induction m with
  | zero => simp [pw]
  | succ m ih => rw [Nat.succ_add]; simp only [pw, ih, Int.mul_assoc]

theorem pw_mono {m n : Nat} (h : m ≤ n) : pw m ≤ pw n := by
  obtain ⟨k, rfl⟩ := Nat.le.dest h
  rw [pw_add]
  have h1 := pw_pos m
  have h2 := pw_pos k
  have : pw m * 1 ≤ pw m * pw k := Int.mul_le_mul_of_nonneg_left h2 (by omega)
  omega

theorem limb_nil : Limb [] := fun _ h => by cases h
theorem limb_cons {z : Int} {zs : List Int} : Limb (z :: zs) ↔ (0 ≤ z ∧ z < 10000) ∧ Limb zs := by
  constructor
  · intro h; exact ⟨h z (by simp), fun y hy => h y (by simp [hy])⟩
  · rintro ⟨h1, h2⟩ y hy
    simp at hy
    rcases hy with rfl | hy
    · exact h1
    · exact h2 y hy

theorem limb_append {xs ys : List Int} : Limb (xs ++ ys) ↔ Limb xs ∧ Limb ys := by
  constructor
  · intro h; exact ⟨fun y hy => h y (by simp [hy]), fun y hy => h y (by simp [hy])⟩
  · rintro ⟨h1, h2⟩ y hy
    simp at hy
    rcases hy with hy | hy
    · exact h1 y hy
    · exact h2 y hy

theorem limb_take {zs : List Int} (h : Limb zs) (k : Nat) : Limb (zs.take k) := fun y hy => h y (List.mem_of_mem_take hy)
theorem limb_drop {zs : List Int} (h : Limb zs) (k : Nat) : Limb (zs.drop k) := fun y hy => h y (List.mem_of_mem_drop hy)

theorem limb_getD {zs : List Int} (h : Limb zs) (i : Nat) : 0 ≤ zs.getD i 0 ∧ zs.getD i 0 < 10000 := by
  rw [List.getD_eq_getElem?_getD]
  cases hi : zs[i]? with
  | none => simp
  | some z => simpa using h z (List.mem_of_getElem? hi)

theorem limb_get? {zs : List Int} (h : Limb zs) (i : Nat) : 0 ≤ zs[i]?.getD 0 ∧ zs[i]?.getD 0 < 10000 := by
  have := limb_getD h i
  rwa [List.getD_eq_getElem?_getD] at this

theorem limb_zeros (n : Nat) : Limb (List.replicate n 0) := fun y hy => by
  have := List.eq_of_mem_replicate hy
  omega

theorem val_append (xs ys : List Int) : val (xs ++ ys) = val xs + pw xs.length * val ys := by
  induction xs with
  | nil => simp [val, pw]
  | cons x xs ih =>
    simp only [List.cons_append, val, List.length_cons, pw, ih, Int.mul_add, Int.mul_assoc]
    omega

theorem val_zeros (n : Nat) : val (List.replicate n 0) = 0 := by
  induction n with
  | zero => rfl
  | succ n ih => simp [List.replicate_succ, val, ih]

theorem val_bounds {zs : List Int} (h : Limb zs) : 0 ≤ val zs ∧ val zs < pw zs.length := by
  induction zs with
  | nil => simp [val, pw]
  | cons z zs ih =>
    have h' := limb_cons.1 h
    have := ih h'.2
    simp only [val, List.length_cons, pw]
    omega

theorem tl_le (zs : List Int) : tl zs ≤ zs.length := by
  induction zs with
  | nil => simp [tl]
  | cons z zs ih =>
    simp only [tl, List.length_cons]
    repeat' split
    all_goals omega

theorem tl_zero {zs : List Int} (h : tl zs = 0) : val zs = 0 := by
  induction zs with
  | nil => rfl
  | cons z zs ih =>
    simp only [tl] at h
    by_cases h0 : tl zs = 0
    · rw [if_pos h0] at h
      by_cases hz : z = 0
      · simp [val, ih h0, hz]
      · rw [if_neg hz] at h; omega
    · rw [if_neg h0] at h; omega

/-- Without the limbs 0 on top a list is worth the same. -/
theorem val_take_tl (zs : List Int) : val (zs.take (tl zs)) = val zs := by
  induction zs with
  | nil => rfl
  | cons z zs ih =>
    simp only [tl]
    by_cases h0 : tl zs = 0
    · rw [if_pos h0]
      by_cases hz : z = 0
      · simp [hz, val, tl_zero h0]
      · simp [hz, val, tl_zero h0]
    · rw [if_neg h0]
      simp [val, ih]

theorem tl_take_tl (zs : List Int) : tl (zs.take (tl zs)) = tl zs := by
  induction zs with
  | nil => rfl
  | cons z zs ih =>
    by_cases h0 : tl zs = 0
    · by_cases hz : z = 0
      · simp [tl, h0, hz]
      · simp [tl, h0, hz]
    · have e : tl (z :: zs) = tl zs + 1 := by simp [tl, h0]
      rw [e, List.take_succ_cons]
      simp [tl, ih, h0]

theorem canon_trim {zs : List Int} (h : Limb zs) : Canon (zs.take (tl zs)) :=
  ⟨limb_take h _, by rw [tl_take_tl, List.length_take, Nat.min_eq_left (tl_le zs)]⟩

theorem canon_nil : Canon [] := ⟨limb_nil, rfl⟩

theorem tl_le_of_zero {zs : List Int} {n : Nat} (h : tl zs ≤ n + 1) (h0 : zs.getD n 0 = 0) : tl zs ≤ n := by
  induction zs generalizing n with
  | nil => simp [tl]
  | cons z zs ih =>
    simp only [tl] at h ⊢
    by_cases ht : tl zs = 0
    · rw [if_pos ht] at h ⊢
      by_cases hz : z = 0
      · rw [if_pos hz]; omega
      · rw [if_neg hz]
        cases n with
        | zero => simp at h0; exact absurd h0 hz
        | succ n => omega
    · rw [if_neg ht] at h ⊢
      cases n with
      | zero => omega
      | succ n =>
        have := ih (n := n) (by omega) (by simpa using h0)
        omega

theorem tl_gt {zs : List Int} {n : Nat} (h0 : zs.getD n 0 ≠ 0) : n + 1 ≤ tl zs := by
  induction zs generalizing n with
  | nil => simp at h0
  | cons z zs ih =>
    cases n with
    | zero =>
      simp at h0
      simp only [tl, h0, if_false]
      split <;> omega
    | succ n =>
      have := ih (n := n) (by simpa using h0)
      simp only [tl]
      rw [if_neg (by omega)]
      omega

theorem canon_cons {z : Int} {zs : List Int} (h : Canon (z :: zs)) : Canon zs ∧ (zs = [] → z ≠ 0) := by
  obtain ⟨h1, h2⟩ := h
  have hl := tl_le zs
  simp only [tl, List.length_cons] at h2
  refine ⟨⟨(limb_cons.1 h1).2, ?_⟩, ?_⟩
  · by_cases h0 : tl zs = 0
    · rw [if_pos h0] at h2
      by_cases hz : z = 0
      · rw [if_pos hz] at h2; omega
      · rw [if_neg hz] at h2; omega
    · rw [if_neg h0] at h2; omega
  · rintro rfl hz
    simp [tl, hz] at h2

theorem canon_low {zs : List Int} (h : Canon zs) (h0 : zs ≠ []) : pw (zs.length - 1) ≤ val zs := by
  induction zs with
  | nil => exact absurd rfl h0
  | cons z zs ih =>
    have hc := canon_cons h
    have hz := (limb_cons.1 h.1).1
    cases zs with
    | nil =>
      have := hc.2 rfl
      simp [val, pw]
      omega
    | cons y ys =>
      have := ih hc.1 (by simp)
      simp only [List.length_cons, Nat.add_sub_cancel, pw] at this ⊢
      rw [val]
      omega

/-- Two lists without limbs 0 on top that are worth the same are one. -/
theorem canon_one {xs ys : List Int} (hx : Canon xs) (hy : Canon ys) (h : val xs = val ys) : xs = ys := by
  induction xs generalizing ys with
  | nil =>
    cases ys with
    | nil => rfl
    | cons y ys =>
      have := canon_low hy (by simp)
      have := pw_pos ((y :: ys).length - 1)
      have h0 : 0 = val (y :: ys) := h
      omega
  | cons x xs ih =>
    cases ys with
    | nil =>
      have := canon_low hx (by simp)
      have := pw_pos ((x :: xs).length - 1)
      have h0 : val (x :: xs) = 0 := h
      omega
    | cons y ys =>
      have h1 := (limb_cons.1 hx.1).1
      have h2 := (limb_cons.1 hy.1).1
      simp only [val] at h
      have e : x = y := by omega
      have e' : val xs = val ys := by omega
      rw [e, ih (canon_cons hx).1 (canon_cons hy).1 e']

theorem canon_zero {zs : List Int} (h : Canon zs) : val zs = 0 ↔ zs = [] := by
  constructor
  · intro h0; exact canon_one h canon_nil h0
  · rintro rfl; rfl

theorem canon_lt {xs ys : List Int} (hx : Canon xs) (hy : Canon ys) (h : xs.length < ys.length) : val xs < val ys := by
  have h1 := (val_bounds hx.1).2
  have h2 := canon_low hy (by intro e; subst e; simp at h)
  have h3 := pw_mono (m := xs.length) (n := ys.length - 1) (by omega)
  omega

theorem val_pos_tl {zs : List Int} (h : Limb zs) (h0 : 0 < tl zs) : 0 < val zs := by
  have hl : (zs.take (tl zs)).length = tl zs := by have := tl_le zs; rw [List.length_take]; omega
  have h1 := canon_low (canon_trim h) (by intro e; rw [e] at hl; simp at hl; omega)
  have h2 := pw_pos ((zs.take (tl zs)).length - 1)
  rw [val_take_tl] at h1
  omega

/-- Of two lists of one length that are the same above place k, the one with the lower limb at k is worth less. -/
theorem val_lt_at {xs ys : List Int} {k : Nat} (hx : Limb xs) (hy : Limb ys) (hl : xs.length = ys.length) (hk : k < xs.length) (hd : xs.drop (k + 1) = ys.drop (k + 1)) (h : xs.getD k 0 < ys.getD k 0) : val xs < val ys := by
  induction k generalizing xs ys with
  | zero =>
    cases xs with
    | nil => simp at hk
    | cons x xs =>
      cases ys with
      | nil => simp at hl
      | cons y ys =>
        simp at hd h
        subst hd
        simp only [val]
        omega
  | succ k ih =>
    cases xs with
    | nil => simp at hk
    | cons x xs =>
      cases ys with
      | nil => simp at hl
      | cons y ys =>
        have h1 := limb_cons.1 hx
        have h2 := limb_cons.1 hy
        have := ih h1.2 h2.2 (by simpa using hl) (by simpa using hk) (by simpa using hd) (by simpa using h)
        simp only [val]
        omega

theorem take_succ_getD (zs : List Int) (k : Nat) (h : k < zs.length) : zs.take (k + 1) = zs.take k ++ [zs.getD k 0] := by
  rw [List.take_succ_eq_append_getElem h, List.getD_eq_getElem?_getD, List.getElem?_eq_getElem h]
  rfl

theorem drop_getD (zs : List Int) (k : Nat) (h : k < zs.length) : zs.drop k = zs.getD k 0 :: zs.drop (k + 1) := by
  rw [List.drop_eq_getElem_cons h, List.getD_eq_getElem?_getD, List.getElem?_eq_getElem h]
  rfl

/-- The value of the first k limbs, limbs above the top counted as 0. -/
def vf (zs : List Int) : Nat → Int
  | 0 => 0
  | k + 1 => vf zs k + pw k * zs.getD k 0

theorem vf_take (zs : List Int) (k : Nat) : vf zs k = val (zs.take k) := by
  induction k with
  | zero => simp [vf, val]
  | succ k ih =>
    by_cases h : k < zs.length
    · rw [take_succ_getD zs k h, val_append, vf, ih, List.length_take, Nat.min_eq_left (by omega)]
      simp [val]
    · rw [vf, ih, List.take_of_length_le (by omega), List.take_of_length_le (by omega)]
      have : zs.getD k 0 = 0 := by rw [List.getD_eq_getElem?_getD, List.getElem?_eq_none (by omega)]; rfl
      rw [this]; omega

theorem vf_all (zs : List Int) (k : Nat) (h : zs.length ≤ k) : vf zs k = val zs := by
  rw [vf_take, List.take_of_length_le h]

theorem val_snoc (ps : List Int) (x : Int) : val (ps ++ [x]) = val ps + pw ps.length * x := by
  rw [val_append]; simp [val]

theorem set_snoc (ps zs : List Int) (k : Nat) (x : Int) (hk : ps.length = k) (h : k < zs.length) : (ps ++ zs.drop k).set k x = (ps ++ [x]) ++ zs.drop (k + 1) := by
  subst hk
  rw [drop_getD zs _ h]
  simp

theorem set_cons (zs qs : List Int) (k : Nat) (x : Int) (h : k < zs.length) : (zs.take (k + 1) ++ qs).set k x = zs.take k ++ x :: qs := by
  rw [take_succ_getD zs k h]
  have : (zs.take k).length = k := by rw [List.length_take]; omega
  rw [List.append_assoc, List.set_append_right _ _ (by omega)]
  simp [this]

end Dm
end Go.Proofs.Ythbomfboohjcfad

namespace Go.Proofs.Ythbomfboohjcfad
namespace Dm
open Go.RowKit

theorem hide {p : Prop} (h : p) : Hid p := h

/-- The slice value v reads in w as the digits zs. -/
def Sl (w : World) (v : Value) (zs : List Int) : Prop :=
  ∃ ao cap, v = .slice ao zs.length cap ∧ zs.length ≤ cap ∧ cap ≤ maxLen ∧ Limb zs ∧
    (zs = [] ∨ ∃ b off, ao = some ⟨b, off, none⟩ ∧ ∀ i, i < zs.length → w.cell? ⟨b, off + i, none⟩ = some (.int .i64 (zs.getD i 0)))

/-- Cells of a block from off on are these numbers. -/
def At (cur : Array Value) (k : IntKind) (off : Nat) (zs : List Int) : Prop := ∀ i, i < zs.length → cur[off + i]? = some (.int k (zs.getD i 0))

/-- The slice value v lies, its room too, in a block from B on that nothing freezes, and reads as the digits zs. -/
def Ow (B : Nat) (w : World) (v : Value) (zs : List Int) : Prop :=
  ∃ ao cap, v = .slice ao zs.length cap ∧ zs.length ≤ cap ∧ cap ≤ maxLen ∧ Limb zs ∧
    (cap = 0 ∨ ∃ g off cur, ao = some ⟨g, off, none⟩ ∧ B ≤ g ∧ w.heap[g]? = some (.cells cur 3 (0, 0)) ∧ off + cap ≤ cur.size ∧ At cur .i64 off zs)

/-- w' is w, but that block g holds the cells cur. -/
structure Wr (w w' : World) (g : Nat) (cur : Array Value) (e : TypeId) : Prop where
  os : w'.os = w.os
  tape : w'.tape = w.tape
  output : w'.output = w.output
  size : w'.heap.size = w.heap.size
  here : w'.heap[g]? = some (.cells cur e (0, 0))
  other : ∀ k, k ≠ g → w'.heap[k]? = w.heap[k]?

/-- The slice value v is a list of the call's own without digits 0 on top, worth x. -/
def Is (B : Nat) (w : World) (v : Value) (x : Int) : Prop := ∃ rs, Ow B w v rs ∧ Canon rs ∧ val rs = x

theorem lt_of_cell {w : World} {b off : Nat} {v : Value} (h : w.cell? ⟨b, off, none⟩ = some v) : b < w.heap.size := by
  apply Classical.byContradiction
  intro hn
  have : w.heap[b]? = none := Array.getElem?_eq_none (by omega)
  simp [World.cell?, this] at h

theorem lt_of_heap {w : World} {b : Nat} {o : Obj} (h : w.heap[b]? = some o) : b < w.heap.size := by
  apply Classical.byContradiction
  intro hn
  rw [Array.getElem?_eq_none (by omega)] at h
  cases h

theorem Sl.below {w w' : World} {v : Value} {zs : List Int} (h : Sl w v zs) (hb : Below w.heap.size w w') : Sl w' v zs := by
  obtain ⟨ao, cap, rfl, h1, h2, h3, h4⟩ := h
  refine ⟨ao, cap, rfl, h1, h2, h3, ?_⟩
  rcases h4 with h4 | ⟨b, off, rfl, hc⟩
  · exact .inl h4
  · refine .inr ⟨b, off, rfl, fun i hi => ?_⟩
    have h5 := hc i hi
    rw [hb.cell (p := ⟨b, off + i, none⟩) (lt_of_cell h5)]
    exact h5

theorem Ow.sl {B : Nat} {w : World} {v : Value} {zs : List Int} (h : Ow B w v zs) : Sl w v zs := by
  obtain ⟨ao, cap, rfl, h1, h2, h3, h4⟩ := h
  refine ⟨ao, cap, rfl, h1, h2, h3, ?_⟩
  rcases h4 with h4 | ⟨g, off, cur, rfl, _, hh, hs, ha⟩
  · exact .inl (List.eq_nil_of_length_eq_zero (by omega))
  · exact .inr ⟨g, off, rfl, fun i hi => by rw [cell_of_row w g (off + i) cur _ (0, 0) hh]; exact ha i hi⟩

theorem Ow.mono {B B' : Nat} {w : World} {v : Value} {zs : List Int} (h : Ow B w v zs) (hB : B' ≤ B) : Ow B' w v zs := by
  obtain ⟨ao, cap, rfl, h1, h2, h3, h4⟩ := h
  refine ⟨ao, cap, rfl, h1, h2, h3, ?_⟩
  rcases h4 with h4 | ⟨g, off, cur, rfl, hg, hh, hs, ha⟩
  · exact .inl h4
  · exact .inr ⟨g, off, cur, rfl, by omega, hh, hs, ha⟩

theorem Ow.below {B : Nat} {w w' : World} {v : Value} {zs : List Int} (h : Ow B w v zs) (hb : Below w.heap.size w w') : Ow B w' v zs := by
  obtain ⟨ao, cap, rfl, h1, h2, h3, h4⟩ := h
  refine ⟨ao, cap, rfl, h1, h2, h3, ?_⟩
  rcases h4 with h4 | ⟨g, off, cur, rfl, hg, hh, hs, ha⟩
  · exact .inl h4
  · exact .inr ⟨g, off, cur, rfl, hg, by rw [hb.block g (lt_of_heap hh)]; exact hh, hs, ha⟩

theorem At.set {cur : Array Value} {k : IntKind} {off : Nat} {zs : List Int} (h : At cur k off zs) (j : Nat) (x : Int) : At (cur.setIfInBounds (off + j) (.int k x)) k off (zs.set j x) := by
  intro i hi
  rw [List.length_set] at hi
  have h1 := h i hi
  have hb : off + i < cur.size := by
    apply Classical.byContradiction
    intro hn
    rw [Array.getElem?_eq_none (by omega)] at h1
    cases h1
  rw [Array.getElem?_setIfInBounds, List.getD_eq_getElem?_getD, List.getElem?_set]
  by_cases hj : j = i
  · subst hj
    simp [hi, hb]
  · rw [if_neg (by omega), if_neg hj, h1, List.getD_eq_getElem?_getD]

theorem At.cell {cur : Array Value} {k : IntKind} {off : Nat} {zs : List Int} (h : At cur k off zs) {w : World} {g : Nat} {e : TypeId} (hh : w.heap[g]? = some (.cells cur e (0, 0))) (i : Nat) (hi : i < zs.length) : w.cell? ⟨g, off + i, none⟩ = some (.int k (zs.getD i 0)) := by
  rw [cell_of_row w g (off + i) cur _ (0, 0) hh]; exact h i hi

theorem Wr.refl {w : World} {g : Nat} {cur : Array Value} {e : TypeId} (h : w.heap[g]? = some (.cells cur e (0, 0))) : Wr w w g cur e := ⟨rfl, rfl, rfl, rfl, h, fun _ _ => rfl⟩

theorem Wr.drew {w w' : World} {g : Nat} {cur : Array Value} {e : TypeId} (h : Wr w w' g cur e) : Wr w w'.drew g cur e := ⟨h.os, h.tape, h.output, h.size, h.here, h.other⟩

theorem Wr.drewN {w w' : World} {g : Nat} {cur : Array Value} {e : TypeId} (h : Wr w w' g cur e) (n : Nat) : Wr w (w'.drewN n) g cur e := ⟨h.os, h.tape, h.output, h.size, h.here, h.other⟩

theorem Wr.set {w w' : World} {g : Nat} {cur : Array Value} {e : TypeId} (h : Wr w w' g cur e) (i : Nat) (u : Value) : Wr w (w'.setCell ⟨g, i, none⟩ u) g (cur.setIfInBounds i u) e :=
  ⟨h.os, h.tape, h.output, by simp [World.setCell, h.size], heap_setCell_same w' g i cur e u h.here, fun k hk => (heap_setCell_other w' ⟨g, i, none⟩ k u hk).trans (h.other k hk)⟩

theorem Wr.trans {w w' w'' : World} {g : Nat} {cur cur' : Array Value} {e : TypeId} (h : Wr w w' g cur e) (h' : Wr w' w'' g cur' e) : Wr w w'' g cur' e :=
  ⟨h'.os.trans h.os, h'.tape.trans h.tape, h'.output.trans h.output, h'.size.trans h.size, h'.here, fun k hk => (h'.other k hk).trans (h.other k hk)⟩

theorem Wr.free {w w' : World} {g : Nat} {cur : Array Value} {e : TypeId} (h : Wr w w' g cur e) (i : Nat) : w'.frozen? ⟨g, i, none⟩ = false := frozen_of_row w' g i cur e h.here

theorem Wr.below {w w' : World} {g : Nat} {cur : Array Value} {e : TypeId} (h : Wr w w' g cur e) {B : Nat} (hB : B ≤ g) : Below B w w' :=
  ⟨h.os, h.tape, h.output, by rw [h.size]; exact Nat.le_refl _, fun k hk => h.other k (by omega)⟩

theorem Sl.parts {w : World} {ao : Option Addr} {n cap : Nat} {zs : List Int} (h : Sl w (.slice ao n cap) zs) : n = zs.length ∧ zs.length ≤ cap ∧ cap ≤ 9223372036854775807 ∧ Limb zs := by
  obtain ⟨ao', cap', hv, h1, h2, h3, h4⟩ := h
  obtain ⟨rfl, rfl, rfl⟩ := (Value.slice.injEq .. ▸ hv)
  exact ⟨rfl, h1, h2, h3⟩

theorem Sl.cells {w : World} {ao : Option Addr} {n cap : Nat} {zs : List Int} (h : Sl w (.slice ao n cap) zs) (hp : 0 < zs.length) : ∃ b off, ao = some ⟨b, off, none⟩ ∧ ∀ i, i < zs.length → w.cell? ⟨b, off + i, none⟩ = some (.int .i64 (zs.getD i 0)) := by
  obtain ⟨ao', cap', hv, h1, h2, h3, h4⟩ := h
  obtain ⟨rfl, rfl, rfl⟩ := (Value.slice.injEq .. ▸ hv)
  rcases h4 with rfl | h4
  · simp at hp
  · exact h4

theorem Sl.take {w : World} {ao : Option Addr} {n cap : Nat} {zs : List Int} (h : Sl w (.slice ao n cap) zs) {k : Nat} (hk : k ≤ zs.length) : Sl w (.slice ao k cap) (zs.take k) := by
  obtain ⟨ao', cap', hv, h1, h2, h3, h4⟩ := h
  obtain ⟨rfl, rfl, rfl⟩ := (Value.slice.injEq .. ▸ hv)
  have hl : (zs.take k).length = k := by rw [List.length_take]; omega
  refine ⟨ao, cap, by rw [hl], by omega, h2, limb_take h3 _, ?_⟩
  rcases h4 with rfl | ⟨b, off, rfl, hc⟩
  · exact .inl (by simp)
  · refine .inr ⟨b, off, rfl, fun i hi => ?_⟩
    rw [hc i (by omega), List.getD_eq_getElem?_getD, List.getD_eq_getElem?_getD, List.getElem?_take, if_pos (by omega)]

theorem Sl.cut {w : World} {ao : Option Addr} {n cap : Nat} {zs : List Int} (h : Sl w (.slice ao n cap) zs) : Sl w (.slice ao (tl zs) cap) (zs.take (tl zs)) := h.take (tl_le zs)

theorem Ow.take {B : Nat} {w : World} {ao : Option Addr} {n cap : Nat} {zs : List Int} (h : Ow B w (.slice ao n cap) zs) {k : Nat} (hk : k ≤ zs.length) : Ow B w (.slice ao k cap) (zs.take k) := by
  obtain ⟨ao', cap', hv, h1, h2, h3, h4⟩ := h
  obtain ⟨rfl, rfl, rfl⟩ := (Value.slice.injEq .. ▸ hv)
  have hl : (zs.take k).length = k := by rw [List.length_take]; omega
  refine ⟨ao, cap, by rw [hl], by omega, h2, limb_take h3 _, ?_⟩
  rcases h4 with h4 | ⟨g, off, cur, rfl, hg, hh, hs, ha⟩
  · exact .inl h4
  · refine .inr ⟨g, off, cur, rfl, hg, hh, hs, fun i hi => ?_⟩
    rw [ha i (by omega), List.getD_eq_getElem?_getD, List.getD_eq_getElem?_getD, List.getElem?_take, if_pos (by omega)]

/-- A list of digits in another block than g reads as it did. -/
theorem Wr.sl {w w' : World} {g : Nat} {cur : Array Value} {e : TypeId} (h : Wr w w' g cur e) {B : Nat} {w0 : World} (hB : B ≤ g) (hb : Below B w0 w) (hs : w0.heap.size = B) {v : Value} {zs : List Int} (hv : Sl w0 v zs) : Sl w' v zs := by
  subst hs
  exact hv.below (hb.trans (h.below hB))

end Dm
end Go.Proofs.Ythbomfboohjcfad

namespace Go.Proofs.Ythbomfboohjcfad
namespace Dm
open Go.RowKit

set_option maxRecDepth 20000 in
set_option maxHeartbeats 400000 in
theorem cut_any (w : World) (ao : Option Addr) (n cap : Nat) (zs : List Int) (h : Sl w (.slice ao n cap) zs) :
    Calls Try.prog 86 #[.slice ao n cap] w fun e w' => e = .returned (.slice ao (tl zs) cap) ∧ w' = w := by
  obtain ⟨ao', cap', hv, h1, h2, h3, h4⟩ := h
  obtain ⟨rfl, rfl, rfl⟩ := (Value.slice.injEq .. ▸ hv)
  unfold maxLen at h2
  have ht := tl_le zs
  go_enter Try.func86, Try.ntmps86
  go_wp2
  go_loop [3] (fun n => ∃ k : Nat, k ≤ zs.length ∧ tl zs ≤ k ∧ n = .int .i64 k) (fun n => (intOf n).toNat)
  case atStart => exact ⟨zs.length, Nat.le_refl _, ht, rfl⟩
  case round =>
    obtain ⟨k, hk, hk2, rfl⟩ := hrel
    cases k with
    | zero =>
      have hz : tl zs = 0 := by omega
      have HZ : Hid (tl zs = 0) := hz
      clear hz
      go_wp2
      go_ret
      exact ⟨by rw [HZ.out]; rfl, rfl⟩
    | succ k =>
      rcases h4 with h4 | ⟨b, off, rfl, hc⟩
      · subst h4; simp at hk
      have hcell := hc k (by omega)
      by_cases h0 : zs.getD k 0 = 0
      · have hle := tl_le_of_zero hk2 h0
        rw [h0] at hcell
        clear h0 hc
        go_wp2
        go_round
        case rel => exact ⟨k, by omega, hle, by go_num⟩
        case measure => simp [intOf]
      · have hgt := tl_gt h0
        have HZ : Hid (tl zs = k + 1) := by show _ = _; omega
        have hb : (zs.getD k 0 == 0) = false := by simpa using h0
        generalize zs.getD k 0 = z at hcell hb
        clear h0 hc
        go_wp2
        go_ret
        exact ⟨by rw [HZ.out]; rfl, rfl⟩
end Dm
end Go.Proofs.Ythbomfboohjcfad
