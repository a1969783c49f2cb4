/-
  What the contracts say of slices of limbs in memory: that a slice reads as a list of limbs, that a slice lies in memory that the call itself made, and what a store does to it.
-/
import Derived.Test.YtjhhjefobbhdlaaProg
import Derived.Test.YtjhhjefobbhdlaaPlain
import Derived.WalkKit
import Derived.WalkSpells
import Derived.WalkLawsBesides
namespace Go.Proofs.Ytjhhjefobbhdlaa
namespace Lm
open Go.RowKit

theorem hide {p : Prop} (h : p) : Hid p := h

/-- The slice value v reads in w as the limbs zs. -/
def Sl (w : World) (v : Value) (zs : List Int) : Prop :=
  ∃ ao cap, v = .slice ao zs.length cap ∧ zs.length ≤ cap ∧ cap ≤ maxLen ∧ Limb zs ∧
    (zs = [] ∨ ∃ b off, ao = some ⟨b, off, none⟩ ∧ ∀ i, i < zs.length → w.cell? ⟨b, off + i, none⟩ = some (.int .u32 (zs.getD i 0)))

/-- Cells of a block from off on are these numbers. -/
def At (cur : Array Value) (k : IntKind) (off : Nat) (zs : List Int) : Prop := ∀ i, i < zs.length → cur[off + i]? = some (.int k (zs.getD i 0))

/-- The slice value v lies, its room too, in a block from B on that nothing freezes, and reads as the limbs zs. -/
def Ow (B : Nat) (w : World) (v : Value) (zs : List Int) : Prop :=
  ∃ ao cap, v = .slice ao zs.length cap ∧ zs.length ≤ cap ∧ cap ≤ maxLen ∧ Limb zs ∧
    (cap = 0 ∨ ∃ g off cur, ao = some ⟨g, off, none⟩ ∧ B ≤ g ∧ w.heap[g]? = some (.cells cur 51 (0, 0)) ∧ off + cap ≤ cur.size ∧ At cur .u32 off zs)

/-- w' is w, but that block g holds the cells cur. -/
structure Wr (w w' : World) (g : Nat) (cur : Array Value) (e : TypeId) : Prop where
  os : w'.os = w.os
  tape : w'.tape = w.tape
  output : w'.output = w.output
  size : w'.heap.size = w.heap.size
  here : w'.heap[g]? = some (.cells cur e (0, 0))
  other : ∀ k, k ≠ g → w'.heap[k]? = w.heap[k]?

/-- The slice value v is a list of the call's own without limbs 0 on top, worth x. -/
def Is (B : Nat) (w : World) (v : Value) (x : Int) : Prop := ∃ rs, Ow B w v rs ∧ Canon rs ∧ val rs = x

theorem lt_of_cell {w : World} {b off : Nat} {v : Value} (h : w.cell? ⟨b, off, none⟩ = some v) : b < w.heap.size := by
  apply Classical.byContradiction
  intro hn
  have : w.heap[b]? = none := Array.getElem?_eq_none (by omega)
  simp [World.cell?, this] at h

theorem lt_of_heap {w : World} {b : Nat} {o : Obj} (h : w.heap[b]? = some o) : b < w.heap.size := by
  apply Classical.byContradiction
  intro hn
  rw [Array.getElem?_eq_none (by omega)] at h
  cases h

theorem Sl.below {w w' : World} {v : Value} {zs : List Int} (h : Sl w v zs) (hb : Below w.heap.size w w') : Sl w' v zs := by
  obtain ⟨ao, cap, rfl, h1, h2, h3, h4⟩ := h
  refine ⟨ao, cap, rfl, h1, h2, h3, ?_⟩
  rcases h4 with h4 | ⟨b, off, rfl, hc⟩
  · exact .inl h4
  · refine .inr ⟨b, off, rfl, fun i hi => ?_⟩
    have h5 := hc i hi
    rw [hb.cell (p := ⟨b, off + i, none⟩) (lt_of_cell h5)]
    exact h5

theorem Ow.sl {B : Nat} {w : World} {v : Value} {zs : List Int} (h : Ow B w v zs) : Sl w v zs := by
  obtain ⟨ao, cap, rfl, h1, h2, h3, h4⟩ := h
  refine ⟨ao, cap, rfl, h1, h2, h3, ?_⟩
  rcases h4 with h4 | ⟨g, off, cur, rfl, _, hh, hs, ha⟩
  · exact .inl (List.eq_nil_of_length_eq_zero (by omega))
  · exact .inr ⟨g, off, rfl, fun i hi => by rw [cell_of_row w g (off + i) cur _ (0, 0) hh]; exact ha i hi⟩

theorem Ow.mono {B B' : Nat} {w : World} {v : Value} {zs : List Int} (h : Ow B w v zs) (hB : B' ≤ B) : Ow B' w v zs := by
  obtain ⟨ao, cap, rfl, h1, h2, h3, h4⟩ := h
  refine ⟨ao, cap, rfl, h1, h2, h3, ?_⟩
  rcases h4 with h4 | ⟨g, off, cur, rfl, hg, hh, hs, ha⟩
  · exact .inl h4
  · exact .inr ⟨g, off, cur, rfl, by omega, hh, hs, ha⟩

theorem Ow.below {B : Nat} {w w' : World} {v : Value} {zs : List Int} (h : Ow B w v zs) (hb : Below w.heap.size w w') : Ow B w' v zs := by
  obtain ⟨ao, cap, rfl, h1, h2, h3, h4⟩ := h
  refine ⟨ao, cap, rfl, h1, h2, h3, ?_⟩
  rcases h4 with h4 | ⟨g, off, cur, rfl, hg, hh, hs, ha⟩
  · exact .inl h4
  · exact .inr ⟨g, off, cur, rfl, hg, by rw [hb.block g (lt_of_heap hh)]; exact hh, hs, ha⟩

theorem At.set {cur : Array Value} {k : IntKind} {off : Nat} {zs : List Int} (h : At cur k off zs) (j : Nat) (x : Int) : At (cur.setIfInBounds (off + j) (.int k x)) k off (zs.set j x) := by
  intro i hi
  rw [List.length_set] at hi
  have h1 := h i hi
  have hb : off + i < cur.size := by
    apply Classical.byContradiction
    intro hn
    rw [Array.getElem?_eq_none (by omega)] at h1
    cases h1
  rw [Array.getElem?_setIfInBounds, List.getD_eq_getElem?_getD, List.getElem?_set]
  by_cases hj : j = i
  · subst hj
    simp [hi, hb]
  · rw [if_neg (by omega), if_neg hj, h1, List.getD_eq_getElem?_getD]

theorem At.cell {cur : Array Value} {k : IntKind} {off : Nat} {zs : List Int} (h : At cur k off zs) {w : World} {g : Nat} {e : TypeId} (hh : w.heap[g]? = some (.cells cur e (0, 0))) (i : Nat) (hi : i < zs.length) : w.cell? ⟨g, off + i, none⟩ = some (.int k (zs.getD i 0)) := by
  rw [cell_of_row w g (off + i) cur _ (0, 0) hh]; exact h i hi

theorem Wr.refl {w : World} {g : Nat} {cur : Array Value} {e : TypeId} (h : w.heap[g]? = some (.cells cur e (0, 0))) : Wr w w g cur e := ⟨rfl, rfl, rfl, rfl, h, fun _ _ => rfl⟩

theorem Wr.drew {w w' : World} {g : Nat} {cur : Array Value} {e : TypeId} (h : Wr w w' g cur e) : Wr w w'.drew g cur e := ⟨h.os, h.tape, h.output, h.size, h.here, h.other⟩

theorem Wr.drewN {w w' : World} {g : Nat} {cur : Array Value} {e : TypeId} (h : Wr w w' g cur e) (n : Nat) : Wr w (w'.drewN n) g cur e := ⟨h.os, h.tape, h.output, h.size, h.here, h.other⟩

theorem Wr.set {w w' : World} {g : Nat} {cur : Array Value} {e : TypeId} (h : Wr w w' g cur e) (i : Nat) (u : Value) : Wr w (w'.setCell ⟨g, i, none⟩ u) g (cur.setIfInBounds i u) e :=
  ⟨h.os, h.tape, h.output, by simp [World.setCell, h.size], heap_setCell_same w' g i cur e u h.here, fun k hk => (heap_setCell_other w' ⟨g, i, none⟩ k u hk).trans (h.other k hk)⟩

theorem Wr.trans {w w' w'' : World} {g : Nat} {cur cur' : Array Value} {e : TypeId} (h : Wr w w' g cur e) (h' : Wr w' w'' g cur' e) : Wr w w'' g cur' e :=
  ⟨h'.os.trans h.os, h'.tape.trans h.tape, h'.output.trans h.output, h'.size.trans h.size, h'.here, fun k hk => (h'.other k hk).trans (h.other k hk)⟩

theorem Wr.free {w w' : World} {g : Nat} {cur : Array Value} {e : TypeId} (h : Wr w w' g cur e) (i : Nat) : w'.frozen? ⟨g, i, none⟩ = false := frozen_of_row w' g i cur e h.here

theorem Wr.below {w w' : World} {g : Nat} {cur : Array Value} {e : TypeId} (h : Wr w w' g cur e) {B : Nat} (hB : B ≤ g) : Below B w w' :=
  ⟨h.os, h.tape, h.output, by rw [h.size]; exact Nat.le_refl _, fun k hk => h.other k (by omega)⟩

theorem Sl.parts {w : World} {ao : Option Addr} {n cap : Nat} {zs : List Int} (h : Sl w (.slice ao n cap) zs) : n = zs.length ∧ zs.length ≤ cap ∧ cap ≤ 9223372036854775807 ∧ Limb zs := by
  obtain ⟨ao', cap', hv, h1, h2, h3, h4⟩ := h
  obtain ⟨rfl, rfl, rfl⟩ := (Value.slice.injEq .. ▸ hv)
  exact ⟨rfl, h1, h2, h3⟩

theorem Sl.cells {w : World} {ao : Option Addr} {n cap : Nat} {zs : List Int} (h : Sl w (.slice ao n cap) zs) (hp : 0 < zs.length) : ∃ b off, ao = some ⟨b, off, none⟩ ∧ ∀ i, i < zs.length → w.cell? ⟨b, off + i, none⟩ = some (.int .u32 (zs.getD i 0)) := by
  obtain ⟨ao', cap', hv, h1, h2, h3, h4⟩ := h
  obtain ⟨rfl, rfl, rfl⟩ := (Value.slice.injEq .. ▸ hv)
  rcases h4 with rfl | h4
  · simp at hp
  · exact h4

theorem Sl.take {w : World} {ao : Option Addr} {n cap : Nat} {zs : List Int} (h : Sl w (.slice ao n cap) zs) {k : Nat} (hk : k ≤ zs.length) : Sl w (.slice ao k cap) (zs.take k) := by
  obtain ⟨ao', cap', hv, h1, h2, h3, h4⟩ := h
  obtain ⟨rfl, rfl, rfl⟩ := (Value.slice.injEq .. ▸ hv)
  have hl : (zs.take k).length = k := by rw [List.length_take]; omega
  refine ⟨ao, cap, by rw [hl], by omega, h2, limb_take h3 _, ?_⟩
  rcases h4 with rfl | ⟨b, off, rfl, hc⟩
  · exact .inl (by simp)
  · refine .inr ⟨b, off, rfl, fun i hi => ?_⟩
    rw [hc i (by omega), List.getD_eq_getElem?_getD, List.getD_eq_getElem?_getD, List.getElem?_take, if_pos (by omega)]

theorem Sl.cut {w : World} {ao : Option Addr} {n cap : Nat} {zs : List Int} (h : Sl w (.slice ao n cap) zs) : Sl w (.slice ao (tl zs) cap) (zs.take (tl zs)) := h.take (tl_le zs)

theorem Ow.take {B : Nat} {w : World} {ao : Option Addr} {n cap : Nat} {zs : List Int} (h : Ow B w (.slice ao n cap) zs) {k : Nat} (hk : k ≤ zs.length) : Ow B w (.slice ao k cap) (zs.take k) := by
  obtain ⟨ao', cap', hv, h1, h2, h3, h4⟩ := h
  obtain ⟨rfl, rfl, rfl⟩ := (Value.slice.injEq .. ▸ hv)
  have hl : (zs.take k).length = k := by rw [List.length_take]; omega
  refine ⟨ao, cap, by rw [hl], by omega, h2, limb_take h3 _, ?_⟩
  rcases h4 with h4 | ⟨g, off, cur, rfl, hg, hh, hs, ha⟩
  · exact .inl h4
  · refine .inr ⟨g, off, cur, rfl, hg, hh, hs, fun i hi => ?_⟩
    rw [ha i (by omega), List.getD_eq_getElem?_getD, List.getD_eq_getElem?_getD, List.getElem?_take, if_pos (by omega)]

/-- A list of limbs in another block than g reads as it did. -/
theorem Wr.sl {w w' : World} {g : Nat} {cur : Array Value} {e : TypeId} (h : Wr w w' g cur e) {B : Nat} {w0 : World} (hB : B ≤ g) (hb : Below B w0 w) (hs : w0.heap.size = B) {v : Value} {zs : List Int} (hv : Sl w0 v zs) : Sl w' v zs := by
  subst hs
  exact hv.below (hb.trans (h.below hB))

end Lm
end Go.Proofs.Ytjhhjefobbhdlaa
