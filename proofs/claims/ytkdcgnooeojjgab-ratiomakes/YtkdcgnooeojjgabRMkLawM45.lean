/-
  What a Book holds: the lists that it took, each filled with a mark of its own; what an append to its two rows does to it. The contract of Book's Own. The contracts of the reference's Of and Told: whole numbers as they are handed in, and as they are told. The contract of the reference's Int.
-/
import Derived.Test.YtkdcgnooeojjgabRMkLawM44
import Derived.Deep.AppendLies
import Derived.Deep.QuietTactic
import Derived.BigQuiet
import Derived.Test.YtkdcgnooeojjgabRMkLawM43
import Derived.Test.YtkdcgnooeojjgabWG
import Derived.Deep.DeepCutAuto
namespace Go.Proofs.Ytkdcgnooeojjgab
namespace Lm
open Go.RowKit

def bmk (i : Nat) : Value := .int .u32 (1358954496 + (i : Int))
def bmks (n : Nat) : List Value := (List.range n).map bmk
theorem bmks_succ (n : Nat) : bmks (n + 1) = bmks n ++ [bmk n] := by simp [bmks, List.range_succ]
theorem bmks_length (n : Nat) : (bmks n).length = n := by simp [bmks]
theorem bmks_get {n i : Nat} (h : i < n) : (bmks n)[i]? = some (bmk i) := by simp [bmks, h]

/-- The list u, the i-th that was taken, bears its mark; it lies in none of the book's two rows. -/
def RoomOk (w : World) (bs : List Nat) (lv mv : Value) (i : Nat) (u : Value) : Prop :=
  ∃ ao n cap, u = .slice ao n cap ∧ n ≤ cap ∧ n ≤ 4096 ∧ cap ≤ 9223372036854775807 ∧ (n = 0 ∨ ∃ g off, ao = some ⟨g, off, none⟩ ∧ g ∈ bs ∧ lv.ownBlock ≠ some g ∧ mv.ownBlock ≠ some g ∧ ∀ k, k < n → w.cell? ⟨g, off + k, none⟩ = some (bmk i))

/-- The book at block p holds the lists rv and m marks; all its memory but p are the blocks bs, from Q on. -/
structure Bk (w : World) (p Q : Nat) (bs : List Nat) (rv : List Value) (m : Nat) (lv mv : Value) : Prop where
  here : w.heap[p]? = some (.cells #[lv, mv] 41 (0, 0))
  lists : w.ownsRow Q 22 1 lv rv.length rv
  marks : w.ownsRow Q 73 1 mv m (bmks m)
  lvb : ∀ j, lv.ownBlock = some j → j ∈ bs
  mvb : ∀ j, mv.ownBlock = some j → j ∈ bs
  two : ∀ j, lv.ownBlock = some j → mv.ownBlock ≠ some j
  rooms : ∀ i u, rv[i]? = some u → RoomOk w bs lv mv i u
  low : ∀ j, j ∈ bs → Q ≤ j ∧ j < w.heap.size
  pQ : p ∉ bs

theorem owns_kept {Q e n : Nat} {w w' : World} {v : Value} {xs : List Value} (h : w.ownsRow Q e 1 v n xs) (hb : ∀ j, v.ownBlock = some j → w'.heap[j]? = w.heap[j]?) : w'.ownsRow Q e 1 v n xs := by
  obtain ⟨h1, h2⟩ := h
  refine ⟨h1, ?_⟩
  rcases h2 with h2 | ⟨g, cap, cur, rfl, hg, hh, r⟩
  · exact .inl h2
  · exact .inr ⟨g, cap, cur, rfl, hg, by rw [hb g rfl]; exact hh, r⟩

theorem RoomOk.kept {w w' : World} {bs bs' : List Nat} {lv mv lv' mv' : Value} {i : Nat} {u : Value} (h : RoomOk w bs lv mv i u)
    (hb : ∀ j, j ∈ bs → j ∈ bs') (hl : ∀ j, j ∈ bs → lv.ownBlock ≠ some j → mv.ownBlock ≠ some j → lv'.ownBlock ≠ some j ∧ mv'.ownBlock ≠ some j ∧ w'.heap[j]? = w.heap[j]?) : RoomOk w' bs' lv' mv' i u := by
  obtain ⟨ao, n, cap, rfl, h1, h2, h3, h4⟩ := h
  refine ⟨ao, n, cap, rfl, h1, h2, h3, ?_⟩
  rcases h4 with h4 | ⟨g, off, rfl, hg, e1, e2, hc⟩
  · exact .inl h4
  · obtain ⟨f1, f2, f3⟩ := hl g hg e1 e2
    exact .inr ⟨g, off, rfl, hb g hg, f1, f2, fun k hk => by rw [World.cell?_of_block (w := w) f3]; exact hc k hk⟩

/-- The book in a world in which its blocks are as they were. -/
theorem Bk.kept {w w' : World} {p Q m : Nat} {bs : List Nat} {rv : List Value} {lv mv : Value} (h : Bk w p Q bs rv m lv mv) (hp : w'.heap[p]? = w.heap[p]?) (hb : ∀ j, j ∈ bs → w'.heap[j]? = w.heap[j]?) (hs : w.heap.size ≤ w'.heap.size) : Bk w' p Q bs rv m lv mv :=
  ⟨hp.trans h.here, owns_kept h.lists fun j hj => hb j (h.lvb j hj), owns_kept h.marks fun j hj => hb j (h.mvb j hj), h.lvb, h.mvb, h.two,
   fun i u hu => (h.rooms i u hu).kept (fun _ hj => hj) fun j hj e1 e2 => ⟨e1, e2, hb j hj⟩, fun j hj => ⟨(h.low j hj).1, Nat.lt_of_lt_of_le (h.low j hj).2 hs⟩, h.pQ⟩

theorem Bk.lt {w : World} {p Q m : Nat} {bs : List Nat} {rv : List Value} {lv mv : Value} (h : Bk w p Q bs rv m lv mv) : p < w.heap.size := lt_of_heap h.here

theorem Bk.below {w w' : World} {p Q m : Nat} {bs : List Nat} {rv : List Value} {lv mv : Value} (h : Bk w p Q bs rv m lv mv) (hb : Below w.heap.size w w') : Bk w' p Q bs rv m lv mv :=
  h.kept (hb.block p h.lt) (fun j hj => hb.block j (h.low j hj).2) hb.size

theorem Bk.touch {w w' : World} {p Q m L : Nat} {bs : List Nat} {rv : List Value} {lv mv : Value} (h : Bk w p Q bs rv m lv mv) (t : Touch w w' L) (h1 : p ≠ L) (h2 : L ∉ bs) : Bk w' p Q bs rv m lv mv :=
  h.kept (t.other p h.lt h1) (fun j hj => t.other j (h.low j hj).2 (fun e => h2 (e ▸ hj))) t.size

/-- More blocks are counted. -/
theorem Bk.more {w : World} {p Q m : Nat} {bs gs : List Nat} {rv : List Value} {lv mv : Value} (h : Bk w p Q bs rv m lv mv) (hg : ∀ j, j ∈ gs → Q ≤ j ∧ j < w.heap.size) (hp : p ∉ gs) : Bk w p Q (gs ++ bs) rv m lv mv :=
  ⟨h.here, h.lists, h.marks, fun j hj => List.mem_append_right _ (h.lvb j hj), fun j hj => List.mem_append_right _ (h.mvb j hj), h.two,
   fun i u hu => (h.rooms i u hu).kept (fun _ hj => List.mem_append_right _ hj) fun _ _ e1 e2 => ⟨e1, e2, rfl⟩,
   fun j hj => (List.mem_append.1 hj).elim (hg j) (h.low j), fun hj => (List.mem_append.1 hj).elim hp h.pQ⟩

theorem setCell_block {w : World} {p i k : Nat} {u : Value} (h : k ≠ p) : (w.setCell ⟨p, i, none⟩ u).heap[k]? = w.heap[k]? := heap_setCell_other w ⟨p, i, none⟩ k u h

theorem own_of {a : Addr} {n c j : Nat} (h : (Value.slice (some a) n c).ownBlock = some j) : a.block = j := by simpa [Value.ownBlock] using h

/-- A list more in the row of lists. -/
theorem Bk.list_step {w w1 : World} {p Q m : Nat} {bs : List Nat} {rv : List Value} {lv mv u : Value} {o : Obj} {g1 c1 : Nat} (h : Bk w p Q bs rv m lv mv) (hg : (w.alloc o).grownBy w1 lv.ownBlock)
    (hown : w1.ownsRow Q 22 1 (.slice (some ⟨g1, 0, none⟩) (rv.length + 1) c1) (rv.length + 1) (rv ++ [u])) (hat : lv.ownBlock = some g1 ∨ g1 = w.heap.size + 1) (hlt : g1 < w1.heap.size) (hQ : Q ≤ w.heap.size)
    (hu : RoomOk w bs lv mv rv.length u) : Bk (w1.setCell ⟨p, 0, none⟩ (.slice (some ⟨g1, 0, none⟩) (rv.length + 1) c1)) p Q (g1 :: bs) (rv ++ [u]) m (.slice (some ⟨g1, 0, none⟩) (rv.length + 1) c1) mv := by
  have hp := h.lt
  have al : ∀ j, j < w.heap.size → (w.alloc o).heap[j]? = w.heap[j]? := fun j hj => Below.heap_alloc _ _ _ hj
  have hsz : w.heap.size + 1 ≤ w1.heap.size := by have := hg.size; simpa using this
  have pl : lv.ownBlock ≠ some p := fun e => h.pQ (h.lvb p e)
  have gp : g1 ≠ p := by
    rcases hat with e | e
    · intro e'; rw [e'] at e; exact pl e
    · omega
  have keep : ∀ j, j < w.heap.size → lv.ownBlock ≠ some j → w1.heap[j]? = w.heap[j]? := fun j hj hn => (hg.block j (by simp; omega) (fun e => hn e.symm)).trans (al j hj)
  have here1 : w1.heap[p]? = some (.cells #[lv, mv] 41 (0, 0)) := (keep p hp pl).trans h.here
  have nogo : ∀ j, j < w.heap.size → lv.ownBlock ≠ some j → g1 ≠ j := by
    intro j hj hn e
    rcases hat with e' | e'
    · rw [e] at e'; exact hn e'
    · omega
  have keep2 : ∀ j, j < w.heap.size → lv.ownBlock ≠ some j → j ≠ p → (w1.setCell ⟨p, 0, none⟩ (.slice (some ⟨g1, 0, none⟩) (rv.length + 1) c1)).heap[j]? = w.heap[j]? := fun j hj hn hne => (setCell_block hne).trans (keep j hj hn)
  refine ⟨?_, ?_, ?_, ?_, ?_, ?_, ?_, ?_, fun hj => (List.mem_cons.1 hj).elim (fun e => gp e.symm) h.pQ⟩
  · exact heap_setCell_same w1 p 0 _ _ _ here1
  · have e : (rv ++ [u]).length = rv.length + 1 := by simp
    rw [e]
    exact owns_kept hown fun j hj => setCell_block (by have := own_of hj; simp at this; omega)
  · exact owns_kept h.marks fun j hj => by
      have hjb := h.low j (h.mvb j hj)
      exact keep2 j hjb.2 (fun e => h.two j e hj) (fun e => h.pQ (e ▸ h.mvb j hj))
  · intro j hj
    have := own_of hj
    simp at this
    simp [this]
  · exact fun j hj => List.mem_cons_of_mem _ (h.mvb j hj)
  · intro j hj e
    have e1 := own_of hj
    simp at e1
    subst e1
    have hjb := h.low _ (h.mvb _ e)
    rcases hat with e' | e'
    · exact h.two _ e' e
    · omega
  · intro i v hv
    have step : ∀ {i v}, RoomOk w bs lv mv i v → RoomOk (w1.setCell ⟨p, 0, none⟩ (.slice (some ⟨g1, 0, none⟩) (rv.length + 1) c1)) (g1 :: bs) (.slice (some ⟨g1, 0, none⟩) (rv.length + 1) c1) mv i v := fun hr =>
      hr.kept (fun _ hj => List.mem_cons_of_mem _ hj) fun j hj e1 e2 => by
        have hjb := h.low j hj
        have hpq := h.pQ
        refine ⟨?_, e2, keep2 j hjb.2 e1 (fun e => hpq (e ▸ hj))⟩
        intro e
        have := own_of e
        exact nogo j hjb.2 e1 (by simpa using this)
    by_cases hi : i < rv.length
    · rw [List.getElem?_append_left hi] at hv
      exact step (h.rooms i v hv)
    · have hi2 : i = rv.length := by
        apply Classical.byContradiction
        intro hn
        rw [List.getElem?_eq_none (by simp; omega)] at hv
        cases hv
      subst hi2
      rw [List.getElem?_append_right (Nat.le_refl _)] at hv
      simp at hv
      subst hv
      exact step hu
  · intro j hj
    have hss : (w1.setCell ⟨p, 0, none⟩ (.slice (some ⟨g1, 0, none⟩) (rv.length + 1) c1)).heap.size = w1.heap.size := by simp [World.setCell]
    rw [hss]
    rcases List.mem_cons.1 hj with e | e
    · subst e
      refine ⟨?_, hlt⟩
      rcases hat with e' | e'
      · exact (h.low _ (h.lvb _ e')).1
      · omega
    · have := h.low j e
      omega

/-- A mark more in the row of marks. -/
theorem Bk.mark_step {w w1 : World} {p Q m : Nat} {bs : List Nat} {rv : List Value} {lv mv : Value} {o : Obj} {g1 c1 : Nat} (h : Bk w p Q bs rv m lv mv) (hg : (w.alloc o).grownBy w1 mv.ownBlock)
    (hown : w1.ownsRow Q 73 1 (.slice (some ⟨g1, 0, none⟩) (m + 1) c1) (m + 1) (bmks m ++ [bmk m])) (hat : mv.ownBlock = some g1 ∨ g1 = w.heap.size + 1) (hlt : g1 < w1.heap.size) (hQ : Q ≤ w.heap.size) :
    Bk (w1.setCell ⟨p, 1, none⟩ (.slice (some ⟨g1, 0, none⟩) (m + 1) c1)) p Q (g1 :: bs) rv (m + 1) lv (.slice (some ⟨g1, 0, none⟩) (m + 1) c1) := by
  have hp := h.lt
  have al : ∀ j, j < w.heap.size → (w.alloc o).heap[j]? = w.heap[j]? := fun j hj => Below.heap_alloc _ _ _ hj
  have hsz : w.heap.size + 1 ≤ w1.heap.size := by have := hg.size; simpa using this
  have pl : mv.ownBlock ≠ some p := fun e => h.pQ (h.mvb p e)
  have gp : g1 ≠ p := by
    rcases hat with e | e
    · intro e'; rw [e'] at e; exact pl e
    · omega
  have keep : ∀ j, j < w.heap.size → mv.ownBlock ≠ some j → w1.heap[j]? = w.heap[j]? := fun j hj hn => (hg.block j (by simp; omega) (fun e => hn e.symm)).trans (al j hj)
  have here1 : w1.heap[p]? = some (.cells #[lv, mv] 41 (0, 0)) := (keep p hp pl).trans h.here
  have nogo : ∀ j, j < w.heap.size → mv.ownBlock ≠ some j → g1 ≠ j := by
    intro j hj hn e
    rcases hat with e' | e'
    · rw [e] at e'; exact hn e'
    · omega
  have keep2 : ∀ j, j < w.heap.size → mv.ownBlock ≠ some j → j ≠ p → (w1.setCell ⟨p, 1, none⟩ (.slice (some ⟨g1, 0, none⟩) (m + 1) c1)).heap[j]? = w.heap[j]? := fun j hj hn hne => (setCell_block hne).trans (keep j hj hn)
  refine ⟨?_, ?_, ?_, ?_, ?_, ?_, ?_, ?_, fun hj => (List.mem_cons.1 hj).elim (fun e => gp e.symm) h.pQ⟩
  · exact heap_setCell_same w1 p 1 _ _ _ here1
  · exact owns_kept h.lists fun j hj => by
      have hjb := h.low j (h.lvb j hj)
      exact keep2 j hjb.2 (h.two j hj) (fun e => h.pQ (e ▸ h.lvb j hj))
  · rw [bmks_succ]
    exact owns_kept hown fun j hj => setCell_block (by have := own_of hj; simp at this; omega)
  · exact fun j hj => List.mem_cons_of_mem _ (h.lvb j hj)
  · intro j hj
    have := own_of hj
    simp at this
    simp [this]
  · intro j hj e
    have e1 := own_of e
    simp at e1
    subst e1
    have hjb := h.low _ (h.lvb _ hj)
    rcases hat with e' | e'
    · exact h.two _ hj e'
    · omega
  · intro i v hv
    refine (h.rooms i v hv).kept (fun _ hj => List.mem_cons_of_mem _ hj) fun j hj e1 e2 => ?_
    have hjb := h.low j hj
    have hpq := h.pQ
    refine ⟨e1, ?_, keep2 j hjb.2 e2 (fun e => hpq (e ▸ hj))⟩
    intro e
    have := own_of e
    exact nogo j hjb.2 e2 (by simpa using this)
  · intro j hj
    have hss : (w1.setCell ⟨p, 1, none⟩ (.slice (some ⟨g1, 0, none⟩) (m + 1) c1)).heap.size = w1.heap.size := by simp [World.setCell]
    rw [hss]
    rcases List.mem_cons.1 hj with e | e
    · subst e
      refine ⟨?_, hlt⟩
      rcases hat with e' | e'
      · exact (h.low _ (h.mvb _ e')).1
      · omega
    · have := h.low j e
      omega

/-- w' is w, but for block p, the blocks bs and new ones. -/
structure Kp (w w' : World) (p : Nat) (bs : List Nat) : Prop where
  os : w'.os = w.os
  tape : w'.tape = w.tape
  output : w'.output = w.output
  size : w.heap.size ≤ w'.heap.size
  other : ∀ k, k < w.heap.size → k ≠ p → k ∉ bs → w'.heap[k]? = w.heap[k]?

theorem Kp.trans {w w' w'' : World} {p : Nat} {bs bs' : List Nat} (h : Kp w w' p bs) (h' : Kp w' w'' p bs') (hb : ∀ j, j ∈ bs → j ∈ bs') : Kp w w'' p bs' :=
  ⟨h'.os.trans h.os, h'.tape.trans h.tape, h'.output.trans h.output, Nat.le_trans h.size h'.size, fun k hk hp hn => (h'.other k (Nat.lt_of_lt_of_le hk h.size) hp hn).trans (h.other k hk hp (fun hj => hn (hb k hj)))⟩

theorem Kp.of_wr {w w' : World} {p g : Nat} {bs : List Nat} {cur : Array Value} {e : TypeId} (h : Wr w w' g cur e) (hg : g ∈ bs) : Kp w w' p bs :=
  ⟨h.os, h.tape, h.output, by rw [h.size]; exact Nat.le_refl _, fun k _ _ hn => h.other k (fun e => hn (e ▸ hg))⟩

theorem Kp.refl (w : World) (p : Nat) (bs : List Nat) : Kp w w p bs := ⟨rfl, rfl, rfl, Nat.le_refl _, fun _ _ _ _ => rfl⟩

theorem Kp.step {w w1 : World} {p i : Nat} {bs : List Nat} {v u : Value} {o : Obj} (hg : (w.alloc o).grownBy w1 v.ownBlock) (hv : ∀ j, v.ownBlock = some j → j ∈ bs) : Kp w (w1.setCell ⟨p, i, none⟩ u) p bs :=
  ⟨hg.os, hg.tape, hg.output, by have := hg.size; simp [World.setCell] at this ⊢; omega, fun k hk hp hn => (setCell_block hp).trans ((hg.block k (by simp; omega) (fun e => hn (hv k e.symm))).trans (Below.heap_alloc _ _ _ hk))⟩

theorem Kp.below {w w' : World} {p B : Nat} {bs : List Nat} (h : Kp w w' p bs) (hp : B ≤ p) (hb : ∀ j, j ∈ bs → B ≤ j) (hs : B ≤ w.heap.size) : Below B w w' :=
  ⟨h.os, h.tape, h.output, h.size, fun k hk => h.other k (by omega) (by omega) (fun hj => by have := hb k hj; omega)⟩

end Lm
end Go.Proofs.Ytkdcgnooeojjgab

namespace Go.Proofs.Ytkdcgnooeojjgab
namespace Lm
open Go.RowKit

theorem infoL : (Try.prog.info? 22).map (fun i => (i.zero, i.size, i.bytes)) = some (some (.slice none 0 0), 1, 24) := by kernel_rfl

theorem owns_shape {w : World} {B e n : Nat} {v : Value} {xs : List Value} (h : w.ownsRow B e 1 v n xs) : ∃ a c, v = .slice a n c ∧ n ≤ c ∧ c ≤ 9223372036854775807 := by
  rcases h.2 with ⟨rfl, rfl⟩ | ⟨g, cap, cur, rfl, _, _, h1, h2, _⟩
  · exact ⟨none, 0, rfl, Nat.le_refl _, by omega⟩
  · exact ⟨_, cap, rfl, h1, h2⟩

theorem Bk.grown {w w1 : World} {p Q m : Nat} {bs : List Nat} {rv : List Value} {lv mv v : Value} {o : Obj} (h : Bk w p Q bs rv m lv mv) (hg : (w.alloc o).grownBy w1 v.ownBlock) (hv : ∀ j, v.ownBlock = some j → j ∈ bs) :
    w1.cell? ⟨p, 0, none⟩ = some lv ∧ w1.cell? ⟨p, 1, none⟩ = some mv ∧ w1.frozen? ⟨p, 0, none⟩ = false ∧ w1.frozen? ⟨p, 1, none⟩ = false := by
  have hp := h.lt
  have pl : v.ownBlock ≠ some p := fun e => h.pQ (hv p e)
  have e : w1.heap[p]? = some (.cells #[lv, mv] 41 (0, 0)) := ((hg.block p (by simp; omega) (fun e => pl e.symm)).trans (Below.heap_alloc _ _ _ hp)).trans h.here
  exact ⟨by rw [cell_of_row _ _ _ _ _ (0, 0) e]; rfl, by rw [cell_of_row _ _ _ _ _ (0, 0) e]; rfl, frozen_of_row _ _ _ _ _ e, frozen_of_row _ _ _ _ _ e⟩

theorem Bk.facts {w : World} {p Q m : Nat} {bs : List Nat} {rv : List Value} {lv mv : Value} (h : Bk w p Q bs rv m lv mv) :
    w.cell? ⟨p, 0, none⟩ = some lv ∧ w.cell? ⟨p, 1, none⟩ = some mv ∧ w.frozen? ⟨p, 0, none⟩ = false ∧ w.frozen? ⟨p, 1, none⟩ = false :=
  ⟨by rw [cell_of_row _ _ _ _ _ (0, 0) h.here]; rfl, by rw [cell_of_row _ _ _ _ _ (0, 0) h.here]; rfl, frozen_of_row _ _ _ _ _ h.here, frozen_of_row _ _ _ _ _ h.here⟩

theorem cell_new_at {W : World} {H : Nat} (hH : W.heap.size = H) (x : Value) (t : TypeId) : ∀ j u, [x][j]? = some u → (W.alloc (.cells #[x] t)).cell? ((⟨H, 0, none⟩ : Addr).add j) = some u := by
  subst hH
  exact cell_one_new _ _ _

/-- What Own leaves. -/
def OwnS (w w' : World) (p Q : Nat) (bs : List Nat) (len : Nat) (ao : Option Addr) : Prop :=
  ∃ bs' rv' lv' mv', rv'.length = len + 1 ∧ Bk w' p Q bs' rv' rv'.length lv' mv' ∧ Kp w w' p bs' ∧ (∀ j, j ∈ bs' → j ∈ bs ∨ w.heap.size ≤ j ∨ ∃ off, ao = some ⟨j, off, none⟩)

set_option maxRecDepth 20000 in
set_option maxHeartbeats 1000000 in
theorem own_zero_a (w : World) (p Q : Nat) (bs : List Nat) (rv : List Value) (lv mv : Value) (hk : Bk w p Q bs rv rv.length lv mv) (hr : rv.length ≤ 1000) (hQ : Q ≤ w.heap.size)  :
    Calls Try.prog 56 #[.pointer (some ⟨p, 0, none⟩), .slice none 0 0] w fun e w' => e = .returned (.bool true) ∧ OwnS w w' p Q bs rv.length none := by
  obtain ⟨i1, hi1, iz0, iz1, iz2⟩ := info_parts infoL
  obtain ⟨j1, hj1, jz0, jz1, jz2⟩ := info_parts info32
  obtain ⟨al, cl, rfl, al1, al2⟩ := owns_shape hk.lists
  obtain ⟨am, cm, rfl, am1, am2⟩ := owns_shape hk.marks
  obtain ⟨k0, k1, k2, k3⟩ := hk.facts
  have kp0 := hide (Kp.refl w p bs)
  have szr : w.heap.size ≤ w.heap.size := Nat.le_refl _
  have hQr : Q ≤ w.heap.size := hQ
  have hbs : ∀ j, j ∈ bs → j ∈ bs ∨ w.heap.size ≤ j ∨ ∃ off', none = some (⟨j, off', none⟩ : Addr) := fun j hj => .inl hj
  go_enter Try.func56, Try.ntmps56
  go_wp2
  refine wp_loop_rounds 1 ?_
  rw [rounds_succ]
  go_wp2_with (at_builtin; refine wpList_append_lies _ rfl (.tmp 38) (.tmp 40) 39 rfl Q 22 i1 (.slice none 0 0) 1 24 Try.underlying39 hi1 iz0 iz1 iz2 rfl (by decide) (.slice al rv.length cl) rv.length rv rfl ((hk).lists.alloc _) ⟨w.heap.size, 0, none⟩ 1 1 [.slice none 0 0] rfl rfl (cell_one_new _ _ _) (by intro u hu; simp at hu; subst hu; rfl) (by omega) (by unfold maxLen; omega) (by omega) (by have := (hk).lt; simp; omega) (w.heap.size + 1) (by simp) ?_)
  intro g1 q1 w1 hown1 hgrow1 hat1 hlt1
  have bk2 := (hk).list_step hgrow1 hown1 hat1 hlt1 hQr (⟨none, 0, 0, rfl, Nat.le_refl _, by omega, by omega, .inl rfl⟩)
  obtain ⟨x0, x1, x2, x3⟩ := (hk).grown hgrow1 (hk).lvb
  have kp1 := hide (Kp.step (p := p) (i := 0) (u := .slice (some ⟨g1, 0, none⟩) (rv.length + 1) q1) hgrow1 (hk).lvb)
  have sz1 := hide (show w.heap.size + 1 ≤ w1.heap.size by have := hgrow1.size; simpa using this)
  have A1 := hide hat1
  have BK2 := hide bk2
  obtain ⟨y0, y1, y2, y3⟩ := bk2.facts
  clear hgrow1 hown1 hat1 bk2 k0 k1 k2 k3
  go_wp2_with (at_builtin; refine wpList_append_lies _ rfl (.tmp 48) (.tmp 50) 22 rfl Q 73 j1 (.int .u32 0) 1 4 Try.underlying22 hj1 jz0 jz1 jz2 rfl (by decide) (.slice am rv.length cm) rv.length (bmks rv.length) rfl (BK2.out.marks.alloc _) ⟨w1.heap.size, 0, none⟩ 1 1 [bmk rv.length] rfl rfl (cell_new_at (by simp [World.setCell]) (bmk rv.length) _) (by intro u hu; simp at hu; subst hu; rfl) (by omega) (by unfold maxLen; omega) (by omega) (by have := BK2.out.lt; have := sz1.out; simp [World.setCell]; omega) (w1.heap.size + 1) (by simp [World.setCell]) ?_)
  intro g2 q2 w3 hown2 hgrow2 hat2 hlt2
  have hsz2 : (w1.setCell ⟨p, 0, none⟩ (.slice (some ⟨g1, 0, none⟩) (rv.length + 1) q1)).heap.size = w1.heap.size := by simp [World.setCell]
  have bk3 := BK2.out.mark_step hgrow2 hown2 (by rw [hsz2]; exact hat2) hlt2 (by rw [hsz2]; have := sz1.out; omega)
  obtain ⟨v0, v1, v2, v3⟩ := BK2.out.grown hgrow2 BK2.out.mvb
  have kp2 := Kp.step (p := p) (i := 1) (u := .slice (some ⟨g2, 0, none⟩) (rv.length + 1) q2) hgrow2 BK2.out.mvb
  have F : Hid (OwnS w (w3.setCell ⟨p, 1, none⟩ (.slice (some ⟨g2, 0, none⟩) (rv.length + 1) q2)) p Q bs rv.length none) := by
    refine ⟨g2 :: g1 :: bs, rv ++ [.slice none 0 0], .slice (some ⟨g1, 0, none⟩) (rv.length + 1) q1, .slice (some ⟨g2, 0, none⟩) (rv.length + 1) q2, ?_, ?_, ?_, ?_⟩
    · simp
    · rw [show (rv ++ [Value.slice none 0 0]).length = rv.length + 1 by simp]
      exact bk3
    · exact (kp0.out.trans (kp1.out.trans kp2 (fun j hj => List.mem_cons_of_mem _ hj)) (fun j hj => List.mem_cons_of_mem _ hj)).trans (Kp.refl _ _ _) (fun j hj => List.mem_cons_of_mem _ hj)
    · intro j hj
      have s1 := sz1.out
      rcases List.mem_cons.1 hj with e | hj
      · subst e
        rcases hat2 with e' | e'
        · exact hbs j ((hk).mvb j e')
        · right; left; have := szr; omega
      · rcases List.mem_cons.1 hj with e | hj
        · subst e
          rcases A1.out with e' | e'
          · exact hbs j ((hk).lvb j e')
          · right; left; have := szr; omega
        · exact hbs j hj
  clear hgrow2 hown2 hat2 bk3 kp2 x0 x1 x2 x3 y0 y1 y2 y3
  go_wp2
  go_ret
  exact ⟨rfl, F.out⟩

set_option maxRecDepth 20000 in
set_option maxHeartbeats 1000000 in
theorem own_zero_b (w : World) (p Q : Nat) (bs : List Nat) (rv : List Value) (lv mv : Value) (hk : Bk w p Q bs rv rv.length lv mv) (hr : rv.length ≤ 1000) (hQ : Q ≤ w.heap.size)  (ad : Addr) :
    Calls Try.prog 56 #[.pointer (some ⟨p, 0, none⟩), .slice (some ad) 0 0] w fun e w' => e = .returned (.bool true) ∧ OwnS w w' p Q bs rv.length none := by
  obtain ⟨i1, hi1, iz0, iz1, iz2⟩ := info_parts infoL
  obtain ⟨j1, hj1, jz0, jz1, jz2⟩ := info_parts info32
  obtain ⟨al, cl, rfl, al1, al2⟩ := owns_shape hk.lists
  obtain ⟨am, cm, rfl, am1, am2⟩ := owns_shape hk.marks
  obtain ⟨k0, k1, k2, k3⟩ := hk.facts
  have kp0 := hide (Kp.refl w p bs)
  have szr : w.heap.size ≤ w.heap.size := Nat.le_refl _
  have hQr : Q ≤ w.heap.size := hQ
  have hbs : ∀ j, j ∈ bs → j ∈ bs ∨ w.heap.size ≤ j ∨ ∃ off', none = some (⟨j, off', none⟩ : Addr) := fun j hj => .inl hj
  go_enter Try.func56, Try.ntmps56
  go_wp2
  refine wp_loop_rounds 1 ?_
  rw [rounds_succ]
  go_wp2_with (at_builtin; refine wpList_append_lies _ rfl (.tmp 38) (.tmp 40) 39 rfl Q 22 i1 (.slice none 0 0) 1 24 Try.underlying39 hi1 iz0 iz1 iz2 rfl (by decide) (.slice al rv.length cl) rv.length rv rfl ((hk).lists.alloc _) ⟨w.heap.size, 0, none⟩ 1 1 [.slice (some ad) 0 0] rfl rfl (cell_one_new _ _ _) (by intro u hu; simp at hu; subst hu; rfl) (by omega) (by unfold maxLen; omega) (by omega) (by have := (hk).lt; simp; omega) (w.heap.size + 1) (by simp) ?_)
  intro g1 q1 w1 hown1 hgrow1 hat1 hlt1
  have bk2 := (hk).list_step hgrow1 hown1 hat1 hlt1 hQr (⟨(some ad), 0, 0, rfl, Nat.le_refl _, by omega, by omega, .inl rfl⟩)
  obtain ⟨x0, x1, x2, x3⟩ := (hk).grown hgrow1 (hk).lvb
  have kp1 := hide (Kp.step (p := p) (i := 0) (u := .slice (some ⟨g1, 0, none⟩) (rv.length + 1) q1) hgrow1 (hk).lvb)
  have sz1 := hide (show w.heap.size + 1 ≤ w1.heap.size by have := hgrow1.size; simpa using this)
  have A1 := hide hat1
  have BK2 := hide bk2
  obtain ⟨y0, y1, y2, y3⟩ := bk2.facts
  clear hgrow1 hown1 hat1 bk2 k0 k1 k2 k3
  go_wp2_with (at_builtin; refine wpList_append_lies _ rfl (.tmp 48) (.tmp 50) 22 rfl Q 73 j1 (.int .u32 0) 1 4 Try.underlying22 hj1 jz0 jz1 jz2 rfl (by decide) (.slice am rv.length cm) rv.length (bmks rv.length) rfl (BK2.out.marks.alloc _) ⟨w1.heap.size, 0, none⟩ 1 1 [bmk rv.length] rfl rfl (cell_new_at (by simp [World.setCell]) (bmk rv.length) _) (by intro u hu; simp at hu; subst hu; rfl) (by omega) (by unfold maxLen; omega) (by omega) (by have := BK2.out.lt; have := sz1.out; simp [World.setCell]; omega) (w1.heap.size + 1) (by simp [World.setCell]) ?_)
  intro g2 q2 w3 hown2 hgrow2 hat2 hlt2
  have hsz2 : (w1.setCell ⟨p, 0, none⟩ (.slice (some ⟨g1, 0, none⟩) (rv.length + 1) q1)).heap.size = w1.heap.size := by simp [World.setCell]
  have bk3 := BK2.out.mark_step hgrow2 hown2 (by rw [hsz2]; exact hat2) hlt2 (by rw [hsz2]; have := sz1.out; omega)
  obtain ⟨v0, v1, v2, v3⟩ := BK2.out.grown hgrow2 BK2.out.mvb
  have kp2 := Kp.step (p := p) (i := 1) (u := .slice (some ⟨g2, 0, none⟩) (rv.length + 1) q2) hgrow2 BK2.out.mvb
  have F : Hid (OwnS w (w3.setCell ⟨p, 1, none⟩ (.slice (some ⟨g2, 0, none⟩) (rv.length + 1) q2)) p Q bs rv.length none) := by
    refine ⟨g2 :: g1 :: bs, rv ++ [.slice (some ad) 0 0], .slice (some ⟨g1, 0, none⟩) (rv.length + 1) q1, .slice (some ⟨g2, 0, none⟩) (rv.length + 1) q2, ?_, ?_, ?_, ?_⟩
    · simp
    · rw [show (rv ++ [Value.slice (some ad) 0 0]).length = rv.length + 1 by simp]
      exact bk3
    · exact (kp0.out.trans (kp1.out.trans kp2 (fun j hj => List.mem_cons_of_mem _ hj)) (fun j hj => List.mem_cons_of_mem _ hj)).trans (Kp.refl _ _ _) (fun j hj => List.mem_cons_of_mem _ hj)
    · intro j hj
      have s1 := sz1.out
      rcases List.mem_cons.1 hj with e | hj
      · subst e
        rcases hat2 with e' | e'
        · exact hbs j ((hk).mvb j e')
        · right; left; have := szr; omega
      · rcases List.mem_cons.1 hj with e | hj
        · subst e
          rcases A1.out with e' | e'
          · exact hbs j ((hk).lvb j e')
          · right; left; have := szr; omega
        · exact hbs j hj
  clear hgrow2 hown2 hat2 bk3 kp2 x0 x1 x2 x3 y0 y1 y2 y3
  go_wp2
  go_ret
  exact ⟨rfl, F.out⟩

set_option maxRecDepth 20000 in
set_option maxHeartbeats 1000000 in
theorem own_small (w : World) (p Q : Nat) (bs : List Nat) (rv : List Value) (lv mv : Value) (hk : Bk w p Q bs rv rv.length lv mv) (hr : rv.length ≤ 1000) (hQ : Q ≤ w.heap.size) (g off n cap : Nat) (cur : Array Value) (hh : w.heap[g]? = some (.cells cur 73 (0, 0))) (hsz : off + cap ≤ cur.size) (hgb : g ∉ bs) (hgQ : Q ≤ g) (_hn : n ≤ cap) (hcm : cap ≤ 9223372036854775807) (h4 : cap ≤ 4096) :
    Calls Try.prog 56 #[.pointer (some ⟨p, 0, none⟩), .slice (some ⟨g, off, none⟩) n cap] w fun e w' => e = .returned (.bool true) ∧ OwnS w w' p Q bs rv.length (some ⟨g, off, none⟩) := by
  obtain ⟨i1, hi1, iz0, iz1, iz2⟩ := info_parts infoL
  obtain ⟨j1, hj1, jz0, jz1, jz2⟩ := info_parts info32
  obtain ⟨al, cl, rfl, al1, al2⟩ := owns_shape hk.lists
  obtain ⟨am, cm, rfl, am1, am2⟩ := owns_shape hk.marks
  obtain ⟨k0, k1, k2, k3⟩ := hk.facts
  have HH := hide hh
  have HSZ := hide hsz
  have hpg : p ≠ g := fun e => by have h1 := hk.here; rw [e, hh] at h1; simp at h1
  clear hh hsz
  go_enter Try.func56, Try.ntmps56
  go_wp2
  go_loopw [7] (fun iv wr => ∃ (k : Nat) (cur' : Array Value), k ≤ cap ∧ iv = .int .i64 k ∧ Wr w wr g cur' 73 ∧ cur'.size = cur.size ∧ ∀ i, i < k → cur'[off + i]? = some (bmk rv.length)) (fun iv _ => cap - (intOf iv).toNat)
  case atStart => exact ⟨0, cur, Nat.zero_le _, rfl, Wr.refl HH.out, rfl, fun i hi => by omega⟩
  case round =>
    obtain ⟨k, cur', hkn, rfl, hwr, hcs, hfill⟩ := hrel
    by_cases hlt : k < cap
    · have hb : off + k < cur'.size := by have := HSZ.out; omega
      have old : cur'[off + k]? = some cur'[off + k] := Array.getElem?_eq_getElem hb
      have co : wr.cell? ⟨g, off + k, none⟩ = some cur'[off + k] := by rw [cell_of_row wr g (off + k) cur' _ (0, 0) hwr.here]; exact old
      have fo := hwr.free (off + k)
      have dA : (k : Int) < ((cap : Nat) : Int) := by omega
      have dC : (k : Int) < ((cap : Nat) : Int) := by omega
      have HW' := hide (hwr.set (off + k) (bmk rv.length))
      have HC' : Hid ((cur'.setIfInBounds (off + k) (bmk rv.length)).size = cur.size) := by show _ = _; rw [Array.size_setIfInBounds]; exact hcs
      have HF' : Hid (∀ i, i < k + 1 → (cur'.setIfInBounds (off + k) (bmk rv.length))[off + i]? = some (bmk rv.length)) := by
        intro i hi
        rw [Array.getElem?_setIfInBounds]
        by_cases e : off + k = off + i
        · rw [if_pos e, if_pos (by omega)]
        · rw [if_neg e]
          exact hfill i (by omega)
      clear hwr hcs hfill old
      generalize cur'[off + k] = u9 at co
      go_wp2
      go_roundw
      case rel => exact ⟨k + 1, _, by omega, by go_num, HW'.out, HC'.out, HF'.out⟩
      case measure => simp [intOf]; omega
    · have hkn' : cap = k := by omega
      subst hkn'
      have dA : ¬ ((cap : Nat) : Int) < ((cap : Nat) : Int) := by omega
      have bkr := (hk.kept (hwr.other p hpg) (fun j hj => hwr.other j (fun e => hgb (e ▸ hj))) (by rw [hwr.size]; exact Nat.le_refl _)).more (gs := [g]) (fun j hj => by simp at hj; subst hj; rw [hwr.size]; exact ⟨by omega, lt_of_heap HH.out⟩) (by simpa using hpg)
      have room : RoomOk wr ([g] ++ bs) (.slice al rv.length cl) (.slice am rv.length cm) rv.length (.slice (some ⟨g, off, none⟩) cap cap) := ⟨_, _, _, rfl, by omega, by omega, by omega, .inr ⟨g, off, rfl, by simp, fun e => hgb (hk.lvb _ e), fun e => hgb (hk.mvb _ e), fun i hi => by rw [cell_of_row wr g (off + i) cur' _ (0, 0) hwr.here]; exact hfill i hi⟩⟩
      have kp0 : Hid (Kp w wr p ([g] ++ bs)) := Kp.of_wr hwr (by simp)
      have szr : w.heap.size ≤ wr.heap.size := by rw [hwr.size]; exact Nat.le_refl _
      have hQr : Q ≤ wr.heap.size := by omega
      have hbs : ∀ j, j ∈ [g] ++ bs → j ∈ bs ∨ w.heap.size ≤ j ∨ ∃ off', some (⟨g, off, none⟩ : Addr) = some ⟨j, off', none⟩ := by
        intro j hj
        rcases List.mem_append.1 hj with e | e
        · simp at e; subst e; exact .inr (.inr ⟨off, rfl⟩)
        · exact .inl e
      obtain ⟨m0, m1, m2, m3⟩ := bkr.facts
      have BKR := hide bkr
      have ROOM := hide room
      have HBS := hide hbs
      have SZR := hide szr
      clear hwr hcs hfill bkr room hbs k0 k1 k2 k3
      go_wp2_with (at_builtin; refine wpList_append_lies _ rfl (.tmp 38) (.tmp 40) 39 rfl Q 22 i1 (.slice none 0 0) 1 24 Try.underlying39 hi1 iz0 iz1 iz2 rfl (by decide) (.slice al rv.length cl) rv.length rv rfl ((BKR.out).lists.alloc _) ⟨wr.heap.size, 0, none⟩ 1 1 [.slice (some ⟨g, off, none⟩) cap cap] rfl rfl (cell_one_new _ _ _) (by intro u hu; simp at hu; subst hu; rfl) (by omega) (by unfold maxLen; omega) (by omega) (by have := (BKR.out).lt; simp; omega) (wr.heap.size + 1) (by simp) ?_)
      intro g1 q1 w1 hown1 hgrow1 hat1 hlt1
      have bk2 := (BKR.out).list_step hgrow1 hown1 hat1 hlt1 hQr (ROOM.out)
      obtain ⟨x0, x1, x2, x3⟩ := (BKR.out).grown hgrow1 (BKR.out).lvb
      have kp1 := hide (Kp.step (p := p) (i := 0) (u := .slice (some ⟨g1, 0, none⟩) (rv.length + 1) q1) hgrow1 (BKR.out).lvb)
      have sz1 := hide (show wr.heap.size + 1 ≤ w1.heap.size by have := hgrow1.size; simpa using this)
      have A1 := hide hat1
      have BK2 := hide bk2
      obtain ⟨y0, y1, y2, y3⟩ := bk2.facts
      clear hgrow1 hown1 hat1 bk2 m0 m1 m2 m3
      go_wp2_with (at_builtin; refine wpList_append_lies _ rfl (.tmp 48) (.tmp 50) 22 rfl Q 73 j1 (.int .u32 0) 1 4 Try.underlying22 hj1 jz0 jz1 jz2 rfl (by decide) (.slice am rv.length cm) rv.length (bmks rv.length) rfl (BK2.out.marks.alloc _) ⟨w1.heap.size, 0, none⟩ 1 1 [bmk rv.length] rfl rfl (cell_new_at (by simp [World.setCell]) (bmk rv.length) _) (by intro u hu; simp at hu; subst hu; rfl) (by omega) (by unfold maxLen; omega) (by omega) (by have := BK2.out.lt; have := sz1.out; simp [World.setCell]; omega) (w1.heap.size + 1) (by simp [World.setCell]) ?_)
      intro g2 q2 w3 hown2 hgrow2 hat2 hlt2
      have hsz2 : (w1.setCell ⟨p, 0, none⟩ (.slice (some ⟨g1, 0, none⟩) (rv.length + 1) q1)).heap.size = w1.heap.size := by simp [World.setCell]
      have bk3 := BK2.out.mark_step hgrow2 hown2 (by rw [hsz2]; exact hat2) hlt2 (by rw [hsz2]; have := sz1.out; omega)
      obtain ⟨v0, v1, v2, v3⟩ := BK2.out.grown hgrow2 BK2.out.mvb
      have kp2 := Kp.step (p := p) (i := 1) (u := .slice (some ⟨g2, 0, none⟩) (rv.length + 1) q2) hgrow2 BK2.out.mvb
      have F : Hid (OwnS w (w3.setCell ⟨p, 1, none⟩ (.slice (some ⟨g2, 0, none⟩) (rv.length + 1) q2)) p Q bs rv.length (some ⟨g, off, none⟩)) := by
        refine ⟨g2 :: g1 :: ([g] ++ bs), rv ++ [.slice (some ⟨g, off, none⟩) cap cap], .slice (some ⟨g1, 0, none⟩) (rv.length + 1) q1, .slice (some ⟨g2, 0, none⟩) (rv.length + 1) q2, ?_, ?_, ?_, ?_⟩
        · simp
        · rw [show (rv ++ [Value.slice (some ⟨g, off, none⟩) cap cap]).length = rv.length + 1 by simp]
          exact bk3
        · exact (kp0.out.trans (kp1.out.trans kp2 (fun j hj => List.mem_cons_of_mem _ hj)) (fun j hj => List.mem_cons_of_mem _ hj)).trans (Kp.refl _ _ _) (fun j hj => List.mem_cons_of_mem _ hj)
        · intro j hj
          have s1 := sz1.out
          rcases List.mem_cons.1 hj with e | hj
          · subst e
            rcases hat2 with e' | e'
            · exact HBS.out j ((BKR.out).mvb j e')
            · right; left; have := SZR.out; omega
          · rcases List.mem_cons.1 hj with e | hj
            · subst e
              rcases A1.out with e' | e'
              · exact HBS.out j ((BKR.out).lvb j e')
              · right; left; have := SZR.out; omega
            · exact HBS.out j hj
      clear hgrow2 hown2 hat2 bk3 kp2 x0 x1 x2 x3 y0 y1 y2 y3
      go_wp2
      go_ret
      exact ⟨rfl, F.out⟩

set_option maxRecDepth 20000 in
set_option maxHeartbeats 1000000 in
theorem own_big (w : World) (p Q : Nat) (bs : List Nat) (rv : List Value) (lv mv : Value) (hk : Bk w p Q bs rv rv.length lv mv) (hr : rv.length ≤ 1000) (hQ : Q ≤ w.heap.size) (g off n cap : Nat) (cur : Array Value) (hh : w.heap[g]? = some (.cells cur 73 (0, 0))) (hsz : off + cap ≤ cur.size) (hgb : g ∉ bs) (hgQ : Q ≤ g) (_hn : n ≤ cap) (hcm : cap ≤ 9223372036854775807) (h4 : 4096 < cap) :
    Calls Try.prog 56 #[.pointer (some ⟨p, 0, none⟩), .slice (some ⟨g, off, none⟩) n cap] w fun e w' => e = .returned (.bool true) ∧ OwnS w w' p Q bs rv.length (some ⟨g, off, none⟩) := by
  obtain ⟨i1, hi1, iz0, iz1, iz2⟩ := info_parts infoL
  obtain ⟨j1, hj1, jz0, jz1, jz2⟩ := info_parts info32
  obtain ⟨al, cl, rfl, al1, al2⟩ := owns_shape hk.lists
  obtain ⟨am, cm, rfl, am1, am2⟩ := owns_shape hk.marks
  obtain ⟨k0, k1, k2, k3⟩ := hk.facts
  have HH := hide hh
  have HSZ := hide hsz
  have hpg : p ≠ g := fun e => by have h1 := hk.here; rw [e, hh] at h1; simp at h1
  clear hh hsz
  go_enter Try.func56, Try.ntmps56
  go_wp2
  go_loopw [7] (fun iv wr => ∃ (k : Nat) (cur' : Array Value), k ≤ 4096 ∧ iv = .int .i64 k ∧ Wr w wr g cur' 73 ∧ cur'.size = cur.size ∧ ∀ i, i < k → cur'[off + i]? = some (bmk rv.length)) (fun iv _ => 4096 - (intOf iv).toNat)
  case atStart => exact ⟨0, cur, Nat.zero_le _, rfl, Wr.refl HH.out, rfl, fun i hi => by omega⟩
  case round =>
    obtain ⟨k, cur', hkn, rfl, hwr, hcs, hfill⟩ := hrel
    by_cases hlt : k < 4096
    · have hb : off + k < cur'.size := by have := HSZ.out; omega
      have old : cur'[off + k]? = some cur'[off + k] := Array.getElem?_eq_getElem hb
      have co : wr.cell? ⟨g, off + k, none⟩ = some cur'[off + k] := by rw [cell_of_row wr g (off + k) cur' _ (0, 0) hwr.here]; exact old
      have fo := hwr.free (off + k)
      have dA : (k : Int) < ((4096 : Nat) : Int) := by omega
      have dC : (k : Int) < ((cap : Nat) : Int) := by omega
      have HW' := hide (hwr.set (off + k) (bmk rv.length))
      have HC' : Hid ((cur'.setIfInBounds (off + k) (bmk rv.length)).size = cur.size) := by show _ = _; rw [Array.size_setIfInBounds]; exact hcs
      have HF' : Hid (∀ i, i < k + 1 → (cur'.setIfInBounds (off + k) (bmk rv.length))[off + i]? = some (bmk rv.length)) := by
        intro i hi
        rw [Array.getElem?_setIfInBounds]
        by_cases e : off + k = off + i
        · rw [if_pos e, if_pos (by omega)]
        · rw [if_neg e]
          exact hfill i (by omega)
      clear hwr hcs hfill old
      generalize cur'[off + k] = u9 at co
      go_wp2
      go_roundw
      case rel => exact ⟨k + 1, _, by omega, by go_num, HW'.out, HC'.out, HF'.out⟩
      case measure => simp [intOf]; omega
    · have hkn' : 4096 = k := by omega
      subst hkn'
      have dA : ¬ ((4096 : Nat) : Int) < ((4096 : Nat) : Int) := by omega
      have bkr := (hk.kept (hwr.other p hpg) (fun j hj => hwr.other j (fun e => hgb (e ▸ hj))) (by rw [hwr.size]; exact Nat.le_refl _)).more (gs := [g]) (fun j hj => by simp at hj; subst hj; rw [hwr.size]; exact ⟨by omega, lt_of_heap HH.out⟩) (by simpa using hpg)
      have room : RoomOk wr ([g] ++ bs) (.slice al rv.length cl) (.slice am rv.length cm) rv.length (.slice (some ⟨g, off, none⟩) 4096 cap) := ⟨_, _, _, rfl, by omega, by omega, by omega, .inr ⟨g, off, rfl, by simp, fun e => hgb (hk.lvb _ e), fun e => hgb (hk.mvb _ e), fun i hi => by rw [cell_of_row wr g (off + i) cur' _ (0, 0) hwr.here]; exact hfill i hi⟩⟩
      have kp0 : Hid (Kp w wr p ([g] ++ bs)) := Kp.of_wr hwr (by simp)
      have szr : w.heap.size ≤ wr.heap.size := by rw [hwr.size]; exact Nat.le_refl _
      have hQr : Q ≤ wr.heap.size := by omega
      have hbs : ∀ j, j ∈ [g] ++ bs → j ∈ bs ∨ w.heap.size ≤ j ∨ ∃ off', some (⟨g, off, none⟩ : Addr) = some ⟨j, off', none⟩ := by
        intro j hj
        rcases List.mem_append.1 hj with e | e
        · simp at e; subst e; exact .inr (.inr ⟨off, rfl⟩)
        · exact .inl e
      obtain ⟨m0, m1, m2, m3⟩ := bkr.facts
      have BKR := hide bkr
      have ROOM := hide room
      have HBS := hide hbs
      have SZR := hide szr
      clear hwr hcs hfill bkr room hbs k0 k1 k2 k3
      go_wp2_with (at_builtin; refine wpList_append_lies _ rfl (.tmp 38) (.tmp 40) 39 rfl Q 22 i1 (.slice none 0 0) 1 24 Try.underlying39 hi1 iz0 iz1 iz2 rfl (by decide) (.slice al rv.length cl) rv.length rv rfl ((BKR.out).lists.alloc _) ⟨wr.heap.size, 0, none⟩ 1 1 [.slice (some ⟨g, off, none⟩) 4096 cap] rfl rfl (cell_one_new _ _ _) (by intro u hu; simp at hu; subst hu; rfl) (by omega) (by unfold maxLen; omega) (by omega) (by have := (BKR.out).lt; simp; omega) (wr.heap.size + 1) (by simp) ?_)
      intro g1 q1 w1 hown1 hgrow1 hat1 hlt1
      have bk2 := (BKR.out).list_step hgrow1 hown1 hat1 hlt1 hQr (ROOM.out)
      obtain ⟨x0, x1, x2, x3⟩ := (BKR.out).grown hgrow1 (BKR.out).lvb
      have kp1 := hide (Kp.step (p := p) (i := 0) (u := .slice (some ⟨g1, 0, none⟩) (rv.length + 1) q1) hgrow1 (BKR.out).lvb)
      have sz1 := hide (show wr.heap.size + 1 ≤ w1.heap.size by have := hgrow1.size; simpa using this)
      have A1 := hide hat1
      have BK2 := hide bk2
      obtain ⟨y0, y1, y2, y3⟩ := bk2.facts
      clear hgrow1 hown1 hat1 bk2 m0 m1 m2 m3
      go_wp2_with (at_builtin; refine wpList_append_lies _ rfl (.tmp 48) (.tmp 50) 22 rfl Q 73 j1 (.int .u32 0) 1 4 Try.underlying22 hj1 jz0 jz1 jz2 rfl (by decide) (.slice am rv.length cm) rv.length (bmks rv.length) rfl (BK2.out.marks.alloc _) ⟨w1.heap.size, 0, none⟩ 1 1 [bmk rv.length] rfl rfl (cell_new_at (by simp [World.setCell]) (bmk rv.length) _) (by intro u hu; simp at hu; subst hu; rfl) (by omega) (by unfold maxLen; omega) (by omega) (by have := BK2.out.lt; have := sz1.out; simp [World.setCell]; omega) (w1.heap.size + 1) (by simp [World.setCell]) ?_)
      intro g2 q2 w3 hown2 hgrow2 hat2 hlt2
      have hsz2 : (w1.setCell ⟨p, 0, none⟩ (.slice (some ⟨g1, 0, none⟩) (rv.length + 1) q1)).heap.size = w1.heap.size := by simp [World.setCell]
      have bk3 := BK2.out.mark_step hgrow2 hown2 (by rw [hsz2]; exact hat2) hlt2 (by rw [hsz2]; have := sz1.out; omega)
      obtain ⟨v0, v1, v2, v3⟩ := BK2.out.grown hgrow2 BK2.out.mvb
      have kp2 := Kp.step (p := p) (i := 1) (u := .slice (some ⟨g2, 0, none⟩) (rv.length + 1) q2) hgrow2 BK2.out.mvb
      have F : Hid (OwnS w (w3.setCell ⟨p, 1, none⟩ (.slice (some ⟨g2, 0, none⟩) (rv.length + 1) q2)) p Q bs rv.length (some ⟨g, off, none⟩)) := by
        refine ⟨g2 :: g1 :: ([g] ++ bs), rv ++ [.slice (some ⟨g, off, none⟩) 4096 cap], .slice (some ⟨g1, 0, none⟩) (rv.length + 1) q1, .slice (some ⟨g2, 0, none⟩) (rv.length + 1) q2, ?_, ?_, ?_, ?_⟩
        · simp
        · rw [show (rv ++ [Value.slice (some ⟨g, off, none⟩) 4096 cap]).length = rv.length + 1 by simp]
          exact bk3
        · exact (kp0.out.trans (kp1.out.trans kp2 (fun j hj => List.mem_cons_of_mem _ hj)) (fun j hj => List.mem_cons_of_mem _ hj)).trans (Kp.refl _ _ _) (fun j hj => List.mem_cons_of_mem _ hj)
        · intro j hj
          have s1 := sz1.out
          rcases List.mem_cons.1 hj with e | hj
          · subst e
            rcases hat2 with e' | e'
            · exact HBS.out j ((BKR.out).mvb j e')
            · right; left; have := SZR.out; omega
          · rcases List.mem_cons.1 hj with e | hj
            · subst e
              rcases A1.out with e' | e'
              · exact HBS.out j ((BKR.out).lvb j e')
              · right; left; have := SZR.out; omega
            · exact HBS.out j hj
      clear hgrow2 hown2 hat2 bk3 kp2 x0 x1 x2 x3 y0 y1 y2 y3
      go_wp2
      go_ret
      exact ⟨rfl, F.out⟩

/-- An answer of a call: a list without limbs 0 on top, worth x; its room lies in a block from B on, below T. -/
structure Fr (B T : Nat) (w : World) (ao : Option Addr) (cap : Nat) (rs : List Int) (x : Int) : Prop where
  ow : Ow B w (.slice ao rs.length cap) rs
  canon : Canon rs
  val : val rs = x
  lies : 0 < cap → ∀ g off, ao = some ⟨g, off, none⟩ → B ≤ g ∧ g < T

theorem Ow.sl' {B : Nat} {w : World} {ao : Option Addr} {n cap : Nat} {zs : List Int} (h : Ow B w (.slice ao n cap) zs) : n = zs.length ∧ zs.length ≤ cap ∧ cap ≤ 9223372036854775807 ∧ (cap = 0 ∨ ∃ g off cur, ao = some ⟨g, off, none⟩ ∧ B ≤ g ∧ w.heap[g]? = some (.cells cur 73 (0, 0)) ∧ off + cap ≤ cur.size ∧ At cur .u32 off zs) := by
  obtain ⟨ao', cap', hv, h1, h2, h3, h4⟩ := h
  obtain ⟨rfl, rfl, rfl⟩ := (Value.slice.injEq .. ▸ hv)
  exact ⟨rfl, h1, h2, h4⟩

theorem Is.fr {B : Nat} {w : World} {v : Value} {x : Int} (h : Is B w v x) : ∃ ao cap rs, v = .slice ao rs.length cap ∧ Fr B w.heap.size w ao cap rs x := by
  obtain ⟨rs, ho, hc, hv⟩ := h
  obtain ⟨ao, cap, rfl, h1, h2, h3, h4⟩ := ho
  refine ⟨ao, cap, rs, rfl, ⟨ao, cap, rfl, h1, h2, h3, h4⟩, hc, hv, ?_⟩
  intro h0 g off e
  rcases h4 with h4 | ⟨g', off', cur, e', hB, hh, _⟩
  · omega
  · rw [e'] at e
    simp only [Option.some.injEq, Addr.mk.injEq, and_true] at e
    have := lt_of_heap hh
    omega

theorem Fr.got {B T : Nat} {w : World} {ao : Option Addr} {cap : Nat} {rs : List Int} {x : Int} (h : Fr B T w ao cap rs x) : Got w ao cap rs x := ⟨h.ow.sl, h.canon, h.val⟩

theorem Fr.kept {B T : Nat} {w w' : World} {ao : Option Addr} {cap : Nat} {rs : List Int} {x : Int} (h : Fr B T w ao cap rs x) (hk : ∀ g, g < w.heap.size → B ≤ g → g < T → w'.heap[g]? = w.heap[g]?) : Fr B T w' ao cap rs x := by
  obtain ⟨ho, hc, hv, hl⟩ := h
  refine ⟨?_, hc, hv, hl⟩
  obtain ⟨ao', cap', hv', h1, h2, h3, h4⟩ := ho
  obtain ⟨rfl, _, rfl⟩ := (Value.slice.injEq .. ▸ hv')
  refine ⟨ao, cap, rfl, h1, h2, h3, ?_⟩
  rcases h4 with h4 | ⟨g, off, cur, rfl, hB, hh, r⟩
  · exact .inl h4
  · by_cases h0 : 0 < cap
    · have := hl h0 g off rfl
      exact .inr ⟨g, off, cur, rfl, hB, (hk g (lt_of_heap hh) this.1 this.2).trans hh, r⟩
    · exact .inl (by omega)

theorem Fr.below {B T : Nat} {w w' : World} {ao : Option Addr} {cap : Nat} {rs : List Int} {x : Int} (h : Fr B T w ao cap rs x) (hb : Below w.heap.size w w') : Fr B T w' ao cap rs x := h.kept fun g hg _ _ => hb.block g hg

theorem Fr.touch {B T L : Nat} {w w' : World} {ao : Option Addr} {cap : Nat} {rs : List Int} {x : Int} (h : Fr B T w ao cap rs x) (t : Touch w w' L) (hL : L < B ∨ T ≤ L) : Fr B T w' ao cap rs x := h.kept fun g hg h1 h2 => t.other g hg (by omega)

theorem Fr.kp {B T p : Nat} {bs : List Nat} {w w' : World} {ao : Option Addr} {cap : Nat} {rs : List Int} {x : Int} (h : Fr B T w ao cap rs x) (k : Kp w w' p bs) (hp : p < B ∨ T ≤ p) (hb : ∀ j, j ∈ bs → j < B ∨ T ≤ j) : Fr B T w' ao cap rs x :=
  h.kept fun g hg h1 h2 => k.other g hg (by omega) (fun hj => by have := hb g hj; omega)

/-- The book at block p holds n lists; all its memory but p are the blocks bs, from Q on. -/
def Bs (w : World) (p Q : Nat) (bs : List Nat) (n : Nat) : Prop := ∃ rv lv mv, rv.length = n ∧ Bk w p Q bs rv rv.length lv mv

theorem Bs.below {w w' : World} {p Q n : Nat} {bs : List Nat} (h : Bs w p Q bs n) (hb : Below w.heap.size w w') : Bs w' p Q bs n := by
  obtain ⟨rv, lv, mv, e, hk⟩ := h
  exact ⟨rv, lv, mv, e, hk.below hb⟩

theorem Bs.touch {w w' : World} {p Q n L : Nat} {bs : List Nat} (h : Bs w p Q bs n) (t : Touch w w' L) (h1 : p ≠ L) (h2 : L ∉ bs) : Bs w' p Q bs n := by
  obtain ⟨rv, lv, mv, e, hk⟩ := h
  exact ⟨rv, lv, mv, e, hk.touch t h1 h2⟩

theorem Bs.low {w : World} {p Q n : Nat} {bs : List Nat} (h : Bs w p Q bs n) : ∀ j, j ∈ bs → Q ≤ j ∧ j < w.heap.size := by
  obtain ⟨rv, lv, mv, e, hk⟩ := h
  exact hk.low

theorem Bs.lt {w : World} {p Q n : Nat} {bs : List Nat} (h : Bs w p Q bs n) : p ∉ bs ∧ p < w.heap.size := by
  obtain ⟨rv, lv, mv, e, hk⟩ := h
  exact ⟨hk.pQ, hk.lt⟩

/-- A new book. -/
theorem Bs.new {w : World} {p Q : Nat} (h : w.heap[p]? = some (.cells #[.slice none 0 0, .slice none 0 0] 41 (0, 0))) : Bs w p Q [] 0 := by
  refine ⟨[], .slice none 0 0, .slice none 0 0, rfl, h, ⟨rfl, .inl ⟨rfl, rfl⟩⟩, ⟨rfl, .inl ⟨rfl, rfl⟩⟩, ?_, ?_, ?_, ?_, ?_, by simp⟩
  · intro j hj; simp [Value.ownBlock] at hj
  · intro j hj; simp [Value.ownBlock] at hj
  · intro j hj; simp [Value.ownBlock] at hj
  · intro i u hu; simp at hu
  · intro j hj; cases hj

theorem own_b (w : World) (p Q n : Nat) (bs : List Nat) (hb : Bs w p Q bs n) (hn : n ≤ 1000) (B T : Nat) (ao : Option Addr) (cap : Nat) (rs : List Int) (x : Int) (h : Fr B T w ao cap rs x) (hQB : Q ≤ B) (hQ : Q ≤ w.heap.size) (hd : ∀ j, j ∈ bs → j < B ∨ T ≤ j) :
    Calls Try.prog 56 #[.pointer (some ⟨p, 0, none⟩), .slice ao rs.length cap] w fun e w' => e = .returned (.bool true) ∧ ∃ bs', Bs w' p Q bs' (n + 1) ∧ Kp w w' p bs' ∧ ∀ j, j ∈ bs' → j ∈ bs ∨ w.heap.size ≤ j ∨ (B ≤ j ∧ j < T) := by
  obtain ⟨rv, lv, mv, rfl, hk⟩ := hb
  obtain ⟨_, h1, h2, h4⟩ := h.ow.sl'
  have hr := hn
  by_cases h0 : 0 < cap
  · rcases h4 with h4 | ⟨g, off, cur, rfl, hB, hh, hs, ha⟩
    · omega
    have hl := h.lies h0 g off rfl
    have hgb : g ∉ bs := fun hj => by have := hd g hj; omega
    have fin : ∀ w', OwnS w w' p Q bs rv.length (some ⟨g, off, none⟩) → ∃ bs', Bs w' p Q bs' (rv.length + 1) ∧ Kp w w' p bs' ∧ ∀ j, j ∈ bs' → j ∈ bs ∨ w.heap.size ≤ j ∨ (B ≤ j ∧ j < T) := by
      rintro w' ⟨bs', rv', lv', mv', e, hk', kp, hj⟩
      refine ⟨bs', ⟨rv', lv', mv', e, hk'⟩, kp, fun j hj' => ?_⟩
      rcases hj j hj' with a | a | ⟨off', a⟩
      · exact .inl a
      · exact .inr (.inl a)
      · simp only [Option.some.injEq, Addr.mk.injEq] at a
        obtain ⟨rfl, _⟩ := a
        exact .inr (.inr hl)
    by_cases hc : cap ≤ 4096
    · exact (own_small w p Q bs rv lv mv hk hr hQ g off rs.length cap cur hh hs hgb (by omega) h1 h2 hc).mono fun e w' ⟨a, b⟩ => ⟨a, fin w' b⟩
    · exact (own_big w p Q bs rv lv mv hk hr hQ g off rs.length cap cur hh hs hgb (by omega) h1 h2 (by omega)).mono fun e w' ⟨a, b⟩ => ⟨a, fin w' b⟩
  · have hc0 : cap = 0 := by omega
    have hl0 : rs.length = 0 := by omega
    have fin : ∀ w', OwnS w w' p Q bs rv.length none → ∃ bs', Bs w' p Q bs' (rv.length + 1) ∧ Kp w w' p bs' ∧ ∀ j, j ∈ bs' → j ∈ bs ∨ w.heap.size ≤ j ∨ (B ≤ j ∧ j < T) := by
      rintro w' ⟨bs', rv', lv', mv', e, hk', kp, hj⟩
      refine ⟨bs', ⟨rv', lv', mv', e, hk'⟩, kp, fun j hj' => ?_⟩
      rcases hj j hj' with a | a | ⟨off', a⟩
      · exact .inl a
      · exact .inr (.inl a)
      · cases a
    rw [hl0, hc0]
    cases ao with
    | none => exact (own_zero_a w p Q bs rv lv mv hk hr hQ).mono fun e w' ⟨a, b⟩ => ⟨a, fin w' b⟩
    | some ad => exact (own_zero_b w p Q bs rv lv mv hk hr hQ ad).mono fun e w' ⟨a, b⟩ => ⟨a, fin w' b⟩

/-- Blocks from before w0 but for p stay, whatever comes behind. -/
theorem Touch.newer {w0 w w' : World} {p L : Nat} (h : Touch w0 w p) (t : Touch w w' L) (hL : w0.heap.size ≤ L) : Touch w0 w' p :=
  ⟨t.os.trans h.os, t.tape.trans h.tape, t.output.trans h.output, Nat.le_trans h.size t.size, fun k hk hn => (t.other k (Nat.lt_of_lt_of_le hk h.size) (by omega)).trans (h.other k hk hn)⟩

theorem Touch.calm {w0 w w' : World} {p : Nat} (h : Touch w0 w p) (hb : Below w.heap.size w w') : Touch w0 w' p := h.trans (.of_below hb)

theorem Touch.kp {w0 w w' : World} {p : Nat} {bs : List Nat} (h : Touch w0 w p) (k : Kp w w' p bs) (hb : ∀ j, j ∈ bs → w0.heap.size ≤ j) : Touch w0 w' p :=
  ⟨k.os.trans h.os, k.tape.trans h.tape, k.output.trans h.output, Nat.le_trans h.size k.size, fun j hj hn => (k.other j (Nat.lt_of_lt_of_le hj h.size) hn (fun hm => by have := hb j hm; omega)).trans (h.other j hj hn)⟩

theorem Touch.refl (w : World) (p : Nat) : Touch w w p := ⟨rfl, rfl, rfl, Nat.le_refl _, fun _ _ _ => rfl⟩

end Lm
end Go.Proofs.Ytkdcgnooeojjgab

namespace Go.Proofs.Ytkdcgnooeojjgab
namespace Dm
open Go.RowKit
open Lm (hide lt_of_cell lt_of_heap)

theorem sg_eq (ng : Bool) (x : Int) : sg ng x = Lm.sg ng x := by cases ng <;> simp [sg, Lm.sg]

theorem Wh.nats {w : World} {ao : Option Addr} {cap : Nat} {rs : List Int} {x : Int} (h : Got w ao cap rs x) : Wh w false ao cap rs x := by
  have := Wh.of false h
  simpa [sg] using this

theorem box_past {w : World} {g : Nat} {ng : Bool} {v : Value} (h : Box w g ng v) {k : Nat} (hne : g ≠ k) (b u : Value) : Box ((w.setCell ⟨k, 0, none⟩ b).setCell ⟨k, 1, none⟩ u) g ng v := by
  unfold Box
  rw [heap_setCell_other _ ⟨k, 1, none⟩ g _ hne, heap_setCell_other _ ⟨k, 0, none⟩ g _ hne]
  exact h

set_option maxRecDepth 20000 in
set_option maxHeartbeats 1000000 in
theorem nof_g (w : World) (ng : Bool) (a1 : Option Addr) (n1 c1 : Nat) (xs : List Int) (hx : Lm.Sl w (.slice a1 n1 c1) xs) (m1 : xs.length ≤ 100000) :
    Calls Try.prog 58 #[.agg #[.bool ng, .slice a1 n1 c1]] w fun e w' => ∃ ng' ao cap rs, e = .returned (.agg #[.bool ng', .slice ao rs.length cap]) ∧ Wh w' ng' ao cap rs (Lm.sg ng (Lm.val xs)) ∧ rs.length ≤ 3 * xs.length ∧ Below w.heap.size w w' := by
  obtain ⟨w1, e1, bx, hb1, hs1⟩ := Lm.boxed0 w ng (.slice a1 n1 c1)
  obtain ⟨w2, e2, br, hb2, hs2⟩ := boxed0 w1 false (.slice none 0 0)
  have E1 := hide e1
  have E2 := hide e2
  have HB := hb1.trans (hb2.mono hb1.size)
  replace bx := bx.below hb2
  rw [hs1] at br
  have hx2 := hx.below HB
  have HS : w2.heap.size = w.heap.size + 2 := by omega
  rw [← sg_eq]
  clear e1 e2 hb1 hb2 hs1 hs2
  cases ng with
  | false =>
    go_enter Try.func58, Try.ntmps58
    go_upto_region 1 with fail
    rw [E1.out, E2.out]
    obtain ⟨bx1, bx2, bx3, bx4⟩ := bx.facts
    go_wp2_with fail
    refine (fromLimbs_any _ _ _ _ xs hx2 (by omega)).mono ?_
    rintro e w3 ⟨p3, q3, D3, rfl, G3, d3, hb3⟩
    obtain ⟨w4, e4, bn, hb4, hs4⟩ := boxed0 w3 false (.slice p3 D3.length q3)
    have E4 := hide e4
    have z3 := hb3.size
    replace HB := (HB.trans (hb3.mono HB.size)).trans (hb4.mono (Nat.le_trans HB.size z3))
    replace bx := (bx.below hb3).below hb4
    replace br := (br.below hb3).below hb4
    replace G3 := G3.below hb4
    clear e4 hb3 hb4 bx1 bx2 bx3 bx4
    go_upto_region 2 with fail
    rw [E4.out]
    obtain ⟨bx1, bx2, bx3, bx4⟩ := bx.facts
    obtain ⟨br1, br2, br3, br4⟩ := br.facts
    obtain ⟨bn1, bn2, bn3, bn4⟩ := bn.facts
    have F := hide (br.set false (.slice p3 D3.length q3)).facts
    have Y := hide (br.wh false (.slice p3 D3.length q3) (Wh.nats G3))
    have Z := hide (below_set2 HB (show w.heap.size ≤ w.heap.size + 1 by omega) (.bool false) (.slice p3 D3.length q3))
    go_wp2
    refine bodyPost_ret (v := .agg #[.bool false, .slice p3 D3.length q3]) ?_ rfl ⟨false, p3, q3, D3, rfl, Y.out, by omega, Z.out⟩
    simp [results, Try.results58, go_sem, F.out.1, F.out.2.1]
  | true =>
    go_enter Try.func58, Try.ntmps58
    go_upto_region 1 with fail
    rw [E1.out, E2.out]
    obtain ⟨bx1, bx2, bx3, bx4⟩ := bx.facts
    go_wp2_with fail
    refine (fromLimbs_any _ _ _ _ xs hx2 (by omega)).mono ?_
    rintro e w3 ⟨p3, q3, D3, rfl, G3, d3, hb3⟩
    obtain ⟨w4, e4, bn, hb4, hs4⟩ := boxed0 w3 false (.slice p3 D3.length q3)
    have E4 := hide e4
    have z3 := hb3.size
    replace HB := (HB.trans (hb3.mono HB.size)).trans (hb4.mono (Nat.le_trans HB.size z3))
    replace bx := (bx.below hb3).below hb4
    replace br := (br.below hb3).below hb4
    replace G3 := G3.below hb4
    clear e4 hb3 hb4 bx1 bx2 bx3 bx4
    go_upto_region 2 with fail
    rw [E4.out]
    obtain ⟨bx1, bx2, bx3, bx4⟩ := bx.facts
    obtain ⟨bn1, bn2, bn3, bn4⟩ := bn.facts
    go_wp2_with fail
    refine (minus_got _ _ _ _ D3 _ G3 (by omega)).mono ?_
    rintro e w5 ⟨n5, p5, q5, D5, rfl, G5, d5, hb5⟩
    replace HB := HB.trans (hb5.mono HB.size)
    replace br := br.below hb5
    clear bx1 bx2 bx3 bx4 bn1 bn2 bn3 bn4 hb5
    obtain ⟨br1, br2, br3, br4⟩ := br.facts
    have F := hide (br.set n5 (.slice p5 D5.length q5)).facts
    have Y := hide (br.wh n5 (.slice p5 D5.length q5) G5)
    have Z := hide (below_set2 HB (show w.heap.size ≤ w.heap.size + 1 by omega) (.bool n5) (.slice p5 D5.length q5))
    go_wp2
    refine bodyPost_ret (v := .agg #[.bool n5, .slice p5 D5.length q5]) ?_ rfl ⟨n5, p5, q5, D5, rfl, Y.out, by omega, Z.out⟩
    simp [results, Try.results58, go_sem, F.out.1, F.out.2.1]

theorem nof_z (w : World) (ng : Bool) (a1 : Option Addr) (n1 c1 : Nat) (xs : List Int) (x : Int) (hx : Lm.Ag w ng a1 n1 c1 xs x) (m1 : xs.length ≤ 100000) :
    Calls Try.prog 58 #[.agg #[.bool ng, .slice a1 n1 c1]] w fun e w' => ∃ ng' ao cap rs, e = .returned (.agg #[.bool ng', .slice ao rs.length cap]) ∧ Wh w' ng' ao cap rs x ∧ rs.length ≤ 3 * xs.length ∧ Below w.heap.size w w' := by
  have h := nof_g w ng a1 n1 c1 xs hx.sl m1
  rw [hx.worth] at h
  exact h

/-- An answer that is a whole number in memory of its own. -/
structure WFr (B T : Nat) (w : World) (ng : Bool) (ao : Option Addr) (cap : Nat) (rs : List Int) (z : Int) : Prop where
  fr : Lm.Fr B T w ao cap rs (z.natAbs : Int)
  sgn : ng = decide (z < 0)

theorem WFr.wh {B T : Nat} {w : World} {ng : Bool} {ao : Option Addr} {cap : Nat} {rs : List Int} {z : Int} (h : WFr B T w ng ao cap rs z) : Lm.Wh w ng ao cap rs z := ⟨h.fr.got, h.sgn⟩
theorem WFr.below {B T : Nat} {w w' : World} {ng : Bool} {ao : Option Addr} {cap : Nat} {rs : List Int} {z : Int} (h : WFr B T w ng ao cap rs z) (hb : Below w.heap.size w w') : WFr B T w' ng ao cap rs z := ⟨h.fr.below hb, h.sgn⟩
theorem WFr.kept {B T : Nat} {w w' : World} {ng : Bool} {ao : Option Addr} {cap : Nat} {rs : List Int} {z : Int} (h : WFr B T w ng ao cap rs z) (hk : ∀ g, g < w.heap.size → B ≤ g → g < T → w'.heap[g]? = w.heap[g]?) : WFr B T w' ng ao cap rs z := ⟨h.fr.kept hk, h.sgn⟩
theorem WFr.touch {B T L : Nat} {w w' : World} {ng : Bool} {ao : Option Addr} {cap : Nat} {rs : List Int} {z : Int} (h : WFr B T w ng ao cap rs z) (t : Lm.Touch w w' L) (hL : L < B ∨ T ≤ L) : WFr B T w' ng ao cap rs z := ⟨h.fr.touch t hL, h.sgn⟩
theorem WFr.kp {B T p : Nat} {bs : List Nat} {w w' : World} {ng : Bool} {ao : Option Addr} {cap : Nat} {rs : List Int} {z : Int} (h : WFr B T w ng ao cap rs z) (k : Lm.Kp w w' p bs) (hp : p < B ∨ T ≤ p) (hb : ∀ j, j ∈ bs → j < B ∨ T ≤ j) : WFr B T w' ng ao cap rs z := ⟨h.fr.kp k hp hb, h.sgn⟩
theorem WFr.wide {B B' T T' : Nat} {w : World} {ng : Bool} {ao : Option Addr} {cap : Nat} {rs : List Int} {z : Int} (h : WFr B T w ng ao cap rs z) (hB : B' ≤ B) (hT : T ≤ T') : WFr B' T' w ng ao cap rs z :=
  ⟨⟨h.fr.ow.mono hB, h.fr.canon, h.fr.val, fun h0 g off e => by have := h.fr.lies h0 g off e; omega⟩, h.sgn⟩

theorem set2_kept {w : World} {k : Nat} (b u : Value) {g : Nat} (h : g ≠ k) : ((w.setCell ⟨k, 0, none⟩ b).setCell ⟨k, 1, none⟩ u).heap[g]? = w.heap[g]? := by
  rw [heap_setCell_other _ ⟨k, 1, none⟩ g _ h, heap_setCell_other _ ⟨k, 0, none⟩ g _ h]

set_option maxRecDepth 20000 in
set_option maxHeartbeats 1000000 in
theorem told_g (w : World) (ng : Bool) (ao : Option Addr) (cap : Nat) (rs : List Int) (z : Int) (h : Wh w ng ao cap rs z) (M : Nat) (hz : (z.natAbs : Int) < Lm.pw M) (hM : M ≤ 1000000) (hl : rs.length ≤ 1000000) :
    Calls Try.prog 49 #[.agg #[.bool ng, .slice ao rs.length cap]] w fun e w' => ∃ bo dap ls, e = .returned (.agg #[.bool ng, .slice bo ls.length dap]) ∧ WFr w.heap.size w'.heap.size w' ng bo dap ls z ∧ ls.length ≤ M ∧ Below w.heap.size w w' := by
  obtain ⟨w1, e1, bx, hb1, hs1⟩ := boxed0 w ng (.slice ao rs.length cap)
  obtain ⟨w2, e2, br, hb2, hs2⟩ := Lm.boxed0 w1 false (.slice none 0 0)
  have E1 := hide e1
  have E2 := hide e2
  have HB := hb1.trans (hb2.mono hb1.size)
  replace bx := bx.below hb2
  rw [hs1] at br
  have h2 := h.below HB
  have HS : w2.heap.size = w.heap.size + 2 := by omega
  have HSG := hide h.2
  have HZ := hide hz
  have ne1 : ¬ (w.heap.size = w.heap.size + 1) := by omega
  have ne2 : ¬ (w.heap.size + 1 = w.heap.size) := by omega
  clear e1 e2 hb1 hb2 hs1 hs2 hz
  go_enter Try.func49, Try.ntmps49
  go_upto_region 1 with fail
  rw [E1.out, E2.out]
  obtain ⟨bx1, bx2, bx3, bx4⟩ := bx.facts
  obtain ⟨br1, br2, br3, br4⟩ := br.facts
  go_region_held3 (fun w' => w'.cell? ⟨w.heap.size, 0, none⟩ = some (.bool ng) ∧ w'.cell? ⟨w.heap.size, 1, none⟩ = some (.slice ao rs.length cap)) (go_keep) (first
    | (go_at_call 79; refine (limbs_any _ _ _ _ rs _ (h2.1.below (by repeat (first | exact Below.refl _ _ | refine Below.drew ?_))) M HZ.out hM hl).mono ?_; rintro e w1' ⟨v1, rfl, I1, hb1⟩; have hb1' : Below w2.heap.size w2 w1' := (show Below w2.heap.size w2 _ by repeat (first | exact Below.refl _ _ | refine Below.drew ?_)).trans hb1; obtain ⟨p1, q1, r1, rfl, F1⟩ := I1.fr; clear I1; replace bx := bx.below hb1'; clear bx1 bx2 bx3 bx4; obtain ⟨bx1, bx2, bx3, bx4⟩ := bx.facts; replace br := br.below hb1'; clear br1 br2 br3 br4; obtain ⟨br1, br2, br3, br4⟩ := br.facts))
  all_goals
    have HB2 := HB.trans (hb1'.mono HB.size)
    have F := hide (br.set ng (.slice p1 r1.length q1)).facts
    have hkk := lt_of_heap br
    have Y := hide (show WFr w2.heap.size w1'.heap.size _ ng p1 q1 r1 z from (WFr.kept (w := w1') ⟨F1, HSG.out⟩ (fun g _ hg _ => set2_kept (.bool ng) (.slice p1 r1.length q1) (show g ≠ w.heap.size + 1 by omega))))
    have Z := hide (below_set2 HB2 (show w.heap.size ≤ w.heap.size + 1 by omega) (.bool ng) (.slice p1 r1.length q1))
    have LL := hide (Lm.canon_len F1.canon (m := M) (by rw [F1.val]; exact HZ.out))
    clear bx1 bx2 bx3 bx4
    go_wp2
    refine bodyPost_ret (v := .agg #[.bool ng, .slice p1 r1.length q1]) ?_ rfl ⟨p1, q1, r1, rfl, Y.out.wide (by omega) (by simp [World.setCell]), LL.out, Z.out⟩
    simp [results, Try.results49, go_sem, F.out.1, F.out.2.1]

end Dm
end Go.Proofs.Ytkdcgnooeojjgab

namespace Go.Proofs.Ytkdcgnooeojjgab
namespace Dm
open Go.RowKit
open Lm (hide lt_of_cell lt_of_heap)

theorem i_step {ds : List Int} {k : Nat} {u x : Int} (hk : ds.length = k) (h : val ds + pw k * u = x) : val (ds ++ [u % 10000]) + pw (k + 1) * (u / 10000) = x := by
  rw [val_snoc, hk, pw]
  have e : u = u % 10000 + 10000 * (u / 10000) := by omega
  have e2 : pw k * (u % 10000) + 10000 * pw k * (u / 10000) = pw k * u := by
    rw [Int.mul_comm 10000 (pw k), Int.mul_assoc, ← Int.mul_add, ← e]
  omega

theorem i_room {ds : List Int} {k : Nat} {u : Int} (_hk : ds.length = k) (hl : Limb ds) (hu : 0 < u) (h : val ds + pw k * u < 18446744073709551616) : k ≤ 4 := by
  apply Classical.byContradiction
  intro hn
  have h1 := pw_mono (m := 5) (n := k) (by omega)
  rw [show pw 5 = 100000000000000000000 from by decide] at h1
  have h2 : pw k * 1 ≤ pw k * u := Int.mul_le_mul_of_nonneg_left (by omega) (by omega)
  have h3 := (val_bounds hl).1
  omega

set_option maxRecDepth 20000 in
set_option maxHeartbeats 1000000 in
theorem nint_neg (w : World) (v : Int) (h1 : -9223372036854775808 ≤ v) (h2 : v ≤ 9223372036854775807) (h0 : v < 0) :
    Calls Try.prog 48 #[.int .i64 v] w fun e w' => ∃ ng' ao cap rs, e = .returned (.agg #[.bool ng', .slice ao rs.length cap]) ∧ Wh w' ng' ao cap rs v ∧ rs.length ≤ 5 ∧ Below w.heap.size w w' := by
  obtain ⟨i0, hi, hz0, hz1, hz2⟩ := info_parts info64
  obtain ⟨w0, e0, br, hb0, hs0⟩ := boxed0 w false (.slice none 0 0)
  have E0 := hide e0
  clear e0 hs0
  have hw : IntKind.u64.wrap (-IntKind.u64.wrap v) = -v := by rw [IntKind.wrap_u64, IntKind.wrap_u64]; omega
  go_enter Try.func48, Try.ntmps48
  go_wp2
  rw [E0.out]
  clear hw
  go_loopw [3, 4] (fun mv uv wr => ∃ (k : Nat) (u : Int) (ds : List Int), uv = .int .u64 u ∧ 0 ≤ u ∧ u < 18446744073709551616 ∧ ds.length = k ∧ k ≤ 5 ∧ Limb ds ∧ val ds + pw k * u = -v ∧ wr.ownsRow w0.heap.size 3 1 mv k (ds.map (Value.int .i64)) ∧ Below w0.heap.size w0 wr) (fun _ uv _ => (intOf uv).toNat)
  case atStart => exact ⟨0, -v, [], rfl, by omega, by omega, rfl, by omega, limb_nil, by simp [val, pw], World.ownsRow_nil _ _ _ _, Below.refl _ _⟩
  case round =>
    obtain ⟨k, u, ds, rfl, hu0, hu1, hdl, hk5, hds, hv, hown, hbel⟩ := hrel
    have HD := hide hds
    have HDL := hide hdl
    have HV := hide hv
    have hsz := hbel.size
    clear hds hdl hv
    by_cases hu : 0 < u
    · have hroom := i_room HDL.out HD.out hu (by rw [HV.out]; omega)
      have HV' := hide (i_step HDL.out HV.out)
      go_wp2_with (at_builtin; refine wpList_append_own _ rfl (.tmp 13) (.tmp 17) 64 rfl w0.heap.size 3 i0 (.int .i64 0) 1 8 Try.underlying64 hi hz0 hz1 hz2 rfl (by decide) _ _ _ rfl (hown.alloc _) ⟨wr.heap.size, 0, none⟩ 1 1 [.int .i64 (u % 10000)] rfl rfl (cell_one_new _ _ _) ?c2 ?c3 ?c4 ?c5 ?_)
      case c2 => first | rfl | (intro x hx; simp at hx; subst hx; rfl)
      case c3 => unfold maxLen; omega
      case c4 => omega
      case c5 => first | omega | (simp; omega)
      intro v4 w4 hown4 hgrow4 _
      have R := step_own hown4 hgrow4 hbel (hown.lt)
      clear hown4 hgrow4 hown
      go_wp2
      go_roundw
      case rel => exact ⟨k + 1, u / 10000, ds ++ [u % 10000], rfl, by omega, by omega, by have := HDL.out; simp; omega, by omega, limb_append.2 ⟨HD.out, limb_cons.2 ⟨by omega, limb_nil⟩⟩, HV'.out, R.1, R.2⟩
      case measure => simp [intOf]; omega
    · have hu' : u = 0 := by omega
      subst hu'
      have hval : Hid (val ds = -v) := by have := HV.out; rw [Int.mul_zero, Int.add_zero] at this; exact this
      obtain ⟨ao1, cap1, hv1, s1, _, _⟩ := (ow_of_row hown HD.out).open
      subst hv1
      replace br := br.below hbel
      have HB := hb0.trans (hbel.mono hb0.size)
      have hd : decide (v < 0) = true := by simp; omega
      have hsg : Hid (sg true (-v) = v) := by simp [Hid, sg]
      clear hown hbel
      go_wp2_with fail
      try rw [hd]
      refine (made_w _ _ _ _ ds _ s1 hval.out).mono ?_
      rintro e w2 ⟨ng2, r2, rfl, G2, l2, hb2⟩
      rw [hsg.out] at G2
      replace br := br.below hb2
      replace HB := HB.trans (hb2.mono HB.size)
      have hdl := HDL.out
      clear hb2 hval s1
      obtain ⟨ka, kb, kc, kd⟩ := br.facts
      have X := hide (br.set ng2 (.slice ao1 r2.length cap1)).facts
      have Y := hide (br.wh ng2 (.slice ao1 r2.length cap1) G2)
      have Z := hide (below_set2 HB (Nat.le_refl _) (.bool ng2) (.slice ao1 r2.length cap1))
      go_wp2
      refine bodyPost_ret (v := .agg #[.bool ng2, .slice ao1 r2.length cap1]) ?_ rfl ⟨ng2, ao1, cap1, r2, rfl, Y.out, by omega, Z.out⟩
      simp [results, Try.results48, go_sem, X.out.1, X.out.2.1]

set_option maxRecDepth 20000 in
set_option maxHeartbeats 1000000 in
theorem nint_pos (w : World) (v : Int) (h1 : -9223372036854775808 ≤ v) (h2 : v ≤ 9223372036854775807) (h0 : ¬ v < 0) :
    Calls Try.prog 48 #[.int .i64 v] w fun e w' => ∃ ng' ao cap rs, e = .returned (.agg #[.bool ng', .slice ao rs.length cap]) ∧ Wh w' ng' ao cap rs v ∧ rs.length ≤ 5 ∧ Below w.heap.size w w' := by
  obtain ⟨i0, hi, hz0, hz1, hz2⟩ := info_parts info64
  obtain ⟨w0, e0, br, hb0, hs0⟩ := boxed0 w false (.slice none 0 0)
  have E0 := hide e0
  clear e0 hs0
  have hw : True := trivial
  go_enter Try.func48, Try.ntmps48
  go_wp2
  rw [E0.out]
  clear hw
  go_loopw [3, 4] (fun mv uv wr => ∃ (k : Nat) (u : Int) (ds : List Int), uv = .int .u64 u ∧ 0 ≤ u ∧ u < 18446744073709551616 ∧ ds.length = k ∧ k ≤ 5 ∧ Limb ds ∧ val ds + pw k * u = v ∧ wr.ownsRow w0.heap.size 3 1 mv k (ds.map (Value.int .i64)) ∧ Below w0.heap.size w0 wr) (fun _ uv _ => (intOf uv).toNat)
  case atStart => exact ⟨0, v, [], rfl, by omega, by omega, rfl, by omega, limb_nil, by simp [val, pw], World.ownsRow_nil _ _ _ _, Below.refl _ _⟩
  case round =>
    obtain ⟨k, u, ds, rfl, hu0, hu1, hdl, hk5, hds, hv, hown, hbel⟩ := hrel
    have HD := hide hds
    have HDL := hide hdl
    have HV := hide hv
    have hsz := hbel.size
    clear hds hdl hv
    by_cases hu : 0 < u
    · have hroom := i_room HDL.out HD.out hu (by rw [HV.out]; omega)
      have HV' := hide (i_step HDL.out HV.out)
      go_wp2_with (at_builtin; refine wpList_append_own _ rfl (.tmp 13) (.tmp 17) 64 rfl w0.heap.size 3 i0 (.int .i64 0) 1 8 Try.underlying64 hi hz0 hz1 hz2 rfl (by decide) _ _ _ rfl (hown.alloc _) ⟨wr.heap.size, 0, none⟩ 1 1 [.int .i64 (u % 10000)] rfl rfl (cell_one_new _ _ _) ?c2 ?c3 ?c4 ?c5 ?_)
      case c2 => first | rfl | (intro x hx; simp at hx; subst hx; rfl)
      case c3 => unfold maxLen; omega
      case c4 => omega
      case c5 => first | omega | (simp; omega)
      intro v4 w4 hown4 hgrow4 _
      have R := step_own hown4 hgrow4 hbel (hown.lt)
      clear hown4 hgrow4 hown
      go_wp2
      go_roundw
      case rel => exact ⟨k + 1, u / 10000, ds ++ [u % 10000], rfl, by omega, by omega, by have := HDL.out; simp; omega, by omega, limb_append.2 ⟨HD.out, limb_cons.2 ⟨by omega, limb_nil⟩⟩, HV'.out, R.1, R.2⟩
      case measure => simp [intOf]; omega
    · have hu' : u = 0 := by omega
      subst hu'
      have hval : Hid (val ds = v) := by have := HV.out; rw [Int.mul_zero, Int.add_zero] at this; exact this
      obtain ⟨ao1, cap1, hv1, s1, _, _⟩ := (ow_of_row hown HD.out).open
      subst hv1
      replace br := br.below hbel
      have HB := hb0.trans (hbel.mono hb0.size)
      have hd : decide (v < 0) = false := by simp; omega
      have hsg : Hid (sg false (v) = v) := by simp [Hid, sg]
      clear hown hbel
      go_wp2_with fail
      try rw [hd]
      refine (made_w _ _ _ _ ds _ s1 hval.out).mono ?_
      rintro e w2 ⟨ng2, r2, rfl, G2, l2, hb2⟩
      rw [hsg.out] at G2
      replace br := br.below hb2
      replace HB := HB.trans (hb2.mono HB.size)
      have hdl := HDL.out
      clear hb2 hval s1
      obtain ⟨ka, kb, kc, kd⟩ := br.facts
      have X := hide (br.set ng2 (.slice ao1 r2.length cap1)).facts
      have Y := hide (br.wh ng2 (.slice ao1 r2.length cap1) G2)
      have Z := hide (below_set2 HB (Nat.le_refl _) (.bool ng2) (.slice ao1 r2.length cap1))
      go_wp2
      refine bodyPost_ret (v := .agg #[.bool ng2, .slice ao1 r2.length cap1]) ?_ rfl ⟨ng2, ao1, cap1, r2, rfl, Y.out, by omega, Z.out⟩
      simp [results, Try.results48, go_sem, X.out.1, X.out.2.1]

theorem nint_any (w : World) (v : Int) (h1 : -9223372036854775808 ≤ v) (h2 : v ≤ 9223372036854775807) :
    Calls Try.prog 48 #[.int .i64 v] w fun e w' => ∃ ng' ao cap rs, e = .returned (.agg #[.bool ng', .slice ao rs.length cap]) ∧ Wh w' ng' ao cap rs v ∧ rs.length ≤ 5 ∧ Below w.heap.size w w' := by
  by_cases h0 : v < 0
  · exact nint_neg w v h1 h2 h0
  · exact nint_pos w v h1 h2 h0

end Dm
end Go.Proofs.Ytkdcgnooeojjgab
