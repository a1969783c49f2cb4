/-
  What a Book holds: the lists that it took, each filled with a mark of its own; what an append to its two rows does to it.
-/
import Derived.Test.YthbomfboohjcfaaLend
import Derived.Deep.AppendLies
import Derived.Deep.QuietTactic
import Derived.BigQuiet
namespace Go.Proofs.Ythbomfboohjcfaa
namespace Lm
open Go.RowKit

def bmk (i : Nat) : Value := .int .u32 (1358954496 + (i : Int))
def bmks (n : Nat) : List Value := (List.range n).map bmk
theorem bmks_succ (n : Nat) : bmks (n + 1) = bmks n ++ [bmk n] := by simp [bmks, List.range_succ]
theorem bmks_length (n : Nat) : (bmks n).length = n := by simp [bmks]
theorem bmks_get {n i : Nat} (h : i < n) : (bmks n)[i]? = some (bmk i) := by simp [bmks, h]

/-- The list u, the i-th that was taken, bears its mark; it lies in none of the book's two rows. -/
def RoomOk (w : World) (bs : List Nat) (lv mv : Value) (i : Nat) (u : Value) : Prop :=
  ∃ ao n cap, u = .slice ao n cap ∧ n ≤ cap ∧ n ≤ 4096 ∧ cap ≤ 9223372036854775807 ∧ (n = 0 ∨ ∃ g off, ao = some ⟨g, off, none⟩ ∧ g ∈ bs ∧ lv.ownBlock ≠ some g ∧ mv.ownBlock ≠ some g ∧ ∀ k, k < n → w.cell? ⟨g, off + k, none⟩ = some (bmk i))

/-- The book at block p holds the lists rv and m marks; all its memory but p are the blocks bs, from Q on. -/
structure Bk (w : World) (p Q : Nat) (bs : List Nat) (rv : List Value) (m : Nat) (lv mv : Value) : Prop where
  here : w.heap[p]? = some (.cells #[lv, mv] 34 (0, 0))
  lists : w.ownsRow Q 22 1 lv rv.length rv
  marks : w.ownsRow Q 47 1 mv m (bmks m)
  lvb : ∀ j, lv.ownBlock = some j → j ∈ bs
  mvb : ∀ j, mv.ownBlock = some j → j ∈ bs
  two : ∀ j, lv.ownBlock = some j → mv.ownBlock ≠ some j
  rooms : ∀ i u, rv[i]? = some u → RoomOk w bs lv mv i u
  low : ∀ j, j ∈ bs → Q ≤ j ∧ j < w.heap.size
  pQ : p ∉ bs

theorem owns_kept {Q e n : Nat} {w w' : World} {v : Value} {xs : List Value} (h : w.ownsRow Q e 1 v n xs) (hb : ∀ j, v.ownBlock = some j → w'.heap[j]? = w.heap[j]?) : w'.ownsRow Q e 1 v n xs := by
  obtain ⟨h1, h2⟩ := h
  refine ⟨h1, ?_⟩
  rcases h2 with h2 | ⟨g, cap, cur, rfl, hg, hh, r⟩
  · exact .inl h2
  · exact .inr ⟨g, cap, cur, rfl, hg, by rw [hb g rfl]; exact hh, r⟩

theorem RoomOk.kept {w w' : World} {bs bs' : List Nat} {lv mv lv' mv' : Value} {i : Nat} {u : Value} (h : RoomOk w bs lv mv i u)
    (hb : ∀ j, j ∈ bs → j ∈ bs') (hl : ∀ j, j ∈ bs → lv.ownBlock ≠ some j → mv.ownBlock ≠ some j → lv'.ownBlock ≠ some j ∧ mv'.ownBlock ≠ some j ∧ w'.heap[j]? = w.heap[j]?) : RoomOk w' bs' lv' mv' i u := by
  obtain ⟨ao, n, cap, rfl, h1, h2, h3, h4⟩ := h
  refine ⟨ao, n, cap, rfl, h1, h2, h3, ?_⟩
  rcases h4 with h4 | ⟨g, off, rfl, hg, e1, e2, hc⟩
  · exact .inl h4
  · obtain ⟨f1, f2, f3⟩ := hl g hg e1 e2
    exact .inr ⟨g, off, rfl, hb g hg, f1, f2, fun k hk => by rw [World.cell?_of_block (w := w) f3]; exact hc k hk⟩

/-- The book in a world in which its blocks are as they were. -/
theorem Bk.kept {w w' : World} {p Q m : Nat} {bs : List Nat} {rv : List Value} {lv mv : Value} (h : Bk w p Q bs rv m lv mv) (hp : w'.heap[p]? = w.heap[p]?) (hb : ∀ j, j ∈ bs → w'.heap[j]? = w.heap[j]?) (hs : w.heap.size ≤ w'.heap.size) : Bk w' p Q bs rv m lv mv :=
  ⟨hp.trans h.here, owns_kept h.lists fun j hj => hb j (h.lvb j hj), owns_kept h.marks fun j hj => hb j (h.mvb j hj), h.lvb, h.mvb, h.two,
   fun i u hu => (h.rooms i u hu).kept (fun _ hj => hj) fun j hj e1 e2 => ⟨e1, e2, hb j hj⟩, fun j hj => ⟨(h.low j hj).1, Nat.lt_of_lt_of_le (h.low j hj).2 hs⟩, h.pQ⟩

theorem Bk.lt {w : World} {p Q m : Nat} {bs : List Nat} {rv : List Value} {lv mv : Value} (h : Bk w p Q bs rv m lv mv) : p < w.heap.size := lt_of_heap h.here

theorem Bk.below {w w' : World} {p Q m : Nat} {bs : List Nat} {rv : List Value} {lv mv : Value} (h : Bk w p Q bs rv m lv mv) (hb : Below w.heap.size w w') : Bk w' p Q bs rv m lv mv :=
  h.kept (hb.block p h.lt) (fun j hj => hb.block j (h.low j hj).2) hb.size

theorem Bk.touch {w w' : World} {p Q m L : Nat} {bs : List Nat} {rv : List Value} {lv mv : Value} (h : Bk w p Q bs rv m lv mv) (t : Touch w w' L) (h1 : p ≠ L) (h2 : L ∉ bs) : Bk w' p Q bs rv m lv mv :=
  h.kept (t.other p h.lt h1) (fun j hj => t.other j (h.low j hj).2 (fun e => h2 (e ▸ hj))) t.size

/-- More blocks are counted. -/
theorem Bk.more {w : World} {p Q m : Nat} {bs gs : List Nat} {rv : List Value} {lv mv : Value} (h : Bk w p Q bs rv m lv mv) (hg : ∀ j, j ∈ gs → Q ≤ j ∧ j < w.heap.size) (hp : p ∉ gs) : Bk w p Q (gs ++ bs) rv m lv mv :=
  ⟨h.here, h.lists, h.marks, fun j hj => List.mem_append_right _ (h.lvb j hj), fun j hj => List.mem_append_right _ (h.mvb j hj), h.two,
   fun i u hu => (h.rooms i u hu).kept (fun _ hj => List.mem_append_right _ hj) fun _ _ e1 e2 => ⟨e1, e2, rfl⟩,
   fun j hj => (List.mem_append.1 hj).elim (hg j) (h.low j), fun hj => (List.mem_append.1 hj).elim hp h.pQ⟩

theorem setCell_block {w : World} {p i k : Nat} {u : Value} (h : k ≠ p) : (w.setCell ⟨p, i, none⟩ u).heap[k]? = w.heap[k]? := heap_setCell_other w ⟨p, i, none⟩ k u h

theorem own_of {a : Addr} {n c j : Nat} (h : (Value.slice (some a) n c).ownBlock = some j) : a.block = j := by simpa [Value.ownBlock] using h

/-- A list more in the row of lists. -/
theorem Bk.list_step {w w1 : World} {p Q m : Nat} {bs : List Nat} {rv : List Value} {lv mv u : Value} {o : Obj} {g1 c1 : Nat} (h : Bk w p Q bs rv m lv mv) (hg : (w.alloc o).grownBy w1 lv.ownBlock)
    (hown : w1.ownsRow Q 22 1 (.slice (some ⟨g1, 0, none⟩) (rv.length + 1) c1) (rv.length + 1) (rv ++ [u])) (hat : lv.ownBlock = some g1 ∨ g1 = w.heap.size + 1) (hlt : g1 < w1.heap.size) (hQ : Q ≤ w.heap.size)
    (hu : RoomOk w bs lv mv rv.length u) : Bk (w1.setCell ⟨p, 0, none⟩ (.slice (some ⟨g1, 0, none⟩) (rv.length + 1) c1)) p Q (g1 :: bs) (rv ++ [u]) m (.slice (some ⟨g1, 0, none⟩) (rv.length + 1) c1) mv := by
  have hp := h.lt
  have al : ∀ j, j < w.heap.size → (w.alloc o).heap[j]? = w.heap[j]? := fun j hj => Below.heap_alloc _ _ _ hj
  have hsz : w.heap.size + 1 ≤ w1.heap.size := by have := hg.size; simpa using this
  have pl : lv.ownBlock ≠ some p := fun e => h.pQ (h.lvb p e)
  have gp : g1 ≠ p := by
    rcases hat with e | e
    · intro e'; rw [e'] at e; exact pl e
    · omega
  have keep : ∀ j, j < w.heap.size → lv.ownBlock ≠ some j → w1.heap[j]? = w.heap[j]? := fun j hj hn => (hg.block j (by simp; omega) (fun e => hn e.symm)).trans (al j hj)
  have here1 : w1.heap[p]? = some (.cells #[lv, mv] 34 (0, 0)) := (keep p hp pl).trans h.here
  have nogo : ∀ j, j < w.heap.size → lv.ownBlock ≠ some j → g1 ≠ j := by
    intro j hj hn e
    rcases hat with e' | e'
    · rw [e] at e'; exact hn e'
    · omega
  have keep2 : ∀ j, j < w.heap.size → lv.ownBlock ≠ some j → j ≠ p → (w1.setCell ⟨p, 0, none⟩ (.slice (some ⟨g1, 0, none⟩) (rv.length + 1) c1)).heap[j]? = w.heap[j]? := fun j hj hn hne => (setCell_block hne).trans (keep j hj hn)
  refine ⟨?_, ?_, ?_, ?_, ?_, ?_, ?_, ?_, fun hj => (List.mem_cons.1 hj).elim (fun e => gp e.symm) h.pQ⟩
  · exact heap_setCell_same w1 p 0 _ _ _ here1
  · have e : (rv ++ [u]).length = rv.length + 1 := by simp
    rw [e]
    exact owns_kept hown fun j hj => setCell_block (by have := own_of hj; simp at this; omega)
  · exact owns_kept h.marks fun j hj => by
      have hjb := h.low j (h.mvb j hj)
      exact keep2 j hjb.2 (fun e => h.two j e hj) (fun e => h.pQ (e ▸ h.mvb j hj))
  · intro j hj
    have := own_of hj
    simp at this
    simp [this]
  · exact fun j hj => List.mem_cons_of_mem _ (h.mvb j hj)
  · intro j hj e
    have e1 := own_of hj
    simp at e1
    subst e1
    have hjb := h.low _ (h.mvb _ e)
    rcases hat with e' | e'
    · exact h.two _ e' e
    · omega
  · intro i v hv
    have step : ∀ {i v}, RoomOk w bs lv mv i v → RoomOk (w1.setCell ⟨p, 0, none⟩ (.slice (some ⟨g1, 0, none⟩) (rv.length + 1) c1)) (g1 :: bs) (.slice (some ⟨g1, 0, none⟩) (rv.length + 1) c1) mv i v := fun hr =>
      hr.kept (fun _ hj => List.mem_cons_of_mem _ hj) fun j hj e1 e2 => by
        have hjb := h.low j hj
        have hpq := h.pQ
        refine ⟨?_, e2, keep2 j hjb.2 e1 (fun e => hpq (e ▸ hj))⟩
        intro e
        have := own_of e
        exact nogo j hjb.2 e1 (by simpa using this)
    by_cases hi : i < rv.length
    · rw [List.getElem?_append_left hi] at hv
      exact step (h.rooms i v hv)
    · have hi2 : i = rv.length := by
        apply Classical.byContradiction
        intro hn
        rw [List.getElem?_eq_none (by simp; omega)] at hv
        cases hv
      subst hi2
      rw [List.getElem?_append_right (Nat.le_refl _)] at hv
      simp at hv
      subst hv
      exact step hu
  · intro j hj
    have hss : (w1.setCell ⟨p, 0, none⟩ (.slice (some ⟨g1, 0, none⟩) (rv.length + 1) c1)).heap.size = w1.heap.size := by simp [World.setCell]
    rw [hss]
    rcases List.mem_cons.1 hj with e | e
    · subst e
      refine ⟨?_, hlt⟩
      rcases hat with e' | e'
      · exact (h.low _ (h.lvb _ e')).1
      · omega
    · have := h.low j e
      omega

/-- A mark more in the row of marks. -/
theorem Bk.mark_step {w w1 : World} {p Q m : Nat} {bs : List Nat} {rv : List Value} {lv mv : Value} {o : Obj} {g1 c1 : Nat} (h : Bk w p Q bs rv m lv mv) (hg : (w.alloc o).grownBy w1 mv.ownBlock)
    (hown : w1.ownsRow Q 47 1 (.slice (some ⟨g1, 0, none⟩) (m + 1) c1) (m + 1) (bmks m ++ [bmk m])) (hat : mv.ownBlock = some g1 ∨ g1 = w.heap.size + 1) (hlt : g1 < w1.heap.size) (hQ : Q ≤ w.heap.size) :
    Bk (w1.setCell ⟨p, 1, none⟩ (.slice (some ⟨g1, 0, none⟩) (m + 1) c1)) p Q (g1 :: bs) rv (m + 1) lv (.slice (some ⟨g1, 0, none⟩) (m + 1) c1) := by
  have hp := h.lt
  have al : ∀ j, j < w.heap.size → (w.alloc o).heap[j]? = w.heap[j]? := fun j hj => Below.heap_alloc _ _ _ hj
  have hsz : w.heap.size + 1 ≤ w1.heap.size := by have := hg.size; simpa using this
  have pl : mv.ownBlock ≠ some p := fun e => h.pQ (h.mvb p e)
  have gp : g1 ≠ p := by
    rcases hat with e | e
    · intro e'; rw [e'] at e; exact pl e
    · omega
  have keep : ∀ j, j < w.heap.size → mv.ownBlock ≠ some j → w1.heap[j]? = w.heap[j]? := fun j hj hn => (hg.block j (by simp; omega) (fun e => hn e.symm)).trans (al j hj)
  have here1 : w1.heap[p]? = some (.cells #[lv, mv] 34 (0, 0)) := (keep p hp pl).trans h.here
  have nogo : ∀ j, j < w.heap.size → mv.ownBlock ≠ some j → g1 ≠ j := by
    intro j hj hn e
    rcases hat with e' | e'
    · rw [e] at e'; exact hn e'
    · omega
  have keep2 : ∀ j, j < w.heap.size → mv.ownBlock ≠ some j → j ≠ p → (w1.setCell ⟨p, 1, none⟩ (.slice (some ⟨g1, 0, none⟩) (m + 1) c1)).heap[j]? = w.heap[j]? := fun j hj hn hne => (setCell_block hne).trans (keep j hj hn)
  refine ⟨?_, ?_, ?_, ?_, ?_, ?_, ?_, ?_, fun hj => (List.mem_cons.1 hj).elim (fun e => gp e.symm) h.pQ⟩
  · exact heap_setCell_same w1 p 1 _ _ _ here1
  · exact owns_kept h.lists fun j hj => by
      have hjb := h.low j (h.lvb j hj)
      exact keep2 j hjb.2 (h.two j hj) (fun e => h.pQ (e ▸ h.lvb j hj))
  · rw [bmks_succ]
    exact owns_kept hown fun j hj => setCell_block (by have := own_of hj; simp at this; omega)
  · exact fun j hj => List.mem_cons_of_mem _ (h.lvb j hj)
  · intro j hj
    have := own_of hj
    simp at this
    simp [this]
  · intro j hj e
    have e1 := own_of e
    simp at e1
    subst e1
    have hjb := h.low _ (h.lvb _ hj)
    rcases hat with e' | e'
    · exact h.two _ hj e'
    · omega
  · intro i v hv
    refine (h.rooms i v hv).kept (fun _ hj => List.mem_cons_of_mem _ hj) fun j hj e1 e2 => ?_
    have hjb := h.low j hj
    have hpq := h.pQ
    refine ⟨e1, ?_, keep2 j hjb.2 e2 (fun e => hpq (e ▸ hj))⟩
    intro e
    have := own_of e
    exact nogo j hjb.2 e2 (by simpa using this)
  · intro j hj
    have hss : (w1.setCell ⟨p, 1, none⟩ (.slice (some ⟨g1, 0, none⟩) (m + 1) c1)).heap.size = w1.heap.size := by simp [World.setCell]
    rw [hss]
    rcases List.mem_cons.1 hj with e | e
    · subst e
      refine ⟨?_, hlt⟩
      rcases hat with e' | e'
      · exact (h.low _ (h.mvb _ e')).1
      · omega
    · have := h.low j e
      omega

/-- w' is w, but for block p, the blocks bs and new ones. -/
structure Kp (w w' : World) (p : Nat) (bs : List Nat) : Prop where
  os : w'.os = w.os
  tape : w'.tape = w.tape
  output : w'.output = w.output
  size : w.heap.size ≤ w'.heap.size
  other : ∀ k, k < w.heap.size → k ≠ p → k ∉ bs → w'.heap[k]? = w.heap[k]?

theorem Kp.trans {w w' w'' : World} {p : Nat} {bs bs' : List Nat} (h : Kp w w' p bs) (h' : Kp w' w'' p bs') (hb : ∀ j, j ∈ bs → j ∈ bs') : Kp w w'' p bs' :=
  ⟨h'.os.trans h.os, h'.tape.trans h.tape, h'.output.trans h.output, Nat.le_trans h.size h'.size, fun k hk hp hn => (h'.other k (Nat.lt_of_lt_of_le hk h.size) hp hn).trans (h.other k hk hp (fun hj => hn (hb k hj)))⟩

theorem Kp.of_wr {w w' : World} {p g : Nat} {bs : List Nat} {cur : Array Value} {e : TypeId} (h : Wr w w' g cur e) (hg : g ∈ bs) : Kp w w' p bs :=
  ⟨h.os, h.tape, h.output, by rw [h.size]; exact Nat.le_refl _, fun k _ _ hn => h.other k (fun e => hn (e ▸ hg))⟩

theorem Kp.refl (w : World) (p : Nat) (bs : List Nat) : Kp w w p bs := ⟨rfl, rfl, rfl, Nat.le_refl _, fun _ _ _ _ => rfl⟩

theorem Kp.step {w w1 : World} {p i : Nat} {bs : List Nat} {v u : Value} {o : Obj} (hg : (w.alloc o).grownBy w1 v.ownBlock) (hv : ∀ j, v.ownBlock = some j → j ∈ bs) : Kp w (w1.setCell ⟨p, i, none⟩ u) p bs :=
  ⟨hg.os, hg.tape, hg.output, by have := hg.size; simp [World.setCell] at this ⊢; omega, fun k hk hp hn => (setCell_block hp).trans ((hg.block k (by simp; omega) (fun e => hn (hv k e.symm))).trans (Below.heap_alloc _ _ _ hk))⟩

theorem Kp.below {w w' : World} {p B : Nat} {bs : List Nat} (h : Kp w w' p bs) (hp : B ≤ p) (hb : ∀ j, j ∈ bs → B ≤ j) (hs : B ≤ w.heap.size) : Below B w w' :=
  ⟨h.os, h.tape, h.output, h.size, fun k hk => h.other k (by omega) (by omega) (fun hj => by have := hb k hj; omega)⟩

end Lm
end Go.Proofs.Ythbomfboohjcfaa
