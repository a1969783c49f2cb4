/-
  The contract of Book's Own.
-/
import Derived.Test.YthbomfboohjcfaaBook
namespace Go.Proofs.Ythbomfboohjcfaa
namespace Lm
open Go.RowKit

theorem infoL : (Try.prog.info? 22).map (fun i => (i.zero, i.size, i.bytes)) = some (some (.slice none 0 0), 1, 24) := by kernel_rfl

theorem owns_shape {w : World} {B e n : Nat} {v : Value} {xs : List Value} (h : w.ownsRow B e 1 v n xs) : ∃ a c, v = .slice a n c ∧ n ≤ c ∧ c ≤ 9223372036854775807 := by
  rcases h.2 with ⟨rfl, rfl⟩ | ⟨g, cap, cur, rfl, _, _, h1, h2, _⟩
  · exact ⟨none, 0, rfl, Nat.le_refl _, by omega⟩
  · exact ⟨_, cap, rfl, h1, h2⟩

theorem Bk.grown {w w1 : World} {p Q m : Nat} {bs : List Nat} {rv : List Value} {lv mv v : Value} {o : Obj} (h : Bk w p Q bs rv m lv mv) (hg : (w.alloc o).grownBy w1 v.ownBlock) (hv : ∀ j, v.ownBlock = some j → j ∈ bs) :
    w1.cell? ⟨p, 0, none⟩ = some lv ∧ w1.cell? ⟨p, 1, none⟩ = some mv ∧ w1.frozen? ⟨p, 0, none⟩ = false ∧ w1.frozen? ⟨p, 1, none⟩ = false := by
  have hp := h.lt
  have pl : v.ownBlock ≠ some p := fun e => h.pQ (hv p e)
  have e : w1.heap[p]? = some (.cells #[lv, mv] 34 (0, 0)) := ((hg.block p (by simp; omega) (fun e => pl e.symm)).trans (Below.heap_alloc _ _ _ hp)).trans h.here
  exact ⟨by rw [cell_of_row _ _ _ _ _ (0, 0) e]; rfl, by rw [cell_of_row _ _ _ _ _ (0, 0) e]; rfl, frozen_of_row _ _ _ _ _ e, frozen_of_row _ _ _ _ _ e⟩

theorem Bk.facts {w : World} {p Q m : Nat} {bs : List Nat} {rv : List Value} {lv mv : Value} (h : Bk w p Q bs rv m lv mv) :
    w.cell? ⟨p, 0, none⟩ = some lv ∧ w.cell? ⟨p, 1, none⟩ = some mv ∧ w.frozen? ⟨p, 0, none⟩ = false ∧ w.frozen? ⟨p, 1, none⟩ = false :=
  ⟨by rw [cell_of_row _ _ _ _ _ (0, 0) h.here]; rfl, by rw [cell_of_row _ _ _ _ _ (0, 0) h.here]; rfl, frozen_of_row _ _ _ _ _ h.here, frozen_of_row _ _ _ _ _ h.here⟩

theorem cell_new_at {W : World} {H : Nat} (hH : W.heap.size = H) (x : Value) (t : TypeId) : ∀ j u, [x][j]? = some u → (W.alloc (.cells #[x] t)).cell? ((⟨H, 0, none⟩ : Addr).add j) = some u := by
  subst hH
  exact cell_one_new _ _ _

/-- What Own leaves. -/
def OwnS (w w' : World) (p Q : Nat) (bs : List Nat) (len : Nat) (ao : Option Addr) : Prop :=
  ∃ bs' rv' lv' mv', rv'.length = len + 1 ∧ Bk w' p Q bs' rv' rv'.length lv' mv' ∧ Kp w w' p bs' ∧ (∀ j, j ∈ bs' → j ∈ bs ∨ w.heap.size ≤ j ∨ ∃ off, ao = some ⟨j, off, none⟩)

set_option maxRecDepth 20000 in
set_option maxHeartbeats 1000000 in
theorem own_zero_a (w : World) (p Q : Nat) (bs : List Nat) (rv : List Value) (lv mv : Value) (hk : Bk w p Q bs rv rv.length lv mv) (hr : rv.length ≤ 1000) (hQ : Q ≤ w.heap.size)  :
    Calls Try.prog 23 #[.pointer (some ⟨p, 0, none⟩), .slice none 0 0] w fun e w' => e = .returned (.bool true) ∧ OwnS w w' p Q bs rv.length none := by
  obtain ⟨i1, hi1, iz0, iz1, iz2⟩ := info_parts infoL
  obtain ⟨j1, hj1, jz0, jz1, jz2⟩ := info_parts info32
  obtain ⟨al, cl, rfl, al1, al2⟩ := owns_shape hk.lists
  obtain ⟨am, cm, rfl, am1, am2⟩ := owns_shape hk.marks
  obtain ⟨k0, k1, k2, k3⟩ := hk.facts
  have kp0 := hide (Kp.refl w p bs)
  have szr : w.heap.size ≤ w.heap.size := Nat.le_refl _
  have hQr : Q ≤ w.heap.size := hQ
  have hbs : ∀ j, j ∈ bs → j ∈ bs ∨ w.heap.size ≤ j ∨ ∃ off', none = some (⟨j, off', none⟩ : Addr) := fun j hj => .inl hj
  go_enter Try.func23, Try.ntmps23
  go_wp2
  refine wp_loop_rounds 1 ?_
  rw [rounds_succ]
  go_wp2_with (at_builtin; refine wpList_append_lies _ rfl (.tmp 38) (.tmp 40) 32 rfl Q 22 i1 (.slice none 0 0) 1 24 Try.underlying32 hi1 iz0 iz1 iz2 rfl (by decide) (.slice al rv.length cl) rv.length rv rfl ((hk).lists.alloc _) ⟨w.heap.size, 0, none⟩ 1 1 [.slice none 0 0] rfl rfl (cell_one_new _ _ _) (by intro u hu; simp at hu; subst hu; rfl) (by omega) (by unfold maxLen; omega) (by omega) (by have := (hk).lt; simp; omega) (w.heap.size + 1) (by simp) ?_)
  intro g1 q1 w1 hown1 hgrow1 hat1 hlt1
  have bk2 := (hk).list_step hgrow1 hown1 hat1 hlt1 hQr (⟨none, 0, 0, rfl, Nat.le_refl _, by omega, by omega, .inl rfl⟩)
  obtain ⟨x0, x1, x2, x3⟩ := (hk).grown hgrow1 (hk).lvb
  have kp1 := hide (Kp.step (p := p) (i := 0) (u := .slice (some ⟨g1, 0, none⟩) (rv.length + 1) q1) hgrow1 (hk).lvb)
  have sz1 := hide (show w.heap.size + 1 ≤ w1.heap.size by have := hgrow1.size; simpa using this)
  have A1 := hide hat1
  have BK2 := hide bk2
  obtain ⟨y0, y1, y2, y3⟩ := bk2.facts
  clear hgrow1 hown1 hat1 bk2 k0 k1 k2 k3
  go_wp2_with (at_builtin; refine wpList_append_lies _ rfl (.tmp 48) (.tmp 50) 22 rfl Q 47 j1 (.int .u32 0) 1 4 Try.underlying22 hj1 jz0 jz1 jz2 rfl (by decide) (.slice am rv.length cm) rv.length (bmks rv.length) rfl (BK2.out.marks.alloc _) ⟨w1.heap.size, 0, none⟩ 1 1 [bmk rv.length] rfl rfl (cell_new_at (by simp [World.setCell]) (bmk rv.length) _) (by intro u hu; simp at hu; subst hu; rfl) (by omega) (by unfold maxLen; omega) (by omega) (by have := BK2.out.lt; have := sz1.out; simp [World.setCell]; omega) (w1.heap.size + 1) (by simp [World.setCell]) ?_)
  intro g2 q2 w3 hown2 hgrow2 hat2 hlt2
  have hsz2 : (w1.setCell ⟨p, 0, none⟩ (.slice (some ⟨g1, 0, none⟩) (rv.length + 1) q1)).heap.size = w1.heap.size := by simp [World.setCell]
  have bk3 := BK2.out.mark_step hgrow2 hown2 (by rw [hsz2]; exact hat2) hlt2 (by rw [hsz2]; have := sz1.out; omega)
  obtain ⟨v0, v1, v2, v3⟩ := BK2.out.grown hgrow2 BK2.out.mvb
  have kp2 := Kp.step (p := p) (i := 1) (u := .slice (some ⟨g2, 0, none⟩) (rv.length + 1) q2) hgrow2 BK2.out.mvb
  have F : Hid (OwnS w (w3.setCell ⟨p, 1, none⟩ (.slice (some ⟨g2, 0, none⟩) (rv.length + 1) q2)) p Q bs rv.length none) := by
    refine ⟨g2 :: g1 :: bs, rv ++ [.slice none 0 0], .slice (some ⟨g1, 0, none⟩) (rv.length + 1) q1, .slice (some ⟨g2, 0, none⟩) (rv.length + 1) q2, ?_, ?_, ?_, ?_⟩
    · simp
    · rw [show (rv ++ [Value.slice none 0 0]).length = rv.length + 1 by simp]
      exact bk3
    · exact (kp0.out.trans (kp1.out.trans kp2 (fun j hj => List.mem_cons_of_mem _ hj)) (fun j hj => List.mem_cons_of_mem _ hj)).trans (Kp.refl _ _ _) (fun j hj => List.mem_cons_of_mem _ hj)
    · intro j hj
      have s1 := sz1.out
      rcases List.mem_cons.1 hj with e | hj
      · subst e
        rcases hat2 with e' | e'
        · exact hbs j ((hk).mvb j e')
        · right; left; have := szr; omega
      · rcases List.mem_cons.1 hj with e | hj
        · subst e
          rcases A1.out with e' | e'
          · exact hbs j ((hk).lvb j e')
          · right; left; have := szr; omega
        · exact hbs j hj
  clear hgrow2 hown2 hat2 bk3 kp2 x0 x1 x2 x3 y0 y1 y2 y3
  go_wp2
  go_ret
  exact ⟨rfl, F.out⟩

set_option maxRecDepth 20000 in
set_option maxHeartbeats 1000000 in
theorem own_zero_b (w : World) (p Q : Nat) (bs : List Nat) (rv : List Value) (lv mv : Value) (hk : Bk w p Q bs rv rv.length lv mv) (hr : rv.length ≤ 1000) (hQ : Q ≤ w.heap.size)  (ad : Addr) :
    Calls Try.prog 23 #[.pointer (some ⟨p, 0, none⟩), .slice (some ad) 0 0] w fun e w' => e = .returned (.bool true) ∧ OwnS w w' p Q bs rv.length none := by
  obtain ⟨i1, hi1, iz0, iz1, iz2⟩ := info_parts infoL
  obtain ⟨j1, hj1, jz0, jz1, jz2⟩ := info_parts info32
  obtain ⟨al, cl, rfl, al1, al2⟩ := owns_shape hk.lists
  obtain ⟨am, cm, rfl, am1, am2⟩ := owns_shape hk.marks
  obtain ⟨k0, k1, k2, k3⟩ := hk.facts
  have kp0 := hide (Kp.refl w p bs)
  have szr : w.heap.size ≤ w.heap.size := Nat.le_refl _
  have hQr : Q ≤ w.heap.size := hQ
  have hbs : ∀ j, j ∈ bs → j ∈ bs ∨ w.heap.size ≤ j ∨ ∃ off', none = some (⟨j, off', none⟩ : Addr) := fun j hj => .inl hj
  go_enter Try.func23, Try.ntmps23
  go_wp2
  refine wp_loop_rounds 1 ?_
  rw [rounds_succ]
  go_wp2_with (at_builtin; refine wpList_append_lies _ rfl (.tmp 38) (.tmp 40) 32 rfl Q 22 i1 (.slice none 0 0) 1 24 Try.underlying32 hi1 iz0 iz1 iz2 rfl (by decide) (.slice al rv.length cl) rv.length rv rfl ((hk).lists.alloc _) ⟨w.heap.size, 0, none⟩ 1 1 [.slice (some ad) 0 0] rfl rfl (cell_one_new _ _ _) (by intro u hu; simp at hu; subst hu; rfl) (by omega) (by unfold maxLen; omega) (by omega) (by have := (hk).lt; simp; omega) (w.heap.size + 1) (by simp) ?_)
  intro g1 q1 w1 hown1 hgrow1 hat1 hlt1
  have bk2 := (hk).list_step hgrow1 hown1 hat1 hlt1 hQr (⟨(some ad), 0, 0, rfl, Nat.le_refl _, by omega, by omega, .inl rfl⟩)
  obtain ⟨x0, x1, x2, x3⟩ := (hk).grown hgrow1 (hk).lvb
  have kp1 := hide (Kp.step (p := p) (i := 0) (u := .slice (some ⟨g1, 0, none⟩) (rv.length + 1) q1) hgrow1 (hk).lvb)
  have sz1 := hide (show w.heap.size + 1 ≤ w1.heap.size by have := hgrow1.size; simpa using this)
  have A1 := hide hat1
  have BK2 := hide bk2
  obtain ⟨y0, y1, y2, y3⟩ := bk2.facts
  clear hgrow1 hown1 hat1 bk2 k0 k1 k2 k3
  go_wp2_with (at_builtin; refine wpList_append_lies _ rfl (.tmp 48) (.tmp 50) 22 rfl Q 47 j1 (.int .u32 0) 1 4 Try.underlying22 hj1 jz0 jz1 jz2 rfl (by decide) (.slice am rv.length cm) rv.length (bmks rv.length) rfl (BK2.out.marks.alloc _) ⟨w1.heap.size, 0, none⟩ 1 1 [bmk rv.length] rfl rfl (cell_new_at (by simp [World.setCell]) (bmk rv.length) _) (by intro u hu; simp at hu; subst hu; rfl) (by omega) (by unfold maxLen; omega) (by omega) (by have := BK2.out.lt; have := sz1.out; simp [World.setCell]; omega) (w1.heap.size + 1) (by simp [World.setCell]) ?_)
  intro g2 q2 w3 hown2 hgrow2 hat2 hlt2
  have hsz2 : (w1.setCell ⟨p, 0, none⟩ (.slice (some ⟨g1, 0, none⟩) (rv.length + 1) q1)).heap.size = w1.heap.size := by simp [World.setCell]
  have bk3 := BK2.out.mark_step hgrow2 hown2 (by rw [hsz2]; exact hat2) hlt2 (by rw [hsz2]; have := sz1.out; omega)
  obtain ⟨v0, v1, v2, v3⟩ := BK2.out.grown hgrow2 BK2.out.mvb
  have kp2 := Kp.step (p := p) (i := 1) (u := .slice (some ⟨g2, 0, none⟩) (rv.length + 1) q2) hgrow2 BK2.out.mvb
  have F : Hid (OwnS w (w3.setCell ⟨p, 1, none⟩ (.slice (some ⟨g2, 0, none⟩) (rv.length + 1) q2)) p Q bs rv.length none) := by
    refine ⟨g2 :: g1 :: bs, rv ++ [.slice (some ad) 0 0], .slice (some ⟨g1, 0, none⟩) (rv.length + 1) q1, .slice (some ⟨g2, 0, none⟩) (rv.length + 1) q2, ?_, ?_, ?_, ?_⟩
    · simp
    · rw [show (rv ++ [Value.slice (some ad) 0 0]).length = rv.length + 1 by simp]
      exact bk3
    · exact (kp0.out.trans (kp1.out.trans kp2 (fun j hj => List.mem_cons_of_mem _ hj)) (fun j hj => List.mem_cons_of_mem _ hj)).trans (Kp.refl _ _ _) (fun j hj => List.mem_cons_of_mem _ hj)
    · intro j hj
      have s1 := sz1.out
      rcases List.mem_cons.1 hj with e | hj
      · subst e
        rcases hat2 with e' | e'
        · exact hbs j ((hk).mvb j e')
        · right; left; have := szr; omega
      · rcases List.mem_cons.1 hj with e | hj
        · subst e
          rcases A1.out with e' | e'
          · exact hbs j ((hk).lvb j e')
          · right; left; have := szr; omega
        · exact hbs j hj
  clear hgrow2 hown2 hat2 bk3 kp2 x0 x1 x2 x3 y0 y1 y2 y3
  go_wp2
  go_ret
  exact ⟨rfl, F.out⟩

set_option maxRecDepth 20000 in
set_option maxHeartbeats 1000000 in
theorem own_small (w : World) (p Q : Nat) (bs : List Nat) (rv : List Value) (lv mv : Value) (hk : Bk w p Q bs rv rv.length lv mv) (hr : rv.length ≤ 1000) (hQ : Q ≤ w.heap.size) (g off n cap : Nat) (cur : Array Value) (hh : w.heap[g]? = some (.cells cur 47 (0, 0))) (hsz : off + cap ≤ cur.size) (hgb : g ∉ bs) (hgQ : Q ≤ g) (_hn : n ≤ cap) (hcm : cap ≤ 9223372036854775807) (h4 : cap ≤ 4096) :
    Calls Try.prog 23 #[.pointer (some ⟨p, 0, none⟩), .slice (some ⟨g, off, none⟩) n cap] w fun e w' => e = .returned (.bool true) ∧ OwnS w w' p Q bs rv.length (some ⟨g, off, none⟩) := by
  obtain ⟨i1, hi1, iz0, iz1, iz2⟩ := info_parts infoL
  obtain ⟨j1, hj1, jz0, jz1, jz2⟩ := info_parts info32
  obtain ⟨al, cl, rfl, al1, al2⟩ := owns_shape hk.lists
  obtain ⟨am, cm, rfl, am1, am2⟩ := owns_shape hk.marks
  obtain ⟨k0, k1, k2, k3⟩ := hk.facts
  have HH := hide hh
  have HSZ := hide hsz
  have hpg : p ≠ g := fun e => by have h1 := hk.here; rw [e, hh] at h1; simp at h1
  clear hh hsz
  go_enter Try.func23, Try.ntmps23
  go_wp2
  go_loopw [7] (fun iv wr => ∃ (k : Nat) (cur' : Array Value), k ≤ cap ∧ iv = .int .i64 k ∧ Wr w wr g cur' 47 ∧ cur'.size = cur.size ∧ ∀ i, i < k → cur'[off + i]? = some (bmk rv.length)) (fun iv _ => cap - (intOf iv).toNat)
  case atStart => exact ⟨0, cur, Nat.zero_le _, rfl, Wr.refl HH.out, rfl, fun i hi => by omega⟩
  case round =>
    obtain ⟨k, cur', hkn, rfl, hwr, hcs, hfill⟩ := hrel
    by_cases hlt : k < cap
    · have hb : off + k < cur'.size := by have := HSZ.out; omega
      have old : cur'[off + k]? = some cur'[off + k] := Array.getElem?_eq_getElem hb
      have co : wr.cell? ⟨g, off + k, none⟩ = some cur'[off + k] := by rw [cell_of_row wr g (off + k) cur' _ (0, 0) hwr.here]; exact old
      have fo := hwr.free (off + k)
      have dA : (k : Int) < ((cap : Nat) : Int) := by omega
      have dC : (k : Int) < ((cap : Nat) : Int) := by omega
      have HW' := hide (hwr.set (off + k) (bmk rv.length))
      have HC' : Hid ((cur'.setIfInBounds (off + k) (bmk rv.length)).size = cur.size) := by show _ = _; rw [Array.size_setIfInBounds]; exact hcs
      have HF' : Hid (∀ i, i < k + 1 → (cur'.setIfInBounds (off + k) (bmk rv.length))[off + i]? = some (bmk rv.length)) := by
        intro i hi
        rw [Array.getElem?_setIfInBounds]
        by_cases e : off + k = off + i
        · rw [if_pos e, if_pos (by omega)]
        · rw [if_neg e]
          exact hfill i (by omega)
      clear hwr hcs hfill old
      generalize cur'[off + k] = u9 at co
      go_wp2
      go_roundw
      case rel => exact ⟨k + 1, _, by omega, by go_num, HW'.out, HC'.out, HF'.out⟩
      case measure => simp [intOf]; omega
    · have hkn' : cap = k := by omega
      subst hkn'
      have dA : ¬ ((cap : Nat) : Int) < ((cap : Nat) : Int) := by omega
      have bkr := (hk.kept (hwr.other p hpg) (fun j hj => hwr.other j (fun e => hgb (e ▸ hj))) (by rw [hwr.size]; exact Nat.le_refl _)).more (gs := [g]) (fun j hj => by simp at hj; subst hj; rw [hwr.size]; exact ⟨by omega, lt_of_heap HH.out⟩) (by simpa using hpg)
      have room : RoomOk wr ([g] ++ bs) (.slice al rv.length cl) (.slice am rv.length cm) rv.length (.slice (some ⟨g, off, none⟩) cap cap) := ⟨_, _, _, rfl, by omega, by omega, by omega, .inr ⟨g, off, rfl, by simp, fun e => hgb (hk.lvb _ e), fun e => hgb (hk.mvb _ e), fun i hi => by rw [cell_of_row wr g (off + i) cur' _ (0, 0) hwr.here]; exact hfill i hi⟩⟩
      have kp0 : Hid (Kp w wr p ([g] ++ bs)) := Kp.of_wr hwr (by simp)
      have szr : w.heap.size ≤ wr.heap.size := by rw [hwr.size]; exact Nat.le_refl _
      have hQr : Q ≤ wr.heap.size := by omega
      have hbs : ∀ j, j ∈ [g] ++ bs → j ∈ bs ∨ w.heap.size ≤ j ∨ ∃ off', some (⟨g, off, none⟩ : Addr) = some ⟨j, off', none⟩ := by
        intro j hj
        rcases List.mem_append.1 hj with e | e
        · simp at e; subst e; exact .inr (.inr ⟨off, rfl⟩)
        · exact .inl e
      obtain ⟨m0, m1, m2, m3⟩ := bkr.facts
      have BKR := hide bkr
      have ROOM := hide room
      have HBS := hide hbs
      have SZR := hide szr
      clear hwr hcs hfill bkr room hbs k0 k1 k2 k3
      go_wp2_with (at_builtin; refine wpList_append_lies _ rfl (.tmp 38) (.tmp 40) 32 rfl Q 22 i1 (.slice none 0 0) 1 24 Try.underlying32 hi1 iz0 iz1 iz2 rfl (by decide) (.slice al rv.length cl) rv.length rv rfl ((BKR.out).lists.alloc _) ⟨wr.heap.size, 0, none⟩ 1 1 [.slice (some ⟨g, off, none⟩) cap cap] rfl rfl (cell_one_new _ _ _) (by intro u hu; simp at hu; subst hu; rfl) (by omega) (by unfold maxLen; omega) (by omega) (by have := (BKR.out).lt; simp; omega) (wr.heap.size + 1) (by simp) ?_)
      intro g1 q1 w1 hown1 hgrow1 hat1 hlt1
      have bk2 := (BKR.out).list_step hgrow1 hown1 hat1 hlt1 hQr (ROOM.out)
      obtain ⟨x0, x1, x2, x3⟩ := (BKR.out).grown hgrow1 (BKR.out).lvb
      have kp1 := hide (Kp.step (p := p) (i := 0) (u := .slice (some ⟨g1, 0, none⟩) (rv.length + 1) q1) hgrow1 (BKR.out).lvb)
      have sz1 := hide (show wr.heap.size + 1 ≤ w1.heap.size by have := hgrow1.size; simpa using this)
      have A1 := hide hat1
      have BK2 := hide bk2
      obtain ⟨y0, y1, y2, y3⟩ := bk2.facts
      clear hgrow1 hown1 hat1 bk2 m0 m1 m2 m3
      go_wp2_with (at_builtin; refine wpList_append_lies _ rfl (.tmp 48) (.tmp 50) 22 rfl Q 47 j1 (.int .u32 0) 1 4 Try.underlying22 hj1 jz0 jz1 jz2 rfl (by decide) (.slice am rv.length cm) rv.length (bmks rv.length) rfl (BK2.out.marks.alloc _) ⟨w1.heap.size, 0, none⟩ 1 1 [bmk rv.length] rfl rfl (cell_new_at (by simp [World.setCell]) (bmk rv.length) _) (by intro u hu; simp at hu; subst hu; rfl) (by omega) (by unfold maxLen; omega) (by omega) (by have := BK2.out.lt; have := sz1.out; simp [World.setCell]; omega) (w1.heap.size + 1) (by simp [World.setCell]) ?_)
      intro g2 q2 w3 hown2 hgrow2 hat2 hlt2
      have hsz2 : (w1.setCell ⟨p, 0, none⟩ (.slice (some ⟨g1, 0, none⟩) (rv.length + 1) q1)).heap.size = w1.heap.size := by simp [World.setCell]
      have bk3 := BK2.out.mark_step hgrow2 hown2 (by rw [hsz2]; exact hat2) hlt2 (by rw [hsz2]; have := sz1.out; omega)
      obtain ⟨v0, v1, v2, v3⟩ := BK2.out.grown hgrow2 BK2.out.mvb
      have kp2 := Kp.step (p := p) (i := 1) (u := .slice (some ⟨g2, 0, none⟩) (rv.length + 1) q2) hgrow2 BK2.out.mvb
      have F : Hid (OwnS w (w3.setCell ⟨p, 1, none⟩ (.slice (some ⟨g2, 0, none⟩) (rv.length + 1) q2)) p Q bs rv.length (some ⟨g, off, none⟩)) := by
        refine ⟨g2 :: g1 :: ([g] ++ bs), rv ++ [.slice (some ⟨g, off, none⟩) cap cap], .slice (some ⟨g1, 0, none⟩) (rv.length + 1) q1, .slice (some ⟨g2, 0, none⟩) (rv.length + 1) q2, ?_, ?_, ?_, ?_⟩
        · simp
        · rw [show (rv ++ [Value.slice (some ⟨g, off, none⟩) cap cap]).length = rv.length + 1 by simp]
          exact bk3
        · exact (kp0.out.trans (kp1.out.trans kp2 (fun j hj => List.mem_cons_of_mem _ hj)) (fun j hj => List.mem_cons_of_mem _ hj)).trans (Kp.refl _ _ _) (fun j hj => List.mem_cons_of_mem _ hj)
        · intro j hj
          have s1 := sz1.out
          rcases List.mem_cons.1 hj with e | hj
          · subst e
            rcases hat2 with e' | e'
            · exact HBS.out j ((BKR.out).mvb j e')
            · right; left; have := SZR.out; omega
          · rcases List.mem_cons.1 hj with e | hj
            · subst e
              rcases A1.out with e' | e'
              · exact HBS.out j ((BKR.out).lvb j e')
              · right; left; have := SZR.out; omega
            · exact HBS.out j hj
      clear hgrow2 hown2 hat2 bk3 kp2 x0 x1 x2 x3 y0 y1 y2 y3
      go_wp2
      go_ret
      exact ⟨rfl, F.out⟩

set_option maxRecDepth 20000 in
set_option maxHeartbeats 1000000 in
theorem own_big (w : World) (p Q : Nat) (bs : List Nat) (rv : List Value) (lv mv : Value) (hk : Bk w p Q bs rv rv.length lv mv) (hr : rv.length ≤ 1000) (hQ : Q ≤ w.heap.size) (g off n cap : Nat) (cur : Array Value) (hh : w.heap[g]? = some (.cells cur 47 (0, 0))) (hsz : off + cap ≤ cur.size) (hgb : g ∉ bs) (hgQ : Q ≤ g) (_hn : n ≤ cap) (hcm : cap ≤ 9223372036854775807) (h4 : 4096 < cap) :
    Calls Try.prog 23 #[.pointer (some ⟨p, 0, none⟩), .slice (some ⟨g, off, none⟩) n cap] w fun e w' => e = .returned (.bool true) ∧ OwnS w w' p Q bs rv.length (some ⟨g, off, none⟩) := by
  obtain ⟨i1, hi1, iz0, iz1, iz2⟩ := info_parts infoL
  obtain ⟨j1, hj1, jz0, jz1, jz2⟩ := info_parts info32
  obtain ⟨al, cl, rfl, al1, al2⟩ := owns_shape hk.lists
  obtain ⟨am, cm, rfl, am1, am2⟩ := owns_shape hk.marks
  obtain ⟨k0, k1, k2, k3⟩ := hk.facts
  have HH := hide hh
  have HSZ := hide hsz
  have hpg : p ≠ g := fun e => by have h1 := hk.here; rw [e, hh] at h1; simp at h1
  clear hh hsz
  go_enter Try.func23, Try.ntmps23
  go_wp2
  go_loopw [7] (fun iv wr => ∃ (k : Nat) (cur' : Array Value), k ≤ 4096 ∧ iv = .int .i64 k ∧ Wr w wr g cur' 47 ∧ cur'.size = cur.size ∧ ∀ i, i < k → cur'[off + i]? = some (bmk rv.length)) (fun iv _ => 4096 - (intOf iv).toNat)
  case atStart => exact ⟨0, cur, Nat.zero_le _, rfl, Wr.refl HH.out, rfl, fun i hi => by omega⟩
  case round =>
    obtain ⟨k, cur', hkn, rfl, hwr, hcs, hfill⟩ := hrel
    by_cases hlt : k < 4096
    · have hb : off + k < cur'.size := by have := HSZ.out; omega
      have old : cur'[off + k]? = some cur'[off + k] := Array.getElem?_eq_getElem hb
      have co : wr.cell? ⟨g, off + k, none⟩ = some cur'[off + k] := by rw [cell_of_row wr g (off + k) cur' _ (0, 0) hwr.here]; exact old
      have fo := hwr.free (off + k)
      have dA : (k : Int) < ((4096 : Nat) : Int) := by omega
      have dC : (k : Int) < ((cap : Nat) : Int) := by omega
      have HW' := hide (hwr.set (off + k) (bmk rv.length))
      have HC' : Hid ((cur'.setIfInBounds (off + k) (bmk rv.length)).size = cur.size) := by show _ = _; rw [Array.size_setIfInBounds]; exact hcs
      have HF' : Hid (∀ i, i < k + 1 → (cur'.setIfInBounds (off + k) (bmk rv.length))[off + i]? = some (bmk rv.length)) := by
        intro i hi
        rw [Array.getElem?_setIfInBounds]
        by_cases e : off + k = off + i
        · rw [if_pos e, if_pos (by omega)]
        · rw [if_neg e]
          exact hfill i (by omega)
      clear hwr hcs hfill old
      generalize cur'[off + k] = u9 at co
      go_wp2
      go_roundw
      case rel => exact ⟨k + 1, _, by omega, by go_num, HW'.out, HC'.out, HF'.out⟩
      case measure => simp [intOf]; omega
    · have hkn' : 4096 = k := by omega
      subst hkn'
      have dA : ¬ ((4096 : Nat) : Int) < ((4096 : Nat) : Int) := by omega
      have bkr := (hk.kept (hwr.other p hpg) (fun j hj => hwr.other j (fun e => hgb (e ▸ hj))) (by rw [hwr.size]; exact Nat.le_refl _)).more (gs := [g]) (fun j hj => by simp at hj; subst hj; rw [hwr.size]; exact ⟨by omega, lt_of_heap HH.out⟩) (by simpa using hpg)
      have room : RoomOk wr ([g] ++ bs) (.slice al rv.length cl) (.slice am rv.length cm) rv.length (.slice (some ⟨g, off, none⟩) 4096 cap) := ⟨_, _, _, rfl, by omega, by omega, by omega, .inr ⟨g, off, rfl, by simp, fun e => hgb (hk.lvb _ e), fun e => hgb (hk.mvb _ e), fun i hi => by rw [cell_of_row wr g (off + i) cur' _ (0, 0) hwr.here]; exact hfill i hi⟩⟩
      have kp0 : Hid (Kp w wr p ([g] ++ bs)) := Kp.of_wr hwr (by simp)
      have szr : w.heap.size ≤ wr.heap.size := by rw [hwr.size]; exact Nat.le_refl _
      have hQr : Q ≤ wr.heap.size := by omega
      have hbs : ∀ j, j ∈ [g] ++ bs → j ∈ bs ∨ w.heap.size ≤ j ∨ ∃ off', some (⟨g, off, none⟩ : Addr) = some ⟨j, off', none⟩ := by
        intro j hj
        rcases List.mem_append.1 hj with e | e
        · simp at e; subst e; exact .inr (.inr ⟨off, rfl⟩)
        · exact .inl e
      obtain ⟨m0, m1, m2, m3⟩ := bkr.facts
      have BKR := hide bkr
      have ROOM := hide room
      have HBS := hide hbs
      have SZR := hide szr
      clear hwr hcs hfill bkr room hbs k0 k1 k2 k3
      go_wp2_with (at_builtin; refine wpList_append_lies _ rfl (.tmp 38) (.tmp 40) 32 rfl Q 22 i1 (.slice none 0 0) 1 24 Try.underlying32 hi1 iz0 iz1 iz2 rfl (by decide) (.slice al rv.length cl) rv.length rv rfl ((BKR.out).lists.alloc _) ⟨wr.heap.size, 0, none⟩ 1 1 [.slice (some ⟨g, off, none⟩) 4096 cap] rfl rfl (cell_one_new _ _ _) (by intro u hu; simp at hu; subst hu; rfl) (by omega) (by unfold maxLen; omega) (by omega) (by have := (BKR.out).lt; simp; omega) (wr.heap.size + 1) (by simp) ?_)
      intro g1 q1 w1 hown1 hgrow1 hat1 hlt1
      have bk2 := (BKR.out).list_step hgrow1 hown1 hat1 hlt1 hQr (ROOM.out)
      obtain ⟨x0, x1, x2, x3⟩ := (BKR.out).grown hgrow1 (BKR.out).lvb
      have kp1 := hide (Kp.step (p := p) (i := 0) (u := .slice (some ⟨g1, 0, none⟩) (rv.length + 1) q1) hgrow1 (BKR.out).lvb)
      have sz1 := hide (show wr.heap.size + 1 ≤ w1.heap.size by have := hgrow1.size; simpa using this)
      have A1 := hide hat1
      have BK2 := hide bk2
      obtain ⟨y0, y1, y2, y3⟩ := bk2.facts
      clear hgrow1 hown1 hat1 bk2 m0 m1 m2 m3
      go_wp2_with (at_builtin; refine wpList_append_lies _ rfl (.tmp 48) (.tmp 50) 22 rfl Q 47 j1 (.int .u32 0) 1 4 Try.underlying22 hj1 jz0 jz1 jz2 rfl (by decide) (.slice am rv.length cm) rv.length (bmks rv.length) rfl (BK2.out.marks.alloc _) ⟨w1.heap.size, 0, none⟩ 1 1 [bmk rv.length] rfl rfl (cell_new_at (by simp [World.setCell]) (bmk rv.length) _) (by intro u hu; simp at hu; subst hu; rfl) (by omega) (by unfold maxLen; omega) (by omega) (by have := BK2.out.lt; have := sz1.out; simp [World.setCell]; omega) (w1.heap.size + 1) (by simp [World.setCell]) ?_)
      intro g2 q2 w3 hown2 hgrow2 hat2 hlt2
      have hsz2 : (w1.setCell ⟨p, 0, none⟩ (.slice (some ⟨g1, 0, none⟩) (rv.length + 1) q1)).heap.size = w1.heap.size := by simp [World.setCell]
      have bk3 := BK2.out.mark_step hgrow2 hown2 (by rw [hsz2]; exact hat2) hlt2 (by rw [hsz2]; have := sz1.out; omega)
      obtain ⟨v0, v1, v2, v3⟩ := BK2.out.grown hgrow2 BK2.out.mvb
      have kp2 := Kp.step (p := p) (i := 1) (u := .slice (some ⟨g2, 0, none⟩) (rv.length + 1) q2) hgrow2 BK2.out.mvb
      have F : Hid (OwnS w (w3.setCell ⟨p, 1, none⟩ (.slice (some ⟨g2, 0, none⟩) (rv.length + 1) q2)) p Q bs rv.length (some ⟨g, off, none⟩)) := by
        refine ⟨g2 :: g1 :: ([g] ++ bs), rv ++ [.slice (some ⟨g, off, none⟩) 4096 cap], .slice (some ⟨g1, 0, none⟩) (rv.length + 1) q1, .slice (some ⟨g2, 0, none⟩) (rv.length + 1) q2, ?_, ?_, ?_, ?_⟩
        · simp
        · rw [show (rv ++ [Value.slice (some ⟨g, off, none⟩) 4096 cap]).length = rv.length + 1 by simp]
          exact bk3
        · exact (kp0.out.trans (kp1.out.trans kp2 (fun j hj => List.mem_cons_of_mem _ hj)) (fun j hj => List.mem_cons_of_mem _ hj)).trans (Kp.refl _ _ _) (fun j hj => List.mem_cons_of_mem _ hj)
        · intro j hj
          have s1 := sz1.out
          rcases List.mem_cons.1 hj with e | hj
          · subst e
            rcases hat2 with e' | e'
            · exact HBS.out j ((BKR.out).mvb j e')
            · right; left; have := SZR.out; omega
          · rcases List.mem_cons.1 hj with e | hj
            · subst e
              rcases A1.out with e' | e'
              · exact HBS.out j ((BKR.out).lvb j e')
              · right; left; have := SZR.out; omega
            · exact HBS.out j hj
      clear hgrow2 hown2 hat2 bk3 kp2 x0 x1 x2 x3 y0 y1 y2 y3
      go_wp2
      go_ret
      exact ⟨rfl, F.out⟩

/-- An answer of a call: a list without limbs 0 on top, worth x; its room lies in a block from B on, below T. -/
structure Fr (B T : Nat) (w : World) (ao : Option Addr) (cap : Nat) (rs : List Int) (x : Int) : Prop where
  ow : Ow B w (.slice ao rs.length cap) rs
  canon : Canon rs
  val : val rs = x
  lies : 0 < cap → ∀ g off, ao = some ⟨g, off, none⟩ → B ≤ g ∧ g < T

theorem Ow.sl' {B : Nat} {w : World} {ao : Option Addr} {n cap : Nat} {zs : List Int} (h : Ow B w (.slice ao n cap) zs) : n = zs.length ∧ zs.length ≤ cap ∧ cap ≤ 9223372036854775807 ∧ (cap = 0 ∨ ∃ g off cur, ao = some ⟨g, off, none⟩ ∧ B ≤ g ∧ w.heap[g]? = some (.cells cur 47 (0, 0)) ∧ off + cap ≤ cur.size ∧ At cur .u32 off zs) := by
  obtain ⟨ao', cap', hv, h1, h2, h3, h4⟩ := h
  obtain ⟨rfl, rfl, rfl⟩ := (Value.slice.injEq .. ▸ hv)
  exact ⟨rfl, h1, h2, h4⟩

theorem Is.fr {B : Nat} {w : World} {v : Value} {x : Int} (h : Is B w v x) : ∃ ao cap rs, v = .slice ao rs.length cap ∧ Fr B w.heap.size w ao cap rs x := by
  obtain ⟨rs, ho, hc, hv⟩ := h
  obtain ⟨ao, cap, rfl, h1, h2, h3, h4⟩ := ho
  refine ⟨ao, cap, rs, rfl, ⟨ao, cap, rfl, h1, h2, h3, h4⟩, hc, hv, ?_⟩
  intro h0 g off e
  rcases h4 with h4 | ⟨g', off', cur, e', hB, hh, _⟩
  · omega
  · rw [e'] at e
    simp only [Option.some.injEq, Addr.mk.injEq, and_true] at e
    have := lt_of_heap hh
    omega

theorem Fr.got {B T : Nat} {w : World} {ao : Option Addr} {cap : Nat} {rs : List Int} {x : Int} (h : Fr B T w ao cap rs x) : Got w ao cap rs x := ⟨h.ow.sl, h.canon, h.val⟩

theorem Fr.kept {B T : Nat} {w w' : World} {ao : Option Addr} {cap : Nat} {rs : List Int} {x : Int} (h : Fr B T w ao cap rs x) (hk : ∀ g, g < w.heap.size → B ≤ g → g < T → w'.heap[g]? = w.heap[g]?) : Fr B T w' ao cap rs x := by
  obtain ⟨ho, hc, hv, hl⟩ := h
  refine ⟨?_, hc, hv, hl⟩
  obtain ⟨ao', cap', hv', h1, h2, h3, h4⟩ := ho
  obtain ⟨rfl, _, rfl⟩ := (Value.slice.injEq .. ▸ hv')
  refine ⟨ao, cap, rfl, h1, h2, h3, ?_⟩
  rcases h4 with h4 | ⟨g, off, cur, rfl, hB, hh, r⟩
  · exact .inl h4
  · by_cases h0 : 0 < cap
    · have := hl h0 g off rfl
      exact .inr ⟨g, off, cur, rfl, hB, (hk g (lt_of_heap hh) this.1 this.2).trans hh, r⟩
    · exact .inl (by omega)

theorem Fr.below {B T : Nat} {w w' : World} {ao : Option Addr} {cap : Nat} {rs : List Int} {x : Int} (h : Fr B T w ao cap rs x) (hb : Below w.heap.size w w') : Fr B T w' ao cap rs x := h.kept fun g hg _ _ => hb.block g hg

theorem Fr.touch {B T L : Nat} {w w' : World} {ao : Option Addr} {cap : Nat} {rs : List Int} {x : Int} (h : Fr B T w ao cap rs x) (t : Touch w w' L) (hL : L < B ∨ T ≤ L) : Fr B T w' ao cap rs x := h.kept fun g hg h1 h2 => t.other g hg (by omega)

theorem Fr.kp {B T p : Nat} {bs : List Nat} {w w' : World} {ao : Option Addr} {cap : Nat} {rs : List Int} {x : Int} (h : Fr B T w ao cap rs x) (k : Kp w w' p bs) (hp : p < B ∨ T ≤ p) (hb : ∀ j, j ∈ bs → j < B ∨ T ≤ j) : Fr B T w' ao cap rs x :=
  h.kept fun g hg h1 h2 => k.other g hg (by omega) (fun hj => by have := hb g hj; omega)

/-- The book at block p holds n lists; all its memory but p are the blocks bs, from Q on. -/
def Bs (w : World) (p Q : Nat) (bs : List Nat) (n : Nat) : Prop := ∃ rv lv mv, rv.length = n ∧ Bk w p Q bs rv rv.length lv mv

theorem Bs.below {w w' : World} {p Q n : Nat} {bs : List Nat} (h : Bs w p Q bs n) (hb : Below w.heap.size w w') : Bs w' p Q bs n := by
  obtain ⟨rv, lv, mv, e, hk⟩ := h
  exact ⟨rv, lv, mv, e, hk.below hb⟩

theorem Bs.touch {w w' : World} {p Q n L : Nat} {bs : List Nat} (h : Bs w p Q bs n) (t : Touch w w' L) (h1 : p ≠ L) (h2 : L ∉ bs) : Bs w' p Q bs n := by
  obtain ⟨rv, lv, mv, e, hk⟩ := h
  exact ⟨rv, lv, mv, e, hk.touch t h1 h2⟩

theorem Bs.low {w : World} {p Q n : Nat} {bs : List Nat} (h : Bs w p Q bs n) : ∀ j, j ∈ bs → Q ≤ j ∧ j < w.heap.size := by
  obtain ⟨rv, lv, mv, e, hk⟩ := h
  exact hk.low

theorem Bs.lt {w : World} {p Q n : Nat} {bs : List Nat} (h : Bs w p Q bs n) : p ∉ bs ∧ p < w.heap.size := by
  obtain ⟨rv, lv, mv, e, hk⟩ := h
  exact ⟨hk.pQ, hk.lt⟩

/-- A new book. -/
theorem Bs.new {w : World} {p Q : Nat} (h : w.heap[p]? = some (.cells #[.slice none 0 0, .slice none 0 0] 34 (0, 0))) : Bs w p Q [] 0 := by
  refine ⟨[], .slice none 0 0, .slice none 0 0, rfl, h, ⟨rfl, .inl ⟨rfl, rfl⟩⟩, ⟨rfl, .inl ⟨rfl, rfl⟩⟩, ?_, ?_, ?_, ?_, ?_, by simp⟩
  · intro j hj; simp [Value.ownBlock] at hj
  · intro j hj; simp [Value.ownBlock] at hj
  · intro j hj; simp [Value.ownBlock] at hj
  · intro i u hu; simp at hu
  · intro j hj; cases hj

theorem own_b (w : World) (p Q n : Nat) (bs : List Nat) (hb : Bs w p Q bs n) (hn : n ≤ 1000) (B T : Nat) (ao : Option Addr) (cap : Nat) (rs : List Int) (x : Int) (h : Fr B T w ao cap rs x) (hQB : Q ≤ B) (hQ : Q ≤ w.heap.size) (hd : ∀ j, j ∈ bs → j < B ∨ T ≤ j) :
    Calls Try.prog 23 #[.pointer (some ⟨p, 0, none⟩), .slice ao rs.length cap] w fun e w' => e = .returned (.bool true) ∧ ∃ bs', Bs w' p Q bs' (n + 1) ∧ Kp w w' p bs' ∧ ∀ j, j ∈ bs' → j ∈ bs ∨ w.heap.size ≤ j ∨ (B ≤ j ∧ j < T) := by
  obtain ⟨rv, lv, mv, rfl, hk⟩ := hb
  obtain ⟨_, h1, h2, h4⟩ := h.ow.sl'
  have hr := hn
  by_cases h0 : 0 < cap
  · rcases h4 with h4 | ⟨g, off, cur, rfl, hB, hh, hs, ha⟩
    · omega
    have hl := h.lies h0 g off rfl
    have hgb : g ∉ bs := fun hj => by have := hd g hj; omega
    have fin : ∀ w', OwnS w w' p Q bs rv.length (some ⟨g, off, none⟩) → ∃ bs', Bs w' p Q bs' (rv.length + 1) ∧ Kp w w' p bs' ∧ ∀ j, j ∈ bs' → j ∈ bs ∨ w.heap.size ≤ j ∨ (B ≤ j ∧ j < T) := by
      rintro w' ⟨bs', rv', lv', mv', e, hk', kp, hj⟩
      refine ⟨bs', ⟨rv', lv', mv', e, hk'⟩, kp, fun j hj' => ?_⟩
      rcases hj j hj' with a | a | ⟨off', a⟩
      · exact .inl a
      · exact .inr (.inl a)
      · simp only [Option.some.injEq, Addr.mk.injEq] at a
        obtain ⟨rfl, _⟩ := a
        exact .inr (.inr hl)
    by_cases hc : cap ≤ 4096
    · exact (own_small w p Q bs rv lv mv hk hr hQ g off rs.length cap cur hh hs hgb (by omega) h1 h2 hc).mono fun e w' ⟨a, b⟩ => ⟨a, fin w' b⟩
    · exact (own_big w p Q bs rv lv mv hk hr hQ g off rs.length cap cur hh hs hgb (by omega) h1 h2 (by omega)).mono fun e w' ⟨a, b⟩ => ⟨a, fin w' b⟩
  · have hc0 : cap = 0 := by omega
    have hl0 : rs.length = 0 := by omega
    have fin : ∀ w', OwnS w w' p Q bs rv.length none → ∃ bs', Bs w' p Q bs' (rv.length + 1) ∧ Kp w w' p bs' ∧ ∀ j, j ∈ bs' → j ∈ bs ∨ w.heap.size ≤ j ∨ (B ≤ j ∧ j < T) := by
      rintro w' ⟨bs', rv', lv', mv', e, hk', kp, hj⟩
      refine ⟨bs', ⟨rv', lv', mv', e, hk'⟩, kp, fun j hj' => ?_⟩
      rcases hj j hj' with a | a | ⟨off', a⟩
      · exact .inl a
      · exact .inr (.inl a)
      · cases a
    rw [hl0, hc0]
    cases ao with
    | none => exact (own_zero_a w p Q bs rv lv mv hk hr hQ).mono fun e w' ⟨a, b⟩ => ⟨a, fin w' b⟩
    | some ad => exact (own_zero_b w p Q bs rv lv mv hk hr hQ ad).mono fun e w' ⟨a, b⟩ => ⟨a, fin w' b⟩

/-- Blocks from before w0 but for p stay, whatever comes behind. -/
theorem Touch.newer {w0 w w' : World} {p L : Nat} (h : Touch w0 w p) (t : Touch w w' L) (hL : w0.heap.size ≤ L) : Touch w0 w' p :=
  ⟨t.os.trans h.os, t.tape.trans h.tape, t.output.trans h.output, Nat.le_trans h.size t.size, fun k hk hn => (t.other k (Nat.lt_of_lt_of_le hk h.size) (by omega)).trans (h.other k hk hn)⟩

theorem Touch.calm {w0 w w' : World} {p : Nat} (h : Touch w0 w p) (hb : Below w.heap.size w w') : Touch w0 w' p := h.trans (.of_below hb)

theorem Touch.kp {w0 w w' : World} {p : Nat} {bs : List Nat} (h : Touch w0 w p) (k : Kp w w' p bs) (hb : ∀ j, j ∈ bs → w0.heap.size ≤ j) : Touch w0 w' p :=
  ⟨k.os.trans h.os, k.tape.trans h.tape, k.output.trans h.output, Nat.le_trans h.size k.size, fun j hj hn => (k.other j (Nat.lt_of_lt_of_le hj h.size) hn (fun hm => by have := hb j hm; omega)).trans (h.other j hj hn)⟩

theorem Touch.refl (w : World) (p : Nat) : Touch w w p := ⟨rfl, rfl, rfl, Nat.le_refl _, fun _ _ _ => rfl⟩

end Lm
end Go.Proofs.Ythbomfboohjcfaa
