/-
  What the reference's divided holds on its way: its memory, and the plain facts on quotient and rest.
-/
import Derived.Test.YthbomfboohjcfaaDSub
import Derived.Test.YthbomfboohjcfaaDMul
import Derived.Test.YthbomfboohjcfaaDTrim
namespace Go.Proofs.Ythbomfboohjcfaa
namespace Dm
open Go.RowKit
open Lm (hide lt_of_cell lt_of_heap cmpI cmpI_lt cmpI_gt)

set_option maxRecDepth 20000 in
set_option maxHeartbeats 1000000 in
theorem abs_far (w : World) (ng : Bool) (a1 : Option Addr) (c1 : Nat) (xs : List Int) (x : Int) (hx : Got w a1 c1 xs x) (m1 : xs.length ≤ 1000000) (h0 : 0 < xs.length) :
    Calls Try.prog 73 #[.agg #[.bool ng, .slice a1 xs.length c1]] w fun e w' => ∃ ng' ao cap rs, e = .returned (.agg #[.bool ng', .slice ao rs.length cap]) ∧ Wh w' ng' ao cap rs (sg false x) ∧ rs.length ≤ xs.length ∧ (∀ b off, ao = some ⟨b, off, none⟩ → w.heap.size ≤ b) ∧ Below w.heap.size w w' := by
  obtain ⟨b, off, rfl, _⟩ := hx.sl.cells h0
  obtain ⟨w0, rfl, bx, br, hb0, hs0⟩ := boxed1 w ng (.slice (some ⟨b, off, none⟩) xs.length c1)
  obtain ⟨i0, hi, hz0, hz1, hz2⟩ := info_parts info64
  obtain ⟨_, p1, p2, p3⟩ := hx.sl.parts
  have P3 := hide p3
  have hx0 := hx.below hb0
  have HB := hb0
  clear p3
  go_enter Try.func73, Try.ntmps73
  go_wp2_with (at_builtin; refine wpList_append_lies _ rfl _ _ _ rfl w.heap.size 3 i0 _ 1 8 Try.underlying54 hi hz0 hz1 hz2 rfl (by omega) (.slice none 0 0) 0 [] rfl (World.ownsRow_nil _ _ _ _) ⟨b, off, none⟩ xs.length c1 (xs.map (Value.int .i64)) rfl (by simp) (Sl.copy hx0.sl) (one_cells xs) (by omega) (by unfold maxLen; omega) (by omega) (by simp; omega) (w.heap.size + 2) (by simp) ?_)
  intro g1 q1 w1 hown hgrow hat hlt
  have hb1 := Below.grown (Below.refl _ _) hgrow (Nat.le_refl _) (by intro k hk; simp [Value.ownBlock] at hk)
  have HB := HB.trans (hb1.mono HB.size)
  have s1 := copied hown P3.out
  replace bx := bx.below hb1
  replace br := br.below hb1
  have FAR : Hid (w.heap.size ≤ g1) := by rcases hat with e | e; (simp [Value.ownBlock] at e); (show w.heap.size ≤ g1; omega)
  clear hown hgrow hat hx0
  go_wp2_with fail
  try rw [Nat.zero_add]
  refine (made_w _ _ _ _ xs _ s1 hx.val).mono ?_
  rintro e w2 ⟨ng2, r2, rfl, G2, l2, hb2⟩
  replace HB := HB.trans (hb2.mono HB.size)
  replace bx := bx.below hb2
  replace br := br.below hb2
  obtain ⟨bx1, bx2, bx3, bx4⟩ := bx.facts
  obtain ⟨br1, br2, br3, br4⟩ := br.facts
  all_goals
    have X := hide (br.set ng2 (.slice (some ⟨g1, 0, none⟩) r2.length q1)).facts
    have Y := hide (br.wh ng2 (.slice (some ⟨g1, 0, none⟩) r2.length q1) G2)
    have Z := hide (below_set2 HB (show w.heap.size ≤ w.heap.size + 1 by omega) (.bool ng2) (.slice (some ⟨g1, 0, none⟩) r2.length q1))
    clear bx1 bx2 bx3 bx4
    go_wp2
    refine bodyPost_ret (v := .agg #[.bool ng2, .slice (some ⟨g1, 0, none⟩) r2.length q1]) ?_ rfl ⟨ng2, (some ⟨g1, 0, none⟩), q1, r2, rfl, Y.out, by omega, (fun b off e => by simp only [Option.some.injEq, Addr.mk.injEq] at e; have := FAR.out; omega), Z.out⟩
    simp [results, Try.results73, go_sem, X.out.1, X.out.2.1]


theorem Is.far {B : Nat} {w : World} {v : Value} {x : Int} (h : Is B w v x) : ∃ ao cap rs, v = .slice ao rs.length cap ∧ Got w ao cap rs x ∧ (0 < rs.length → ∀ b off, ao = some ⟨b, off, none⟩ → B ≤ b) := by
  obtain ⟨rs, ho, hc, hv⟩ := h
  have hs := ho.sl
  obtain ⟨ao, cap, rfl, h1, h2, h3, h4⟩ := ho
  refine ⟨ao, cap, rs, rfl, ⟨hs, hc, hv⟩, ?_⟩
  intro h0 b off e
  rcases h4 with h4 | ⟨g', off', cur, e', hB, hh, _⟩
  · omega
  · rw [e'] at e
    simp only [Option.some.injEq, Addr.mk.injEq, and_true] at e
    omega

/-- A natural, as a number with a sign. -/
theorem Wh.natu {w : World} {ao : Option Addr} {cap : Nat} {rs : List Int} {x : Int} (h : Got w ao cap rs x) : Wh w false ao cap rs x := by
  have := Wh.of false h
  simpa [sg] using this

theorem cmpI_le0 {x y : Int} : cmpI x y ≤ 0 ↔ x ≤ y := by
  rcases Int.lt_trichotomy x y with h | h | h
  · rw [cmpI_lt h]; omega
  · subst h; simp [Lm.cmpI]
  · rw [cmpI_gt h]; omega

/-- One cell. -/
def Cl (w : World) (b i : Nat) (v : Value) : Prop := w.cell? ⟨b, i, none⟩ = some v
theorem Cl.below {w w' : World} {b i : Nat} {v : Value} (h : Cl w b i v) (hb : Below w.heap.size w w') : Cl w' b i v := (hb.cell (p := ⟨b, i, none⟩) (lt_of_cell h)).trans h
theorem Cl.facts {w : World} {b i : Nat} {v : Value} (h : Cl w b i v) : w.cell? ⟨b, i, none⟩ = some v ∧ True ∧ True ∧ True := ⟨h, trivial, trivial, trivial⟩

theorem Sl.other {w w' : World} {g n c : Nat} {a : Option Addr} {zs : List Int} (h : Sl w (.slice a n c) zs) (hne : 0 < zs.length → ∀ b off, a = some ⟨b, off, none⟩ → b ≠ g) (ho : ∀ k, k ≠ g → w'.heap[k]? = w.heap[k]?) : Sl w' (.slice a n c) zs := by
  obtain ⟨ao', cap', hv, h1, h2, h3, h4⟩ := h
  obtain ⟨rfl, rfl, rfl⟩ := (Value.slice.injEq .. ▸ hv)
  refine ⟨_, _, rfl, h1, h2, h3, ?_⟩
  rcases h4 with h4 | ⟨b, off, rfl, hc⟩
  · exact .inl h4
  · by_cases h0 : 0 < zs.length
    · refine .inr ⟨b, off, rfl, fun i hi => ?_⟩
      rw [World.cell?_of_block (w := w) (ho b (hne h0 b off rfl))]
      exact hc i hi
    · exact .inl (List.eq_nil_of_length_eq_zero (by omega))

/-- Where divided stands: the dividend at its block, two blocks for the answers, the quotient's digits at g, the divisor at gy, what is left at gr. -/
structure Dv (w wr : World) (na : Bool) (va : Value) (g gy gr n : Nat) (Dl : List Int) (pY : Option Addr) (qY : Nat) (Y : List Int) (y : Int) (nR : Bool) (pR : Option Addr) (qR : Nat) (R : List Int) (r : Int) : Prop where
  hb : Below w.heap.size w wr
  ba : Box wr w.heap.size na va
  b4 : Box wr (w.heap.size + 1 + 1) false (.slice none 0 0)
  b5 : Box wr (w.heap.size + 1 + 1 + 1) false (.slice none 0 0)
  bY : Box wr gy false (.slice pY Y.length qY)
  bR : Box wr gr nR (.slice pR R.length qR)
  d : ∃ cur, wr.heap[g]? = some (.cells cur 3 (0, 0)) ∧ cur.size = n ∧ At cur .i64 0 Dl
  dl : Dl.length = n ∧ Limb Dl
  hY : Wh wr false pY qY Y y
  hR : Wh wr nR pR qR R r
  lt : w.heap.size + 4 ≤ g ∧ g < gy ∧ gy < gr
  farY : ∀ b off, pY = some ⟨b, off, none⟩ → g < b

section
variable {w wr wr' : World} {na : Bool} {va : Value} {g gy gr n : Nat} {Dl : List Int} {pY : Option Addr} {qY : Nat} {Y : List Int} {y : Int} {nR : Bool} {pR : Option Addr} {qR : Nat} {R : List Int} {r : Int}
theorem Dv.below (h : Dv w wr na va g gy gr n Dl pY qY Y y nR pR qR R r) (hb : Below wr.heap.size wr wr') : Dv w wr' na va g gy gr n Dl pY qY Y y nR pR qR R r := by
  obtain ⟨cur, hh, r1⟩ := h.d
  exact ⟨h.hb.trans (hb.mono h.hb.size), h.ba.below hb, h.b4.below hb, h.b5.below hb, h.bY.below hb, h.bR.below hb, ⟨cur, (hb.block g (lt_of_heap hh)).trans hh, r1⟩, h.dl, h.hY.below hb, h.hR.below hb, h.lt, h.farY⟩

theorem box_other {w : World} {g k : Nat} {ng : Bool} {v : Value} (h : Box w k ng v) (hne : k ≠ g) (b u : Value) : Box ((w.setCell ⟨g, 0, none⟩ b).setCell ⟨g, 1, none⟩ u) k ng v := by
  unfold Box
  rw [heap_setCell_other _ ⟨g, 1, none⟩ k _ hne, heap_setCell_other _ ⟨g, 0, none⟩ k _ hne]
  exact h

/-- What is left is written anew. -/
theorem Dv.setR (h : Dv w wr na va g gy gr n Dl pY qY Y y nR pR qR R r) {n2 : Bool} {p2 : Option Addr} {q2 : Nat} {R2 : List Int} {r2 : Int} (h2 : Wh wr n2 p2 q2 R2 r2) :
    Dv w ((wr.setCell ⟨gr, 0, none⟩ (.bool n2)).setCell ⟨gr, 1, none⟩ (.slice p2 R2.length q2)) na va g gy gr n Dl pY qY Y y n2 p2 q2 R2 r2 := by
  obtain ⟨cur, hh, r1⟩ := h.d
  have l := h.lt
  refine ⟨below_set2 h.hb (by omega) _ _, box_other h.ba (by omega) _ _, box_other h.b4 (by omega) _ _, box_other h.b5 (by omega) _ _, box_other h.bY (by omega) _ _, h.bR.set _ _, ⟨cur, ?_, r1⟩, h.dl, h.bR.wh _ _ h.hY, h.bR.wh _ _ h2, h.lt, h.farY⟩
  rw [heap_setCell_other _ ⟨gr, 1, none⟩ g _ (by simp; omega), heap_setCell_other _ ⟨gr, 0, none⟩ g _ (by simp; omega)]
  exact hh

/-- A digit of the quotient is written. -/
theorem Dv.setD (h : Dv w wr na va g gy gr n Dl pY qY Y y nR pR qR R r) (i : Nat) (q : Int) (hq : 0 ≤ q ∧ q < 10000) (hfar : 0 < R.length → ∀ b off, pR = some ⟨b, off, none⟩ → b ≠ g) :
    Dv w (wr.setCell ⟨g, i, none⟩ (.int .i64 q)) na va g gy gr n (Dl.set i q) pY qY Y y nR pR qR R r := by
  obtain ⟨cur, hh, hs, ha⟩ := h.d
  have l := h.lt
  have ho : ∀ k, k ≠ g → (wr.setCell ⟨g, i, none⟩ (.int .i64 q)).heap[k]? = wr.heap[k]? := fun k hk => heap_setCell_other wr ⟨g, i, none⟩ k _ hk
  have hset := ha.set i q
  rw [Nat.zero_add] at hset
  refine ⟨h.hb.setCell (show w.heap.size ≤ g by omega) _, (ho _ (by omega)).trans h.ba, (ho _ (by omega)).trans h.b4, (ho _ (by omega)).trans h.b5, (ho _ (by omega)).trans h.bY, (ho _ (by omega)).trans h.bR, ⟨_, heap_setCell_same wr g i cur _ _ hh, by rw [Array.size_setIfInBounds]; exact hs, hset⟩, ⟨by rw [List.length_set]; exact h.dl.1, limb_set h.dl.2 _ _ hq⟩, ?_, ?_, h.lt, h.farY⟩
  · exact ⟨⟨h.hY.1.1.other (fun _ b off e => by have := h.farY b off e; omega) ho, h.hY.1.2⟩, h.hY.2⟩
  · exact ⟨⟨h.hR.1.1.other hfar ho, h.hR.1.2⟩, h.hR.2⟩

theorem Dv.cell (h : Dv w wr na va g gy gr n Dl pY qY Y y nR pR qR R r) (i : Nat) (hi : i < n) : wr.cell? ⟨g, i, none⟩ = some (.int .i64 (Dl.getD i 0)) ∧ wr.frozen? ⟨g, i, none⟩ = false := by
  obtain ⟨cur, hh, hs, ha⟩ := h.d
  have := ha.cell hh i (by rw [h.dl.1]; exact hi)
  rw [Nat.zero_add] at this
  exact ⟨this, frozen_of_row wr g i cur _ hh⟩

theorem Dv.sl (h : Dv w wr na va g gy gr n Dl pY qY Y y nR pR qR R r) (hn : n ≤ 1000000) : Sl wr (.slice (some ⟨g, 0, none⟩) n n) Dl := by
  obtain ⟨cur, hh, hs, ha⟩ := h.d
  exact (show Ow g wr _ Dl from ⟨_, n, by rw [h.dl.1], by rw [h.dl.1]; omega, by unfold maxLen; omega, h.dl.2, .inr ⟨g, 0, cur, rfl, Nat.le_refl _, hh, by omega, ha⟩⟩).sl
end

/-- The numbers of a round. -/
theorem div_round {A Dl : List Int} {k : Nat} {y r a q : Int} (hk : k < A.length) (hd : k < Dl.length) (ha : A.getD k 0 = a) (h : val (A.drop (k + 1)) = y * val (Dl.drop (k + 1)) + r) : val (A.drop k) = y * val ((Dl.set k q).drop k) + (r * 10000 + a - (y * q + 0)) := by
  rw [drop_getD A k hk, ha, val, h]
  have e : (Dl.set k q).drop k = q :: Dl.drop (k + 1) := by
    rw [drop_getD _ k (by rw [List.length_set]; exact hd), List.drop_set_of_lt (by omega)]
    congr 1
    rw [List.getD_eq_getElem?_getD, List.getElem?_set_self hd]
    rfl
  rw [e, val, Int.mul_add, Int.mul_add, ← Int.mul_assoc, ← Int.mul_assoc, Int.mul_comm 10000 y]
  omega

theorem div_start {A : List Int} (hA : Limb A) {m : Nat} {y : Int} (hy : pw m ≤ y) {sk : Nat} (hs : A.length - sk ≤ m) : 0 ≤ val (A.drop sk) ∧ val (A.drop sk) < y := by
  have h1 := val_bounds (limb_drop hA sk)
  have h2 := pw_mono (m := (A.drop sk).length) (n := m) (by rw [List.length_drop]; exact hs)
  omega

theorem div_end {x y q r : Int} (h : x = y * q + r) (h0 : 0 ≤ r) (h1 : r < y) : q = x / y ∧ r = x % y := by
  have e : (r + y * q) / y = r / y + q := Int.add_mul_ediv_left _ _ (by omega)
  have e2 : (r + y * q) % y = r % y := Int.add_mul_emod_self_left _ _ _
  rw [Int.add_comm] at h
  rw [h, e, e2, Int.ediv_eq_zero_of_lt h0 h1, Int.emod_eq_of_lt h0 h1]
  omega

end Dm
end Go.Proofs.Ythbomfboohjcfaa
