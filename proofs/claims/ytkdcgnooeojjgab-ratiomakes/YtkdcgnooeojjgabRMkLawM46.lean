/-
  The contract of the reference's Sub. The contract of the reference's Mul. What the reference's divided holds on its way: its memory, and the plain facts on quotient and rest. The contract of the reference's divided.
-/
import Derived.Test.YtkdcgnooeojjgabRMkLawM44
import Derived.BigRegion
import Derived.Test.YtkdcgnooeojjgabRMkLawM43
import Derived.Deep.DeepCutAuto
namespace Go.Proofs.Ytkdcgnooeojjgab
namespace Dm
open Go.RowKit
open Lm (hide lt_of_cell lt_of_heap cmpI cmpI_lt cmpI_gt)

theorem Wh.via {w0 w1 w2 : World} {ng : Bool} {ao : Option Addr} {cap : Nat} {rs : List Int} {z : Int} (h : Wh w0 ng ao cap rs z) (h1 : Below w0.heap.size w0 w1) (h2 : Below w1.heap.size w1 w2) : Wh w2 ng ao cap rs z := (h.below h1).below h2

set_option maxRecDepth 20000 in
set_option maxHeartbeats 1000000 in
theorem nsub_g (w : World) (n1 : Bool) (a1 : Option Addr) (c1 : Nat) (xs : List Int) (x : Int) (hx : Wh w n1 a1 c1 xs x) (n2 : Bool) (a2 : Option Addr) (c2 : Nat) (ys : List Int) (y : Int) (hy : Wh w n2 a2 c2 ys y) (m1 : xs.length ≤ 400000) (m2 : ys.length ≤ 400000) :
    Calls Try.prog 83 #[.agg #[.bool n1, .slice a1 xs.length c1], .agg #[.bool n2, .slice a2 ys.length c2]] w fun e w' => ∃ ng' ao cap rs, e = .returned (.agg #[.bool ng', .slice ao rs.length cap]) ∧ Wh w' ng' ao cap rs (x - y) ∧ rs.length ≤ xs.length + ys.length + 1 ∧ Below w.heap.size w w' := by
  obtain ⟨w0, e0, bx, by', br, hb0, hs0⟩ := boxed3 w n1 (.slice a1 xs.length c1) n2 (.slice a2 ys.length c2)
  have E0 := hide e0
  have hx0 := hx.below hb0
  have hy0 := hy.below hb0
  have HB := hb0
  have ne1 : ¬ (w.heap.size = w.heap.size + 1 + 1) := by omega
  have ne2 : ¬ (w.heap.size + 1 + 1 = w.heap.size) := by omega
  clear e0 hs0
  go_enter Try.func83, Try.ntmps83
  go_wp2_with fail
  rw [E0.out]
  obtain ⟨bx1, bx2, bx3, bx4⟩ := bx.facts
  obtain ⟨by1, by2, by3, by4⟩ := by'.facts
  obtain ⟨br1, br2, br3, br4⟩ := br.facts
  go_region_held3 (fun w' => w'.cell? ⟨w.heap.size, 0, none⟩ = some (.bool n1) ∧ w'.cell? ⟨w.heap.size, 1, none⟩ = some (.slice a1 xs.length c1) ∧ w'.cell? ⟨w.heap.size + 1, 0, none⟩ = some (.bool n2) ∧ w'.cell? ⟨w.heap.size + 1, 1, none⟩ = some (.slice a2 ys.length c2)) (go_keep) (first
    | (go_at_call 82; have _hq := hb1'; refine (nadd_g _ _ _ _ xs _ (hx0.via hb1' (by repeat (first | exact Below.refl _ _ | refine Below.drew ?_))) _ _ _ r1 _ (G1.below (by repeat (first | exact Below.refl _ _ | refine Below.drew ?_))) (by omega) (by omega)).mono ?_; rintro e w2 ⟨ng2, p2, q2, r2, rfl, G2, l2, hb2⟩; have hb2' : Below w1.heap.size w1 w2 := (show Below w1.heap.size w1 _ by repeat (first | exact Below.refl _ _ | refine Below.drew ?_)).trans hb2; have HB := HB.trans (hb2'.mono HB.size); replace bx := bx.below hb2'; clear bx1 bx2 bx3 bx4; obtain ⟨bx1, bx2, bx3, bx4⟩ := bx.facts; replace by' := by'.below hb2'; clear by1 by2 by3 by4; obtain ⟨by1, by2, by3, by4⟩ := by'.facts; replace br := br.below hb2'; clear br1 br2 br3 br4; obtain ⟨br1, br2, br3, br4⟩ := br.facts)
    | (go_at_call 85; refine (minus_g _ _ _ _ ys _ (hy0.below (by repeat (first | exact Below.refl _ _ | refine Below.drew ?_))) (by omega)).mono ?_; rintro e w1 ⟨ng1, p1, q1, r1, rfl, G1, l1, hb1⟩; have hb1' : Below w0.heap.size w0 w1 := (show Below w0.heap.size w0 _ by repeat (first | exact Below.refl _ _ | refine Below.drew ?_)).trans hb1; have HB := HB.trans (hb1'.mono HB.size); replace bx := bx.below hb1'; clear bx1 bx2 bx3 bx4; obtain ⟨bx1, bx2, bx3, bx4⟩ := bx.facts; replace by' := by'.below hb1'; clear by1 by2 by3 by4; obtain ⟨by1, by2, by3, by4⟩ := by'.facts; replace br := br.below hb1'; clear br1 br2 br3 br4; obtain ⟨br1, br2, br3, br4⟩ := br.facts))
  all_goals
    have X := hide (br.set ng2 (.slice p2 r2.length q2)).facts
    have Y := hide (br.wh ng2 (.slice p2 r2.length q2) G2)
    have Z := hide (below_set2 HB (show w.heap.size ≤ w.heap.size + 1 + 1 by omega) (.bool ng2) (.slice p2 r2.length q2))
    clear bx1 bx2 bx3 bx4 by1 by2 by3 by4
    go_wp2
    refine bodyPost_ret (v := .agg #[.bool ng2, .slice p2 r2.length q2]) ?_ rfl ⟨ng2, p2, q2, r2, rfl, by rw [show x - y = x + -y by omega]; exact Y.out, by omega, Z.out⟩
    simp [results, Try.results83, go_sem, X.out.1, X.out.2.1]

end Dm
end Go.Proofs.Ytkdcgnooeojjgab

namespace Go.Proofs.Ytkdcgnooeojjgab
namespace Dm
open Go.RowKit
open Lm (hide lt_of_cell lt_of_heap)

theorem val_set : ∀ (L : List Int) (i : Nat) (x : Int), i < L.length → val (L.set i x) = val L + pw i * (x - L.getD i 0)
  | [], i, x, h => by simp at h
  | z :: zs, 0, x, _ => by simp [val, pw]; omega
  | z :: zs, i + 1, x, h => by
    have ih := val_set zs i x (by simpa using h)
    rw [List.set_cons_succ, val, ih, val, List.getD_cons_succ, pw, Int.mul_add, ← Int.mul_assoc]
    omega

theorem digit_le : ∀ (L : List Int) (i : Nat), (∀ z ∈ L, 0 ≤ z) → pw i * L.getD i 0 ≤ val L
  | [], i, _ => by simp [val]
  | z :: zs, 0, h => by
    have h1 : 0 ≤ val zs := by
      have : ∀ l : List Int, (∀ z ∈ l, 0 ≤ z) → 0 ≤ val l := by
        intro l
        induction l with
        | nil => intro _; simp [val]
        | cons a l ih =>
          intro hl
          have := ih (fun z hz => hl z (List.mem_cons_of_mem _ hz))
          have := hl a (List.mem_cons_self ..)
          rw [val]
          omega
      exact this zs (fun y hy => h y (List.mem_cons_of_mem _ hy))
    simp [val, pw]
    omega
  | z :: zs, i + 1, h => by
    have ih := digit_le zs i (fun y hy => h y (List.mem_cons_of_mem _ hy))
    have := h z (List.mem_cons_self ..)
    rw [List.getD_cons_succ, val, pw, Int.mul_assoc]
    omega

theorem limb_set {L : List Int} (h : Limb L) (i : Nat) (x : Int) (hx : 0 ≤ x ∧ x < 10000) : Limb (L.set i x) := by
  intro z hz
  rcases List.mem_or_eq_of_mem_set hz with h1 | h1
  · exact h z h1
  · rw [h1]; exact hx

theorem nonneg_set {L : List Int} (h : Limb L) (i : Nat) (x : Int) (hx : 0 ≤ x) : ∀ z ∈ L.set i x, 0 ≤ z := by
  intro z hz
  rcases List.mem_or_eq_of_mem_set hz with h1 | h1
  · exact (h z h1).1
  · rw [h1]; exact hx

theorem mul_99 {a b : Int} (ha : 0 ≤ a ∧ a < 10000) (hb : 0 ≤ b ∧ b < 10000) : 0 ≤ a * b ∧ a * b ≤ 99980001 := by
  refine ⟨Int.mul_nonneg ha.1 hb.1, ?_⟩
  have h1 : a * b ≤ 9999 * b := Int.mul_le_mul_of_nonneg_right (by omega) hb.1
  omega

/-- A round of the inner loop. -/
theorem mul_in {B M : List Int} {k j : Nat} {P a b c t s : Int} (hl : k + j < M.length) (ht : M.getD (k + j) 0 = t) (hb : B.getD j 0 = b) (hs : s = c + t + a * b) (h : val M + pw (k + j) * c = P + pw k * (a * vf B j)) :
    val (M.set (k + j) (s % 10000)) + pw (k + (j + 1)) * (s / 10000) = P + pw k * (a * vf B (j + 1)) := by
  rw [val_set M _ _ hl, ht, vf, hb, ← Nat.add_assoc, pw]
  have e : s = s % 10000 + 10000 * (s / 10000) := by omega
  have e2 : pw (k + j) * (s % 10000 - t) + 10000 * pw (k + j) * (s / 10000) = pw (k + j) * (s - t) := by
    rw [Int.mul_comm 10000 (pw (k + j)), Int.mul_assoc, ← Int.mul_add]
    congr 1
    omega
  have e3 : pw (k + j) * (s - t) = pw (k + j) * c + pw (k + j) * (a * b) := by rw [← Int.mul_add]; congr 1; omega
  have e4 : pw k * (a * (vf B j + pw j * b)) = pw k * (a * vf B j) + pw (k + j) * (a * b) := by
    rw [pw_add, Int.mul_add, Int.mul_add, Int.mul_assoc (pw k) (pw j), ← Int.mul_assoc a (pw j), Int.mul_comm a (pw j), Int.mul_assoc (pw j) a]
  rw [Int.add_assoc, e2, e3, e4]
  omega

/-- The end of an outer round: the carry is laid on top. -/
theorem mul_out {A B M : List Int} {k : Nat} {a c t : Int} (hA : Limb A) (hB : Limb B) (hM : Limb M) (hk : k < A.length) (hl : k + B.length < M.length) (ht : M.getD (k + B.length) 0 = t) (ha : A.getD k 0 = a) (hc : 0 ≤ c) (h : val M + pw (k + B.length) * c = vf A k * val B + pw k * (a * vf B B.length)) :
    val (M.set (k + B.length) (t + c)) = vf A (k + 1) * val B ∧ Limb (M.set (k + B.length) (t + c)) := by
  have h0 : 0 ≤ t := by rw [← ht]; exact (limb_getD hM _).1
  have e1 : val (M.set (k + B.length) (t + c)) = vf A (k + 1) * val B := by
    rw [val_set M _ _ hl, ht, vf, ha, Int.add_mul, show t + c - t = c by omega, h, vf_all B _ (Nat.le_refl _), Int.mul_assoc]
  refine ⟨e1, limb_set hM _ _ ⟨by omega, ?_⟩⟩
  have h1 := digit_le _ (k + B.length) (nonneg_set hM (k + B.length) (t + c) (by omega))
  have h2 : (M.set (k + B.length) (t + c)).getD (k + B.length) 0 = t + c := by
    rw [List.getD_eq_getElem?_getD, List.getElem?_set_self hl]; rfl
  rw [h2, e1] at h1
  have h3 := val_bounds hB
  have h4 := val_bounds (limb_take hA (k + 1))
  rw [← vf_take, List.length_take, Nat.min_eq_left (by omega)] at h4
  have h5 : vf A (k + 1) * val B ≤ (pw (k + 1) - 1) * val B := Int.mul_le_mul_of_nonneg_right (by omega) h3.1
  have h6 : (pw (k + 1) - 1) * val B ≤ (pw (k + 1) - 1) * (pw B.length - 1) := Int.mul_le_mul_of_nonneg_left (by omega) (by have := pw_pos (k + 1); omega)
  have h7 : (pw (k + 1) - 1) * (pw B.length - 1) < pw (k + 1) * pw B.length := by
    have := pw_pos (k + 1)
    have := pw_pos B.length
    rw [Int.sub_mul, Int.mul_sub]
    omega
  have h8 : pw (k + 1) * pw B.length = pw (k + B.length) * 10000 := by rw [← pw_add, show k + 1 + B.length = (k + B.length) + 1 by omega, pw, Int.mul_comm]
  apply Classical.byContradiction
  intro hn
  have h9 : pw (k + B.length) * 10000 ≤ pw (k + B.length) * (t + c) := Int.mul_le_mul_of_nonneg_left (by omega) (by have := pw_pos (k + B.length); omega)
  omega

theorem Box.wr {w w' : World} {g g' : Nat} {cur : Array Value} {e : TypeId} {ng : Bool} {v : Value} (h : Box w g ng v) (hw : Wr w w' g' cur e) (hne : g ≠ g') : Box w' g ng v := (hw.other g hne).trans h

end Dm
end Go.Proofs.Ytkdcgnooeojjgab

namespace Go.Proofs.Ytkdcgnooeojjgab
namespace Dm
open Go.RowKit
open Lm (hide lt_of_cell lt_of_heap cmpI cmpI_lt cmpI_gt)

set_option maxRecDepth 20000 in
set_option maxHeartbeats 1000000 in
theorem abs_far (w : World) (ng : Bool) (a1 : Option Addr) (c1 : Nat) (xs : List Int) (x : Int) (hx : Got w a1 c1 xs x) (m1 : xs.length ≤ 1000000) (h0 : 0 < xs.length) :
    Calls Try.prog 84 #[.agg #[.bool ng, .slice a1 xs.length c1]] w fun e w' => ∃ ng' ao cap rs, e = .returned (.agg #[.bool ng', .slice ao rs.length cap]) ∧ Wh w' ng' ao cap rs (sg false x) ∧ rs.length ≤ xs.length ∧ (∀ b off, ao = some ⟨b, off, none⟩ → w.heap.size ≤ b) ∧ Below w.heap.size w w' := by
  obtain ⟨b, off, rfl, _⟩ := hx.sl.cells h0
  obtain ⟨w0, rfl, bx, br, hb0, hs0⟩ := boxed1 w ng (.slice (some ⟨b, off, none⟩) xs.length c1)
  obtain ⟨i0, hi, hz0, hz1, hz2⟩ := info_parts info64
  obtain ⟨_, p1, p2, p3⟩ := hx.sl.parts
  have P3 := hide p3
  have hx0 := hx.below hb0
  have HB := hb0
  clear p3
  go_enter Try.func84, Try.ntmps84
  go_wp2_with (at_builtin; refine wpList_append_lies _ rfl _ _ _ rfl w.heap.size 3 i0 _ 1 8 Try.underlying64 hi hz0 hz1 hz2 rfl (by omega) (.slice none 0 0) 0 [] rfl (World.ownsRow_nil _ _ _ _) ⟨b, off, none⟩ xs.length c1 (xs.map (Value.int .i64)) rfl (by simp) (Sl.copy hx0.sl) (one_cells xs) (by omega) (by unfold maxLen; omega) (by omega) (by simp; omega) (w.heap.size + 2) (by simp) ?_)
  intro g1 q1 w1 hown hgrow hat hlt
  have hb1 := Below.grown (Below.refl _ _) hgrow (Nat.le_refl _) (by intro k hk; simp [Value.ownBlock] at hk)
  have HB := HB.trans (hb1.mono HB.size)
  have s1 := copied hown P3.out
  replace bx := bx.below hb1
  replace br := br.below hb1
  have FAR : Hid (w.heap.size ≤ g1) := by rcases hat with e | e; (simp [Value.ownBlock] at e); (show w.heap.size ≤ g1; omega)
  clear hown hgrow hat hx0
  go_wp2_with fail
  try rw [Nat.zero_add]
  refine (made_w _ _ _ _ xs _ s1 hx.val).mono ?_
  rintro e w2 ⟨ng2, r2, rfl, G2, l2, hb2⟩
  replace HB := HB.trans (hb2.mono HB.size)
  replace bx := bx.below hb2
  replace br := br.below hb2
  obtain ⟨bx1, bx2, bx3, bx4⟩ := bx.facts
  obtain ⟨br1, br2, br3, br4⟩ := br.facts
  all_goals
    have X := hide (br.set ng2 (.slice (some ⟨g1, 0, none⟩) r2.length q1)).facts
    have Y := hide (br.wh ng2 (.slice (some ⟨g1, 0, none⟩) r2.length q1) G2)
    have Z := hide (below_set2 HB (show w.heap.size ≤ w.heap.size + 1 by omega) (.bool ng2) (.slice (some ⟨g1, 0, none⟩) r2.length q1))
    clear bx1 bx2 bx3 bx4
    go_wp2
    refine bodyPost_ret (v := .agg #[.bool ng2, .slice (some ⟨g1, 0, none⟩) r2.length q1]) ?_ rfl ⟨ng2, (some ⟨g1, 0, none⟩), q1, r2, rfl, Y.out, by omega, (fun b off e => by simp only [Option.some.injEq, Addr.mk.injEq] at e; have := FAR.out; omega), Z.out⟩
    simp [results, Try.results84, go_sem, X.out.1, X.out.2.1]


theorem Is.far {B : Nat} {w : World} {v : Value} {x : Int} (h : Is B w v x) : ∃ ao cap rs, v = .slice ao rs.length cap ∧ Got w ao cap rs x ∧ (0 < rs.length → ∀ b off, ao = some ⟨b, off, none⟩ → B ≤ b) := by
  obtain ⟨rs, ho, hc, hv⟩ := h
  have hs := ho.sl
  obtain ⟨ao, cap, rfl, h1, h2, h3, h4⟩ := ho
  refine ⟨ao, cap, rs, rfl, ⟨hs, hc, hv⟩, ?_⟩
  intro h0 b off e
  rcases h4 with h4 | ⟨g', off', cur, e', hB, hh, _⟩
  · omega
  · rw [e'] at e
    simp only [Option.some.injEq, Addr.mk.injEq, and_true] at e
    omega

/-- A natural, as a number with a sign. -/
theorem Wh.natu {w : World} {ao : Option Addr} {cap : Nat} {rs : List Int} {x : Int} (h : Got w ao cap rs x) : Wh w false ao cap rs x := by
  have := Wh.of false h
  simpa [sg] using this

theorem cmpI_le0 {x y : Int} : cmpI x y ≤ 0 ↔ x ≤ y := by
  rcases Int.lt_trichotomy x y with h | h | h
  · rw [cmpI_lt h]; omega
  · subst h; simp [Lm.cmpI]
  · rw [cmpI_gt h]; omega

/-- One cell. -/
def Cl (w : World) (b i : Nat) (v : Value) : Prop := w.cell? ⟨b, i, none⟩ = some v
theorem Cl.below {w w' : World} {b i : Nat} {v : Value} (h : Cl w b i v) (hb : Below w.heap.size w w') : Cl w' b i v := (hb.cell (p := ⟨b, i, none⟩) (lt_of_cell h)).trans h
theorem Cl.facts {w : World} {b i : Nat} {v : Value} (h : Cl w b i v) : w.cell? ⟨b, i, none⟩ = some v ∧ True ∧ True ∧ True := ⟨h, trivial, trivial, trivial⟩

theorem Sl.other {w w' : World} {g n c : Nat} {a : Option Addr} {zs : List Int} (h : Sl w (.slice a n c) zs) (hne : 0 < zs.length → ∀ b off, a = some ⟨b, off, none⟩ → b ≠ g) (ho : ∀ k, k ≠ g → w'.heap[k]? = w.heap[k]?) : Sl w' (.slice a n c) zs := by
  obtain ⟨ao', cap', hv, h1, h2, h3, h4⟩ := h
  obtain ⟨rfl, rfl, rfl⟩ := (Value.slice.injEq .. ▸ hv)
  refine ⟨_, _, rfl, h1, h2, h3, ?_⟩
  rcases h4 with h4 | ⟨b, off, rfl, hc⟩
  · exact .inl h4
  · by_cases h0 : 0 < zs.length
    · refine .inr ⟨b, off, rfl, fun i hi => ?_⟩
      rw [World.cell?_of_block (w := w) (ho b (hne h0 b off rfl))]
      exact hc i hi
    · exact .inl (List.eq_nil_of_length_eq_zero (by omega))

/-- Where divided stands: the dividend at its block, two blocks for the answers, the quotient's digits at g, the divisor at gy, what is left at gr. -/
structure Dv (w wr : World) (na : Bool) (va : Value) (g gy gr n : Nat) (Dl : List Int) (pY : Option Addr) (qY : Nat) (Y : List Int) (y : Int) (nR : Bool) (pR : Option Addr) (qR : Nat) (R : List Int) (r : Int) : Prop where
  hb : Below w.heap.size w wr
  ba : Box wr w.heap.size na va
  b4 : Box wr (w.heap.size + 1 + 1) false (.slice none 0 0)
  b5 : Box wr (w.heap.size + 1 + 1 + 1) false (.slice none 0 0)
  bY : Box wr gy false (.slice pY Y.length qY)
  bR : Box wr gr nR (.slice pR R.length qR)
  d : ∃ cur, wr.heap[g]? = some (.cells cur 3 (0, 0)) ∧ cur.size = n ∧ At cur .i64 0 Dl
  dl : Dl.length = n ∧ Limb Dl
  hY : Wh wr false pY qY Y y
  hR : Wh wr nR pR qR R r
  lt : w.heap.size + 4 ≤ g ∧ g < gy ∧ gy < gr
  farY : ∀ b off, pY = some ⟨b, off, none⟩ → g < b

section
variable {w wr wr' : World} {na : Bool} {va : Value} {g gy gr n : Nat} {Dl : List Int} {pY : Option Addr} {qY : Nat} {Y : List Int} {y : Int} {nR : Bool} {pR : Option Addr} {qR : Nat} {R : List Int} {r : Int}
theorem Dv.below (h : Dv w wr na va g gy gr n Dl pY qY Y y nR pR qR R r) (hb : Below wr.heap.size wr wr') : Dv w wr' na va g gy gr n Dl pY qY Y y nR pR qR R r := by
  obtain ⟨cur, hh, r1⟩ := h.d
  exact ⟨h.hb.trans (hb.mono h.hb.size), h.ba.below hb, h.b4.below hb, h.b5.below hb, h.bY.below hb, h.bR.below hb, ⟨cur, (hb.block g (lt_of_heap hh)).trans hh, r1⟩, h.dl, h.hY.below hb, h.hR.below hb, h.lt, h.farY⟩

theorem box_other {w : World} {g k : Nat} {ng : Bool} {v : Value} (h : Box w k ng v) (hne : k ≠ g) (b u : Value) : Box ((w.setCell ⟨g, 0, none⟩ b).setCell ⟨g, 1, none⟩ u) k ng v := by
  unfold Box
  rw [heap_setCell_other _ ⟨g, 1, none⟩ k _ hne, heap_setCell_other _ ⟨g, 0, none⟩ k _ hne]
  exact h

/-- What is left is written anew. -/
theorem Dv.setR (h : Dv w wr na va g gy gr n Dl pY qY Y y nR pR qR R r) {n2 : Bool} {p2 : Option Addr} {q2 : Nat} {R2 : List Int} {r2 : Int} (h2 : Wh wr n2 p2 q2 R2 r2) :
    Dv w ((wr.setCell ⟨gr, 0, none⟩ (.bool n2)).setCell ⟨gr, 1, none⟩ (.slice p2 R2.length q2)) na va g gy gr n Dl pY qY Y y n2 p2 q2 R2 r2 := by
  obtain ⟨cur, hh, r1⟩ := h.d
  have l := h.lt
  refine ⟨below_set2 h.hb (by omega) _ _, box_other h.ba (by omega) _ _, box_other h.b4 (by omega) _ _, box_other h.b5 (by omega) _ _, box_other h.bY (by omega) _ _, h.bR.set _ _, ⟨cur, ?_, r1⟩, h.dl, h.bR.wh _ _ h.hY, h.bR.wh _ _ h2, h.lt, h.farY⟩
  rw [heap_setCell_other _ ⟨gr, 1, none⟩ g _ (by simp; omega), heap_setCell_other _ ⟨gr, 0, none⟩ g _ (by simp; omega)]
  exact hh

/-- A digit of the quotient is written. -/
theorem Dv.setD (h : Dv w wr na va g gy gr n Dl pY qY Y y nR pR qR R r) (i : Nat) (q : Int) (hq : 0 ≤ q ∧ q < 10000) (hfar : 0 < R.length → ∀ b off, pR = some ⟨b, off, none⟩ → b ≠ g) :
    Dv w (wr.setCell ⟨g, i, none⟩ (.int .i64 q)) na va g gy gr n (Dl.set i q) pY qY Y y nR pR qR R r := by
  obtain ⟨cur, hh, hs, ha⟩ := h.d
  have l := h.lt
  have ho : ∀ k, k ≠ g → (wr.setCell ⟨g, i, none⟩ (.int .i64 q)).heap[k]? = wr.heap[k]? := fun k hk => heap_setCell_other wr ⟨g, i, none⟩ k _ hk
  have hset := ha.set i q
  rw [Nat.zero_add] at hset
  refine ⟨h.hb.setCell (show w.heap.size ≤ g by omega) _, (ho _ (by omega)).trans h.ba, (ho _ (by omega)).trans h.b4, (ho _ (by omega)).trans h.b5, (ho _ (by omega)).trans h.bY, (ho _ (by omega)).trans h.bR, ⟨_, heap_setCell_same wr g i cur _ _ hh, by rw [Array.size_setIfInBounds]; exact hs, hset⟩, ⟨by rw [List.length_set]; exact h.dl.1, limb_set h.dl.2 _ _ hq⟩, ?_, ?_, h.lt, h.farY⟩
  · exact ⟨⟨h.hY.1.1.other (fun _ b off e => by have := h.farY b off e; omega) ho, h.hY.1.2⟩, h.hY.2⟩
  · exact ⟨⟨h.hR.1.1.other hfar ho, h.hR.1.2⟩, h.hR.2⟩

theorem Dv.cell (h : Dv w wr na va g gy gr n Dl pY qY Y y nR pR qR R r) (i : Nat) (hi : i < n) : wr.cell? ⟨g, i, none⟩ = some (.int .i64 (Dl.getD i 0)) ∧ wr.frozen? ⟨g, i, none⟩ = false := by
  obtain ⟨cur, hh, hs, ha⟩ := h.d
  have := ha.cell hh i (by rw [h.dl.1]; exact hi)
  rw [Nat.zero_add] at this
  exact ⟨this, frozen_of_row wr g i cur _ hh⟩

theorem Dv.sl (h : Dv w wr na va g gy gr n Dl pY qY Y y nR pR qR R r) (hn : n ≤ 1000000) : Sl wr (.slice (some ⟨g, 0, none⟩) n n) Dl := by
  obtain ⟨cur, hh, hs, ha⟩ := h.d
  exact (show Ow g wr _ Dl from ⟨_, n, by rw [h.dl.1], by rw [h.dl.1]; omega, by unfold maxLen; omega, h.dl.2, .inr ⟨g, 0, cur, rfl, Nat.le_refl _, hh, by omega, ha⟩⟩).sl
end

/-- The numbers of a round. -/
theorem div_round {A Dl : List Int} {k : Nat} {y r a q : Int} (hk : k < A.length) (hd : k < Dl.length) (ha : A.getD k 0 = a) (h : val (A.drop (k + 1)) = y * val (Dl.drop (k + 1)) + r) : val (A.drop k) = y * val ((Dl.set k q).drop k) + (r * 10000 + a - (y * q + 0)) := by
  rw [drop_getD A k hk, ha, val, h]
  have e : (Dl.set k q).drop k = q :: Dl.drop (k + 1) := by
    rw [drop_getD _ k (by rw [List.length_set]; exact hd), List.drop_set_of_lt (by omega)]
    congr 1
    rw [List.getD_eq_getElem?_getD, List.getElem?_set_self hd]
    rfl
  rw [e, val, Int.mul_add, Int.mul_add, ← Int.mul_assoc, ← Int.mul_assoc, Int.mul_comm 10000 y]
  omega

theorem div_start {A : List Int} (hA : Limb A) {m : Nat} {y : Int} (hy : pw m ≤ y) {sk : Nat} (hs : A.length - sk ≤ m) : 0 ≤ val (A.drop sk) ∧ val (A.drop sk) < y := by
  have h1 := val_bounds (limb_drop hA sk)
  have h2 := pw_mono (m := (A.drop sk).length) (n := m) (by rw [List.length_drop]; exact hs)
  omega

theorem div_end {x y q r : Int} (h : x = y * q + r) (h0 : 0 ≤ r) (h1 : r < y) : q = x / y ∧ r = x % y := by
  have e : (r + y * q) / y = r / y + q := Int.add_mul_ediv_left _ _ (by omega)
  have e2 : (r + y * q) % y = r % y := Int.add_mul_emod_self_left _ _ _
  rw [Int.add_comm] at h
  rw [h, e, e2, Int.ediv_eq_zero_of_lt h0 h1, Int.emod_eq_of_lt h0 h1]
  omega

end Dm
end Go.Proofs.Ytkdcgnooeojjgab

namespace Go.Proofs.Ytkdcgnooeojjgab
namespace Dm
open Go.RowKit
open Lm (hide lt_of_cell lt_of_heap cmpI cmpI_lt cmpI_gt)

theorem Sl.drop {w : World} {b off n c : Nat} {zs : List Int} (h : Sl w (.slice (some ⟨b, off, none⟩) n c) zs) (k : Nat) (hk : k ≤ zs.length) : Sl w (.slice (some ⟨b, off + k, none⟩) (zs.length - k) (c - k)) (zs.drop k) := by
  obtain ⟨ao', cap', hv, h1, h2, h3, h4⟩ := h
  obtain ⟨rfl, rfl, rfl⟩ := (Value.slice.injEq .. ▸ hv)
  refine ⟨_, _, by rw [List.length_drop], by rw [List.length_drop]; omega, Nat.le_trans (Nat.sub_le _ _) h2, limb_drop h3 k, ?_⟩
  rcases h4 with rfl | ⟨b', off', e, hc⟩
  · exact .inl (by simp)
  · simp only [Option.some.injEq, Addr.mk.injEq, and_true] at e
    obtain ⟨rfl, rfl⟩ := e
    refine .inr ⟨b, off + k, rfl, fun i hi => ?_⟩
    rw [List.length_drop] at hi
    have := hc (k + i) (by omega)
    rw [List.getD_eq_getElem?_getD, List.getElem?_drop, ← List.getD_eq_getElem?_getD, Nat.add_assoc]
    exact this

theorem made_n (w : World) (ng : Bool) (ao : Option Addr) (n cap : Nat) (ds : List Int) (x : Int) (h : Sl w (.slice ao n cap) ds) (hv : Dm.val ds = x) :
    Calls Try.prog 78 #[.bool ng, .slice ao n cap] w fun e w' => ∃ ng' rs, e = .returned (.agg #[.bool ng', .slice ao rs.length cap]) ∧ Wh w' ng' ao cap rs (sg ng x) ∧ rs.length ≤ ds.length ∧ Below w.heap.size w w' := by
  obtain ⟨rfl, _⟩ := h.parts
  exact made_w w ng ao cap ds x h hv

set_option maxRecDepth 20000 in
set_option maxHeartbeats 8000000 in
theorem divided_g (w : World) (n1 : Bool) (a1 : Option Addr) (c1 : Nat) (A : List Int) (x : Int) (hx : Got w a1 c1 A x) (n2 : Bool) (a2 : Option Addr) (c2 : Nat) (B : List Int) (y : Int) (hy : Got w a2 c2 B y) (m1 : A.length ≤ 300000) (m2 : B.length ≤ 300000) (y0 : 0 < B.length) :
    Calls Try.prog 81 #[.agg #[.bool n1, .slice a1 A.length c1], .agg #[.bool n2, .slice a2 B.length c2]] w fun e w' => ∃ nq pq qq Q nr pr qr R, e = .returned (.tuple #[.agg #[.bool nq, .slice pq Q.length qq], .agg #[.bool nr, .slice pr R.length qr]]) ∧ Wh w' nq pq qq Q (x / y) ∧ Wh w' nr pr qr R (x % y) ∧ Q.length ≤ A.length ∧ R.length ≤ B.length ∧ Below w.heap.size w w' := by
  obtain ⟨w0, e0, bx, by', br, hb0, hs0⟩ := boxed3 w n1 (.slice a1 A.length c1) n2 (.slice a2 B.length c2)
  obtain ⟨bs5, hb5, hs5⟩ := boxed w0 false (.slice none 0 0)
  obtain ⟨i0, hi, hz0, hz1, hz2⟩ := info_parts info64
  have E0 := hide e0
  rw [hs0] at bs5 hs5
  replace bx := bx.below hb5
  replace by' := by'.below hb5
  replace br := br.below hb5
  have HB0 := hb0.trans (hb5.mono hb0.size)
  have hx0 := hx.below HB0
  have hy0 := hy.below HB0
  obtain ⟨_, p1, p2, p3⟩ := hx.sl.parts
  obtain ⟨_, q1, q2, q3⟩ := hy.sl.parts
  have P3 := hide p3
  have Q3 := hide q3
  generalize hw0 : w0.alloc (.cells #[.bool false, .slice none 0 0] 66) = w5 at *
  have E5 := hide hw0
  have HS := hide hs5
  clear p3 q3 e0 hs0 hb5 hw0 hs5
  go_enter Try.func81, Try.ntmps81
  obtain ⟨bx1, bx2, bx3, bx4⟩ := bx.facts
  go_wp2_with (refine wpList_make_full _ rfl (.tmp 16) (.tmp 16) 64 rfl w5.heap.size 3 i0 (.int .i64 0) 1 Try.underlying64 hi hz0 hz1 .i64 .i64 _ _ A.length rfl rfl (by omega) (by omega) (by rw [hz2]; omega) (by unfold maxLen; omega) (by rw [E0.out, E5.out]; exact Nat.le_refl _) ?hK)
  case hK =>
    intro w1 hown hgrow
    rw [E0.out, E5.out] at hgrow
    have hsz5 := HS.out
    obtain ⟨hgB, cur, hh, hcs, hat⟩ := block_of_made hown
    have hb1 : Below w5.heap.size w5 w1 := (Below.refl _ _).grown hgrow (Nat.le_refl _) (by simp)
    have HB1 := HB0.trans (hb1.mono HB0.size)
    have hs1 := lt_of_heap hh
    replace bx := bx.below hb1
    replace by' := by'.below hb1
    replace br := br.below hb1
    replace bs5 := bs5.below hb1
    have hx1 := hx0.below hb1
    have hy1 := hy0.below hb1
    have HH := hide (And.intro hh (And.intro hcs hat))
    clear hown hgrow hh hcs hat hgB hx0 hy0 bx1 bx2 bx3 bx4 E0 E5 hb1 HB0 HS
    generalize hgg : w.heap.size + 1 + 1 + 1 + 1 = g at HH hs1 ⊢
    obtain ⟨bx1, bx2, bx3, bx4⟩ := bx.facts
    obtain ⟨by1, by2, by3, by4⟩ := by'.facts
    go_wp2_with fail
    refine (abs_far _ _ _ _ B _ hy1 (by omega) y0).mono ?_
    rintro e w2 ⟨nY, pY, qY, Y, rfl, GY, lY, farY, hb2⟩
    have HB2 := HB1.trans (hb2.mono HB1.size)
    have z2 := hb2.size
    replace bx := bx.below hb2
    replace by' := by'.below hb2
    replace br := br.below hb2
    replace bs5 := bs5.below hb2
    replace hx1 := hx1.below hb2
    have hh2 := (hb2.block g hs1).trans HH.out.1
    obtain rfl : nY = false := by
      rw [GY.2]
      have := (val_bounds Q3.out).1
      rw [hy.val] at this
      simp [sg]
      omega
    simp only [sg, Bool.false_eq_true, if_false] at GY
    obtain ⟨w3, e3, bY, hb3, hs3⟩ := boxed0 w2 false (.slice pY Y.length qY)
    have HB3 := HB2.trans (hb3.mono HB2.size)
    replace bx := bx.below hb3
    replace by' := by'.below hb3
    replace br := br.below hb3
    replace bs5 := bs5.below hb3
    replace hx1 := hx1.below hb3
    replace GY := GY.below hb3
    have hh3 := (hb3.block g (by omega)).trans hh2
    have HH3 := hide (And.intro hh3 HH.out.2)
    have E3 := hide e3
    clear hb2 hb3 hy1 HH hh2 hh3 e3 bx1 bx2 bx3 bx4 by1 by2 by3 by4
    go_upto_region 3 with fail
    rw [E3.out]
    clear E3
    obtain ⟨bx1, bx2, bx3, bx4⟩ := bx.facts
    obtain ⟨by1, by2, by3, by4⟩ := by'.facts
    generalize hgy : w2.heap.size = gy at *
    go_upto_if 29 with fail
    have hsk : ∃ sk : Nat, sk = A.length + 1 - B.length := ⟨_, rfl⟩
    obtain ⟨sk, hsk⟩ := hsk
    go_cut [8] (fun v wx => v = .int .i64 (sk : Int) ∧ wx = w3)
    case first =>
      by_cases hneg : (A.length : Int) - B.length + 1 < 0
      · go_wp2
        go_meet
        case rel => exact ⟨by simp; omega, rfl⟩
      · go_wp2
        go_meet
        case rel => exact ⟨by simp; omega, rfl⟩
    case rest =>
      obtain ⟨rfl, rfl⟩ := hcut
      have HSK := hide hsk
      have hskA : sk ≤ A.length := by omega
      clear hsk
      have DV0 : Hid (∀ (wx : World) (gr : Nat) (nR : Bool) (pR : Option Addr) (qR : Nat) (R : List Int) (r : Int), Below wc.heap.size wc wx → Box wx gr nR (.slice pR R.length qR) → Wh wx nR pR qR R r → gy < gr → Dv w wx n1 (.slice a1 A.length c1) g gy gr A.length (List.replicate A.length 0) pY qY Y y nR pR qR R r) := by
        intro wx gr nR pR qR R r hbx bRx hRx hgr
        have hd := HH3.out.1
        exact ⟨HB3.trans (hbx.mono HB3.size), bx.below hbx, br.below hbx, bs5.below hbx, bY.below hbx, bRx, ⟨cur, (hbx.block g (lt_of_heap hd)).trans hd, HH3.out.2⟩, ⟨by simp, limb_zeros _⟩, GY.below hbx, hRx, ⟨by omega, by omega, hgr⟩, fun b off e => by have := farY b off e; omega⟩
      go_upto_region 6 with fail
      go_cut [9] (fun v wx => ∃ gr nR pR qR R, v = .pointer (some ⟨gr, 0, none⟩) ∧ Dv w wx n1 (.slice a1 A.length c1) g gy gr A.length (List.replicate A.length 0) pY qY Y y nR pR qR R (val (A.drop sk)))
      case first =>
        by_cases hne : sk < A.length
        · obtain ⟨b, off, rfl, _⟩ := hx1.sl.cells (by omega)
          have sd := hx1.sl.drop sk (by omega)
          have dI : (sk : Int) ≤ (A.length : Int) := by omega
          have sd2 := sd
          rw [← List.length_drop] at sd2
          have hlen : (A.drop sk).length = A.length - sk := List.length_drop
          go_wp2_with (at_builtin; refine wpList_append_lies _ rfl _ _ _ rfl wc.heap.size 3 i0 _ 1 8 Try.underlying64 hi hz0 hz1 hz2 rfl (by omega) (.slice none 0 0) 0 [] rfl (World.ownsRow_nil _ _ _ _) ⟨b, off + sk, none⟩ (A.length - sk) (c1 - sk) ((A.drop sk).map (Value.int .i64)) rfl (by simp) (Sl.copy sd) (one_cells _) (by omega) (by unfold maxLen; omega) (by omega) (Nat.le_refl _) wc.heap.size rfl ?_)
          intro g1 q1 w4 hown hgrow hat hlt
          have hb4 := Below.grown (Below.refl wc.heap.size wc) hgrow (Nat.le_refl _) (by intro k hk; simp [Value.ownBlock] at hk)
          have s4 := copied (zs := A.drop sk) (by rw [List.nil_append, List.map_drop]; exact hown) (limb_drop P3.out sk)
          clear hown hgrow hat
          go_wp2_with fail
          refine (made_n _ _ _ (A.length - sk) _ (A.drop sk) _ (by rw [hlen] at s4; exact s4) rfl).mono ?_
          rintro e w5 ⟨nR, R, rfl, GR, lR, hb5⟩
          have hb45 : Below wc.heap.size wc w5 := hb4.trans (hb5.mono hb4.size)
          obtain ⟨w6, e6, bR, hb6, hs6⟩ := boxed0 w5 nR (.slice (some ⟨g1, 0, none⟩) R.length q1)
          have E6 := hide e6
          have z5 := hb45.size
          have FIN := hide (DV0.out w6 w5.heap.size nR (some ⟨g1, 0, none⟩) q1 R _ (hb45.trans (hb6.mono hb45.size)) bR (GR.below hb6) (by omega))
          clear e6 bx1 bx2 bx3 bx4 by1 by2 by3 by4
          go_wp2
          rw [E6.out]
          go_meet
          case rel => exact ⟨w5.heap.size, nR, (some ⟨g1, 0, none⟩), q1, R, rfl, FIN.out⟩
        · have hsk2 : sk = A.length := by omega
          subst hsk2
          cases a1 with
          | none =>
            go_wp2_with fail
            refine (made_w _ _ none 0 [] 0 (sl_nil _) rfl).mono ?_
            rintro e w5 ⟨nR, R, rfl, GR, lR, hb5⟩
            have hb45 : Below wc.heap.size wc w5 := hb5
            obtain ⟨w6, e6, bR, hb6, hs6⟩ := boxed0 w5 nR (.slice none R.length 0)
            have E6 := hide e6
            have z5 := hb45.size
            have FIN := hide (DV0.out w6 w5.heap.size nR none 0 R _ (hb45.trans (hb6.mono hb45.size)) bR (GR.below hb6) (by omega))
            clear e6 bx1 bx2 bx3 bx4 by1 by2 by3 by4
            go_wp2
            rw [E6.out]
            go_meet
            case rel => exact ⟨w5.heap.size, nR, none, 0, R, rfl, by rw [List.drop_length]; exact FIN.out⟩
          | some ad =>
            rcases Nat.eq_or_lt_of_le p1 with hc | hc
            · subst hc
              go_wp2_with fail
              refine (made_w _ _ none 0 [] 0 (sl_nil _) rfl).mono ?_
              rintro e w5 ⟨nR, R, rfl, GR, lR, hb5⟩
              have hb45 : Below wc.heap.size wc w5 := hb5
              obtain ⟨w6, e6, bR, hb6, hs6⟩ := boxed0 w5 nR (.slice none R.length 0)
              have E6 := hide e6
              have z5 := hb45.size
              have FIN := hide (DV0.out w6 w5.heap.size nR none 0 R _ (hb45.trans (hb6.mono hb45.size)) bR (GR.below hb6) (by omega))
              clear e6 bx1 bx2 bx3 bx4 by1 by2 by3 by4
              go_wp2
              rw [E6.out]
              go_meet
              case rel => exact ⟨w5.heap.size, nR, none, 0, R, rfl, by rw [List.drop_length]; exact FIN.out⟩
            · have hc1 : ¬ c1 = A.length := by omega
              have hc2 : ¬ A.length = c1 := by omega
              go_wp2_with fail
              refine (made_w _ _ none 0 [] 0 (sl_nil _) rfl).mono ?_
              rintro e w5 ⟨nR, R, rfl, GR, lR, hb5⟩
              have hb45 : Below wc.heap.size wc w5 := hb5
              obtain ⟨w6, e6, bR, hb6, hs6⟩ := boxed0 w5 nR (.slice none R.length 0)
              have E6 := hide e6
              have z5 := hb45.size
              have FIN := hide (DV0.out w6 w5.heap.size nR none 0 R _ (hb45.trans (hb6.mono hb45.size)) bR (GR.below hb6) (by omega))
              clear e6 bx1 bx2 bx3 bx4 by1 by2 by3 by4
              go_wp2
              rw [E6.out]
              go_meet
              case rel => exact ⟨w5.heap.size, nR, none, 0, R, rfl, by rw [List.drop_length]; exact FIN.out⟩
      case rest =>
        obtain ⟨gr, nR, pR, qR, R, rfl, DV⟩ := hcut
        have hyv : 0 < y := by rw [← hy.val]; have := canon_low hy.canon (by intro e; rw [e] at y0; simp at y0); have := pw_pos (B.length - 1); omega
        have hyp : y < pw B.length := by rw [← hy.val]; exact (val_bounds Q3.out).2
        have HST := hide (div_start P3.out (m := B.length - 1) (y := y) (sk := sk) (by rw [← hy.val]; exact canon_low hy.canon (by intro e; rw [e] at y0; simp at y0)) (by have := HSK.out; omega))
        have HYP := hide hyp
        clear DV0 bx1 bx2 bx3 bx4 by1 by2 by3 by4 bx by' br bs5 bY hx1 GY HH3 farY hyp
        go_wp2
        go_loopw [10] (fun iv wr => ∃ (k : Nat) (Dl : List Int) (nR : Bool) (pR : Option Addr) (qR : Nat) (R : List Int) (r : Int), k ≤ sk ∧ iv = .int .i64 ((k : Int) - 1) ∧ Dv w wr n1 (.slice a1 A.length c1) g gy gr A.length Dl pY qY Y y nR pR qR R r ∧ val (A.drop k) = y * val (Dl.drop k) + r ∧ 0 ≤ r ∧ r < y) (fun iv _ => (intOf iv + 1).toNat)
        case atStart => exact ⟨sk, _, _, _, _, _, _, Nat.le_refl _, rfl, DV, by rw [List.drop_replicate, val_zeros]; omega, HST.out.1, HST.out.2⟩
        case round =>
          clear DV HST
          obtain ⟨k, Dl, nR, pR, qR, R, r, hk, rfl, DV, hv, hr0, hr1⟩ := hrel
          have lR := DV.hR.len (m := B.length) (by have := HYP.out; omega)
          have HV := hide hv
          clear hv
          cases k with
          | zero =>
            have hv := HV.out
            rw [List.drop_zero, List.drop_zero, hx.val] at hv
            have QE := hide (div_end hv hr0 hr1)
            have bR := DV.bR
            have b4 := DV.b4
            have b5 := DV.b5
            have HL9 := DV.lt
            have ne1 : ¬ (w.heap.size + 1 + 1 = gr) := by omega
            have ne2 : ¬ (w.heap.size + 1 + 1 + 1 = gr) := by omega
            have ne3 : ¬ (gr = w.heap.size + 1 + 1) := by omega
            have ne4 : ¬ (gr = w.heap.size + 1 + 1 + 1) := by omega
            obtain ⟨bR1, bR2, bR3, bR4⟩ := bR.facts
            obtain ⟨b41, b42, b43, b44⟩ := b4.facts
            obtain ⟨b51, b52, b53, b54⟩ := b5.facts
            clear hv
            go_wp2_with fail
            go_region_held3 (fun w' => w'.cell? ⟨gr, 0, none⟩ = some (.bool nR) ∧ w'.cell? ⟨gr, 1, none⟩ = some (.slice pR R.length qR)) (go_keep) (first
              | (go_at_call 78; refine (made_n _ _ _ _ _ Dl _ ((DV.sl (by omega)).below (by repeat (first | exact Below.refl _ _ | refine Below.drew ?_))) rfl).mono ?_; rintro e w1 ⟨n2q, Q, rfl, GQ, lQ, hb1⟩; have hb1' : Below wr.heap.size wr w1 := (show Below wr.heap.size wr _ by repeat (first | exact Below.refl _ _ | refine Below.drew ?_)).trans hb1; replace DV := DV.below hb1'; replace bR := bR.below hb1'; clear bR1 bR2 bR3 bR4; obtain ⟨bR1, bR2, bR3, bR4⟩ := bR.facts; replace b4 := b4.below hb1'; clear b41 b42 b43 b44; obtain ⟨b41, b42, b43, b44⟩ := b4.facts; replace b5 := b5.below hb1'; clear b51 b52 b53 b54; obtain ⟨b51, b52, b53, b54⟩ := b5.facts))
            all_goals
              have F1 := hide (box_other (b4.set n2q (.slice (some ⟨g, 0, none⟩) Q.length A.length)) (show w.heap.size + 1 + 1 ≠ w.heap.size + 1 + 1 + 1 by omega) (.bool nR) (.slice pR R.length qR)).facts
              have b5' := box_other b5 (show w.heap.size + 1 + 1 + 1 ≠ w.heap.size + 1 + 1 by omega) (.bool n2q) (.slice (some ⟨g, 0, none⟩) Q.length A.length)
              have F2 := hide (b5'.set nR (.slice pR R.length qR)).facts
              have Y1 := hide (b5'.wh nR (.slice pR R.length qR) (b4.wh n2q (.slice (some ⟨g, 0, none⟩) Q.length A.length) GQ))
              have Y2 := hide (b5'.wh nR (.slice pR R.length qR) (b4.wh n2q (.slice (some ⟨g, 0, none⟩) Q.length A.length) DV.hR))
              have Z2 := hide (below_set2 (below_set2 DV.hb (show w.heap.size ≤ w.heap.size + 1 + 1 by omega) (.bool n2q) (.slice (some ⟨g, 0, none⟩) Q.length A.length)) (show w.heap.size ≤ w.heap.size + 1 + 1 + 1 by omega) (.bool nR) (.slice pR R.length qR))
              have lD := DV.dl.1
              clear bR1 bR2 bR3 bR4 DV
              go_wp2
              refine bodyPost_ret (v := .tuple #[.agg #[.bool n2q, .slice (some ⟨g, 0, none⟩) Q.length A.length], .agg #[.bool nR, .slice pR R.length qR]]) ?_ rfl ⟨n2q, some ⟨g, 0, none⟩, A.length, Q, nR, pR, qR, R, rfl, by rw [← QE.out.1]; exact Y1.out, by rw [← QE.out.2]; exact Y2.out, by omega, by omega, Z2.out⟩
              simp [results, Try.results81, go_sem, F1.out.1, F1.out.2.1, F2.out.1, F2.out.2.1]
          | succ k =>
            obtain ⟨b, off, rfl, hca⟩ := hx.sl.cells (by omega)
            have cc : Cl wr b (off + k) (.int .i64 (A.getD k 0)) := (DV.hb.cell (p := ⟨b, off + k, none⟩) (lt_of_cell (hca k (by omega)))).trans (hca k (by omega))
            have ba9 := limb_getD P3.out k
            obtain ⟨a, hak⟩ : ∃ a, A.getD k 0 = a := ⟨_, rfl⟩
            rw [hak] at cc ba9
            have HAK := hide hak
            have ba := DV.ba
            have bR := DV.bR
            have vR : val R = r := by rw [DV.hR.1.val]; omega
            have dK : (k : Int) < (A.length : Int) := by omega
            have dK0 : (0 : Int) ≤ (k : Int) := by omega
            have HL9 := DV.lt
            have hz9 := lt_of_heap DV.bR
            clear hca hak
            have ek : (((k + 1 : Nat) : Int) - 1) = (k : Int) := by omega
            rw [ek]
            clear ek
            go_upto_region 10 with fail
            go_cut [] (fun wx => ∃ pR qR R, Dv w wx n1 (.slice (some ⟨b, off, none⟩) A.length c1) g gy gr A.length Dl pY qY Y y false pR qR R (r * 10000 + a) ∧ (0 < R.length → ∀ b off, pR = some ⟨b, off, none⟩ → b ≠ g))
            case first =>
              obtain ⟨cc1, cc2, cc3, cc4⟩ := cc.facts
              obtain ⟨ba1, ba2, ba3, ba4⟩ := ba.facts
              obtain ⟨bR1, bR2, bR3, bR4⟩ := bR.facts
              go_region_with (first
                | (go_at_call 78; have _hq := hb1'; refine (made_g _ p1 q1 r1 _ (G1.below (by repeat (first | exact Below.refl _ _ | refine Below.drew ?_)))).mono ?_; rintro e w2 ⟨rfl, hb2⟩; have hb2' : Below w1.heap.size w1 w2 := (show Below w1.heap.size w1 _ by repeat (first | exact Below.refl _ _ | refine Below.drew ?_)).trans hb2; replace G1 := G1.below hb2'; replace DV := DV.below hb2'; replace ba := ba.below hb2'; clear ba1 ba2 ba3 ba4; obtain ⟨ba1, ba2, ba3, ba4⟩ := ba.facts; replace bR := bR.below hb2'; clear bR1 bR2 bR3 bR4; obtain ⟨bR1, bR2, bR3, bR4⟩ := bR.facts; replace cc := cc.below hb2'; clear cc1 cc2 cc3 cc4; obtain ⟨cc1, cc2, cc3, cc4⟩ := cc.facts)
                | (go_at_call 101; refine (small_any _ _ _ _ R (DV.hR.sl.below (by repeat (first | exact Below.refl _ _ | refine Below.drew ?_))) 10000 a (by omega) (by omega) (by omega)).mono ?_; rintro e w1 ⟨v1, rfl, I1, hb1⟩; have hb1' : Below wr.heap.size wr w1 := (show Below wr.heap.size wr _ by repeat (first | exact Below.refl _ _ | refine Below.drew ?_)).trans hb1; obtain ⟨p1, q1, r1, rfl, G1, far1⟩ := I1.far; clear I1; replace DV := DV.below hb1'; replace ba := ba.below hb1'; clear ba1 ba2 ba3 ba4; obtain ⟨ba1, ba2, ba3, ba4⟩ := ba.facts; replace bR := bR.below hb1'; clear bR1 bR2 bR3 bR4; obtain ⟨bR1, bR2, bR3, bR4⟩ := bR.facts; replace cc := cc.below hb1'; clear cc1 cc2 cc3 cc4; obtain ⟨cc1, cc2, cc3, cc4⟩ := cc.facts))
              all_goals
                rw [vR] at G1
                have FIN := hide (DV.setR (Wh.natu G1))
                have FAR : Hid (0 < r1.length → ∀ b off, p1 = some ⟨b, off, none⟩ → b ≠ g) := fun h0 b off e => by have := far1 h0 b off e; simp at this; omega
                clear ba1 ba2 ba3 ba4 cc1 cc2 cc3 cc4 DV
                go_wp2
                go_meet
                case rel => exact ⟨p1, q1, r1, FIN.out, FAR.out⟩
            case rest =>
              obtain ⟨pR, qR, R, DV, farR⟩ := hcut
              have HFR := hide farR
              clear farR vR ba bR cc
              have lR2 := DV.hR.len (m := B.length + 1) (by rw [pw]; have := HYP.out; omega)
              go_wp2
              obtain ⟨r9, hr9⟩ : ∃ r9, r * 10000 + a = r9 := ⟨_, rfl⟩
              rw [hr9] at DV
              have hy9 : y * 9999 + y = y * (9999 + 1) := by rw [Int.mul_add]; omega
              go_loopw [11, 12] (fun lo hi wx => ∃ l h : Int, lo = .int .i64 l ∧ hi = .int .i64 h ∧ 0 ≤ l ∧ l ≤ h ∧ h ≤ 9999 ∧ y * l ≤ r9 ∧ r9 < y * (h + 1) ∧ Below wc.heap.size wc wx) (fun lo hi _ => (intOf hi - intOf lo).toNat)
              case atStart => exact ⟨0, 9999, rfl, rfl, by omega, by omega, by omega, by omega, by omega, Below.refl _ _⟩
              case round =>
                obtain ⟨l, h, rfl, rfl, l0, lh, h9, lo1, hi1, hbx⟩ := hrel
                replace DV := DV.below hbx
                have LO := hide lo1
                have HI := hide hi1
                have HBW := hide hbx
                clear lo1 hi1 hbx
                by_cases hlt : l < h
                · obtain ⟨m, hm⟩ : ∃ m, (l + h + 1) / 2 = m := ⟨_, rfl⟩
                  have hm1 : l < m ∧ m ≤ h := by omega
                  have bY := DV.bY
                  have bR := DV.bR
                  have vY : val Y = y := by rw [DV.hY.1.val]; omega
                  have hg9 : 0 ≤ r9 := by omega
                  go_upto_region 15 with fail
                  rw [hm]
                  go_cut [66] (fun v wx => v = .bool (decide (y * m ≤ r9)) ∧ Below wr.heap.size wr wx)
                  case first =>
                    obtain ⟨bY1, bY2, bY3, bY4⟩ := bY.facts
                    obtain ⟨bR1, bR2, bR3, bR4⟩ := bR.facts
                    have K := hide (fun w g1 g2 a1 a2 c1 c2 xs ys x y hx hy => size_any w g1 g2 a1 a2 c1 c2 xs ys x y hx hy)
                    go_region_held3 (fun w' => w'.cell? ⟨gy, 0, none⟩ = some (.bool false) ∧ w'.cell? ⟨gy, 1, none⟩ = some (.slice pY Y.length qY) ∧ w'.cell? ⟨gr, 0, none⟩ = some (.bool false) ∧ w'.cell? ⟨gr, 1, none⟩ = some (.slice pR R.length qR)) (go_keep) (first
                      | (go_at_call 77; have _hq := hb2'; refine (size_any _ _ _ p1 _ q1 _ r1 R _ _ (G1.below (by repeat (first | exact Below.refl _ _ | refine Below.drew ?_))) (DV.hR.1.below (by repeat (first | exact Below.refl _ _ | refine Below.drew ?_)))).mono ?_; rintro e w3 ⟨rfl, hb3⟩; have hb3' : Below w2.heap.size w2 w3 := (show Below w2.heap.size w2 _ by repeat (first | exact Below.refl _ _ | refine Below.drew ?_)).trans hb3; replace DV := DV.below hb3'; replace bY := bY.below hb3'; clear bY1 bY2 bY3 bY4; obtain ⟨bY1, bY2, bY3, bY4⟩ := bY.facts; replace bR := bR.below hb3'; clear bR1 bR2 bR3 bR4; obtain ⟨bR1, bR2, bR3, bR4⟩ := bR.facts)
                      | (go_at_call 78; have _hq := hb1'; refine (made_g _ p1 q1 r1 _ (G1.below (by repeat (first | exact Below.refl _ _ | refine Below.drew ?_)))).mono ?_; rintro e w2 ⟨rfl, hb2⟩; have hb2' : Below w1.heap.size w1 w2 := (show Below w1.heap.size w1 _ by repeat (first | exact Below.refl _ _ | refine Below.drew ?_)).trans hb2; replace G1 := G1.below hb2'; replace DV := DV.below hb2'; replace bY := bY.below hb2'; clear bY1 bY2 bY3 bY4; obtain ⟨bY1, bY2, bY3, bY4⟩ := bY.facts; replace bR := bR.below hb2'; clear bR1 bR2 bR3 bR4; obtain ⟨bR1, bR2, bR3, bR4⟩ := bR.facts)
                      | (go_at_call 101; refine (small_any _ _ _ _ Y (DV.hY.sl.below (by repeat (first | exact Below.refl _ _ | refine Below.drew ?_))) m 0 (by omega) (by omega) (by omega)).mono ?_; rintro e w1 ⟨v1, rfl, I1, hb1⟩; have hb1' : Below wr.heap.size wr w1 := (show Below wr.heap.size wr _ by repeat (first | exact Below.refl _ _ | refine Below.drew ?_)).trans hb1; obtain ⟨p1, q1, r1, rfl, G1, far1⟩ := I1.far; clear I1 far1; replace DV := DV.below hb1'; replace bY := bY.below hb1'; clear bY1 bY2 bY3 bY4; obtain ⟨bY1, bY2, bY3, bY4⟩ := bY.facts; replace bR := bR.below hb1'; clear bR1 bR2 bR3 bR4; obtain ⟨bR1, bR2, bR3, bR4⟩ := bR.facts))
                    all_goals
                      clear DV bY1 bY2 bY3 bY4 bR1 bR2 bR3 bR4
                      have HBX := hide ((hb1'.trans (hb2'.mono hb1'.size)).trans (hb3'.mono (Nat.le_trans hb1'.size hb2'.size)))
                      have e9 : (cmpI (y * m) (r9.natAbs : Int) ≤ 0) ↔ (y * m ≤ r9) := by
                        rw [show ((r9.natAbs : Nat) : Int) = r9 by omega]
                        exact cmpI_le0
                      have e10 : decide (cmpI (y * m) (r9.natAbs : Int) ≤ 0) = decide (y * m ≤ r9) := decide_eq_decide.2 e9
                      have E9 := hide e10
                      clear e9 e10
                      go_wp2
                      go_meet
                      case rel => exact ⟨by rw [← E9.out], HBX.out⟩
                  case rest =>
                    obtain ⟨rfl, hbx⟩ := hcut
                    by_cases hle : y * m ≤ r9
                    · have hd : decide (y * m ≤ r9) = true := decide_eq_true hle
                      rw [hd]
                      have HLE := hide hle
                      clear hle hd
                      go_wp2
                      go_roundw
                      case rel => exact ⟨m, h, by first | rfl | rw [hm], rfl, by omega, by omega, by omega, HLE.out, HI.out, HBW.out.trans (hbx.mono HBW.out.size)⟩
                      case measure => simp [intOf]; omega
                    · have hd : decide (y * m ≤ r9) = false := decide_eq_false hle
                      rw [hd]
                      have HLE := hide hle
                      clear hle hd
                      go_wp2
                      go_roundw
                      case rel => exact ⟨l, m - 1, rfl, by first | rfl | rw [hm], by omega, by omega, by omega, LO.out, by have := HLE.out; rw [show m - 1 + 1 = m by omega]; omega, HBW.out.trans (hbx.mono HBW.out.size)⟩
                      case measure => simp [intOf]; omega
                · obtain rfl : h = l := by omega
                  have vY : val Y = y := by rw [DV.hY.1.val]; omega
                  have hg9 : 0 ≤ r9 := by omega
                  obtain ⟨cd, fd⟩ := DV.cell k (by omega)
                  have DV2 := DV.setD k h (by omega) HFR.out
                  have HDV := hide DV2
                  have hp9 : r9 < pw (B.length + 1) := by rw [pw]; have := HYP.out; omega
                  have hp8 : val Y * h + 0 < pw (B.length + 1) := by rw [vY]; have := LO.out; omega
                  have HP8 := hide hp8
                  have vv : ∃ dv, Dl.getD k 0 = dv := ⟨_, rfl⟩
                  obtain ⟨dv, hdv⟩ := vv
                  rw [hdv] at cd
                  clear hp9 hp8 DV DV2 hdv
                  go_upto_region 19 with fail
                  generalize wr.setCell ⟨g, k, none⟩ (.int .i64 h) = ws at HDV ⊢
                  have DV := HDV.out
                  have bY := DV.bY
                  have bR := DV.bR
                  clear HDV cd fd
                  have e1 : y * (h + 1) = y * h + y := by rw [Int.mul_add]; omega
                  have E1 := hide e1
                  clear e1
                  obtain ⟨bY1, bY2, bY3, bY4⟩ := bY.facts
                  obtain ⟨bR1, bR2, bR3, bR4⟩ := bR.facts
                  go_region_with (first
                      | (go_at_call 83; have _hq := hb2'; refine (nsub_g _ _ _ _ R _ (DV.hR.below (by repeat (first | exact Below.refl _ _ | refine Below.drew ?_))) _ p1 q1 r1 _ (Wh.natu (G1.below (by repeat (first | exact Below.refl _ _ | refine Below.drew ?_)))) (by omega) (by have := canon_len G1.canon (m := B.length + 1) (by rw [G1.val]; exact HP8.out); omega)).mono ?_; rintro e w3 ⟨n3, p3, q3, r3, rfl, G3, l3, hb3⟩; have hb3' : Below w2.heap.size w2 w3 := (show Below w2.heap.size w2 _ by repeat (first | exact Below.refl _ _ | refine Below.drew ?_)).trans hb3; replace DV := DV.below hb3'; replace bY := bY.below hb3'; clear bY1 bY2 bY3 bY4; obtain ⟨bY1, bY2, bY3, bY4⟩ := bY.facts; replace bR := bR.below hb3'; clear bR1 bR2 bR3 bR4; obtain ⟨bR1, bR2, bR3, bR4⟩ := bR.facts)
                      | (go_at_call 78; have _hq := hb1'; refine (made_g _ p1 q1 r1 _ (G1.below (by repeat (first | exact Below.refl _ _ | refine Below.drew ?_)))).mono ?_; rintro e w2 ⟨rfl, hb2⟩; have hb2' : Below w1.heap.size w1 w2 := (show Below w1.heap.size w1 _ by repeat (first | exact Below.refl _ _ | refine Below.drew ?_)).trans hb2; replace G1 := G1.below hb2'; replace DV := DV.below hb2'; replace bY := bY.below hb2'; clear bY1 bY2 bY3 bY4; obtain ⟨bY1, bY2, bY3, bY4⟩ := bY.facts; replace bR := bR.below hb2'; clear bR1 bR2 bR3 bR4; obtain ⟨bR1, bR2, bR3, bR4⟩ := bR.facts)
                      | (go_at_call 101; refine (small_any _ _ _ _ Y (DV.hY.sl.below (by repeat (first | exact Below.refl _ _ | refine Below.drew ?_))) h 0 (by omega) (by omega) (by omega)).mono ?_; rintro e w1 ⟨v1, rfl, I1, hb1⟩; have hb1' : Below ws.heap.size ws w1 := (show Below ws.heap.size ws _ by repeat (first | exact Below.refl _ _ | refine Below.drew ?_)).trans hb1; obtain ⟨p1, q1, r1, rfl, G1, far1⟩ := I1.far; clear I1 far1; replace DV := DV.below hb1'; replace bY := bY.below hb1'; clear bY1 bY2 bY3 bY4; obtain ⟨bY1, bY2, bY3, bY4⟩ := bY.facts; replace bR := bR.below hb1'; clear bR1 bR2 bR3 bR4; obtain ⟨bR1, bR2, bR3, bR4⟩ := bR.facts))
                  all_goals
                    rw [vY] at G3
                    have FIN := hide (DV.setR G3)
                    clear bY1 bY2 bY3 bY4 DV
                    go_wp2
                    go_roundw
                    case rel => exact ⟨k, Dl.set k h, n3, p3, q3, r3, _, by omega, by go_num, FIN.out, by rw [← hr9]; exact div_round (by omega) (by have := FIN.out.dl.1; rw [List.length_set] at this; omega) HAK.out HV.out, by have := LO.out; omega, by have := HI.out; have := E1.out; omega⟩
                    case measure => simp [intOf]

end Dm
end Go.Proofs.Ytkdcgnooeojjgab
