/-
  The contract of DivMod, but for long divisors. Plain facts on decimal digits: what a list of digit bytes is worth, and that a number has one list without noughts ahead. No program is named here.
-/
import Derived.Test.YthbomfboohjcfaaSub
import Derived.Test.YthbomfboohjcfaaPlain
namespace Go.Proofs.Ythbomfboohjcfaa
namespace Lm
open Go.RowKit

/-- Two slices whose rooms have nothing in common. -/
def Sep (v1 v2 : Value) : Prop := ∀ a1 n1 c1 a2 n2 c2, v1 = .slice (some a1) n1 c1 → v2 = .slice (some a2) n2 c2 → c1 = 0 ∨ c2 = 0 ∨ a1.block ≠ a2.block

theorem sep_nil (v : Value) (n c : Nat) : Sep (.slice none n c) v := by
  intro a1 n1 c1 a2 n2 c2 h
  simp at h

theorem sep_of {B B' : Nat} {w1 w2 : World} {v1 v2 : Value} {x1 x2 : List Int} (h1 : Ow B w1 v1 x1) (h2 : Ow B' w2 v2 x2) (h : w1.heap.size ≤ B') : Sep v1 v2 := by
  intro a1 n1 c1 a2 n2 c2 e1 e2
  obtain ⟨ao, cap, hv, _, _, _, h4⟩ := h1
  obtain ⟨ao', cap', hv', _, _, _, h4'⟩ := h2
  rw [hv] at e1
  rw [hv'] at e2
  simp only [Value.slice.injEq] at e1 e2
  rcases h4 with h4 | ⟨g, off, cur, hg, _, hh, _⟩
  · exact .inl (by omega)
  · rcases h4' with h4' | ⟨g', off', cur', hg', hb, hh', _⟩
    · exact .inr (.inl (by omega))
    · refine .inr (.inr ?_)
      have := lt_of_heap hh
      rw [hg] at e1
      rw [hg'] at e2
      have k1 := e1.1
      have k2 := e2.1
      simp only [Option.some.injEq] at k1 k2
      rw [← k1, ← k2]
      simp
      omega

set_option maxRecDepth 20000 in
set_option maxHeartbeats 400000 in
theorem divmod_zero (w : World) (a1 a2 : Option Addr) (n1 n2 c1 c2 : Nat) (xs ys : List Int) (hx : Sl w (.slice a1 n1 c1) xs) (hy : Sl w (.slice a2 n2 c2) ys) (hz : tl ys = 0) :
    Calls Try.prog 28 #[.slice a1 n1 c1, .slice a2 n2 c2] w fun e w' => e = .returned (.tuple #[.slice none 0 0, .slice none 0 0, .bool false]) ∧ Below w.heap.size w w' := by
  have ky := cut_any w a2 n2 c2 ys hy
  rw [hz] at ky
  have KY := hide ky
  clear ky hz hy
  go_enter Try.func28, Try.ntmps28
  go_wp2_with fail
  refine (cut_any w a1 _ c1 xs hx).mono ?_
  rintro e w' ⟨rfl, rfl⟩
  go_wp2_with fail
  refine (KY.out).mono ?_
  rintro e w' ⟨rfl, rfl⟩
  go_wp2
  go_ret3
  exact ⟨rfl, Below.refl _ _⟩

set_option maxRecDepth 20000 in
set_option maxHeartbeats 400000 in
theorem divmod_less (w : World) (a1 a2 : Option Addr) (n1 n2 c1 c2 : Nat) (xs ys : List Int) (hx : Sl w (.slice a1 n1 c1) xs) (hy : Sl w (.slice a2 n2 c2) ys) (hm1 : xs.length ≤ 1000000) (hlt : tl xs < tl ys) :
    Calls Try.prog 28 #[.slice a1 n1 c1, .slice a2 n2 c2] w fun e w' => ∃ v1 v2, e = .returned (.tuple #[v1, v2, .bool true]) ∧ Is w.heap.size w' v1 (val xs / val ys) ∧ Is w.heap.size w' v2 (val xs % val ys) ∧ Sep v1 v2 ∧ Below w.heap.size w w' := by
  obtain ⟨rfl, h1, h2, h3⟩ := hx.parts
  obtain ⟨rfl, g1, g2, g3⟩ := hy.parts
  have hvl := trim_lt_len h3 g3 hlt
  have hx0 := (val_bounds h3).1
  have Q := hide (show val xs / val ys = 0 from Int.ediv_eq_zero_of_lt hx0 hvl)
  have R := hide (show val xs % val ys = val xs from Int.emod_eq_of_lt hx0 hvl)
  have hne : (((tl ys : Nat) : Int) == 0) = false := by simp; omega
  have H3 := hide h3
  have t1 := tl_le xs
  have t2 := tl_le ys
  clear hvl hx0 h3 g3
  go_enter Try.func28, Try.ntmps28
  go_wp2_with fail
  refine (cut_any w a1 _ c1 xs hx).mono ?_
  rintro e w' ⟨rfl, rfl⟩
  go_wp2_with fail
  refine (cut_any _ a2 _ c2 ys hy).mono ?_
  rintro e w' ⟨rfl, rfl⟩
  go_wp2_with fail
  refine (trim_any _ _ _ _ _ hx.cut (by simp; omega)).mono ?_
  rintro e w1 ⟨v, rfl, ho, hb⟩
  go_wp2
  go_ret3
  refine ⟨_, _, rfl, ?_, ⟨_, ho, canon_trim (limb_take H3.out _), by rw [val_take_tl, val_take_tl, R.out]⟩, sep_nil _ _ _, hb⟩
  rw [Q.out]
  exact ⟨[], ⟨none, 0, rfl, Nat.le_refl _, by simp [maxLen], limb_nil, .inl rfl⟩, canon_nil, rfl⟩

theorem tl_one {ys : List Int} (h : tl ys = 1) : val ys = ys.getD 0 0 := by
  rw [← val_take_tl, h]
  cases ys with
  | nil => simp [tl] at h
  | cons y ys => simp [val]

theorem div_of {a b q r : Int} (hb : 0 < b) (h : a = q * b + r) (h1 : 0 ≤ r) (h2 : r < b) : a / b = q ∧ a % b = r := by
  have e : a = r + b * q := by rw [h, Int.mul_comm b]; omega
  constructor
  · rw [e, Int.add_mul_ediv_left _ _ (by omega), Int.ediv_eq_zero_of_lt h1 h2]; omega
  · rw [e, Int.add_mul_emod_self_left, Int.emod_eq_of_lt h1 h2]

set_option maxRecDepth 20000 in
set_option maxHeartbeats 1000000 in
theorem divmod_short (w : World) (a1 a2 : Option Addr) (n1 n2 c1 c2 : Nat) (xs ys : List Int) (hx : Sl w (.slice a1 n1 c1) xs) (hy : Sl w (.slice a2 n2 c2) ys) (hm1 : xs.length ≤ 1000000) (hle : 1 ≤ tl xs) (hone : tl ys = 1) :
    Calls Try.prog 28 #[.slice a1 n1 c1, .slice a2 n2 c2] w fun e w' => ∃ v1 v2, e = .returned (.tuple #[v1, v2, .bool true]) ∧ Is w.heap.size w' v1 (val xs / val ys) ∧ Is w.heap.size w' v2 (val xs % val ys) ∧ Sep v1 v2 ∧ Below w.heap.size w w' := by
  obtain ⟨rfl, h1, h2, h3⟩ := hx.parts
  obtain ⟨rfl, g1, g2, g3⟩ := hy.parts
  have t1 := tl_le xs
  have t2 := tl_le ys
  have ky := cut_any w a2 _ c2 ys hy
  have hvy := hide (tl_one hone)
  obtain ⟨b, off, rfl, hc⟩ := hy.cells (by omega)
  have hcell := hc 0 (by omega)
  have hlb := limb_getD g3 0
  have hpos : 0 < ys.getD 0 0 := by
    have : ys.getD 0 0 ≠ 0 := fun h0 => by
      have := tl_le_of_zero (zs := ys) (n := 0) (by omega) h0
      omega
    omega
  rw [hone] at ky
  have KY := hide ky
  have H3 := hide h3
  generalize ys.getD 0 0 = d at hcell hlb hpos hvy
  clear hone hc h3 g3 ky hy
  rw [Nat.add_zero] at hcell
  go_enter Try.func28, Try.ntmps28
  go_wp2_with fail
  refine (cut_any w a1 _ c1 xs hx).mono ?_
  rintro e w' ⟨rfl, rfl⟩
  go_wp2_with fail
  refine (KY.out).mono ?_
  rintro e w' ⟨rfl, rfl⟩
  go_wp2_with fail
  refine (trim_any _ _ _ _ _ hx.cut (by simp; omega)).mono ?_
  rintro e w1 ⟨v, rfl, ho, hb⟩
  rw [tl_take_tl, List.take_take, Nat.min_self] at ho
  obtain ⟨ao, cap, rfl, o1, o2, o3, o4⟩ := ho
  have hXl : (xs.take (tl xs)).length = tl xs := by simp; omega
  rcases o4 with o4 | ⟨g, off', cur, rfl, hg, hh, hs, hat⟩
  · omega
  have hcell' := (hb.cell (p := ⟨b, off, none⟩) (lt_of_cell hcell)).trans hcell
  have VX := hide (val_take_tl xs)
  generalize xs.take (tl xs) = X at *
  go_wp2_with fail
  refine (divideShort_any w1 g off' (tl xs) cap cur X d hpos (by omega) hh hat o3 hXl (by omega)).mono ?_
  rintro e w2 ⟨qs, r, cur', rfl, r0, r1, hv, hq, hql, hwr, hcs, hat'⟩
  have howq : Ow w'.heap.size w2 (.slice (some ⟨g, off', none⟩) (tl xs) cap) qs := ⟨_, cap, by rw [hql], by omega, o2, hq, .inr ⟨g, off', cur', rfl, hg, hwr.here, by omega, hat'⟩⟩
  have hdv := div_of hpos hv r0 r1
  rw [VX.out, ← hvy.out] at hdv
  have hisq := howq.is_cut (x := val xs / val ys) hdv.1.symm
  have HR := hide hdv.2
  have hb2 : Below w'.heap.size w' w2 := hb.trans (hwr.below hg)
  clear hdv hv hql hwr hcs hat' hq
  go_wp2_with fail
  refine (cut_any _ _ _ _ _ howq.sl).mono ?_
  rintro e w3 ⟨rfl, rfl⟩
  go_wp2_with fail
  refine (small_any _ r r0 (by omega)).mono ?_
  rintro e w4 ⟨v, rfl, his, hb4⟩
  go_wp2
  go_ret3
  obtain ⟨q1, q2, q3, q4⟩ := hisq
  obtain ⟨s1, s2, s3, s4⟩ := his
  exact ⟨_, _, rfl, ⟨q1, q2.below hb4, q3, q4⟩, ⟨s1, s2.mono hb2.size, s3, by rw [s4, HR.out]⟩, sep_of q2 s2 (Nat.le_refl _), hb2.trans (hb4.mono hb2.size)⟩

end Lm
end Go.Proofs.Ythbomfboohjcfaa

namespace Go.Proofs.Ythbomfboohjcfaa
namespace Lm

def p10 : Nat → Int
  | 0 => 1
  | n + 1 => 10 * p10 n

theorem p10_pos (n : Nat) : 1 ≤ p10 n := by
  induction n with
  | zero => simp [p10]
  | succ n ih => simp only [p10]; omega

theorem p10_add (m n : Nat) : p10 (m + n) = p10 m * p10 n := by
  induction m with
  | zero => simp [p10]
  | succ m ih => rw [Nat.succ_add]; simp only [p10, ih, Int.mul_assoc]

theorem p10_mono {m n : Nat} (h : m ≤ n) : p10 m ≤ p10 n := by
  obtain ⟨k, rfl⟩ := Nat.le.dest h
  rw [p10_add]
  have h1 := p10_pos m
  have h2 := p10_pos k
  have : p10 m * 1 ≤ p10 m * p10 k := Int.mul_le_mul_of_nonneg_left h2 (by omega)
  omega

/-- The base's powers are below those of 10 to the 10. -/
theorem pw_le_p10 (n : Nat) : pw n ≤ p10 (10 * n) := by
  induction n with
  | zero => simp [pw, p10]
  | succ n ih =>
    rw [show 10 * (n + 1) = 10 * n + 10 by omega]
    simp only [pw, p10]
    have := pw_pos n
    omega

/-- Digit bytes, the highest first. -/
def Dig (ds : List Int) : Prop := ∀ c ∈ ds, 48 ≤ c ∧ c ≤ 57

def dval : List Int → Int
  | [] => 0
  | c :: cs => (c - 48) * p10 cs.length + dval cs

/-- The digits of x, without noughts ahead. -/
def IsDec (ds : List Int) (x : Int) : Prop := Dig ds ∧ dval ds = x ∧ ((x = 0 ∧ ds = [48]) ∨ ∃ c cs, ds = c :: cs ∧ c ≠ 48)

theorem dig_cons {c : Int} {cs : List Int} : Dig (c :: cs) ↔ (48 ≤ c ∧ c ≤ 57) ∧ Dig cs := by
  constructor
  · intro h; exact ⟨h c (by simp), fun y hy => h y (by simp [hy])⟩
  · rintro ⟨h1, h2⟩ y hy
    simp at hy
    rcases hy with rfl | hy
    · exact h1
    · exact h2 y hy

theorem dig_nil : Dig [] := fun _ h => by cases h
theorem dig_drop {ds : List Int} (h : Dig ds) (k : Nat) : Dig (ds.drop k) := fun y hy => h y (List.mem_of_mem_drop hy)
theorem dig_getD {ds : List Int} (h : Dig ds) {i : Nat} (hi : i < ds.length) : 48 ≤ ds.getD i 0 ∧ ds.getD i 0 ≤ 57 := by
  rw [List.getD_eq_getElem?_getD, List.getElem?_eq_getElem hi]
  exact h _ (List.getElem_mem hi)

theorem dval_bounds {ds : List Int} (h : Dig ds) : 0 ≤ dval ds ∧ dval ds < p10 ds.length := by
  induction ds with
  | nil => simp [dval, p10]
  | cons c cs ih =>
    have h' := dig_cons.1 h
    have hi := ih h'.2
    simp only [dval, List.length_cons, p10]
    have hp := p10_pos cs.length
    have e1 : 0 ≤ (c - 48) * p10 cs.length := Int.mul_nonneg (by omega) (by omega)
    have e2 : (c - 48) * p10 cs.length ≤ 9 * p10 cs.length := Int.mul_le_mul_of_nonneg_right (by omega) (by omega)
    omega

theorem dval_low {c : Int} {cs : List Int} (h : Dig (c :: cs)) (hc : c ≠ 48) : p10 cs.length ≤ dval (c :: cs) := by
  have h' := dig_cons.1 h
  have hi := dval_bounds h'.2
  have hp := p10_pos cs.length
  have e1 : 1 * p10 cs.length ≤ (c - 48) * p10 cs.length := Int.mul_le_mul_of_nonneg_right (by omega) (by omega)
  simp only [dval]
  omega

/-- Two lists of digits of one length that are worth the same are one. -/
theorem dval_inj {ds es : List Int} (hd : Dig ds) (he : Dig es) (hl : ds.length = es.length) (h : dval ds = dval es) : ds = es := by
  induction ds generalizing es with
  | nil =>
    cases es with
    | nil => rfl
    | cons e es => simp at hl
  | cons d ds ih =>
    cases es with
    | nil => simp at hl
    | cons e es =>
      have h1 := dig_cons.1 hd
      have h2 := dig_cons.1 he
      have b1 := dval_bounds h1.2
      have b2 := dval_bounds h2.2
      simp at hl
      simp only [dval] at h
      rw [hl] at h b1
      have hp := p10_pos es.length
      have hde : d = e := by
        rcases Int.lt_trichotomy d e with hlt | heq | hgt
        · have : (d - 48 + 1) * p10 es.length ≤ (e - 48) * p10 es.length := Int.mul_le_mul_of_nonneg_right (by omega) (by omega)
          rw [Int.add_mul] at this
          omega
        · exact heq
        · have : (e - 48 + 1) * p10 es.length ≤ (d - 48) * p10 es.length := Int.mul_le_mul_of_nonneg_right (by omega) (by omega)
          rw [Int.add_mul] at this
          omega
      subst hde
      rw [ih h1.2 h2.2 hl (by omega)]

theorem isDec_one {ds es : List Int} {x : Int} (hd : IsDec ds x) (he : IsDec es x) : ds = es := by
  obtain ⟨d1, d2, d3⟩ := hd
  obtain ⟨e1, e2, e3⟩ := he
  rcases d3 with ⟨hx, rfl⟩ | ⟨c, cs, rfl, hc⟩
  · rcases e3 with ⟨_, rfl⟩ | ⟨c, cs, rfl, hc⟩
    · rfl
    · have := dval_low e1 hc
      have := p10_pos cs.length
      omega
  · rcases e3 with ⟨hx, rfl⟩ | ⟨c', cs', rfl, hc'⟩
    · have := dval_low d1 hc
      have := p10_pos cs.length
      omega
    · have l1 := dval_low d1 hc
      have l2 := dval_low e1 hc'
      have b1 := (dval_bounds d1).2
      have b2 := (dval_bounds e1).2
      simp only [List.length_cons] at b1 b2
      have hl : cs.length = cs'.length := by
        apply Classical.byContradiction
        intro hn
        rcases Nat.lt_or_gt_of_ne hn with h | h
        · have := p10_mono (m := cs.length + 1) (n := cs'.length) (by omega)
          omega
        · have := p10_mono (m := cs'.length + 1) (n := cs.length) (by omega)
          omega
      exact dval_inj d1 e1 (by simp [hl]) (by omega)

theorem dval_cons48 (cs : List Int) : dval (48 :: cs) = dval cs := by simp [dval]

/-- A digit more ahead. -/
theorem dec_step {T : List Int} {v R x : Int} {j : Nat} (h : dval T + p10 T.length * (v + p10 (j + 1) * R) = x) :
    dval ((48 + v % 10) :: T) + p10 ((48 + v % 10) :: T).length * (v / 10 + p10 j * R) = x := by
  rw [← h]
  simp only [dval, List.length_cons, p10]
  have e : v = 10 * (v / 10) + v % 10 := by omega
  have e1 : (48 + v % 10 - 48) * p10 T.length = p10 T.length * (v % 10) := by rw [Int.mul_comm]; congr 1; omega
  have e2 : 10 * p10 T.length * (v / 10 + p10 j * R) = p10 T.length * (10 * (v / 10)) + p10 T.length * (10 * p10 j * R) := by
    rw [Int.mul_comm 10 (p10 T.length), Int.mul_assoc, Int.mul_add, Int.mul_add, ← Int.mul_assoc 10 (p10 j) R]
  have e3 : p10 T.length * (v + 10 * p10 j * R) = p10 T.length * (10 * (v / 10)) + p10 T.length * (v % 10) + p10 T.length * (10 * p10 j * R) := by
    rw [← Int.mul_add, ← Int.mul_add, ← e]
  rw [e1, e2, e3]
  omega

theorem dec_bound {v : Int} {j : Nat} (h0 : 0 ≤ v) (h : v < p10 (j + 1)) : 0 ≤ v / 10 ∧ v / 10 < p10 j := by
  simp only [p10] at h
  omega

/-- The room for nine digits more. -/
theorem dec_room {T : List Int} {R x : Int} {n0 : Nat} (hT : Dig T) (h : dval T + p10 T.length * R = x) (hR : 1 ≤ R) (hx : x < pw n0) : T.length + 9 ≤ 10 * n0 + 9 := by
  have h1 := (dval_bounds hT).1
  have h2 := pw_le_p10 n0
  have h3 := p10_pos T.length
  have h4 : p10 T.length * 1 ≤ p10 T.length * R := Int.mul_le_mul_of_nonneg_left hR (by omega)
  apply Classical.byContradiction
  intro hn
  have := p10_mono (m := 10 * n0) (n := T.length) (by omega)
  omega

end Lm
end Go.Proofs.Ythbomfboohjcfaa
