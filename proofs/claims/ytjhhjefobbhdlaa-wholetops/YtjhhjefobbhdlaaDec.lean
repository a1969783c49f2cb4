/-
  Plain facts on decimal digits: what a list of digit bytes is worth, and that a number has one list without noughts ahead. No program is named here.
-/
import Derived.Test.YtjhhjefobbhdlaaPlain
namespace Go.Proofs.Ytjhhjefobbhdlaa
namespace Lm

def p10 : Nat → Int
  | 0 => 1
  | n + 1 => 10 * p10 n

theorem p10_pos (n : Nat) : 1 ≤ p10 n := by
  induction n with
  | zero => simp [p10]
  | succ n ih => simp only [p10]; omega

theorem p10_add (m n : Nat) : p10 (m + n) = p10 m * p10 n := by
  induction m with
  | zero => simp [p10]
  | succ m ih => rw [Nat.succ_add]; simp only [p10, ih, Int.mul_assoc]

theorem p10_mono {m n : Nat} (h : m ≤ n) : p10 m ≤ p10 n := by
  obtain ⟨k, rfl⟩ := Nat.le.dest h
  rw [p10_add]
  have h1 := p10_pos m
  have h2 := p10_pos k
  have : p10 m * 1 ≤ p10 m * p10 k := Int.mul_le_mul_of_nonneg_left h2 (by omega)
  omega

/-- The base's powers are below those of 10 to the 10. -/
theorem pw_le_p10 (n : Nat) : pw n ≤ p10 (10 * n) := by
  induction n with
  | zero => simp [pw, p10]
  | succ n ih =>
    rw [show 10 * (n + 1) = 10 * n + 10 by omega]
    simp only [pw, p10]
    have := pw_pos n
    omega

/-- Digit bytes, the highest first. -/
def Dig (ds : List Int) : Prop := ∀ c ∈ ds, 48 ≤ c ∧ c ≤ 57

def dval : List Int → Int
  | [] => 0
  | c :: cs => (c - 48) * p10 cs.length + dval cs

/-- The digits of x, without noughts ahead. -/
def IsDec (ds : List Int) (x : Int) : Prop := Dig ds ∧ dval ds = x ∧ ((x = 0 ∧ ds = [48]) ∨ ∃ c cs, ds = c :: cs ∧ c ≠ 48)

theorem dig_cons {c : Int} {cs : List Int} : Dig (c :: cs) ↔ (48 ≤ c ∧ c ≤ 57) ∧ Dig cs := by
  constructor
  · intro h; exact ⟨h c (by simp), fun y hy => h y (by simp [hy])⟩
  · rintro ⟨h1, h2⟩ y hy
    simp at hy
    rcases hy with rfl | hy
    · exact h1
    · exact h2 y hy

theorem dig_nil : Dig [] := fun _ h => by cases h
theorem dig_drop {ds : List Int} (h : Dig ds) (k : Nat) : Dig (ds.drop k) := fun y hy => h y (List.mem_of_mem_drop hy)
theorem dig_getD {ds : List Int} (h : Dig ds) {i : Nat} (hi : i < ds.length) : 48 ≤ ds.getD i 0 ∧ ds.getD i 0 ≤ 57 := by
  rw [List.getD_eq_getElem?_getD, List.getElem?_eq_getElem hi]
  exact h _ (List.getElem_mem hi)

theorem dval_bounds {ds : List Int} (h : Dig ds) : 0 ≤ dval ds ∧ dval ds < p10 ds.length := by
  induction ds with
  | nil => simp [dval, p10]
  | cons c cs ih =>
    have h' := dig_cons.1 h
    have hi := ih h'.2
    simp only [dval, List.length_cons, p10]
    have hp := p10_pos cs.length
    have e1 : 0 ≤ (c - 48) * p10 cs.length := Int.mul_nonneg (by omega) (by omega)
    have e2 : (c - 48) * p10 cs.length ≤ 9 * p10 cs.length := Int.mul_le_mul_of_nonneg_right (by omega) (by omega)
    omega

theorem dval_low {c : Int} {cs : List Int} (h : Dig (c :: cs)) (hc : c ≠ 48) : p10 cs.length ≤ dval (c :: cs) := by
  have h' := dig_cons.1 h
  have hi := dval_bounds h'.2
  have hp := p10_pos cs.length
  have e1 : 1 * p10 cs.length ≤ (c - 48) * p10 cs.length := Int.mul_le_mul_of_nonneg_right (by omega) (by omega)
  simp only [dval]
  omega

/-- Two lists of digits of one length that are worth the same are one. -/
theorem dval_inj {ds es : List Int} (hd : Dig ds) (he : Dig es) (hl : ds.length = es.length) (h : dval ds = dval es) : ds = es := by
  induction ds generalizing es with
  | nil =>
    cases es with
    | nil => rfl
    | cons e es => simp at hl
  | cons d ds ih =>
    cases es with
    | nil => simp at hl
    | cons e es =>
      have h1 := dig_cons.1 hd
      have h2 := dig_cons.1 he
      have b1 := dval_bounds h1.2
      have b2 := dval_bounds h2.2
      simp at hl
      simp only [dval] at h
      rw [hl] at h b1
      have hp := p10_pos es.length
      have hde : d = e := by
        rcases Int.lt_trichotomy d e with hlt | heq | hgt
        · have : (d - 48 + 1) * p10 es.length ≤ (e - 48) * p10 es.length := Int.mul_le_mul_of_nonneg_right (by omega) (by omega)
          rw [Int.add_mul] at this
          omega
        · exact heq
        · have : (e - 48 + 1) * p10 es.length ≤ (d - 48) * p10 es.length := Int.mul_le_mul_of_nonneg_right (by omega) (by omega)
          rw [Int.add_mul] at this
          omega
      subst hde
      rw [ih h1.2 h2.2 hl (by omega)]

theorem isDec_one {ds es : List Int} {x : Int} (hd : IsDec ds x) (he : IsDec es x) : ds = es := by
  obtain ⟨d1, d2, d3⟩ := hd
  obtain ⟨e1, e2, e3⟩ := he
  rcases d3 with ⟨hx, rfl⟩ | ⟨c, cs, rfl, hc⟩
  · rcases e3 with ⟨_, rfl⟩ | ⟨c, cs, rfl, hc⟩
    · rfl
    · have := dval_low e1 hc
      have := p10_pos cs.length
      omega
  · rcases e3 with ⟨hx, rfl⟩ | ⟨c', cs', rfl, hc'⟩
    · have := dval_low d1 hc
      have := p10_pos cs.length
      omega
    · have l1 := dval_low d1 hc
      have l2 := dval_low e1 hc'
      have b1 := (dval_bounds d1).2
      have b2 := (dval_bounds e1).2
      simp only [List.length_cons] at b1 b2
      have hl : cs.length = cs'.length := by
        apply Classical.byContradiction
        intro hn
        rcases Nat.lt_or_gt_of_ne hn with h | h
        · have := p10_mono (m := cs.length + 1) (n := cs'.length) (by omega)
          omega
        · have := p10_mono (m := cs'.length + 1) (n := cs.length) (by omega)
          omega
      exact dval_inj d1 e1 (by simp [hl]) (by omega)

theorem dval_cons48 (cs : List Int) : dval (48 :: cs) = dval cs := by simp [dval]

/-- A digit more ahead. -/
theorem dec_step {T : List Int} {v R x : Int} {j : Nat} (h : dval T + p10 T.length * (v + p10 (j + 1) * R) = x) :
    dval ((48 + v % 10) :: T) + p10 ((48 + v % 10) :: T).length * (v / 10 + p10 j * R) = x := by
  rw [← h]
  simp only [dval, List.length_cons, p10]
  have e : v = 10 * (v / 10) + v % 10 := by omega
  have e1 : (48 + v % 10 - 48) * p10 T.length = p10 T.length * (v % 10) := by rw [Int.mul_comm]; congr 1; omega
  have e2 : 10 * p10 T.length * (v / 10 + p10 j * R) = p10 T.length * (10 * (v / 10)) + p10 T.length * (10 * p10 j * R) := by
    rw [Int.mul_comm 10 (p10 T.length), Int.mul_assoc, Int.mul_add, Int.mul_add, ← Int.mul_assoc 10 (p10 j) R]
  have e3 : p10 T.length * (v + 10 * p10 j * R) = p10 T.length * (10 * (v / 10)) + p10 T.length * (v % 10) + p10 T.length * (10 * p10 j * R) := by
    rw [← Int.mul_add, ← Int.mul_add, ← e]
  rw [e1, e2, e3]
  omega

theorem dec_bound {v : Int} {j : Nat} (h0 : 0 ≤ v) (h : v < p10 (j + 1)) : 0 ≤ v / 10 ∧ v / 10 < p10 j := by
  simp only [p10] at h
  omega

/-- The room for nine digits more. -/
theorem dec_room {T : List Int} {R x : Int} {n0 : Nat} (hT : Dig T) (h : dval T + p10 T.length * R = x) (hR : 1 ≤ R) (hx : x < pw n0) : T.length + 9 ≤ 10 * n0 + 9 := by
  have h1 := (dval_bounds hT).1
  have h2 := pw_le_p10 n0
  have h3 := p10_pos T.length
  have h4 : p10 T.length * 1 ≤ p10 T.length * R := Int.mul_le_mul_of_nonneg_left hR (by omega)
  apply Classical.byContradiction
  intro hn
  have := p10_mono (m := 10 * n0) (n := T.length) (by omega)
  omega

end Lm
end Go.Proofs.Ytjhhjefobbhdlaa
