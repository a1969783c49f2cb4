/-
  Plain facts on numbers written in limbs to the base 2^32: what a list of limbs is worth, its form without limbs 0 on top, and that this form is one. No program is named here.
-/
namespace Go.Proofs.Ytjhhjefobbhdlaa
namespace Lm

/-- Each number of the list is a limb. -/
def Limb (zs : List Int) : Prop := ∀ z ∈ zs, 0 ≤ z ∧ z < 4294967296

/-- The base's powers. -/
def pw : Nat → Int
  | 0 => 1
  | n + 1 => 4294967296 * pw n

/-- What a list of limbs is worth, the lowest limb first. -/
def val : List Int → Int
  | [] => 0
  | z :: zs => z + 4294967296 * val zs

/-- How long the list is without the limbs 0 on top. -/
def tl : List Int → Nat
  | [] => 0
  | z :: zs => if tl zs = 0 then (if z = 0 then 0 else 1) else tl zs + 1

/-- Limbs, and none is 0 on top. -/
def Canon (zs : List Int) : Prop := Limb zs ∧ tl zs = zs.length

theorem pw_pos (n : Nat) : 1 ≤ pw n := by
  induction n with
  | zero => simp [pw]
  | succ n ih => simp only [pw]; omega

theorem pw_add (m n : Nat) : pw (m + n) = pw m * pw n := by
  induction m with
  | zero => simp [pw]
  | succ m ih => rw [Nat.succ_add]; simp only [pw, ih, Int.mul_assoc]

theorem pw_mono {m n : Nat} (h : m ≤ n) : pw m ≤ pw n := by
  obtain ⟨k, rfl⟩ := Nat.le.dest h
  rw [pw_add]
  have h1 := pw_pos m
  have h2 := pw_pos k
  have : pw m * 1 ≤ pw m * pw k := Int.mul_le_mul_of_nonneg_left h2 (by omega)
  omega

theorem limb_nil : Limb [] := fun _ h => by cases h
theorem limb_cons {z : Int} {zs : List Int} : Limb (z :: zs) ↔ (0 ≤ z ∧ z < 4294967296) ∧ Limb zs := by
  constructor
  · intro h; exact ⟨h z (by simp), fun y hy => h y (by simp [hy])⟩
  · rintro ⟨h1, h2⟩ y hy
    simp at hy
    rcases hy with rfl | hy
    · exact h1
    · exact h2 y hy

theorem limb_append {xs ys : List Int} : Limb (xs ++ ys) ↔ Limb xs ∧ Limb ys := by
  constructor
  · intro h; exact ⟨fun y hy => h y (by simp [hy]), fun y hy => h y (by simp [hy])⟩
  · rintro ⟨h1, h2⟩ y hy
    simp at hy
    rcases hy with hy | hy
    · exact h1 y hy
    · exact h2 y hy

theorem limb_take {zs : List Int} (h : Limb zs) (k : Nat) : Limb (zs.take k) := fun y hy => h y (List.mem_of_mem_take hy)
theorem limb_drop {zs : List Int} (h : Limb zs) (k : Nat) : Limb (zs.drop k) := fun y hy => h y (List.mem_of_mem_drop hy)

theorem limb_getD {zs : List Int} (h : Limb zs) (i : Nat) : 0 ≤ zs.getD i 0 ∧ zs.getD i 0 < 4294967296 := by
  rw [List.getD_eq_getElem?_getD]
  cases hi : zs[i]? with
  | none => simp
  | some z => simpa using h z (List.mem_of_getElem? hi)

theorem limb_get? {zs : List Int} (h : Limb zs) (i : Nat) : 0 ≤ zs[i]?.getD 0 ∧ zs[i]?.getD 0 < 4294967296 := by
  have := limb_getD h i
  rwa [List.getD_eq_getElem?_getD] at this

theorem limb_zeros (n : Nat) : Limb (List.replicate n 0) := fun y hy => by
  have := List.eq_of_mem_replicate hy
  omega

theorem val_append (xs ys : List Int) : val (xs ++ ys) = val xs + pw xs.length * val ys := by
  induction xs with
  | nil => simp [val, pw]
  | cons x xs ih =>
    simp only [List.cons_append, val, List.length_cons, pw, ih, Int.mul_add, Int.mul_assoc]
    omega

theorem val_zeros (n : Nat) : val (List.replicate n 0) = 0 := by
  induction n with
  | zero => rfl
  | succ n ih => simp [List.replicate_succ, val, ih]

theorem val_bounds {zs : List Int} (h : Limb zs) : 0 ≤ val zs ∧ val zs < pw zs.length := by
  induction zs with
  | nil => simp [val, pw]
  | cons z zs ih =>
    have h' := limb_cons.1 h
    have := ih h'.2
    simp only [val, List.length_cons, pw]
    omega

theorem tl_le (zs : List Int) : tl zs ≤ zs.length := by
  induction zs with
  | nil => simp [tl]
  | cons z zs ih =>
    simp only [tl, List.length_cons]
    repeat' split
    all_goals omega

theorem tl_zero {zs : List Int} (h : tl zs = 0) : val zs = 0 := by
  induction zs with
  | nil => rfl
  | cons z zs ih =>
    simp only [tl] at h
    by_cases h0 : tl zs = 0
    · rw [if_pos h0] at h
      by_cases hz : z = 0
      · simp [val, ih h0, hz]
      · rw [if_neg hz] at h; omega
    · rw [if_neg h0] at h; omega

/-- Without the limbs 0 on top a list is worth the same. -/
theorem val_take_tl (zs : List Int) : val (zs.take (tl zs)) = val zs := by
  induction zs with
  | nil => rfl
  | cons z zs ih =>
    simp only [tl]
    by_cases h0 : tl zs = 0
    · rw [if_pos h0]
      by_cases hz : z = 0
      · simp [hz, val, tl_zero h0]
      · simp [hz, val, tl_zero h0]
    · rw [if_neg h0]
      simp [val, ih]

theorem tl_take_tl (zs : List Int) : tl (zs.take (tl zs)) = tl zs := by
  induction zs with
  | nil => rfl
  | cons z zs ih =>
    by_cases h0 : tl zs = 0
    · by_cases hz : z = 0
      · simp [tl, h0, hz]
      · simp [tl, h0, hz]
    · have e : tl (z :: zs) = tl zs + 1 := by simp [tl, h0]
      rw [e, List.take_succ_cons]
      simp [tl, ih, h0]

theorem canon_trim {zs : List Int} (h : Limb zs) : Canon (zs.take (tl zs)) :=
  ⟨limb_take h _, by rw [tl_take_tl, List.length_take, Nat.min_eq_left (tl_le zs)]⟩

theorem canon_nil : Canon [] := ⟨limb_nil, rfl⟩

theorem tl_le_of_zero {zs : List Int} {n : Nat} (h : tl zs ≤ n + 1) (h0 : zs.getD n 0 = 0) : tl zs ≤ n := by
  induction zs generalizing n with
  | nil => simp [tl]
  | cons z zs ih =>
    simp only [tl] at h ⊢
    by_cases ht : tl zs = 0
    · rw [if_pos ht] at h ⊢
      by_cases hz : z = 0
      · rw [if_pos hz]; omega
      · rw [if_neg hz]
        cases n with
        | zero => simp at h0; exact absurd h0 hz
        | succ n => omega
    · rw [if_neg ht] at h ⊢
      cases n with
      | zero => omega
      | succ n =>
        have := ih (n := n) (by omega) (by simpa using h0)
        omega

theorem tl_gt {zs : List Int} {n : Nat} (h0 : zs.getD n 0 ≠ 0) : n + 1 ≤ tl zs := by
  induction zs generalizing n with
  | nil => simp at h0
  | cons z zs ih =>
    cases n with
    | zero =>
      simp at h0
      simp only [tl, h0, if_false]
      split <;> omega
    | succ n =>
      have := ih (n := n) (by simpa using h0)
      simp only [tl]
      rw [if_neg (by omega)]
      omega

theorem canon_cons {z : Int} {zs : List Int} (h : Canon (z :: zs)) : Canon zs ∧ (zs = [] → z ≠ 0) := by
  obtain ⟨h1, h2⟩ := h
  have hl := tl_le zs
  simp only [tl, List.length_cons] at h2
  refine ⟨⟨(limb_cons.1 h1).2, ?_⟩, ?_⟩
  · by_cases h0 : tl zs = 0
    · rw [if_pos h0] at h2
      by_cases hz : z = 0
      · rw [if_pos hz] at h2; omega
      · rw [if_neg hz] at h2; omega
    · rw [if_neg h0] at h2; omega
  · rintro rfl hz
    simp [tl, hz] at h2

theorem canon_low {zs : List Int} (h : Canon zs) (h0 : zs ≠ []) : pw (zs.length - 1) ≤ val zs := by
  induction zs with
  | nil => exact absurd rfl h0
  | cons z zs ih =>
    have hc := canon_cons h
    have hz := (limb_cons.1 h.1).1
    cases zs with
    | nil =>
      have := hc.2 rfl
      simp [val, pw]
      omega
    | cons y ys =>
      have := ih hc.1 (by simp)
      simp only [List.length_cons, Nat.add_sub_cancel, pw] at this ⊢
      rw [val]
      omega

/-- Two lists without limbs 0 on top that are worth the same are one. -/
theorem canon_one {xs ys : List Int} (hx : Canon xs) (hy : Canon ys) (h : val xs = val ys) : xs = ys := by
  induction xs generalizing ys with
  | nil =>
    cases ys with
    | nil => rfl
    | cons y ys =>
      have := canon_low hy (by simp)
      have := pw_pos ((y :: ys).length - 1)
      have h0 : 0 = val (y :: ys) := h
      omega
  | cons x xs ih =>
    cases ys with
    | nil =>
      have := canon_low hx (by simp)
      have := pw_pos ((x :: xs).length - 1)
      have h0 : val (x :: xs) = 0 := h
      omega
    | cons y ys =>
      have h1 := (limb_cons.1 hx.1).1
      have h2 := (limb_cons.1 hy.1).1
      simp only [val] at h
      have e : x = y := by omega
      have e' : val xs = val ys := by omega
      rw [e, ih (canon_cons hx).1 (canon_cons hy).1 e']

theorem canon_zero {zs : List Int} (h : Canon zs) : val zs = 0 ↔ zs = [] := by
  constructor
  · intro h0; exact canon_one h canon_nil h0
  · rintro rfl; rfl

theorem canon_lt {xs ys : List Int} (hx : Canon xs) (hy : Canon ys) (h : xs.length < ys.length) : val xs < val ys := by
  have h1 := (val_bounds hx.1).2
  have h2 := canon_low hy (by intro e; subst e; simp at h)
  have h3 := pw_mono (m := xs.length) (n := ys.length - 1) (by omega)
  omega

theorem val_pos_tl {zs : List Int} (h : Limb zs) (h0 : 0 < tl zs) : 0 < val zs := by
  have hl : (zs.take (tl zs)).length = tl zs := by have := tl_le zs; rw [List.length_take]; omega
  have h1 := canon_low (canon_trim h) (by intro e; rw [e] at hl; simp at hl; omega)
  have h2 := pw_pos ((zs.take (tl zs)).length - 1)
  rw [val_take_tl] at h1
  omega

/-- Of two lists of one length that are the same above place k, the one with the lower limb at k is worth less. -/
theorem val_lt_at {xs ys : List Int} {k : Nat} (hx : Limb xs) (hy : Limb ys) (hl : xs.length = ys.length) (hk : k < xs.length) (hd : xs.drop (k + 1) = ys.drop (k + 1)) (h : xs.getD k 0 < ys.getD k 0) : val xs < val ys := by
  induction k generalizing xs ys with
  | zero =>
    cases xs with
    | nil => simp at hk
    | cons x xs =>
      cases ys with
      | nil => simp at hl
      | cons y ys =>
        simp at hd h
        subst hd
        simp only [val]
        omega
  | succ k ih =>
    cases xs with
    | nil => simp at hk
    | cons x xs =>
      cases ys with
      | nil => simp at hl
      | cons y ys =>
        have h1 := limb_cons.1 hx
        have h2 := limb_cons.1 hy
        have := ih h1.2 h2.2 (by simpa using hl) (by simpa using hk) (by simpa using hd) (by simpa using h)
        simp only [val]
        omega

theorem take_succ_getD (zs : List Int) (k : Nat) (h : k < zs.length) : zs.take (k + 1) = zs.take k ++ [zs.getD k 0] := by
  rw [List.take_succ_eq_append_getElem h, List.getD_eq_getElem?_getD, List.getElem?_eq_getElem h]
  rfl

theorem drop_getD (zs : List Int) (k : Nat) (h : k < zs.length) : zs.drop k = zs.getD k 0 :: zs.drop (k + 1) := by
  rw [List.drop_eq_getElem_cons h, List.getD_eq_getElem?_getD, List.getElem?_eq_getElem h]
  rfl

/-- The value of the first k limbs, limbs above the top counted as 0. -/
def vf (zs : List Int) : Nat → Int
  | 0 => 0
  | k + 1 => vf zs k + pw k * zs.getD k 0

theorem vf_take (zs : List Int) (k : Nat) : vf zs k = val (zs.take k) := by
  induction k with
  | zero => simp [vf, val]
  | succ k ih =>
    by_cases h : k < zs.length
    · rw [take_succ_getD zs k h, val_append, vf, ih, List.length_take, Nat.min_eq_left (by omega)]
      simp [val]
    · rw [vf, ih, List.take_of_length_le (by omega), List.take_of_length_le (by omega)]
      have : zs.getD k 0 = 0 := by rw [List.getD_eq_getElem?_getD, List.getElem?_eq_none (by omega)]; rfl
      rw [this]; omega

theorem vf_all (zs : List Int) (k : Nat) (h : zs.length ≤ k) : vf zs k = val zs := by
  rw [vf_take, List.take_of_length_le h]

theorem val_snoc (ps : List Int) (x : Int) : val (ps ++ [x]) = val ps + pw ps.length * x := by
  rw [val_append]; simp [val]

theorem set_snoc (ps zs : List Int) (k : Nat) (x : Int) (hk : ps.length = k) (h : k < zs.length) : (ps ++ zs.drop k).set k x = (ps ++ [x]) ++ zs.drop (k + 1) := by
  subst hk
  rw [drop_getD zs _ h]
  simp

theorem set_cons (zs qs : List Int) (k : Nat) (x : Int) (h : k < zs.length) : (zs.take (k + 1) ++ qs).set k x = zs.take k ++ x :: qs := by
  rw [take_succ_getD zs k h]
  have : (zs.take k).length = k := by rw [List.length_take]; omega
  rw [List.append_assoc, List.set_append_right _ _ (by omega)]
  simp [this]

end Lm
end Go.Proofs.Ytjhhjefobbhdlaa
