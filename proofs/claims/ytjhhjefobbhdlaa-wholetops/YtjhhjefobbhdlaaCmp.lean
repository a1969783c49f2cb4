/-
  The contracts of Compare and of Cmp.
-/
import Derived.Test.YtjhhjefobbhdlaaSame
namespace Go.Proofs.Ytjhhjefobbhdlaa
namespace Lm
open Go.RowKit

/-- -1, 0 or 1, as x is below y, the same, above. -/
def cmpI (x y : Int) : Int := if x < y then -1 else if y < x then 1 else 0

theorem cmpI_lt {x y : Int} (h : x < y) : cmpI x y = -1 := by simp [cmpI, h]
theorem cmpI_gt {x y : Int} (h : y < x) : cmpI x y = 1 := by unfold cmpI; rw [if_neg (by omega), if_pos h]
theorem cmpI_eq {x y : Int} (h : x = y) : cmpI x y = 0 := by simp [cmpI, h]

theorem ret_i64 {a b : Int} (h : a = b) : Ending.returned (.int .i64 a) = .returned (.int .i64 b) := by rw [h]

set_option maxRecDepth 20000 in
set_option maxHeartbeats 400000 in
theorem compare_int (x y : Int) (w : World) : Calls Try.prog 80 #[.int .i64 x, .int .i64 y] w fun e w' => e = .returned (.int .i64 (cmpI x y)) ∧ w' = w := by
  rcases Int.lt_trichotomy x y with h | h | h
  · have H : Hid (cmpI x y = -1) := cmpI_lt h
    go_enter Try.func80, Try.ntmps80
    go_wp2
    go_ret
    exact ⟨by rw [H.out]; rfl, rfl⟩
  · subst h
    have H : Hid (cmpI x x = 0) := cmpI_eq rfl
    go_enter Try.func80, Try.ntmps80
    go_wp2
    go_ret
    exact ⟨by rw [H.out]; rfl, rfl⟩
  · have H : Hid (cmpI x y = 1) := cmpI_gt h
    have h' : ¬ x < y := by omega
    go_enter Try.func80, Try.ntmps80
    go_wp2
    go_ret
    exact ⟨by rw [H.out]; rfl, rfl⟩

set_option maxRecDepth 20000 in
set_option maxHeartbeats 400000 in
theorem compare_u32 (x y : Int) (w : World) : Calls Try.prog 81 #[.int .u32 x, .int .u32 y] w fun e w' => e = .returned (.int .i64 (cmpI x y)) ∧ w' = w := by
  rcases Int.lt_trichotomy x y with h | h | h
  · have H : Hid (cmpI x y = -1) := cmpI_lt h
    go_enter Try.func81, Try.ntmps81
    go_wp2
    go_ret
    exact ⟨by rw [H.out]; rfl, rfl⟩
  · subst h
    have H : Hid (cmpI x x = 0) := cmpI_eq rfl
    go_enter Try.func81, Try.ntmps81
    go_wp2
    go_ret
    exact ⟨by rw [H.out]; rfl, rfl⟩
  · have H : Hid (cmpI x y = 1) := cmpI_gt h
    have h' : ¬ x < y := by omega
    go_enter Try.func81, Try.ntmps81
    go_wp2
    go_ret
    exact ⟨by rw [H.out]; rfl, rfl⟩

theorem getD_take (zs : List Int) (i k : Nat) (h : i < k) : (zs.take k).getD i 0 = zs.getD i 0 := by
  rw [List.getD_eq_getElem?_getD, List.getD_eq_getElem?_getD, List.getElem?_take, if_pos h]

theorem trim_lt_at {xs ys : List Int} {k : Nat} (hx : Limb xs) (hy : Limb ys) (hl : tl xs = tl ys) (hk : k < tl xs) (hd : (xs.take (tl xs)).drop (k + 1) = (ys.take (tl ys)).drop (k + 1)) (h : xs.getD k 0 < ys.getD k 0) : val xs < val ys := by
  rw [← val_take_tl xs, ← val_take_tl ys]
  have h1 := tl_le xs
  have h2 := tl_le ys
  exact val_lt_at (limb_take hx _) (limb_take hy _) (by simp; omega) (by simp; omega) hd (by rw [getD_take _ _ _ hk, getD_take _ _ _ (by omega)]; exact h)

theorem trim_lt_len {xs ys : List Int} (hx : Limb xs) (hy : Limb ys) (h : tl xs < tl ys) : val xs < val ys := by
  rw [← val_take_tl xs, ← val_take_tl ys]
  have h1 := tl_le xs
  have h2 := tl_le ys
  exact canon_lt (canon_trim hx) (canon_trim hy) (by simp; omega)

theorem cmp_len {xs ys : List Int} (hx : Limb xs) (hy : Limb ys) (h : tl xs ≠ tl ys) : cmpI (tl xs : Nat) (tl ys : Nat) = cmpI (val xs) (val ys) := by
  by_cases h' : tl xs < tl ys
  · rw [cmpI_lt (by omega), cmpI_lt (trim_lt_len hx hy h')]
  · rw [cmpI_gt (by omega), cmpI_gt (trim_lt_len hy hx (by omega))]

theorem cmp_at {xs ys : List Int} {k : Nat} (hx : Limb xs) (hy : Limb ys) (hl : tl xs = tl ys) (hk : k < tl xs) (hd : (xs.take (tl xs)).drop (k + 1) = (ys.take (tl ys)).drop (k + 1)) (h : xs.getD k 0 ≠ ys.getD k 0) : cmpI (xs.getD k 0) (ys.getD k 0) = cmpI (val xs) (val ys) := by
  by_cases h' : xs.getD k 0 < ys.getD k 0
  · rw [cmpI_lt h', cmpI_lt (trim_lt_at hx hy hl hk hd h')]
  · rw [cmpI_gt (by omega), cmpI_gt (trim_lt_at hy hx hl.symm (by omega) hd.symm (by omega))]

theorem cmp_same {xs ys : List Int} (hd : (xs.take (tl xs)).drop 0 = (ys.take (tl ys)).drop 0) : cmpI (val xs) (val ys) = 0 := by
  simp only [List.drop_zero] at hd
  rw [← val_take_tl xs, ← val_take_tl ys, hd]
  exact cmpI_eq rfl

theorem drop_down {xs ys : List Int} {k : Nat} (hl : tl xs = tl ys) (hk : k < tl xs) (hd : (xs.take (tl xs)).drop (k + 1) = (ys.take (tl ys)).drop (k + 1)) (h : xs.getD k 0 = ys.getD k 0) : (xs.take (tl xs)).drop k = (ys.take (tl ys)).drop k := by
  have h1 := tl_le xs
  have h2 := tl_le ys
  rw [drop_getD _ k (by simp; omega), drop_getD (ys.take (tl ys)) k (by simp; omega), hd, getD_take _ _ _ hk, getD_take _ _ _ (by omega), h]

set_option maxRecDepth 20000 in
set_option maxHeartbeats 1000000 in
theorem cmp_any (w : World) (a1 a2 : Option Addr) (n1 n2 c1 c2 : Nat) (xs ys : List Int) (hx : Sl w (.slice a1 n1 c1) xs) (hy : Sl w (.slice a2 n2 c2) ys) :
    Calls Try.prog 61 #[.slice a1 n1 c1, .slice a2 n2 c2] w fun e w' => e = .returned (.int .i64 (cmpI (val xs) (val ys))) ∧ Below w.heap.size w w' := by
  obtain ⟨rfl, h1, h2, h3⟩ := hx.parts
  obtain ⟨rfl, g1, g2, g3⟩ := hy.parts
  have H3 := hide h3
  have G3 := hide g3
  have t1 := tl_le xs
  have t2 := tl_le ys
  clear h3 g3
  by_cases hl : tl xs = tl ys
  · have hne : (((tl xs : Nat) : Int) != ((tl ys : Nat) : Int)) = false := by simp [hl]
    have HL := hide hl
    have l1 : tl xs ≤ tl ys := by omega
    have l2 : tl ys ≤ tl xs := by omega
    clear hl
    go_enter Try.func61, Try.ntmps61
    go_wp2_with fail
    refine (cut_any w a1 _ c1 xs hx).mono ?_
    rintro e w' ⟨rfl, rfl⟩
    go_wp2_with fail
    refine (cut_any _ a2 _ c2 ys hy).mono ?_
    rintro e w' ⟨rfl, rfl⟩
    go_wp2
    go_loopw [5] (fun i wr => ∃ k : Nat, k ≤ tl xs ∧ (xs.take (tl xs)).drop k = (ys.take (tl ys)).drop k ∧ i = .int .i64 ((k : Int) - 1) ∧ Below w'.heap.size w' wr) (fun i _ => (intOf i + 1).toNat)
    case atStart => exact ⟨tl xs, Nat.le_refl _, by rw [List.drop_of_length_le (by simp; omega), List.drop_of_length_le (by simp; omega)], rfl, Below.refl _ _⟩
    case round =>
      obtain ⟨k, hk, hd, rfl, hbel⟩ := hrel
      have HD := hide hd
      clear hd
      cases k with
      | zero =>
        have HE := hide (cmp_same HD.out)
        go_wp2
        go_ret
        exact ⟨by rw [HE.out]; rfl, hbel⟩
      | succ k =>
        obtain ⟨b, off, rfl, hc⟩ := hx.cells (by omega)
        obtain ⟨b', off', rfl, hc'⟩ := hy.cells (by omega)
        have e1 := hc k (by omega)
        have e2 := hc' k (by omega)
        have f1 := (hbel.cell (p := ⟨b, off + k, none⟩) (lt_of_cell e1)).trans e1
        have f2 := (hbel.cell (p := ⟨b', off' + k, none⟩) (lt_of_cell e2)).trans e2
        have d1 : (k : Int) < ((tl xs : Nat) : Int) := by omega
        have d2 : (k : Int) < ((tl ys : Nat) : Int) := by omega
        clear e1 e2 hc hc'
        by_cases he : xs.getD k 0 = ys.getD k 0
        · have HE := hide (drop_down HL.out (by omega) HD.out he)
          rw [he] at f1
          clear he
          generalize ys.getD k 0 = z at f1 f2
          go_wp2
          go_quiet (fail)
          go_wp2
          go_roundw
          case rel => exact ⟨k, by omega, HE.out, by go_num, below_drewN hbel _⟩
          case measure => simp [intOf]
        · have HE := hide (cmp_at H3.out G3.out HL.out (by omega) HD.out he)
          have hne' : (xs.getD k 0 != ys.getD k 0) = true := by rw [bne_iff_ne]; exact he
          clear he
          generalize xs.getD k 0 = z at f1 hne' HE
          generalize ys.getD k 0 = z' at f2 hne' HE
          go_wp2
          go_quiet (fail)
          go_wp2
          replace f1 : (wr.drewN nq).cell? ⟨b, off + k, none⟩ = some (.int .u32 z) := f1
          replace f2 : (wr.drewN nq).cell? ⟨b', off' + k, none⟩ = some (.int .u32 z') := f2
          replace hbel := below_drewN hbel nq
          generalize wr.drewN nq = wr2 at f1 f2 hbel ⊢
          go_quiet ((go_at_call 81; exact Calls.quiet_of_same (compare_u32 _ _ _)))
          go_wp2
          go_ret
          exact ⟨ret_i64 HE.out, below_drewN hbel _⟩
  · have hne : (((tl xs : Nat) : Int) != ((tl ys : Nat) : Int)) = true := by rw [bne_iff_ne]; omega
    have HE := hide (cmp_len H3.out G3.out hl)
    clear hl
    go_enter Try.func61, Try.ntmps61
    go_wp2_with fail
    refine (cut_any w a1 _ c1 xs hx).mono ?_
    rintro e w' ⟨rfl, rfl⟩
    go_wp2_with fail
    refine (cut_any _ a2 _ c2 ys hy).mono ?_
    rintro e w' ⟨rfl, rfl⟩
    go_wp2_with fail
    refine (compare_int _ _ _).mono ?_
    rintro e w' ⟨rfl, rfl⟩
    go_wp2
    go_ret
    exact ⟨ret_i64 HE.out, Below.refl _ _⟩

end Lm
end Go.Proofs.Ytjhhjefobbhdlaa
