/-
  The contract of the reference's Digits.
-/
import Derived.Test.YtfokkkcegkbomabRText
namespace Go.Proofs.Ytfokkkcegkbomab
namespace Dm
open Go.RowKit
open Lm (bytesOf bytesOf_length bytesOf_getD hide lt_of_cell lt_of_heap IsDec Dig dval p10 p10_pos dig_getD dig_drop)

theorem digits_step {ds Dd : List Int} {k j : Nat} {c v : Int} (hk : k < ds.length) (hc : ds.getD k 0 = c) (hl : (ds.drop (k + 1)).length = 4 * Dd.length + j) (h : dval (ds.drop (k + 1)) = val Dd + pw Dd.length * v) : dval (ds.drop k) = val Dd + pw Dd.length * (v + p10 j * (c - 48)) ∧ (ds.drop k).length = 4 * Dd.length + (j + 1) := by
  rw [Lm.drop_getD ds k hk, hc]
  simp only [dval, List.length_cons]
  rw [h, hl, Lm.p10_add, ← pw_p10]
  refine ⟨?_, by omega⟩
  rw [Int.mul_add, ← Int.mul_assoc (pw Dd.length), Int.mul_comm (c - 48)]
  omega

theorem digits_four {Dd : List Int} {v x : Int} (h : x = val Dd + pw Dd.length * v) : x = val (Dd ++ [v]) + pw (Dd ++ [v]).length * 0 := by
  rw [val_snoc, Int.mul_zero, Int.add_zero, h]

theorem step_own64 {B : Nat} {w wr w1 : World} {v v' : Value} {k : Nat} {ds : List Int} {z : Int} {o : Obj} (h : w1.ownsRow B 3 1 v' (k + 1) (ds.map (Value.int .i64) ++ [.int .i64 z])) (hg : (wr.alloc o).grownBy w1 v.ownBlock) (hb : Below B w wr) (hB : B ≤ wr.heap.size) (hl : ∀ j, v.ownBlock = some j → B ≤ j ∧ j < wr.heap.size) (hk : ds.length = k) :
    w1.ownsRow B 3 1 v' (ds ++ [z]).length ((ds ++ [z]).map (Value.int .i64)) ∧ Below B w w1 := by
  subst hk
  refine ⟨by simpa using h, ((hb.alloc hB o).grown hg ?_ (fun j hj => (hl j hj).1))⟩
  simp
  omega

theorem times_ten {ten d : Int} (h : 1 ≤ ten) (h0 : 0 ≤ d) (h1 : d ≤ 9) : 0 ≤ ten * d ∧ ten * d ≤ 9 * ten := by
  refine ⟨Int.mul_nonneg (by omega) h0, ?_⟩
  have : ten * d ≤ ten * 9 := Int.mul_le_mul_of_nonneg_left h1 (by omega)
  omega

set_option maxHeartbeats 2000000 in
theorem digits_any (w : World) (s : ByteArray) (hd : Dig (bytesOf s)) (h1 : s.size ≤ 5120) :
    Calls Try.prog 48 #[.string s] w fun e w' => ∃ ao' cap' D, e = .returned (.agg #[.bool false, .slice ao' D.length cap']) ∧ Got w' ao' cap' D (dval (bytesOf s)) ∧ D.length ≤ 6000 ∧ Below w.heap.size w w' := by
  have c0 : (w.alloc (.cells #[.bool false, .slice none 0 0] 59)).cell? ⟨w.heap.size, 0, none⟩ = some (.bool false) := by
    rw [cell_of_row _ _ _ _ _ (0, 0) (heap_alloc_new w _)]; rfl
  have c1 : (w.alloc (.cells #[.bool false, .slice none 0 0] 59)).cell? ⟨w.heap.size, 1, none⟩ = some (.slice none 0 0) := by
    rw [cell_of_row _ _ _ _ _ (0, 0) (heap_alloc_new w _)]; rfl
  have f0 : (w.alloc (.cells #[.bool false, .slice none 0 0] 59)).frozen? ⟨w.heap.size, 0, none⟩ = false := frozen_of_row _ _ _ _ _ (heap_alloc_new w _)
  have f1 : (w.alloc (.cells #[.bool false, .slice none 0 0] 59)).frozen? ⟨w.heap.size, 1, none⟩ = false := frozen_of_row _ _ _ _ _ (heap_alloc_new w _)
  have hb0 : Below w.heap.size w (w.alloc (.cells #[.bool false, .slice none 0 0] 59)) := (Below.refl _ _).alloc (Nat.le_refl _) _
  have hs0 : (w.alloc (.cells #[.bool false, .slice none 0 0] 59)).heap.size = w.heap.size + 1 := by simp
  have C := hide (And.intro c0 (And.intro c1 (And.intro f0 (And.intro f1 (And.intro hb0 hs0)))))
  obtain ⟨i0, hi, hz0, hz1, hz2⟩ := info_parts info64
  have HD := hide hd
  have HBL := hide (bytesOf_length s)
  clear c0 c1 f0 f1 hb0 hs0 hd
  go_enter Try.func48, Try.ntmps48
  go_wp2
  generalize w.alloc (.cells #[.bool false, .slice none 0 0] 59) = w0 at C ⊢
  go_loopw [3, 4, 5, 6] (fun dv vv tv iv wr => ∃ (k j : Nat) (v ten : Int) (Dd : List Int), k ≤ s.size ∧ j ≤ 3 ∧ iv = .int .i64 ((k : Int) - 1) ∧ vv = .int .i64 v ∧ tv = .int .i64 ten ∧ ten = p10 j ∧ (0 ≤ v ∧ v < p10 j) ∧ Limb Dd ∧ ((bytesOf s).drop k).length = 4 * Dd.length + j ∧ dval ((bytesOf s).drop k) = val Dd + pw Dd.length * v ∧ wr.ownsRow (w.heap.size + 1) 3 1 dv Dd.length (Dd.map (Value.int .i64)) ∧ Below (w.heap.size + 1) w0 wr) (fun _ _ _ iv _ => (intOf iv + 1).toNat)
  case atStart => exact ⟨s.size, 0, 0, 1, [], Nat.le_refl _, by omega, rfl, rfl, rfl, rfl, by simp [p10], limb_nil, by rw [List.drop_of_length_le (by rw [HBL.out]; exact Nat.le_refl _)]; rfl, by rw [List.drop_of_length_le (by rw [HBL.out]; exact Nat.le_refl _)]; simp [dval, val], World.ownsRow_nil _ _ _ _, Below.refl _ _⟩
  case round =>
    obtain ⟨k, j, v, ten, Dd, hk, hj, rfl, rfl, rfl, hten, hv, hDd, hlen, hval, hown, hbel⟩ := hrel
    have HTEN := hide hten
    have HVB := hide hv
    have HDd := hide hDd
    have HLEN := hide hlen
    have HVAL := hide hval
    have hp3 := Lm.p10_mono (m := j) (n := 3) hj
    rw [← hten, show p10 3 = 1000 from by decide] at hp3
    have hp1 := p10_pos j
    rw [← hten] at hp1
    have hv0 := hv.1
    have hv1 := hv.2
    rw [← hten] at hv1
    have hDl : Dd.length ≤ 5120 := by have := hlen; rw [List.length_drop, HBL.out] at this; omega
    have hsz := hbel.size
    have hsz0 := C.out.2.2.2.2.2
    rw [hsz0] at hsz
    clear hten hv hDd hlen hval
    cases k with
    | zero =>
      have hv2 : v < 10000 := by omega
      go_wp2_with (at_builtin; refine wpList_append_own _ rfl (.tmp 31) (.tmp 33) 57 rfl (w.heap.size + 1) 3 i0 (.int .i64 0) 1 8 Try.underlying57 hi hz0 hz1 hz2 rfl (by decide) _ _ _ rfl (hown.alloc _) ⟨wr.heap.size, 0, none⟩ 1 1 [.int .i64 v] rfl rfl (cell_one_new _ _ _) ?d2 ?d3 ?d4 ?d5 ?_)
      case d2 => first | rfl | (intro u hu; simp at hu; subst hu; rfl)
      case d3 => unfold maxLen; omega
      case d4 => omega
      case d5 => first | omega | (simp; omega)
      intro v' w1 hown' hgrow _
      have R := step_own64 hown' hgrow hbel hsz hown.lt rfl
      have HL9 : Limb (Dd ++ [v]) := limb_append.2 ⟨HDd.out, limb_cons.2 ⟨by omega, limb_nil⟩⟩
      have how := ow_of_row R.1 HL9
      obtain ⟨aq, cq, rfl, sq, _, _⟩ := how.open
      have hval9 : val (Dd ++ [v]) = dval (bytesOf s) := by
        have := HVAL.out
        rw [List.drop_zero] at this
        rw [val_snoc, this]
      have hB := R.2
      have hAl : Hid ((Dd ++ [v]).length ≤ 5121) := by rw [List.length_append, List.length_singleton]; show _ ≤ _; omega
      generalize Dd ++ [v] = A at sq hval9 HL9 hAl
      have HA := hide (And.intro hval9 HL9)
      clear hown' hgrow hown R how hval9 HL9
      go_wp2_with fail
      refine (made_any w1 false aq A.length cq A sq).mono ?_
      rintro e w2 ⟨rfl, hb2⟩
      replace hB := hB.trans (hb2.mono (by have := hB.size; omega))
      have hlt : w.heap.size < w.heap.size + 1 := Nat.lt_succ_self _
      have d0 := (hB.cell (p := ⟨w.heap.size, 0, none⟩) hlt).trans C.out.1
      have d1 := (hB.cell (p := ⟨w.heap.size, 1, none⟩) hlt).trans C.out.2.1
      have g0 := (hB.frozen (p := ⟨w.heap.size, 0, none⟩) hlt).trans C.out.2.2.1
      have g1 := (hB.frozen (p := ⟨w.heap.size, 1, none⟩) hlt).trans C.out.2.2.2.1
      have hBw : Below w.heap.size w w2 := C.out.2.2.2.2.1.trans (hB.mono (by omega))
      have sD := (sq.below hb2).cut
      have hD9 : Hid (Canon (A.take (tl A)) ∧ val (A.take (tl A)) = dval (bytesOf s)) := ⟨canon_trim HA.out.2, by rw [val_take_tl, HA.out.1]⟩
      have hDl9 : Hid ((A.take (tl A)).length = tl A) := by show _ = _; rw [List.length_take]; have := tl_le A; omega
      have hDb : Hid ((A.take (tl A)).length ≤ 6000) := by show _ ≤ _; rw [List.length_take]; have := hAl.out; omega
      replace sD : Sl w2 (.slice aq (A.take (tl A)).length cq) (A.take (tl A)) := by rw [hDl9.out]; exact sD
      rw [← hDl9.out]
      generalize A.take (tl A) = D at sD hD9 hDb ⊢
      have e0 : Below w.heap.size w ((w2.setCell ⟨w.heap.size, 0, none⟩ (.bool false)).setCell ⟨w.heap.size, 1, none⟩ (.slice aq D.length cq)) := (hBw.setCell (Nat.le_refl _) _).setCell (Nat.le_refl _) _
      have e1 : (w2.setCell ⟨w.heap.size, 0, none⟩ (.bool false)).cell? ⟨w.heap.size, 1, none⟩ = some (.slice none 0 0) := by
        rw [World.cell?_setCell_other _ _ _ _ (by simp)]; exact d1
      have e2 := hide ((sD.setCell d0 (fun z => by simp) (.bool false)).setCell e1 (fun z => by simp) (.slice aq D.length cq))
      have y0 := World.cell?_setCell_same _ _ (.bool false) d0
      have x1 := World.cell?_setCell_same _ _ (.slice aq D.length cq) e1
      have X := hide (And.intro y0 x1)
      clear e1 y0 x1 sD
      go_wp2
      refine bodyPost_ret (v := .agg #[.bool false, .slice aq D.length cq]) ?_ rfl ⟨aq, cq, D, rfl, ⟨e2.out, hD9.out⟩, hDb.out, e0⟩
      simp [results, Try.results48, go_sem, X.out.1, X.out.2]
    | succ k =>
      have hks : k < s.size := by omega
      have hbd := bytesOf_getD s k hks
      have hdg := dig_getD HD.out (i := k) (by rw [HBL.out]; exact hks)
      have ST := hide (digits_step (by rw [HBL.out]; exact hks) rfl HLEN.out HVAL.out)
      rw [hbd] at hdg ST
      have hki : (k : Int) < (s.size : Int) := by omega
      have hmul : 0 ≤ ten * ((s[k]'hks).toNat - 48 : Int) ∧ ten * ((s[k]'hks).toNat - 48 : Int) ≤ 9000 := by
        refine ⟨Int.mul_nonneg (by omega) (by omega), ?_⟩
        have h8 : ten * ((s[k]'hks).toNat - 48 : Int) ≤ 1000 * ((s[k]'hks).toNat - 48 : Int) := Int.mul_le_mul_of_nonneg_right hp3 (by omega)
        omega
      by_cases hj3 : j = 3
      · have ht3 : ten = 1000 := by rw [HTEN.out, hj3]; decide
        subst ht3
        go_wp2_with (at_builtin; refine wpList_append_own _ rfl (.tmp 27) (.tmp 29) 57 rfl (w.heap.size + 1) 3 i0 (.int .i64 0) 1 8 Try.underlying57 hi hz0 hz1 hz2 rfl (by decide) _ _ _ rfl (hown.alloc _) ⟨wr.heap.size, 0, none⟩ 1 1 [.int .i64 (v + 1000 * ((s[k]'hks).toNat - 48 : Int))] rfl rfl (cell_one_new _ _ _) ?c2 ?c3 ?c4 ?c5 ?_)
        case c2 => first | rfl | (intro u hu; simp at hu; subst hu; rfl)
        case c3 => unfold maxLen; omega
        case c4 => omega
        case c5 => first | omega | (simp; omega)
        intro v' w1 hown' hgrow _
        have R := step_own64 hown' hgrow hbel hsz hown.lt rfl
        have HL9 : Hid (Limb (Dd ++ [v + 1000 * ((s[k]'hks).toNat - 48 : Int)])) := limb_append.2 ⟨HDd.out, limb_cons.2 ⟨by omega, limb_nil⟩⟩
        subst hj3
        have S2 := ST.out
        rw [show p10 3 = 1000 from by decide] at S2
        have HV9 := hide (digits_four S2.1)
        have HN9 : Hid (((bytesOf s).drop k).length = 4 * (Dd ++ [v + 1000 * ((s[k]'hks).toNat - 48 : Int)]).length + 0) := by
          show _ = _
          rw [S2.2, List.length_append, List.length_singleton]
          omega
        clear hown' hgrow hown S2
        go_wp2
        go_roundw
        case rel => exact ⟨k, 0, 0, 1, Dd ++ [v + 1000 * ((s[k]'hks).toNat - 48 : Int)], by omega, by omega, rfl, rfl, rfl, rfl, by simp [p10], HL9.out, HN9.out, HV9.out, R.1, R.2⟩
        case measure => simp [intOf]
      · have hp2 := Lm.p10_mono (m := j) (n := 2) (by omega)
        rw [← HTEN.out, show p10 2 = 100 from by decide] at hp2
        have hne : (10 * ten == 10000) = false := beq_eq_false_iff_ne.2 (by omega)
        have htd := times_ten hp1 (show 0 ≤ ((s[k]'hks).toNat - 48 : Int) by omega) (by omega)
        have HT10 : Hid (10 * ten = p10 (j + 1)) := by show _ = _; rw [p10, ← HTEN.out]
        have S2 := ST.out
        rw [← HTEN.out] at S2
        have HS2 := hide S2
        clear S2
        go_wp2
        go_roundw
        case rel => exact ⟨k, j + 1, v + ten * ((s[k]'hks).toNat - 48 : Int), 10 * ten, Dd, by omega, by omega, rfl, rfl, rfl, HT10.out, by rw [← HT10.out]; omega, HDd.out, HS2.out.2, HS2.out.1, hown, hbel⟩
        case measure => simp [intOf]

end Dm
end Go.Proofs.Ytfokkkcegkbomab
