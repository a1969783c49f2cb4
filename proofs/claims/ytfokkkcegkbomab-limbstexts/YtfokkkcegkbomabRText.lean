/-
  The contract of the reference's Text.
-/
import Derived.Test.YtfokkkcegkbomabDTrim
import Derived.Test.YtfokkkcegkbomabStrB
import Derived.Laws.BytesArg
import Derived.Lib.Strings
namespace Go.Proofs.Ytfokkkcegkbomab
namespace Dm
open Go.RowKit
open Lm (bytesOf bytesOf_length bytesOf_getD strOf_bytes bytes_strOf bytes_tail tail_val end_dec sizeOf' hide lt_of_cell lt_of_heap IsDec Dig dval p10 p10_pos dig_cons dig_nil dig_drop dval_cons48 dec_step dec_bound dval_bounds isDec_one)

theorem digit_str (d : Int) (h0 : 0 ≤ d) (h1 : d < 10) : (ByteArray.mk #[48, 49, 50, 51, 52, 53, 54, 55, 56, 57]).extract d.toNat (d + 1).toNat = strOfNums [48 + d] := by
  have h : d = 0 ∨ d = 1 ∨ d = 2 ∨ d = 3 ∨ d = 4 ∨ d = 5 ∨ d = 6 ∨ d = 7 ∨ d = 8 ∨ d = 9 := by omega
  rcases h with rfl | rfl | rfl | rfl | rfl | rfl | rfl | rfl | rfl | rfl <;> rfl

theorem str_append (xs ys : List Int) : strOfNums xs ++ strOfNums ys = strOfNums (xs ++ ys) := by
  apply ByteArray.ext
  apply Array.toList_inj.1
  simp [strOfNums]

theorem pw_p10 (n : Nat) : pw n = p10 (4 * n) := by
  induction n with
  | zero => rfl
  | succ n ih =>
    rw [show 4 * (n + 1) = 4 * n + 4 by omega]
    simp only [pw, p10, ih]
    omega

/-- Four digits more ahead. -/
theorem text_round {F T : List Int} {z V x : Int} {k : Nat} (hF : dval F = z) (_hl : F.length = 4) (hT : dval T = V) (hTl : T.length = 4 * k) (hx : x = V + pw k * z) : dval (F ++ T) = x := by
  have e : ∀ A B : List Int, dval (A ++ B) = dval A * p10 B.length + dval B := by
    intro A B
    induction A with
    | nil => simp [dval]
    | cons c cs ih =>
      simp only [List.cons_append, dval, ih, List.length_append, Lm.p10_add, Int.add_mul, Int.mul_assoc]
      omega
  rw [e, hF, hT, hTl, hx, pw_p10, Int.mul_comm z]
  omega

theorem four_step {F : List Int} {u z : Int} (h : dval F + p10 F.length * u = z) : dval ((48 + u % 10) :: F) + p10 ((48 + u % 10) :: F).length * (u / 10) = z := by
  have := dec_step (T := F) (v := u) (R := 0) (x := z) (j := 0) (by rw [Int.mul_zero, Int.add_zero]; exact h)
  rwa [Int.mul_zero, Int.add_zero] at this

set_option maxHeartbeats 2000000 in
theorem rtext_pos (w : World) (ao : Option Addr) (cap : Nat) (D : List Int) (x : Int) (hD : Got w ao cap D x) (hl : D.length ≤ 100000) (h0 : 0 < D.length) :
    Calls Try.prog 38 #[.agg #[.bool false, .slice ao D.length cap]] w fun e w' => ∃ ds, e = .returned (.string (strOfNums ds)) ∧ IsDec ds x ∧ Below w.heap.size w w' := by
  obtain ⟨_, h1, h2, h3⟩ := hD.sl.parts
  have hb0 : Below w.heap.size w (w.alloc (.cells #[.bool false, .slice ao D.length cap] 59)) := (Below.refl _ _).alloc (Nat.le_refl _) _
  have sD := hD.sl.below hb0
  obtain ⟨b, off, rfl, hc⟩ := sD.cells h0
  have hne : (((D.length : Nat) : Int) == 0) = false := beq_eq_false_iff_ne.2 (by omega)
  have H3 := hide h3
  have HV := hide hD.val
  have HC := hide hc
  have hxp : Hid (0 < x) := by
    have := val_pos_tl hD.canon.1 (by rw [hD.canon.2]; exact h0)
    rwa [hD.val] at this
  clear h3 hD sD hc
  go_enter Try.func38, Try.ntmps38
  go_wp2
  go_loop [3, 4] (fun sv iv => ∃ (k : Nat) (T : List Int), k ≤ D.length ∧ iv = .int .i64 k ∧ sv = .string (strOfNums T) ∧ Dig T ∧ T.length = 4 * k ∧ dval T = val (D.take k)) (fun _ iv => D.length - (intOf iv).toNat)
  case atStart => exact ⟨0, [], Nat.zero_le _, rfl, rfl, dig_nil, rfl, by simp [dval, val]⟩
  case round =>
    obtain ⟨k, T, hk, rfl, rfl, hT, hTl, hTv⟩ := hrel
    have HT := hide hT
    have HTL := hide hTl
    have HTV := hide hTv
    clear hT hTl hTv
    by_cases hlt : k < D.length
    · have ck := HC.out k hlt
      have bz := limb_getD H3.out k
      have Hz := hide (take_succ_getD D k hlt)
      generalize D.getD k 0 = z at ck bz Hz
      have d1 : (k : Int) < (D.length : Int) := by omega
      go_wp2
      go_loop [5, 6, 7] (fun vv fv jv => ∃ (j : Nat) (u : Int) (F : List Int), j ≤ 4 ∧ jv = .int .i64 j ∧ vv = .int .i64 u ∧ fv = .string (strOfNums F) ∧ 0 ≤ u ∧ u < p10 (4 - j) ∧ Dig F ∧ F.length = j ∧ dval F + p10 F.length * u = z) (fun _ _ jv => 4 - (intOf jv).toNat)
      case atStart => exact ⟨0, z, [], by omega, rfl, rfl, rfl, bz.1, by rw [show p10 (4 - 0) = 10000 from by decide]; exact bz.2, dig_nil, rfl, by simp [dval, p10]⟩
      case round =>
        obtain ⟨j, u, F, hj, rfl, rfl, rfl, hu0, hu1, hF, hFl, hFv⟩ := hrel
        have HU := hide hu1
        have HF := hide hF
        have HFL := hide hFl
        have HFV := hide hFv
        clear hu1 hF hFl hFv
        by_cases hj4 : j < 4
        · have e1 := digit_str (u % 10) (by omega) (by omega)
          have hu2 : u < 10000 := by
            have h8 := HU.out
            have h9 := Lm.p10_mono (m := 4 - j) (n := 4) (by omega)
            rw [show p10 4 = 10000 from by decide] at h9
            omega
          have hus : (strOfNums F).size ≤ 4 := by rw [strOfNums_size, HFL.out]; omega
          have hus1 : (strOfNums [48 + u % 10]).size ≤ 1 := by rw [strOfNums_size]; simp
          have HFV' := hide (four_step HFV.out)
          have HU' : Hid (0 ≤ u / 10 ∧ u / 10 < p10 (4 - (j + 1))) := by
            obtain ⟨i, hi⟩ : ∃ i, 4 - j = i + 1 := ⟨3 - j, by omega⟩
            have h9 := HU.out
            rw [hi] at h9
            have h10 := dec_bound hu0 h9
            rw [show 4 - (j + 1) = i by omega]
            exact h10
          have HS : Hid (strOfNums [48 + u % 10] ++ strOfNums F = strOfNums ((48 + u % 10) :: F)) := str_append _ _
          go_wp2
          go_round
          case rel => exact ⟨j + 1, u / 10, (48 + u % 10) :: F, by omega, by go_num, rfl, by rw [← HS.out], HU'.out.1, HU'.out.2, dig_cons.2 ⟨by omega, HF.out⟩, by have := HFL.out; simp; omega, HFV'.out⟩
          case measure => simp [intOf]; omega
        · have hj' : j = 4 := by omega
          have hu : u = 0 := by have := HU.out; rw [hj', show p10 (4 - 4) = 1 from by decide] at this; omega
          have hFz : Hid (dval F = z) := by have := HFV.out; rw [hu, Int.mul_zero, Int.add_zero] at this; exact this
          have hFl4 : Hid (F.length = 4) := by have := HFL.out; rw [hj'] at this; exact this
          have HR : Hid (dval (F ++ T) = val (D.take (k + 1))) := by
            refine text_round hFz.out hFl4.out HTV.out HTL.out ?_
            rw [Hz.out, val_snoc, List.length_take, Nat.min_eq_left (by omega)]
          have hus : (strOfNums F).size ≤ 4 := by rw [strOfNums_size, hFl4.out]; omega
          have hus2 : (strOfNums T).size ≤ 400000 := by rw [strOfNums_size, HTL.out]; omega
          have HS : Hid (strOfNums F ++ strOfNums T = strOfNums (F ++ T)) := str_append _ _
          have HDg : Hid (Dig (F ++ T)) := by
            intro c hc
            rcases List.mem_append.1 hc with h | h
            · exact HF.out c h
            · exact HT.out c h
          clear hj' hu
          go_wp2
          go_round
          case rel => exact ⟨k + 1, F ++ T, by omega, by go_num, by rw [← HS.out], HDg.out, by rw [List.length_append, hFl4.out, HTL.out]; omega, HR.out⟩
          case measure => simp [intOf]; omega
    · have hkn : k = D.length := by omega
      have HX : Hid (dval T = x) := by have := HTV.out; rwa [hkn, List.take_of_length_le (Nat.le_refl _), HV.out] at this
      have hTl1 : Hid (1 ≤ T.length) := by have := HTL.out; show _ ≤ _; omega
      have d1 : ¬ (k : Int) < (D.length : Int) := by omega
      clear hkn
      go_wp2
      go_loop [3] (fun sv => ∃ t : ByteArray, sv = .string t ∧ 1 ≤ t.size ∧ Dig (bytesOf t) ∧ dval (bytesOf t) = x) (fun sv => sizeOf' sv)
      case atStart => exact ⟨strOfNums T, rfl, by rw [strOfNums_size]; exact hTl1.out, by rw [bytes_strOf HT.out]; exact HT.out, by rw [bytes_strOf HT.out]; exact HX.out⟩
      case round =>
        obtain ⟨t, rfl, ht1, htd, htv⟩ := hrel
        have HTD := hide htd
        have HTv := hide htv
        clear htd htv
        by_cases h1t : 1 < t.size
        · have hp : 0 < t.size := by omega
          have hgd := bytesOf_getD t 0 hp
          have h1i : (1 : Int) < (t.size : Int) := by omega
          by_cases hz : ((t[0]'hp).toNat : Int) = 48
          · have hzb : (((t[0]'hp).toNat : Int) == 48) = true := beq_iff_eq.2 hz
            have hes : (t.extract 1 t.size).size = t.size - 1 := by rw [← bytesOf_length, bytes_tail, List.length_drop, bytesOf_length]
            have R : Hid (1 ≤ (t.extract 1 t.size).size ∧ Dig (bytesOf (t.extract 1 t.size)) ∧ dval (bytesOf (t.extract 1 t.size)) = x) :=
              ⟨by omega, by rw [bytes_tail]; exact dig_drop HTD.out 1, by rw [bytes_tail]; exact tail_val HTv.out (by rw [hgd, hz])⟩
            have HES := hide hes
            clear hes hz hgd
            go_wp2
            go_round
            case rel => exact ⟨_, rfl, R.out⟩
            case measure => simp only [sizeOf', HES.out]; omega
          · have hzb : (((t[0]'hp).toNat : Int) == 48) = false := beq_eq_false_iff_ne.2 hz
            have HF := hide (end_dec HTD.out HTv.out (by rw [bytesOf_length]; omega) (.inr (by rw [hgd]; exact hz)))
            clear hz hgd
            go_wp2
            go_ret
            exact ⟨bytesOf t, by rw [strOf_bytes]; rfl, HF.out, hb0⟩
        · have h1i : ¬ (1 : Int) < (t.size : Int) := by omega
          have HF := hide (end_dec HTD.out HTv.out (by rw [bytesOf_length]; omega) (.inl (by rw [bytesOf_length]; omega)))
          go_wp2
          go_ret
          exact ⟨bytesOf t, by rw [strOf_bytes]; rfl, HF.out, hb0⟩

set_option maxHeartbeats 400000 in
theorem rtext_zero (w : World) (ao : Option Addr) (cap : Nat) :
    Calls Try.prog 38 #[.agg #[.bool false, .slice ao 0 cap]] w fun e w' => ∃ ds, e = .returned (.string (strOfNums ds)) ∧ IsDec ds 0 ∧ Below w.heap.size w w' := by
  go_enter Try.func38, Try.ntmps38
  go_wp2
  go_ret
  exact ⟨[48], rfl, ⟨dig_cons.2 ⟨by omega, dig_nil⟩, by simp [dval], .inl ⟨rfl, rfl⟩⟩, (Below.refl _ _).alloc (Nat.le_refl _) _⟩

set_option maxHeartbeats 400000 in
theorem rtext_any (w : World) (ao : Option Addr) (n cap : Nat) (xs : List Int) (hx : Lm.Sl w (.slice ao n cap) xs) (hl : xs.length ≤ 30000) :
    Calls Try.prog 21 #[.slice ao n cap] w fun e w' => ∃ ds, e = .returned (.string (strOfNums ds)) ∧ IsDec ds (Lm.val xs) ∧ Below w.heap.size w w' := by
  go_enter Try.func21, Try.ntmps21
  go_wp2_with fail
  refine (fromLimbs_any w ao n cap xs hx (by omega)).mono ?_
  rintro e w1 ⟨p1, q1, D, rfl, hg, hd, hb1⟩
  have kt : Hid (Calls Try.prog 38 #[.agg #[.bool false, .slice p1 D.length q1]] w1 fun e w' => ∃ ds, e = .returned (.string (strOfNums ds)) ∧ IsDec ds (Lm.val xs) ∧ Below w1.heap.size w1 w') := by
    by_cases h0 : 0 < D.length
    · exact rtext_pos w1 p1 q1 D _ hg (by omega) h0
    · have e0 : D = [] := List.eq_nil_of_length_eq_zero (by omega)
      have ev : Lm.val xs = 0 := by rw [← hg.val, e0]; rfl
      rw [e0, ev]
      exact rtext_zero w1 p1 q1
  go_wp2_with fail
  refine (kt.out).mono ?_
  rintro e w2 ⟨ds, rfl, hds, hb2⟩
  have HB := hb1.trans (hb2.mono hb1.size)
  clear hb1 hb2 hg kt
  go_wp2
  go_ret
  exact ⟨ds, rfl, hds, HB⟩

end Dm
end Go.Proofs.Ytfokkkcegkbomab
