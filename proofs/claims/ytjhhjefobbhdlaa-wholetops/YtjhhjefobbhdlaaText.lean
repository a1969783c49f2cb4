/-
  The contract of Text.
-/
import Derived.Test.YtjhhjefobbhdlaaDivM
import Derived.Test.YtjhhjefobbhdlaaDec
import Derived.Laws.BytesArg
namespace Go.Proofs.Ytjhhjefobbhdlaa
namespace Lm
open Go.RowKit

theorem info8 : (Try.prog.info? 5).map (fun i => (i.zero, i.size, i.bytes)) = some (some (.int .u8 0), 1, 1) := by kernel_rfl

theorem bytes_of_made {w : World} {B g n : Nat} (h : w.ownsRow B 5 1 (.slice (some ⟨g, 0, none⟩) n n) n (madeCells #[Value.int .u8 0] n).toList) :
    B ≤ g ∧ ∃ cur, w.heap[g]? = some (.cells cur 5 (0, 0)) ∧ cur.size = n ∧ At cur .u8 0 (List.replicate n 0) := by
  rcases h.2 with ⟨h', _⟩ | ⟨g', cap', cur, h', hb, hg, _, _, hs, htake⟩
  · simp at h'
  · simp only [Value.slice.injEq, Option.some.injEq, Addr.mk.injEq, and_true, true_and] at h'
    obtain ⟨rfl, rfl⟩ := h'
    refine ⟨hb, cur, hg, by omega, fun i hi => ?_⟩
    simp at hi
    have e : (cur.toList.take (n * 1))[i]? = ((madeCells #[Value.int .u8 0] n).toList)[i]? := by rw [htake]
    rw [List.getElem?_take, if_pos (by omega)] at e
    rw [Nat.zero_add, ← Array.getElem?_toList, e, Array.getElem?_toList]
    have h0 : i < (Array.range n).size := by simpa using hi
    simp [madeCells, hi, List.getD_eq_getElem?_getD, Nat.mod_one]

set_option maxRecDepth 20000 in
set_option maxHeartbeats 400000 in
theorem text_zero (w : World) (ao : Option Addr) (n cap : Nat) (zs : List Int) (h : Sl w (.slice ao n cap) zs) (hm : zs.length ≤ 1000000) (h0 : tl zs = 0) :
    Calls Try.prog 67 #[.slice ao n cap] w fun e w' => ∃ ds, e = .returned (.string (strOfNums ds)) ∧ IsDec ds (val zs) ∧ Below w.heap.size w w' := by
  have HV := hide (tl_zero h0)
  go_enter Try.func67, Try.ntmps67
  go_wp2_with fail
  refine (trim_any _ _ _ _ _ h hm).mono ?_
  rintro e w1 ⟨v, rfl, ho, hb⟩
  obtain ⟨ao', cap', rfl, o1, o2, o3, o4⟩ := ho
  have hl : (zs.take (tl zs)).length = 0 := by simp [h0]
  rw [hl]
  clear h0 hl o4
  go_wp2
  go_ret
  refine ⟨[48], rfl, ?_, hb⟩
  rw [HV.out]
  exact ⟨dig_cons.2 ⟨by omega, dig_nil⟩, by simp [dval], .inl ⟨rfl, rfl⟩⟩

set_option maxRecDepth 20000 in
set_option maxHeartbeats 2000000 in
theorem text_pos (w : World) (ao : Option Addr) (n cap : Nat) (zs : List Int) (h : Sl w (.slice ao n cap) zs) (hm : zs.length ≤ 1000000) (h0 : 0 < tl zs) :
    Calls Try.prog 67 #[.slice ao n cap] w fun e w' => ∃ ds, e = .returned (.string (strOfNums ds)) ∧ IsDec ds (val zs) ∧ Below w.heap.size w w' := by
  have t1 := tl_le zs
  have hlz := h.parts.2.2.2
  have hvp : Hid (0 < val zs) := val_pos_tl hlz h0
  have hvl : Hid (val zs < pw (tl zs)) := by
    show _ < _
    have := (val_bounds (limb_take hlz (tl zs))).2
    rw [val_take_tl] at this
    simpa [Nat.min_eq_left t1] using this
  obtain ⟨i0, hi, hz0, hz1, hz2⟩ := info_parts info8
  go_enter Try.func67, Try.ntmps67
  go_wp2_with fail
  refine (trim_any _ _ _ _ _ h hm).mono ?_
  rintro e w1 ⟨v, rfl, ho, hb⟩
  have HX := hide (canon_trim hlz)
  have VX := hide (val_take_tl zs)
  obtain ⟨ao', cap', rfl, o1, o2, o3, o4⟩ := ho
  have hl : (zs.take (tl zs)).length = tl zs := by simp; omega
  rcases o4 with o4 | ⟨g, off, cur, rfl, hg, hh, hs, hat⟩
  · omega
  rw [hl]
  have hgs := lt_of_heap hh
  generalize zs.take (tl zs) = X at *
  have hne : (((tl zs : Nat) : Int) == 0) = false := by simp; omega
  go_wp2_with (refine wpList_make_full _ rfl (.tmp 15) (.tmp 15) 94 rfl w1.heap.size 5 i0 (.int .u8 0) 1 Try.underlying94 hi hz0 hz1 .i64 .i64 _ _ (10 * tl zs + 9) rfl rfl (by omega) (by omega) (by rw [hz2]; omega) (by unfold maxLen; omega) (Nat.le_refl _) ?hK)
  case hK =>
    intro w2 hown hgrow
    obtain ⟨_, cur2, hh2, hcs2, hat2⟩ := bytes_of_made hown
    have hb1 : Below w1.heap.size w1 w2 := (Below.refl w1.heap.size w1).grown hgrow (Nat.le_refl _) (by simp)
    have hh' : w2.heap[g]? = some (.cells cur 51 (0, 0)) := by rw [hb1.block g hgs]; exact hh
    have hb2 : Below w.heap.size w w2 := hb.trans (hb1.mono hb.size)
    clear hown hgrow
    go_wp2
    obtain ⟨N, hN⟩ : ∃ N, N = 10 * tl zs + 9 := ⟨_, rfl⟩
    have hN1 : 10 * tl zs + 9 ≤ N := by omega
    have hN2 : N ≤ 10 * tl zs + 9 := by omega
    have HN := hide hN
    rw [← hN] at hcs2 hat2
    have hatX := hide hat
    replace hh2 := hide hh2
    clear hN hh hat hb1
    go_loopw [3, 5] (fun rest at_ wr => ∃ (Z T : List Int) (m : Nat) (cA cB : Array Value), rest = .slice (some ⟨g, off, none⟩) Z.length cap' ∧ Z.length ≤ tl zs ∧ Canon Z ∧ at_ = .int .i64 m ∧ m + T.length = N ∧ Dig T ∧ dval T + p10 T.length * val Z = val zs ∧ wr.heap[g]? = some (.cells cA 51 (0, 0)) ∧ At cA .u32 off Z ∧ wr.heap[w1.heap.size]? = some (.cells cB 5 (0, 0)) ∧ At cB .u8 0 ((List.replicate N 0).take m ++ T) ∧ Below w.heap.size w wr) (fun _ i _ => (intOf i).toNat)
    case atStart =>
      have eT : (List.replicate N (0 : Int)).take N ++ [] = List.replicate N 0 := by rw [List.append_nil, List.take_of_length_le (by simp)]
      refine ⟨X, [], N, cur, cur2, by rw [hl], by omega, HX.out, ?_, rfl, dig_nil, by simp [dval, p10, VX.out], hh', hatX.out, hh2.out, by rw [eT]; exact hat2, hb2⟩
      rw [HN.out]
      congr 1
    case round =>
      obtain ⟨Z, T, m, cA, cB, rfl, hZl, hZc, rfl, hmT, hT, hv, hA, hAt, hB, hBt, hbel⟩ := hrel
      have HZC := hide hZc
      have HMT := hide hmT
      have HT := hide hT
      have HV := hide hv
      have HA := hide hA
      have HAT := hide hAt
      have HB := hide hB
      have HBT := hide hBt
      clear hZc hmT hT hv hA hAt hB hBt
      by_cases hZ : 0 < Z.length
      · have hZ1 : 1 ≤ val Z := val_pos_tl HZC.out.1 (by rw [HZC.out.2]; exact hZ)
        have hroom := dec_room HT.out HV.out hZ1 hvl.out
        have hm9 : 9 ≤ m := by have := HMT.out; omega
        clear hroom hZ1
        go_wp2_with fail
        refine (divideShort_any wr g off Z.length cap' cA Z 1000000000 (by omega) (by omega) HA.out HAT.out HZC.out.1 rfl (by omega)).mono ?_
        rintro e w3 ⟨qs, r, cA', rfl, r0, r1, hv3, hq, hql, hwr, hcs3, hat3⟩
        have hsl : Sl w3 (.slice (some ⟨g, off, none⟩) Z.length cap') qs := ⟨_, cap', by rw [hql], by omega, o2, hq, .inr ⟨g, off, rfl, fun i hi => hat3.cell hwr.here i hi⟩⟩
        have HQ := hide hq
        have HQL := hide hql
        have tq := tl_le qs
        rw [hql] at tq
        have hB3 : w3.heap[w1.heap.size]? = some (.cells cB 5 (0, 0)) := by rw [hwr.other _ (by omega)]; exact HB.out
        have HB3 := hide hB3
        have HA3 := hide hwr.here
        have HAT3 := hide hat3
        have hb3 : Below w.heap.size w w3 := hbel.trans (hwr.below hg)
        have HV3 : Hid (dval T + p10 T.length * (r + p10 9 * val qs) = val zs) := by
          show _ = _
          rw [← HV.out, hv3, show p10 9 = 1000000000 from by decide, Int.mul_comm (val qs), Int.add_comm r]
        clear hv3 hq hql hwr hcs3 hat3 hB3
        go_wp2_with fail
        refine (cut_any _ _ _ _ _ hsl).mono ?_
        rintro e w4 ⟨rfl, rfl⟩
        go_wp2
        go_loopw [5, 6, 26] (fun at_ v c wi => ∃ (j m' : Nat) (u : Int) (T' : List Int) (cB' : Array Value), j ≤ 9 ∧ at_ = .int .i64 m' ∧ v = .int .u32 u ∧ c = .int .i64 j ∧ m' + j = m ∧ m' + T'.length = N ∧ Dig T' ∧ 0 ≤ u ∧ u < p10 (9 - j) ∧ dval T' + p10 T'.length * (u + p10 (9 - j) * val qs) = val zs ∧ Wr w4 wi w1.heap.size cB' 5 ∧ At cB' .u8 0 ((List.replicate N 0).take m' ++ T')) (fun _ _ c _ => 9 - (intOf c).toNat)
        case atStart => exact ⟨0, m, r, T, cB, by omega, rfl, rfl, rfl, rfl, HMT.out, HT.out, r0, by rw [show p10 (9 - 0) = 1000000000 from by decide]; exact r1, HV3.out, Wr.refl HB3.out, HBT.out⟩
        case round =>
          obtain ⟨j, m', u, T', cB', hj, rfl, rfl, rfl, hmj, hmT', hT', hu0, hu1, hv', hwr', hat'⟩ := hrel
          have HMJ := hide hmj
          have HMT' := hide hmT'
          have HT' := hide hT'
          have HU1 := hide hu1
          have HV' := hide hv'
          have HW' := hide hwr'
          have HA' := hide hat'
          have hm'1 : 9 ≤ m' + j := by omega
          have hm'2 : m' ≤ N := by omega
          clear hmj hmT' hT' hu1 hv' hwr' hat'
          by_cases hj9 : j < 9
          · obtain ⟨i, hi'⟩ : ∃ i, 9 - j = i + 1 := ⟨8 - j, by omega⟩
            have hi2 : 9 - (j + 1) = i := by omega
            have hub : u < 1000000000 := by
              have := HU1.out
              have h9 := p10_mono (m := 9 - j) (n := 9) (by omega)
              rw [show p10 9 = 1000000000 from by decide] at h9
              omega
            have HVn := hide (dec_step (T := T') (v := u) (R := val qs) (x := val zs) (j := i) (by have h9 := HV'.out; rw [hi'] at h9; exact h9))
            have HUn := hide (dec_bound (v := u) (j := i) hu0 (by have h9 := HU1.out; rw [hi'] at h9; exact h9))
            cases m' with
            | zero => omega
            | succ m' =>
              have hlen : ((List.replicate N (0 : Int)).take (m' + 1) ++ T').length = N := by have := HMT'.out; rw [List.length_append, List.length_take, List.length_replicate]; omega
              have hcell := HA'.out.cell HW'.out.here m' (by rw [hlen]; omega)
              rw [Nat.zero_add] at hcell
              generalize ((List.replicate N (0 : Int)).take (m' + 1) ++ T').getD m' 0 = old at hcell
              have hfree := HW'.out.free m'
              have HAn := hide (HA'.out.set m' (48 + u % 10))
              have HWn := hide (HW'.out.set m' (.int .u8 (48 + u % 10)))
              have HI := hide hi2
              clear hlen hi' hi2
              go_wp2
              go_roundw
              case rel => exact ⟨j + 1, m', u / 10, (48 + u % 10) :: T', _, by omega, rfl, rfl, by go_num, by have := HMJ.out; omega, by have := HMT'.out; simp; omega, dig_cons.2 ⟨by omega, HT'.out⟩, HUn.out.1, by rw [HI.out]; exact HUn.out.2, by rw [HI.out]; exact HVn.out, HWn.out, by rw [← set_cons _ _ _ _ (by rw [List.length_replicate]; omega)]; simpa using HAn.out⟩
              case measure => simp [intOf]; omega
          · have hj' : j = 9 := by omega
            subst hj'
            have hu : u = 0 := by have := HU1.out; rw [show p10 (9 - 9) = 1 from by decide] at this; omega
            have HVf : Hid (dval T' + p10 T'.length * val qs = val zs) := by
              show _ = _
              have := HV'.out
              rw [hu, show p10 (9 - 9) = 1 from by decide, Int.zero_add, Int.one_mul] at this
              exact this
            have hAw : Hid (wr.heap[g]? = some (.cells cA' 51 (0, 0))) := by
              show _ = _
              rw [HW'.out.other g (by omega)]; exact HA3.out
            go_wp2
            go_roundw
            case rel => exact ⟨qs.take (tl qs), T', m', cA', cB', by rw [List.length_take, HQL.out, Nat.min_eq_left tq], by rw [List.length_take, HQL.out]; omega, canon_trim HQ.out, rfl, HMT'.out, HT'.out, by rw [val_take_tl]; exact HVf.out, hAw.out, fun i hi => by rw [HAT3.out i (by rw [List.length_take] at hi; omega), getD_take _ _ _ (by rw [List.length_take] at hi; omega)], HW'.out.here, HA'.out, hb3.trans (HW'.out.below (by have := hb.size; omega))⟩
            case measure => simp [intOf]; have := HMJ.out; omega
      · have hZ0 : Z = [] := List.eq_nil_of_length_eq_zero (by omega)
        subst hZ0
        have HV0 : Hid (dval T = val zs) := by
          show _ = _
          have := HV.out
          rw [val, Int.mul_zero, Int.add_zero] at this
          exact this
        go_wp2
        go_loop [5] (fun at_ => ∃ j : Nat, j < T.length ∧ at_ = .int .i64 ((m + j : Nat) : Int) ∧ dval (T.drop j) = val zs) (fun at_ => N - (intOf at_).toNat)
        case atStart =>
          refine ⟨0, ?_, rfl, by simpa using HV0.out⟩
          apply Classical.byContradiction
          intro hn
          have h2 : T = [] := List.eq_nil_of_length_eq_zero (by omega)
          have := HV0.out
          rw [h2, dval] at this
          have := hvp.out
          omega
        case round =>
          obtain ⟨j, hj, rfl, hdv⟩ := hrel
          have HD := hide hdv
          have hlen : ((List.replicate N (0 : Int)).take m ++ T).length = N := by have := HMT.out; rw [List.length_append, List.length_take, List.length_replicate]; omega
          have hmN : m + T.length ≤ N := by have := HMT.out; omega
          have hmN2 : N ≤ m + T.length := by have := HMT.out; omega
          have hgt : ((List.replicate N (0 : Int)).take m ++ T).getD (m + j) 0 = T.getD j 0 := by
            have hml : ((List.replicate N (0 : Int)).take m).length = m := by rw [List.length_take, List.length_replicate]; omega
            rw [List.getD_eq_getElem?_getD, List.getElem?_append_right (by omega), hml, Nat.add_sub_cancel_left, List.getD_eq_getElem?_getD]
          have hcell := HBT.out.cell HB.out (m + j) (by rw [hlen]; omega)
          rw [Nat.zero_add, hgt] at hcell
          have hdg := dig_getD HT.out hj
          have Hdr := hide (drop_getD T j hj)
          clear hgt hlen hdv
          by_cases h48 : T.getD j 0 = 48
          · rw [h48] at hcell
            have HDn : Hid (dval (T.drop (j + 1)) = val zs) := by
              show _ = _
              have := HD.out
              rw [Hdr.out, h48, dval_cons48] at this
              exact this
            have hjn : j + 1 < T.length := by
              apply Classical.byContradiction
              intro hn
              have := HDn.out
              rw [List.drop_of_length_le (by omega), dval] at this
              have := hvp.out
              omega
            clear h48 hdg
            go_wp2
            go_round
            case rel => exact ⟨j + 1, hjn, by go_num, HDn.out⟩
            case measure => simp [intOf]; omega
          · have hb48 : (T.getD j 0 == 48) = false := by simpa using h48
            have hdec : Hid (IsDec (T.drop j) (val zs)) := ⟨dig_drop HT.out j, HD.out, .inr ⟨_, _, Hdr.out, h48⟩⟩
            have hcv := run_convert_bytes_arg (P := Try.prog) wr 94 5 Try.underlying94 Try.underlying5 w1.heap.size (m + j) (10 * tl zs + 9 - (m + j)) (10 * tl zs + 9 - (m + j)) (T.drop j) (by rw [List.length_drop]; omega) (fun i hi => by
              have hlen : ((List.replicate N (0 : Int)).take m ++ T).length = N := by have := HMT.out; rw [List.length_append, List.length_take, List.length_replicate]; omega
              have h1 := HBT.out.cell HB.out (m + j + i) (by rw [hlen]; omega)
              have hml : ((List.replicate N (0 : Int)).take m).length = m := by rw [List.length_take, List.length_replicate]; omega
              rw [Nat.zero_add] at h1
              rw [h1, List.getD_eq_getElem?_getD, List.getElem?_append_right (by omega), hml, List.getD_eq_getElem?_getD, List.getElem?_drop]
              congr 3
              congr 1
              omega) 9 Try.underlying9
            generalize T.getD j 0 = c at hcell hb48
            clear h48 hdg
            go_wp2
            go_ret
            exact ⟨_, rfl, hdec.out, hbel⟩

theorem text_any (w : World) (ao : Option Addr) (n cap : Nat) (zs : List Int) (h : Sl w (.slice ao n cap) zs) (hm : zs.length ≤ 1000000) :
    Calls Try.prog 67 #[.slice ao n cap] w fun e w' => ∃ ds, e = .returned (.string (strOfNums ds)) ∧ IsDec ds (val zs) ∧ Below w.heap.size w w' := by
  by_cases h0 : tl zs = 0
  · exact text_zero w ao n cap zs h hm h0
  · exact text_pos w ao n cap zs h hm (by omega)

end Lm
end Go.Proofs.Ytjhhjefobbhdlaa
