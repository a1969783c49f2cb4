/-
  The contract of Add.
-/
import Derived.Test.YtjhhjefobbhdlaaSmall
namespace Go.Proofs.Ytjhhjefobbhdlaa
namespace Lm
open Go.RowKit

theorem block_of_made {w : World} {B g n : Nat} (h : w.ownsRow B 51 1 (.slice (some ⟨g, 0, none⟩) n n) n (madeCells #[Value.int .u32 0] n).toList) :
    B ≤ g ∧ ∃ cur, w.heap[g]? = some (.cells cur 51 (0, 0)) ∧ cur.size = n ∧ At cur .u32 0 (List.replicate n 0) := by
  rcases h.2 with ⟨h', _⟩ | ⟨g', cap', cur, h', hb, hg, _, _, hs, htake⟩
  · simp at h'
  · simp only [Value.slice.injEq, Option.some.injEq, Addr.mk.injEq, and_true, true_and] at h'
    obtain ⟨rfl, rfl⟩ := h'
    refine ⟨hb, cur, hg, by omega, fun i hi => ?_⟩
    simp at hi
    have e : (cur.toList.take (n * 1))[i]? = ((madeCells #[Value.int .u32 0] n).toList)[i]? := by rw [htake]
    rw [List.getElem?_take, if_pos (by omega)] at e
    rw [Nat.zero_add, ← Array.getElem?_toList, e, Array.getElem?_toList]
    have h0 : i < (Array.range n).size := by simpa using hi
    simp [madeCells, hi, List.getD_eq_getElem?_getD, Nat.mod_one]

theorem add_step {a b c s : Int} (ha : 0 ≤ a ∧ a < 4294967296) (hb : 0 ≤ b ∧ b < 4294967296) (hc : 0 ≤ c ∧ c ≤ 1) (hs : s = a + b + c) : 0 ≤ s ∧ s < 18446744073709551616 ∧ 0 ≤ s / 4294967296 ∧ s / 4294967296 ≤ 1 ∧ 0 ≤ s % 4294967296 ∧ s % 4294967296 < 4294967296 := by omega

theorem add_val {X Y ps : List Int} {k : Nat} {a b c s : Int} (hk : ps.length = k) (ha : X.getD k 0 = a) (hb : Y.getD k 0 = b) (hs : s = a + b + c) (h : val ps + pw k * c = vf X k + vf Y k) :
    val (ps ++ [s % 4294967296]) + pw (k + 1) * (s / 4294967296) = vf X (k + 1) + vf Y (k + 1) := by
  rw [val_snoc, vf, vf, ha, hb, hk, pw]
  have e : s = s % 4294967296 + 4294967296 * (s / 4294967296) := by omega
  have e2 : pw k * (s % 4294967296) + 4294967296 * pw k * (s / 4294967296) = pw k * s := by
    rw [Int.mul_comm 4294967296 (pw k), Int.mul_assoc, ← Int.mul_add, ← e]
  rw [Int.add_assoc, e2, hs, Int.mul_add, Int.mul_add]
  omega

set_option maxRecDepth 20000 in
set_option maxHeartbeats 1000000 in
theorem add_any (w : World) (a1 a2 : Option Addr) (n1 n2 c1 c2 : Nat) (xs ys : List Int) (hx : Sl w (.slice a1 n1 c1) xs) (hy : Sl w (.slice a2 n2 c2) ys) (hm1 : xs.length ≤ 1000000) (hm2 : ys.length ≤ 1000000) :
    Calls Try.prog 65 #[.slice a1 n1 c1, .slice a2 n2 c2] w fun e w' => ∃ v, e = .returned v ∧ Is w.heap.size w' v (val xs + val ys) ∧ Below w.heap.size w w' := by
  obtain ⟨rfl, h1, h2, h3⟩ := hx.parts
  obtain ⟨rfl, g1, g2, g3⟩ := hy.parts
  have t1 := tl_le xs
  have t2 := tl_le ys
  have sx := hx.cut
  have sy := hy.cut
  have HX := hide (show (xs.take (tl xs)).length = tl xs by simp; omega)
  have HY := hide (show (ys.take (tl ys)).length = tl ys by simp; omega)
  have VX := hide (val_take_tl xs)
  have VY := hide (val_take_tl ys)
  have LX := hide (limb_take h3 (tl xs))
  have LY := hide (limb_take g3 (tl ys))
  obtain ⟨i0, hi, hz0, hz1, hz2⟩ := info_parts info32
  generalize xs.take (tl xs) = X at sx HX VX LX
  generalize ys.take (tl ys) = Y at sy HY VY LY
  clear h3 g3
  rcases Nat.lt_or_ge (tl xs) (tl ys) with hle | hle
  · go_enter Try.func65, Try.ntmps65
    go_wp2_with fail
    refine (cut_any w a1 _ c1 xs hx).mono ?_
    rintro e w' ⟨rfl, rfl⟩
    go_wp2_with fail
    refine (cut_any _ a2 _ c2 ys hy).mono ?_
    rintro e w' ⟨rfl, rfl⟩
    go_wp2_with (refine wpList_make_full _ rfl (.tmp 20) (.tmp 20) 22 rfl w'.heap.size 51 i0 (.int .u32 0) 1 Try.underlying22 hi hz0 hz1 .i64 .i64 _ _ (tl ys + 1) rfl rfl (by omega) (by omega) (by rw [hz2]; omega) (by unfold maxLen; omega) (Nat.le_refl _) ?hK)
    case hK =>
      intro w1 hown hgrow
      obtain ⟨_, cur, hh, hcs, hat⟩ := block_of_made hown
      have hb1 : Below w'.heap.size w' w1 := (Below.refl w'.heap.size w').grown hgrow (Nat.le_refl _) (by simp)
      have HH := hide hh
      have HS := hide hcs
      have HA := hide hat
      clear hown hgrow hh hcs hat
      go_wp2
      go_loopw [7, 23] (fun c i wr => ∃ (k : Nat) (r : Int) (ps : List Int) (cur' : Array Value), k ≤ tl ys ∧ c = .int .u64 r ∧ i = .int .i64 k ∧ (0 ≤ r ∧ r ≤ 1) ∧ ps.length = k ∧ Limb ps ∧ val ps + pw k * r = vf X k + vf Y k ∧ Wr w1 wr w'.heap.size cur' 51 ∧ cur'.size = tl ys + 1 ∧ At cur' .u32 0 (ps ++ (List.replicate (tl ys + 1) 0).drop k)) (fun _ i _ => tl ys - (intOf i).toNat)
      case atStart => exact ⟨0, 0, [], cur, Nat.zero_le _, rfl, rfl, by omega, rfl, limb_nil, by simp [val, vf, pw], Wr.refl HH.out, HS.out, by simpa using HA.out⟩
      case round =>
        obtain ⟨k, r, ps, cur', hk, rfl, rfl, hr, hpl, hpl2, hval, hwr, hcs, hat⟩ := hrel
        have HPL := hide hpl
        have HLP := hide hpl2
        have HV := hide hval
        have HW := hide hwr
        have HC := hide hcs
        have HT := hide hat
        clear hpl hpl2 hval hwr hcs hat
        by_cases hlt : k < tl ys
        · have sx' := HW.out.sl (Nat.le_refl _) hb1 rfl sx
          have sy' := HW.out.sl (Nat.le_refl _) hb1 rfl sy
          have hlen : (ps ++ (List.replicate (tl ys + 1) (0 : Int)).drop k).length = tl ys + 1 := by have := HPL.out; simp; omega
          have hcell := HT.out.cell HW.out.here k (by rw [hlen]; omega)
          rw [Nat.zero_add] at hcell
          have hfree := HW.out.free k
          have bx := limb_getD LX.out k
          have by' := limb_getD LY.out k
          obtain ⟨a, ha⟩ : ∃ a, a = X.getD k 0 := ⟨_, rfl⟩
          obtain ⟨b, hb⟩ : ∃ b, b = Y.getD k 0 := ⟨_, rfl⟩
          have kx : Hid (Calls Try.prog 70 #[.slice a1 (tl xs) c1, .int .i64 k] wr fun e w' => e = .returned (.int .u32 a) ∧ w' = wr) := by rw [ha]; exact limb_nat _ _ X sx' k
          have ky : Hid (Calls Try.prog 70 #[.slice a2 (tl ys) c2, .int .i64 k] wr fun e w' => e = .returned (.int .u32 b) ∧ w' = wr) := by rw [hb]; exact limb_nat _ _ Y sy' k
          rw [← ha] at bx
          rw [← hb] at by'
          have hst := add_step bx by' hr rfl
          have HV' := hide (add_val HPL.out ha.symm hb.symm rfl HV.out)
          have HT' := hide (HT.out.set k ((a + b + r) % 4294967296))
          have HW' := hide (HW.out.set k (.int .u32 ((a + b + r) % 4294967296)))
          have HL' := hide hlen
          generalize hold : (ps ++ (List.replicate (tl ys + 1) (0 : Int)).drop k).getD k 0 = old at hcell
          clear hlen hold ha hb sx' sy'
          go_wp2_with fail
          refine (kx.out).mono ?_
          rintro e w2 ⟨rfl, rfl⟩
          go_wp2_with fail
          refine (ky.out).mono ?_
          rintro e w2 ⟨rfl, rfl⟩
          go_wp2
          go_roundw
          case rel => exact ⟨k + 1, _, ps ++ [(a + b + r) % 4294967296], _, by omega, rfl, by go_num, by omega, by have := HPL.out; simp; omega, limb_append.2 ⟨HLP.out, limb_cons.2 ⟨by omega, limb_nil⟩⟩, HV'.out, HW'.out, by simpa using HC.out, by rw [← set_snoc ps _ k _ HPL.out (by simp; omega)]; simpa using HT'.out⟩
          case measure => simp [intOf]; omega
        · have hkM : k = tl ys := by omega
          subst hkM
          have hlen : (ps ++ (List.replicate (tl ys + 1) (0 : Int)).drop (tl ys)).length = tl ys + 1 := by have := HPL.out; simp; omega
          have hcell := HT.out.cell HW.out.here (tl ys) (by rw [hlen]; omega)
          rw [Nat.zero_add] at hcell
          have hfree := HW.out.free (tl ys)
          generalize hold : (ps ++ (List.replicate (tl ys + 1) (0 : Int)).drop (tl ys)).getD (tl ys) 0 = old at hcell
          have hat2 := HT.out.set (tl ys) r
          rw [set_snoc ps _ (tl ys) r HPL.out (by simp), List.drop_of_length_le (by simp), List.append_nil, Nat.zero_add] at hat2
          have hw2 := HW.out.set (tl ys) (.int .u32 r)
          have hlr : Limb (ps ++ [r]) := limb_append.2 ⟨HLP.out, limb_cons.2 ⟨by omega, limb_nil⟩⟩
          have how : Ow w'.heap.size (wr.setCell ⟨w'.heap.size, tl ys, none⟩ (.int .u32 r)) (.slice (some ⟨w'.heap.size, 0, none⟩) (tl ys + 1) (tl ys + 1)) (ps ++ [r]) := by
            have := HPL.out
            exact ⟨_, tl ys + 1, by simp [this], by simp; omega, by unfold maxLen; omega, hlr, .inr ⟨_, 0, _, rfl, Nat.le_refl _, hw2.here, by rw [Array.size_setIfInBounds, HC.out]; omega, hat2⟩⟩
          have hbel : Below w'.heap.size w' (wr.setCell ⟨w'.heap.size, tl ys, none⟩ (.int .u32 r)) := hb1.trans (hw2.below (Nat.le_refl _))
          have his := how.is_cut (x := val xs + val ys) (by
            have hv := HV.out
            rw [vf_all X _ (by have := HX.out; omega), vf_all Y _ (by have := HY.out; omega), VX.out, VY.out] at hv
            rw [val_snoc, HPL.out]; exact hv)
          clear hat2 hw2 hlr hlen hold
          go_wp2_with fail
          refine (cut_any _ _ _ _ _ how.sl).mono ?_
          rintro e w2 ⟨rfl, rfl⟩
          go_wp2
          go_ret
          exact ⟨_, rfl, his, hbel⟩
  · go_enter Try.func65, Try.ntmps65
    go_wp2_with fail
    refine (cut_any w a1 _ c1 xs hx).mono ?_
    rintro e w' ⟨rfl, rfl⟩
    go_wp2_with fail
    refine (cut_any _ a2 _ c2 ys hy).mono ?_
    rintro e w' ⟨rfl, rfl⟩
    go_wp2_with (refine wpList_make_full _ rfl (.tmp 20) (.tmp 20) 22 rfl w'.heap.size 51 i0 (.int .u32 0) 1 Try.underlying22 hi hz0 hz1 .i64 .i64 _ _ (tl xs + 1) rfl rfl (by omega) (by omega) (by rw [hz2]; omega) (by unfold maxLen; omega) (Nat.le_refl _) ?hK)
    case hK =>
      intro w1 hown hgrow
      obtain ⟨_, cur, hh, hcs, hat⟩ := block_of_made hown
      have hb1 : Below w'.heap.size w' w1 := (Below.refl w'.heap.size w').grown hgrow (Nat.le_refl _) (by simp)
      have HH := hide hh
      have HS := hide hcs
      have HA := hide hat
      clear hown hgrow hh hcs hat
      go_wp2
      go_loopw [7, 23] (fun c i wr => ∃ (k : Nat) (r : Int) (ps : List Int) (cur' : Array Value), k ≤ tl xs ∧ c = .int .u64 r ∧ i = .int .i64 k ∧ (0 ≤ r ∧ r ≤ 1) ∧ ps.length = k ∧ Limb ps ∧ val ps + pw k * r = vf X k + vf Y k ∧ Wr w1 wr w'.heap.size cur' 51 ∧ cur'.size = tl xs + 1 ∧ At cur' .u32 0 (ps ++ (List.replicate (tl xs + 1) 0).drop k)) (fun _ i _ => tl xs - (intOf i).toNat)
      case atStart => exact ⟨0, 0, [], cur, Nat.zero_le _, rfl, rfl, by omega, rfl, limb_nil, by simp [val, vf, pw], Wr.refl HH.out, HS.out, by simpa using HA.out⟩
      case round =>
        obtain ⟨k, r, ps, cur', hk, rfl, rfl, hr, hpl, hpl2, hval, hwr, hcs, hat⟩ := hrel
        have HPL := hide hpl
        have HLP := hide hpl2
        have HV := hide hval
        have HW := hide hwr
        have HC := hide hcs
        have HT := hide hat
        clear hpl hpl2 hval hwr hcs hat
        by_cases hlt : k < tl xs
        · have sx' := HW.out.sl (Nat.le_refl _) hb1 rfl sx
          have sy' := HW.out.sl (Nat.le_refl _) hb1 rfl sy
          have hlen : (ps ++ (List.replicate (tl xs + 1) (0 : Int)).drop k).length = tl xs + 1 := by have := HPL.out; simp; omega
          have hcell := HT.out.cell HW.out.here k (by rw [hlen]; omega)
          rw [Nat.zero_add] at hcell
          have hfree := HW.out.free k
          have bx := limb_getD LX.out k
          have by' := limb_getD LY.out k
          obtain ⟨a, ha⟩ : ∃ a, a = X.getD k 0 := ⟨_, rfl⟩
          obtain ⟨b, hb⟩ : ∃ b, b = Y.getD k 0 := ⟨_, rfl⟩
          have kx : Hid (Calls Try.prog 70 #[.slice a1 (tl xs) c1, .int .i64 k] wr fun e w' => e = .returned (.int .u32 a) ∧ w' = wr) := by rw [ha]; exact limb_nat _ _ X sx' k
          have ky : Hid (Calls Try.prog 70 #[.slice a2 (tl ys) c2, .int .i64 k] wr fun e w' => e = .returned (.int .u32 b) ∧ w' = wr) := by rw [hb]; exact limb_nat _ _ Y sy' k
          rw [← ha] at bx
          rw [← hb] at by'
          have hst := add_step bx by' hr rfl
          have HV' := hide (add_val HPL.out ha.symm hb.symm rfl HV.out)
          have HT' := hide (HT.out.set k ((a + b + r) % 4294967296))
          have HW' := hide (HW.out.set k (.int .u32 ((a + b + r) % 4294967296)))
          have HL' := hide hlen
          generalize hold : (ps ++ (List.replicate (tl xs + 1) (0 : Int)).drop k).getD k 0 = old at hcell
          clear hlen hold ha hb sx' sy'
          go_wp2_with fail
          refine (kx.out).mono ?_
          rintro e w2 ⟨rfl, rfl⟩
          go_wp2_with fail
          refine (ky.out).mono ?_
          rintro e w2 ⟨rfl, rfl⟩
          go_wp2
          go_roundw
          case rel => exact ⟨k + 1, _, ps ++ [(a + b + r) % 4294967296], _, by omega, rfl, by go_num, by omega, by have := HPL.out; simp; omega, limb_append.2 ⟨HLP.out, limb_cons.2 ⟨by omega, limb_nil⟩⟩, HV'.out, HW'.out, by simpa using HC.out, by rw [← set_snoc ps _ k _ HPL.out (by simp; omega)]; simpa using HT'.out⟩
          case measure => simp [intOf]; omega
        · have hkM : k = tl xs := by omega
          subst hkM
          have hlen : (ps ++ (List.replicate (tl xs + 1) (0 : Int)).drop (tl xs)).length = tl xs + 1 := by have := HPL.out; simp; omega
          have hcell := HT.out.cell HW.out.here (tl xs) (by rw [hlen]; omega)
          rw [Nat.zero_add] at hcell
          have hfree := HW.out.free (tl xs)
          generalize hold : (ps ++ (List.replicate (tl xs + 1) (0 : Int)).drop (tl xs)).getD (tl xs) 0 = old at hcell
          have hat2 := HT.out.set (tl xs) r
          rw [set_snoc ps _ (tl xs) r HPL.out (by simp), List.drop_of_length_le (by simp), List.append_nil, Nat.zero_add] at hat2
          have hw2 := HW.out.set (tl xs) (.int .u32 r)
          have hlr : Limb (ps ++ [r]) := limb_append.2 ⟨HLP.out, limb_cons.2 ⟨by omega, limb_nil⟩⟩
          have how : Ow w'.heap.size (wr.setCell ⟨w'.heap.size, tl xs, none⟩ (.int .u32 r)) (.slice (some ⟨w'.heap.size, 0, none⟩) (tl xs + 1) (tl xs + 1)) (ps ++ [r]) := by
            have := HPL.out
            exact ⟨_, tl xs + 1, by simp [this], by simp; omega, by unfold maxLen; omega, hlr, .inr ⟨_, 0, _, rfl, Nat.le_refl _, hw2.here, by rw [Array.size_setIfInBounds, HC.out]; omega, hat2⟩⟩
          have hbel : Below w'.heap.size w' (wr.setCell ⟨w'.heap.size, tl xs, none⟩ (.int .u32 r)) := hb1.trans (hw2.below (Nat.le_refl _))
          have his := how.is_cut (x := val xs + val ys) (by
            have hv := HV.out
            rw [vf_all X _ (by have := HX.out; omega), vf_all Y _ (by have := HY.out; omega), VX.out, VY.out] at hv
            rw [val_snoc, HPL.out]; exact hv)
          clear hat2 hw2 hlr hlen hold
          go_wp2_with fail
          refine (cut_any _ _ _ _ _ how.sl).mono ?_
          rintro e w2 ⟨rfl, rfl⟩
          go_wp2
          go_ret
          exact ⟨_, rfl, his, hbel⟩

end Lm
end Go.Proofs.Ytjhhjefobbhdlaa
