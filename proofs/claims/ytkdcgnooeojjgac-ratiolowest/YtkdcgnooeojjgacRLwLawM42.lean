/-
  The contract of divideLong. The contract of DivMod, for every divisor. Whole numbers: the contract of DivMod. Whole numbers: the contract of Text.
-/
import Derived.Test.YtkdcgnooeojjgacLongA
import Derived.Deep.QuietTactic
import Derived.BigQuiet
import Derived.Deep.RegionWith
import Derived.Test.YtkdcgnooeojjgacWD
import Derived.Test.YtkdcgnooeojjgacWB
namespace Go.Proofs.Ytkdcgnooeojjgac
namespace Lm
open Go.RowKit

set_option maxRecDepth 20000 in
set_option maxHeartbeats 2000000 in
theorem divideLong_any (w : World) (a1 a2 : Option Addr) (n1 n2 c1 c2 : Nat) (xs ys : List Int) (hx : Sl w (.slice a1 n1 c1) xs) (hy : Sl w (.slice a2 n2 c2) ys) (hm1 : xs.length ≤ 500000) (h2 : 2 ≤ ys.length) (hle : ys.length ≤ xs.length) (hcan : Canon ys) :
    Calls Try.prog 58 #[.slice a1 n1 c1, .slice a2 n2 c2] w fun e w' => ∃ v1 v2, e = .returned (.tuple #[v1, v2]) ∧ Is w.heap.size w' v1 (val xs / val ys) ∧ Is w.heap.size w' v2 (val xs % val ys) ∧ Sep v1 v2 ∧ Below w.heap.size w w' := by
  obtain ⟨rfl, x1, x2, x3⟩ := hx.parts
  obtain ⟨hyl, y1, y2, y3⟩ := hy.parts
  obtain ⟨n, hn⟩ : ∃ n, ys.length = n + 2 := ⟨ys.length - 2, by omega⟩
  have e2 : n2 = n + 2 := by omega
  subst e2
  obtain ⟨b, off, rfl, hc⟩ := hy.cells (by omega)
  have hcell := hc (n + 1) (by omega)
  have hlb := limb_getD y3 (n + 1)
  have hpos : 0 < ys.getD (n + 1) 0 := by
    have : ys.getD (n + 1) 0 ≠ 0 := fun h0 => by
      have := tl_le_of_zero (zs := ys) (n := n + 1) (by have := tl_le ys; omega) h0
      have := hcan.2
      omega
    omega
  have hbits := bitLen_bits (ys.getD (n + 1) 0).toNat (by omega)
  rw [Int.toNat_of_nonneg hlb.1] at hbits
  have hl32 : Lib.bitLen (ys.getD (n + 1) 0).toNat ≤ 32 := Lib.bitLen_le _ 32 (by omega) (by omega)
  have hl0 := isBits_pos hbits hpos
  obtain ⟨s, hs⟩ : ∃ s : Nat, s + Lib.bitLen (ys.getD (n + 1) 0).toNat = 32 := ⟨32 - Lib.bitLen (ys.getD (n + 1) 0).toNat, by omega⟩
  have NV := hide (norm_val (bits_top hcan hn hbits hpos) hl0 hs)
  have kl : Hid (∀ w : World, Calls Try.prog 66 #[.int .u32 (ys.getD (n + 1) 0)] w fun e w' => e = .returned (.int .i64 (s : Nat)) ∧ w' = w) := by
    intro w
    have h9 := lead_any (ys.getD (n + 1) 0) w hlb.1 hlb.2
    rwa [show (32 - ((Lib.bitLen (ys.getD (n + 1) 0).toNat : Nat) : Int)) = (s : Nat) by omega] at h9
  have hs31 : s ≤ 31 := by omega
  have YL := hide (show pw (n + 1) ≤ val ys by
    have h9 := canon_low hcan (by intro e; subst e; simp at h2)
    rwa [hn] at h9)
  have HN := hide hn
  have X3 := hide x3
  have hxn : n + 2 ≤ xs.length := by omega
  obtain ⟨m, hm2, hm3⟩ : ∃ m, m + n + 1 ≤ xs.length ∧ xs.length ≤ m + n + 1 := ⟨xs.length - (n + 1), by omega, by omega⟩
  generalize ys.getD (n + 1) 0 = top at hcell hlb hpos kl
  obtain ⟨i0, hi, hz0, hz1, hz2⟩ := info_parts info32
  clear hs hl0 hl32 hbits hc y3 hyl hcan h2 hle hn x3
  go_enter Try.func58, Try.ntmps58
  go_wp2_with fail
  refine (kl.out _).mono ?_
  rintro e w' ⟨rfl, rfl⟩
  go_wp2_with fail
  refine (moveUp_any _ _ _ _ xs hx s hs31 (by omega)).mono ?_
  rintro e w1 ⟨cur0, O, rfl, hO, hOl, hOv, hOh, hOs, hOa, hb1⟩
  have hy1 := hy.below hb1
  have O1 := hide hO
  have O2 := hide hOl
  have O3 := hide hOv
  have O4 := hide hOh
  have O5 := hide hOs
  have O6 := hide hOa
  clear hO hOl hOv hOh hOs hOa
  go_wp2_with fail
  refine (moveUp_any _ _ _ _ ys hy1 s hs31 (by have := HN.out; omega)).mono ?_
  rintro e w2 ⟨curY, Y1, rfl, hY, hYl, hYv, hYh, hYs, hYa, hb2⟩
  have Q1 := hide hY
  have Q2 := hide hYl
  have Q3 := hide hYv
  have Q4 := hide hYh
  have Q5 := hide hYs
  have Q6 := hide hYa
  clear hY hYl hYv hYh hYs hYa
  go_wp2_with (refine wpList_make_full _ rfl (.tmp 34) (.tmp 34) 22 rfl w2.heap.size 32 i0 (.int .u32 0) 1 Try.underlying22 hi hz0 hz1 .i64 .i64 _ _ m rfl rfl (by omega) (by omega) (by rw [hz2]; omega) (by unfold maxLen; omega) (Nat.le_refl _) ?hK)
  case hK =>
    intro w3 hown hgrow
    obtain ⟨_, d0, hh, hds, hat⟩ := block_of_made hown
    have hb3 : Below w2.heap.size w2 w3 := (Below.refl w2.heap.size w2).grown hgrow (Nat.le_refl _) (by simp)
    have s1 := lt_of_heap O4.out
    have s2 := lt_of_heap Q4.out
    have s3 := lt_of_heap hh
    have hU : Hid (val (Y1.take (n + 2)) = val ys * p2 s ∧ (Y1.take (n + 2)).length = n + 2 ∧ Limb (Y1.take (n + 2)) ∧ At curY .u32 0 (Y1.take (n + 2))) := by
      have h9 := top_zero Q1.out Q2.out (by rw [Q3.out]; exact NV.out.1)
      exact ⟨by rw [h9.1, Q3.out], by rw [List.length_take, Q2.out]; omega, limb_take Q1.out _, Q6.out.take _⟩
    generalize Y1.take (n + 2) = Y at hU
    have htop : Hid (2147483648 ≤ Y.getD (n + 1) 0) := norm_top hU.out.2.2.1 hU.out.2.1 (by rw [hU.out.1]; exact NV.out.2)
    have U3 : Hid (w3.heap[w1.heap.size]? = some (.cells curY 32 (0, 0))) := (hb3.block _ s2).trans Q4.out
    have hne : w'.heap.size ≠ w2.heap.size := by omega
    have hne2 : w1.heap.size ≠ w2.heap.size := by omega
    have hne3 : w1.heap.size ≠ w'.heap.size := by omega
    have hstart : Hid (Dv w3 w3 w'.heap.size w2.heap.size xs.length m n (val ys * p2 s) (val xs * p2 s) m (O.take m) (O.drop m) [] [] cur0 d0) := by
      have hp := p2_pos s
      have e9 : w3.heap[w'.heap.size]? = some (.cells cur0 32 (0, 0)) := (hb3.block _ (by omega)).trans ((hb2.block _ s1).trans O4.out)
      refine ⟨⟨rfl, rfl, rfl, rfl, e9, hh, fun _ _ _ => rfl⟩, O5.out, hds, ?_, ?_, ?_, ?_, by simp, limb_take O1.out _, limb_drop O1.out _, limb_nil, ?_, ?_⟩
      · rw [List.take_append_drop, List.append_nil]; exact O6.out
      · rw [List.append_nil]; exact hat
      · have := O2.out; rw [List.length_take]; omega
      · have := O2.out; rw [List.length_drop]; omega
      · have h8 : val xs * p2 s < pw xs.length * p2 s := Int.mul_lt_mul_of_pos_right (val_bounds X3.out).2 (by omega)
        rw [show xs.length = m + (n + 1) by omega, pw_add, Int.mul_assoc] at h8
        have h9 := long_start (m := m) (n := n) (P := p2 s) O1.out (by have := O2.out; omega) (by rw [O3.out]; exact h8)
        have h10 : pw (n + 1) * p2 s ≤ val ys * p2 s := Int.mul_le_mul_of_nonneg_right YL.out (by omega)
        omega
      · have h9 := val_append (O.take m) (O.drop m)
        rw [List.take_append_drop, List.length_take, Nat.min_eq_left (by have := O2.out; omega), O3.out] at h9
        rw [h9]
        simp [val]
    clear hown hgrow hh hds hat
    go_wp2
    go_loopw [10] (fun i wr => ∃ (k : Nat) (lo W rest Q : List Int) (cur d : Array Value), k ≤ m ∧ i = .int .i64 ((k : Int) - 1) ∧ Dv w3 wr w'.heap.size w2.heap.size xs.length m n (val ys * p2 s) (val xs * p2 s) k lo W rest Q cur d) (fun i _ => (intOf i + 1).toNat)
    case atStart => exact ⟨m, _, _, _, _, _, _, Nat.le_refl _, by first | rfl | (congr 1; omega), hstart.out⟩
    case round =>
      obtain ⟨k, lo, W, rest, Q, cur, d, hk, rfl, hD⟩ := hrel
      have D := hide hD
      clear hD
      cases k with
      | zero =>
        have hlo : lo = [] := List.eq_nil_of_length_eq_zero D.out.lol
        subst hlo
        have hatQ : At d .u32 0 Q := by simpa using D.out.atd
        have hatW : At cur .u32 0 W := at_mid (A := []) D.out.atc
        have hQm : Q.length = m := by have := D.out.ql; omega
        have hp := p2_pos s
        have hend : val xs / val ys = val Q ∧ val xs % val ys = val W / p2 s := by
          have h9 := D.out.inv
          simp only [val, pw, Int.one_mul, Int.zero_add] at h9
          have h8 := pw_pos (n + 1)
          exact long_end (by omega) (by have := YL.out; omega) h9 (val_bounds D.out.liW).1 D.out.low
        have hbel : Below w'.heap.size w' wr := hb1.trans ((hb2.mono hb1.size).trans ((hb3.mono (by omega)).trans (D.out.two.below (by omega) (by omega))))
        have how : Ow w'.heap.size wr (.slice (some ⟨w2.heap.size, 0, none⟩) m m) Q :=
          ⟨_, m, by rw [hQm], by omega, by unfold maxLen; omega, D.out.liQ, .inr ⟨_, 0, _, rfl, by omega, D.out.two.there, by rw [D.out.dsz]; omega, hatQ⟩⟩
        have his := hide (how.is_cut (x := val xs / val ys) hend.1.symm)
        have hWs : Sl wr (.slice (some ⟨w'.heap.size, 0, none⟩) (n + 2) (xs.length + 1)) W := sl_of_at D.out.two.here hatW D.out.liW D.out.wl (by omega) (by unfold maxLen; omega)
        have HE := hide hend.2
        have hWl : W.length ≤ 1000000 := by have := D.out.wl; omega
        have ht := tl_le Q
        have htm : tl Q ≤ m := by omega
        have HO := hide how
        clear hend hatQ hatW hQm how ht
        go_wp2
        go_region_with (first
          | (go_at_call 41; refine (cut_any _ _ _ _ Q (HO.out.sl.below (by repeat (first | exact Below.refl _ _ | refine Below.drew ?_)))).mono ?_; rintro e wc ⟨rfl, rfl⟩)
          | (go_at_call 71; refine (moveDown_any _ _ _ _ W (hWs.below (by repeat (first | exact Below.refl _ _ | refine Below.drew ?_))) s hs31 hWl).mono ?_; rintro e wd ⟨vd, rfl, hi, hbd⟩))
        all_goals
          have hbd' := (show Below wr.heap.size wr _ by repeat (first | exact Below.refl _ _ | refine Below.drew ?_)).trans hbd
          have his' := his.out.below hbd'
          have hi' := hi.mono (B' := wr.heap.size) (by first | exact Nat.le_refl _ | simp)
          clear hbd hi
          go_wp2
          go_ret2
          obtain ⟨q1, q2, q3, q4⟩ := his.out
          obtain ⟨s1, s2, s3, s4⟩ := hi'
          exact ⟨_, _, rfl, his', ⟨s1, s2.mono hbel.size, s3, by rw [s4, HE.out]⟩, sep_of q2 s2 (Nat.le_refl _), hbel.trans (hbd'.mono hbel.size)⟩
      | succ k =>
        obtain ⟨lo', x, hlo, hll⟩ := split_last D.out.lol
        subst hlo
        have LL := hide hll
        have MD := hide (D.out.mid hll)
        clear hll
        have hxW : (x :: W).length = n + 2 + 1 := by have := D.out.wl; simp; omega
        have hPU : val (x :: W) < 4294967296 * (val ys * p2 s) := part_lt ((limb_cons.1 MD.out.2).1.2) D.out.low
        have e0 : k + (n + 2) + 1 - k = n + 2 + 1 := by omega
        have hYsl : ∀ wq cq, Wr wr wq w'.heap.size cq 32 → Sl wq (.slice (some ⟨w1.heap.size, 0, none⟩) (n + 2) (n + 2 + 1)) Y := by
          intro wq cq hq
          refine sl_of_at (cur := curY) ?_ hU.out.2.2.2 hU.out.2.2.1 hU.out.2.1 (by omega) (by unfold maxLen; omega)
          rw [hq.other _ hne3, D.out.two.other _ hne3 hne2]
          exact U3.out
        have hup : (x :: W).getD (n + 2) 0 ≤ Y.getD (n + 1) 0 := by
          have h9 := top_le (n := n + 1) D.out.liW hU.out.2.2.1 D.out.wl hU.out.2.1 (by rw [hU.out.1]; exact D.out.low)
          simpa using h9
        have kg : Hid (Calls Try.prog 68 #[.slice (some ⟨w'.heap.size, k, none⟩) (k + (n + 2) + 1 - k) (xs.length + 1 - k), .slice (some ⟨w1.heap.size, 0, none⟩) (n + 2) (n + 2 + 1)] wr fun e wz => ∃ g : Int, e = .returned (.int .u32 g) ∧ (0 ≤ g ∧ g < 4294967296) ∧ (val (x :: W) < (g + 1) * (val ys * p2 s) ∧ (g - 1) * (val ys * p2 s) ≤ val (x :: W)) ∧ ∃ q, wz = wr.drewN q) := by
          rw [e0]
          refine (guess_any wr _ _ n _ _ (x :: W) Y (sl_of_at D.out.two.here MD.out.1 MD.out.2 hxW (by omega) (by unfold maxLen; omega)) (hYsl _ _ (Wr.refl D.out.two.here)) htop.out hup).mono ?_
          rintro e wq ⟨g, rfl, hg, hA, hB, hq⟩
          exact ⟨g, rfl, hg, guess_near MD.out.2 hU.out.2.2.1 hxW hU.out.2.1 rfl hU.out.1 (by have := htop.out; omega) hPU hg hA hB, hq⟩
        have kt : Hid (∀ q g, 0 ≤ g ∧ g < 4294967296 → Calls Try.prog 69 #[.slice (some ⟨w'.heap.size, k, none⟩) (k + (n + 2) + 1 - k) (xs.length + 1 - k), .slice (some ⟨w1.heap.size, 0, none⟩) (n + 2) (n + 2 + 1), .int .u32 g] (wr.drewN q) fun e wz => ∃ qs b cur', e = .returned (.bool (b != 0)) ∧ (0 ≤ b ∧ b ≤ 1) ∧ val qs - pw (n + 2 + 1) * b = val (x :: W) - g * val Y ∧ Limb qs ∧ qs.length = n + 2 + 1 ∧ Wr (wr.drewN q) wz w'.heap.size cur' 32 ∧ cur'.size = cur.size ∧ At cur' .u32 k qs ∧ (∀ i, i < k ∨ k + (n + 2 + 1) ≤ i → cur'[i]? = cur[i]?)) := by
          intro q g hg
          rw [e0]
          exact takeTimes_any (wr.drewN q) _ k (n + 2) _ _ cur (x :: W) Y _ g hg (D.out.two.drewN q).here MD.out.1 MD.out.2 hxW (by omega) (fun wq cq hq => hYsl wq cq ⟨hq.os, hq.tape, hq.output, hq.size, hq.here, hq.other⟩)
        have kb : Hid (∀ (wq : World) (cq : Array Value) (ps : List Int), Wr wr wq w'.heap.size cq 32 → At cq .u32 k ps → Limb ps → ps.length = n + 2 + 1 → Calls Try.prog 70 #[.slice (some ⟨w'.heap.size, k, none⟩) (k + (n + 2) + 1 - k) (xs.length + 1 - k), .slice (some ⟨w1.heap.size, 0, none⟩) (n + 2) (n + 2 + 1)] wq fun e wz => ∃ qs c cur', e = .returned (.tuple #[]) ∧ (0 ≤ c ∧ c ≤ 1) ∧ val qs + pw (n + 2 + 1) * c = val ps + val Y ∧ Limb qs ∧ qs.length = n + 2 + 1 ∧ Wr wq wz w'.heap.size cur' 32 ∧ cur'.size = cq.size ∧ At cur' .u32 k qs ∧ (∀ i, i < k ∨ k + (n + 2 + 1) ≤ i → cur'[i]? = cq[i]?)) := by
          intro wq cq ps hq ha hp hl
          rw [e0]
          exact addBack_any wq _ k (n + 2) _ _ cq ps Y _ hq.here ha hp hl (by omega) (fun wz cz hz => hYsl wz cz (hq.trans hz))
        clear hxW hPU e0 hYsl hup
        go_wp2_with fail
        refine (kg.out).mono ?_
        rintro e w4 ⟨g, rfl, hg, hnear, q1, rfl⟩
        have NR := hide hnear
        clear hnear
        go_wp2_with fail
        refine (kt.out q1 g hg).mono ?_
        rintro e w5 ⟨qs, bo, cur', rfl, hbo, hv, hq, hql, hwr, hcs, hat, hout⟩
        have V1 := hide hv
        have V2 := hide hq
        have V3 := hide hql
        have V4 := hide hwr
        have V5 := hide hcs
        have V6 := hide hat
        have V7 := hide hout
        clear hv hq hql hwr hcs hat hout
        have hqb : Hid (0 ≤ val qs ∧ val qs < pw (n + 2 + 1)) := by
          have h9 := val_bounds V2.out
          rwa [V3.out] at h9
        have hU0 : Hid (0 < val ys * p2 s ∧ val ys * p2 s < pw (n + 2 + 1) ∧ val ys * p2 s ≤ pw (n + 2)) := by
          have h9 := NV.out
          have h8 := pw_mono (m := n + 2) (n := n + 2 + 1) (by omega)
          have h7 := pw_pos (n + 1)
          exact ⟨by omega, by omega, by omega⟩
        have V8 : Hid (val qs - pw (n + 2 + 1) * bo = val (x :: W) - g * (val ys * p2 s)) := by rw [← hU.out.1]; exact V1.out
        by_cases hb0 : bo = 0
        · have two := hide ((D.out.two.drewN q1).left hne.symm V4.out)
          have near := (rest_near (A2 := 0) (c := 0) hU0.out.1 hU0.out.2.1 NR.out.1 NR.out.2 hqb.out hbo V8.out).1 hb0
          have ST := hide (D.out.step LL.out hne two.out V5.out V6.out V7.out V2.out V3.out hU0.out.2.2 near.2.1 near.2.2 hg)
          have hcq := D.out.atd.cell two.out.there k (by have := D.out.ql; simp; omega)
          rw [Nat.zero_add] at hcq
          generalize (List.replicate (k + 1) (0 : Int) ++ Q).getD k 0 = old at hcq
          have hfree := (Wr.refl two.out.there).free k
          clear near
          subst hb0
          go_wp2
          go_roundw
          case rel => exact ⟨k, _, _, _, _, _, _, by omega, by first | rfl | go_num, ST.out⟩
          case measure => simp [intOf]
        · have hb1' : bo = 1 := by omega
          subst hb1'
          have hg1 : 1 ≤ g := by
            apply Classical.byContradiction
            intro hn
            have h9 := V8.out
            have h8 := hqb.out
            have h7 := (val_bounds MD.out.2).1
            rw [show g = 0 by omega, Int.zero_mul, Int.mul_one] at h9
            omega
          have KB := hide (kb.out w5 cur' qs ⟨V4.out.os, V4.out.tape, V4.out.output, V4.out.size, V4.out.here, V4.out.other⟩ V6.out V2.out V3.out)
          go_wp2_with fail
          refine (KB.out).mono ?_
          rintro e w6 ⟨q2, c, cur2, rfl, hc, hv, hq, hql, hwr, hcs, hat, hout⟩
          have hq2 : 0 ≤ val q2 ∧ val q2 < pw (n + 2 + 1) := by
            have h9 := val_bounds hq
            rwa [hql] at h9
          have two := hide (((D.out.two.drewN q1).left hne.symm V4.out).left hne.symm hwr)
          have near := (rest_near (A2 := val q2) (c := c) hU0.out.1 hU0.out.2.1 NR.out.1 NR.out.2 hqb.out hbo V8.out).2 rfl hq2 hc (by rw [← hU.out.1]; exact hv)
          have ST := hide (D.out.step LL.out hne two.out (hcs.trans V5.out) hat (fun i hi => (hout i hi).trans (V7.out i hi)) hq hql hU0.out.2.2 near.2.1 near.2.2 (by omega))
          have hcq := D.out.atd.cell two.out.there k (by have := D.out.ql; simp; omega)
          rw [Nat.zero_add] at hcq
          generalize (List.replicate (k + 1) (0 : Int) ++ Q).getD k 0 = old at hcq
          have hfree := (Wr.refl two.out.there).free k
          clear near hq2 hv hq hql hwr hcs hat hout
          go_wp2
          go_roundw
          case rel => exact ⟨k, _, _, _, _, _, _, by omega, by first | rfl | go_num, ST.out⟩
          case measure => simp [intOf]

end Lm
end Go.Proofs.Ytkdcgnooeojjgac

namespace Go.Proofs.Ytkdcgnooeojjgac
namespace Lm
open Go.RowKit

set_option maxRecDepth 20000 in
set_option maxHeartbeats 1000000 in
theorem divmod_long (w : World) (a1 a2 : Option Addr) (n1 n2 c1 c2 : Nat) (xs ys : List Int) (hx : Sl w (.slice a1 n1 c1) xs) (hy : Sl w (.slice a2 n2 c2) ys) (hm1 : xs.length ≤ 500000) (hle : tl ys ≤ tl xs) (h2 : 2 ≤ tl ys) :
    Calls Try.prog 35 #[.slice a1 n1 c1, .slice a2 n2 c2] w fun e w' => ∃ v1 v2, e = .returned (.tuple #[v1, v2, .bool true]) ∧ Is w.heap.size w' v1 (val xs / val ys) ∧ Is w.heap.size w' v2 (val xs % val ys) ∧ Sep v1 v2 ∧ Below w.heap.size w w' := by
  obtain ⟨rfl, h1, _, h3⟩ := hx.parts
  obtain ⟨rfl, g1, _, g3⟩ := hy.parts
  have t1 := tl_le xs
  have t2 := tl_le ys
  have kd := divideLong_any w a1 a2 (tl xs) (tl ys) c1 c2 _ _ hx.cut hy.cut (by rw [List.length_take]; omega) (by rw [List.length_take]; omega) (by rw [List.length_take, List.length_take]; omega) (canon_trim g3)
  rw [val_take_tl, val_take_tl] at kd
  have KD := hide kd
  clear kd h3 g3
  have hne : (((tl ys : Nat) : Int) == 0) = false := by simp; omega
  have hne1 : (((tl ys : Nat) : Int) == 1) = false := by simp; omega
  go_enter Try.func35, Try.ntmps35
  go_wp2_with fail
  refine (cut_any w a1 _ c1 xs hx).mono ?_
  rintro e w' ⟨rfl, rfl⟩
  go_wp2_with fail
  refine (cut_any _ a2 _ c2 ys hy).mono ?_
  rintro e w' ⟨rfl, rfl⟩
  go_wp2_with fail
  refine (KD.out).mono ?_
  rintro e w1 ⟨v1, v2, rfl, hi1, hi2, hsep, hb⟩
  go_wp2
  go_ret3
  exact ⟨_, _, rfl, hi1, hi2, hsep, hb⟩

theorem divmod_any (w : World) (a1 a2 : Option Addr) (n1 n2 c1 c2 : Nat) (xs ys : List Int) (hx : Sl w (.slice a1 n1 c1) xs) (hy : Sl w (.slice a2 n2 c2) ys) (hm1 : xs.length ≤ 500000) (h0 : val ys ≠ 0) :
    Calls Try.prog 35 #[.slice a1 n1 c1, .slice a2 n2 c2] w fun e w' => ∃ v1 v2, e = .returned (.tuple #[v1, v2, .bool true]) ∧ Is w.heap.size w' v1 (val xs / val ys) ∧ Is w.heap.size w' v2 (val xs % val ys) ∧ Sep v1 v2 ∧ Below w.heap.size w w' := by
  have hz : 0 < tl ys := by
    apply Classical.byContradiction
    intro hn
    exact h0 (tl_zero (by omega))
  by_cases h1 : tl xs < tl ys
  · exact divmod_less w a1 a2 n1 n2 c1 c2 xs ys hx hy (by omega) h1
  · by_cases h2 : tl ys = 1
    · exact divmod_short w a1 a2 n1 n2 c1 c2 xs ys hx hy (by omega) (by omega) h2
    · exact divmod_long w a1 a2 n1 n2 c1 c2 xs ys hx hy hm1 (by omega) (by omega)

theorem divmod_none (w : World) (a1 a2 : Option Addr) (n1 n2 c1 c2 : Nat) (xs ys : List Int) (hx : Sl w (.slice a1 n1 c1) xs) (hy : Sl w (.slice a2 n2 c2) ys) (h0 : val ys = 0) :
    Calls Try.prog 35 #[.slice a1 n1 c1, .slice a2 n2 c2] w fun e w' => e = .returned (.tuple #[.slice none 0 0, .slice none 0 0, .bool false]) ∧ Below w.heap.size w w' := by
  refine divmod_zero w a1 a2 n1 n2 c1 c2 xs ys hx hy ?_
  apply Classical.byContradiction
  intro hn
  have := val_pos_tl hy.parts.2.2.2 (by omega)
  omega

theorem divmod_g (w : World) (a1 a2 : Option Addr) (n1 n2 c1 c2 : Nat) (xs ys : List Int) (hx : Sl w (.slice a1 n1 c1) xs) (hy : Sl w (.slice a2 n2 c2) ys) (hm1 : xs.length ≤ 500000) (h0 : val ys ≠ 0) :
    Calls Try.prog 35 #[.slice a1 n1 c1, .slice a2 n2 c2] w fun e w' => ∃ ao cap rs bo dap ss, e = .returned (.tuple #[.slice ao rs.length cap, .slice bo ss.length dap, .bool true]) ∧ Got w' ao cap rs (val xs / val ys) ∧ Got w' bo dap ss (val xs % val ys) ∧ rs.length ≤ xs.length ∧ ss.length ≤ ys.length ∧ Below w.heap.size w w' := by
  refine (divmod_any w a1 a2 n1 n2 c1 c2 xs ys hx hy hm1 h0).mono ?_
  rintro e w' ⟨v1, v2, rfl, hi1, hi2, _, hb⟩
  obtain ⟨ao, cap, rs, rfl, hg1⟩ := hi1.got
  obtain ⟨bo, dap, ss, rfl, hg2⟩ := hi2.got
  have bx := val_bounds hx.parts.2.2.2
  have by' := val_bounds hy.parts.2.2.2
  refine ⟨ao, cap, rs, bo, dap, ss, rfl, hg1, hg2, le_len hx.parts.2.2.2 hg1.canon ?_, le_len hy.parts.2.2.2 hg2.canon ?_, hb⟩
  · rw [hg1.val]
    exact Int.ediv_le_self _ bx.1
  · rw [hg2.val]
    have := Int.emod_lt_of_pos (val xs) (show 0 < val ys by omega)
    omega

end Lm
end Go.Proofs.Ytkdcgnooeojjgac

namespace Go.Proofs.Ytkdcgnooeojjgac
namespace Lm
open Go.RowKit

theorem boxed4 (w : World) (nx : Bool) (vx : Value) (ny : Bool) (vy : Value) : ∃ w0 : World, (((w.alloc (.cells #[.bool nx, vx] 24)).alloc (.cells #[.bool ny, vy] 24)).alloc (.cells #[.bool false, .slice none 0 0] 24)).alloc (.cells #[.bool false, .slice none 0 0] 24) = w0 ∧ Box w0 w.heap.size nx vx ∧ Box w0 (w.heap.size + 1) ny vy ∧ Box w0 (w.heap.size + 1 + 1) false (.slice none 0 0) ∧ Box w0 (w.heap.size + 1 + 1 + 1) false (.slice none 0 0) ∧ Below w.heap.size w w0 ∧ w0.heap.size = w.heap.size + 4 := by
  obtain ⟨w2, e2, b1, b2, b3, hb, hs⟩ := boxed3 w nx vx ny vy
  have h2 := boxed w2 false (.slice none 0 0)
  rw [e2]
  refine ⟨_, rfl, b1.below h2.2.1, b2.below h2.2.1, b3.below h2.2.1, ?_, hb.trans (h2.2.1.mono (by omega)), by rw [h2.2.2, hs]⟩
  have h3 := h2.1
  rw [hs] at h3
  exact h3

theorem ediv_sg (ny : Bool) (X Y : Int) : X / sg ny Y = sg ny (X / Y) ∧ X % sg ny Y = X % Y := by
  cases ny <;> simp [sg, Int.ediv_neg, Int.emod_neg]

theorem euclid_neg {X Y : Int} (hY : 0 < Y) : (X % Y = 0 → -X / Y = -(X / Y) ∧ -X % Y = 0) ∧ (X % Y ≠ 0 → -X / Y = -(X / Y + 1) ∧ -X % Y = Y - X % Y) := by
  have h1 := Int.mul_ediv_add_emod X Y
  have h2 := Int.emod_nonneg X (show Y ≠ 0 by omega)
  have h3 := Int.emod_lt_of_pos X hY
  constructor
  · intro h0
    refine div_of hY ?_ (Int.le_refl 0) hY
    rw [Int.neg_mul, Int.mul_comm (X / Y)]
    omega
  · intro h0
    refine div_of hY ?_ (by omega) (by omega)
    rw [Int.neg_mul, Int.add_mul, Int.mul_comm (X / Y)]
    omega

theorem Box.other {w : World} {g h : Nat} {ng : Bool} {v : Value} (H : Box w g ng v) (hn : g ≠ h) (b u : Value) : Box ((w.setCell ⟨h, 0, none⟩ b).setCell ⟨h, 1, none⟩ u) g ng v :=
  (heap_setCell_other _ ⟨h, 1, none⟩ g u hn).trans ((heap_setCell_other w ⟨h, 0, none⟩ g b hn).trans H)

/-- Two blocks written one behind the other. -/
theorem box_two {w : World} {g h : Nat} {n1 n2 nq nr : Bool} {v1 v2 vq vr : Value} (H1 : Box w g n1 v1) (H2 : Box w h n2 v2) (hn : g ≠ h) : Box ((((w.setCell ⟨g, 0, none⟩ (.bool nq)).setCell ⟨g, 1, none⟩ vq).setCell ⟨h, 0, none⟩ (.bool nr)).setCell ⟨h, 1, none⟩ vr) g nq vq ∧ Box ((((w.setCell ⟨g, 0, none⟩ (.bool nq)).setCell ⟨g, 1, none⟩ vq).setCell ⟨h, 0, none⟩ (.bool nr)).setCell ⟨h, 1, none⟩ vr) h nr vr :=
  ⟨(H1.set nq vq).other hn _ _, (H2.other (Ne.symm hn) _ _).set nr vr⟩

/-- Quotient and rest of two numbers with signs, by those of their magnitudes. -/
theorem wdiv_pos (ny : Bool) (X Y : Int) : sg (false != ny) (X / Y) = sg false X / sg ny Y ∧ sg false (X % Y) = sg false X % sg ny Y := by
  have h := ediv_sg ny (sg false X) Y
  rw [h.1, h.2]
  cases ny <;> simp [sg]

theorem wdiv_even (nx ny : Bool) {X Y : Int} (hY : 0 < Y) (h0 : X % Y = 0) : sg (nx != ny) (X / Y) = sg nx X / sg ny Y ∧ sg false (X % Y) = sg nx X % sg ny Y := by
  cases nx with
  | false => exact wdiv_pos ny X Y
  | true =>
    have h := ediv_sg ny (sg true X) Y
    have h2 := (euclid_neg (X := X) hY).1 h0
    rw [h.1, h.2, h0]
    cases ny <;> simp [sg, h2]

theorem wdiv_odd (ny : Bool) {X Y : Int} (hY : 0 < Y) (h0 : X % Y ≠ 0) : sg (true != ny) (X / Y + 1) = sg true X / sg ny Y ∧ sg false (Y - X % Y) = sg true X % sg ny Y := by
  have h := ediv_sg ny (sg true X) Y
  have h2 := (euclid_neg (X := X) hY).2 h0
  rw [h.1, h.2]
  cases ny <;> simp [sg, h2]

set_option maxRecDepth 20000 in
set_option maxHeartbeats 1000000 in
theorem wdivmod_none (w : World) (nx : Bool) (a1 : Option Addr) (n1 c1 : Nat) (xs : List Int) (hx : Sl w (.slice a1 n1 c1) xs) (ny : Bool) (a2 : Option Addr) (n2 c2 : Nat) (ys : List Int) (hy : Sl w (.slice a2 n2 c2) ys) (h0 : val ys = 0) :
    Calls Try.prog 61 #[.agg #[.bool nx, .slice a1 n1 c1], .agg #[.bool ny, .slice a2 n2 c2]] w fun e w' => e = .returned (.tuple #[.agg #[.bool false, .slice none 0 0], .agg #[.bool false, .slice none 0 0], .bool false]) ∧ Below w.heap.size w w' := by
  obtain ⟨w0, e0, bx, by', bq, br, hb0, hs0⟩ := boxed4 w nx (.slice a1 n1 c1) ny (.slice a2 n2 c2)
  have E0 := hide e0
  have hx0 := hx.below hb0
  have hy0 := hy.below hb0
  clear e0 hs0
  have H0 := hide h0
  clear h0
  go_enter Try.func61, Try.ntmps61
  go_wp2_with fail
  rw [E0.out]
  obtain ⟨ca, cb, cc, cd⟩ := bx.facts
  obtain ⟨ea, eb, ec, ed⟩ := by'.facts
  refine (divmod_none _ _ _ _ _ _ _ xs ys hx0 hy0 H0.out).mono ?_
  rintro e w1 ⟨rfl, hb1⟩
  have Z := hide (hb0.trans (hb1.mono hb0.size))
  obtain ⟨qa, qb, qc, qd⟩ := (bq.below hb1).facts
  obtain ⟨ra, rb, rc, rd⟩ := (br.below hb1).facts
  have F := hide (box_two (nq := false) (vq := .slice none 0 0) (nr := false) (vr := .slice none 0 0) (bq.below hb1) (br.below hb1) (by omega))
  have Z2 := hide (below_set2 (below_set2 Z.out (show w.heap.size ≤ w.heap.size + 1 + 1 by omega) (.bool false) (.slice none 0 0)) (show w.heap.size ≤ w.heap.size + 1 + 1 + 1 by omega) (.bool false) (.slice none 0 0))
  go_wp2
  refine bodyPost_ret (v := .tuple #[.agg #[.bool false, .slice none 0 0], .agg #[.bool false, .slice none 0 0], .bool false]) ?_ rfl ⟨rfl, Z2.out⟩
  simp [results, Try.results61, go_sem, F.out.1.facts.1, F.out.1.facts.2.1, F.out.2.facts.1, F.out.2.facts.2.1]

set_option maxRecDepth 20000 in
set_option maxHeartbeats 1000000 in
theorem wdivmod_pos (w : World) (a1 : Option Addr) (n1 c1 : Nat) (xs : List Int) (hx : Sl w (.slice a1 n1 c1) xs) (ny : Bool) (a2 : Option Addr) (n2 c2 : Nat) (ys : List Int) (hy : Sl w (.slice a2 n2 c2) ys) (hm1 : xs.length ≤ 400000) (hm2 : ys.length ≤ 400000) (h0 : val ys ≠ 0) :
    Calls Try.prog 61 #[.agg #[.bool false, .slice a1 n1 c1], .agg #[.bool ny, .slice a2 n2 c2]] w fun e w' => ∃ nq aq cq qs nr ar cr rs, e = .returned (.tuple #[.agg #[.bool nq, .slice aq qs.length cq], .agg #[.bool nr, .slice ar rs.length cr], .bool true]) ∧ Wh w' nq aq cq qs (sg false (val xs) / sg ny (val ys)) ∧ Wh w' nr ar cr rs (sg false (val xs) % sg ny (val ys)) ∧ qs.length ≤ xs.length + 4 ∧ rs.length ≤ ys.length ∧ Below w.heap.size w w' := by
  obtain ⟨w0, e0, bx, by', bq, br, hb0, hs0⟩ := boxed4 w false (.slice a1 n1 c1) ny (.slice a2 n2 c2)
  have E0 := hide e0
  have hx0 := hx.below hb0
  have hy0 := hy.below hb0
  clear e0 hs0
  have PY : Hid (0 < val ys) := by have := (val_bounds hy.parts.2.2.2).1; show _ < _; omega
  have LY := hide hy.parts.2.2.2
  have H0 := hide h0
  clear h0
  go_enter Try.func61, Try.ntmps61
  go_wp2_with fail
  rw [E0.out]
  refine (divmod_g _ _ _ _ _ _ _ xs ys hx0 hy0 (by omega) H0.out).mono ?_
  rintro e w1 ⟨p1, q1, r1, p2, q2, r2, rfl, G1, G2, l1, l2, hb1⟩
  have HB : Below w0.heap.size w0 w1 := hb1
  obtain ⟨xa, xb, xc, xd⟩ := (bx.below HB).facts
  obtain ⟨ya, yb, yc, yd⟩ := (by'.below HB).facts
  go_wp2_with fail
  refine (signed_g _ _ _ _ r1 _ G1 (by omega)).mono ?_
  rintro e w7 ⟨ng7, rfl, G7, hb7⟩
  replace HB := HB.trans (hb7.mono HB.size)
  have G2' := G2.below hb7
  clear xa xb xc xd ya yb yc yd
  obtain ⟨xa, xb, xc, xd⟩ := (bx.below HB).facts
  obtain ⟨ya, yb, yc, yd⟩ := (by'.below HB).facts
  go_wp2_with fail
  refine (signed_g _ _ _ _ r2 _ G2' (by omega)).mono ?_
  rintro e w8 ⟨ng8, rfl, G8, hb8⟩
  replace HB := HB.trans (hb8.mono HB.size)
  replace G7 := G7.below hb8
  clear xa xb xc xd ya yb yc yd
  have bq8 := bq.below HB
  have br8 := br.below HB
  obtain ⟨qa, qb, qc, qd⟩ := bq8.facts
  obtain ⟨ra, rb, rc, rd⟩ := br8.facts
  have VQ : Hid (sg ny (val xs / val ys) = sg false (val xs) / sg ny (val ys) ∧ sg false (val xs % val ys) = sg false (val xs) % sg ny (val ys)) := by have h := wdiv_pos ny (val xs) (val ys); rwa [show (false != ny) = ny by cases ny <;> rfl] at h
  have Y1 := hide ((br8.other (show w.heap.size + 1 + 1 + 1 ≠ w.heap.size + 1 + 1 by omega) (.bool ng7) (.slice p1 r1.length q1)).wh ng8 (.slice p2 r2.length q2) (bq8.wh ng7 (.slice p1 r1.length q1) G7))
  have Y2 := hide ((br8.other (show w.heap.size + 1 + 1 + 1 ≠ w.heap.size + 1 + 1 by omega) (.bool ng7) (.slice p1 r1.length q1)).wh ng8 (.slice p2 r2.length q2) (bq8.wh ng7 (.slice p1 r1.length q1) G8))
  have F := hide (box_two (nq := ng7) (vq := .slice p1 r1.length q1) (nr := ng8) (vr := .slice p2 r2.length q2) bq8 br8 (by omega))
  have Z := hide (hb0.trans (HB.mono hb0.size))
  have Z2 := hide (below_set2 (below_set2 Z.out (show w.heap.size ≤ w.heap.size + 1 + 1 by omega) (.bool ng7) (.slice p1 r1.length q1)) (show w.heap.size ≤ w.heap.size + 1 + 1 + 1 by omega) (.bool ng8) (.slice p2 r2.length q2))
  go_wp2
  refine bodyPost_ret (v := .tuple #[.agg #[.bool ng7, .slice p1 r1.length q1], .agg #[.bool ng8, .slice p2 r2.length q2], .bool true]) ?_ rfl ⟨ng7, p1, q1, r1, ng8, p2, q2, r2, rfl, by rw [← VQ.out.1]; exact Y1.out, by rw [← VQ.out.2]; exact Y2.out, by omega, by omega, Z2.out⟩
  simp [results, Try.results61, go_sem, F.out.1.facts.1, F.out.1.facts.2.1, F.out.2.facts.1, F.out.2.facts.2.1]

set_option maxRecDepth 20000 in
set_option maxHeartbeats 1000000 in
theorem wdivmod_even (w : World) (a1 : Option Addr) (n1 c1 : Nat) (xs : List Int) (hx : Sl w (.slice a1 n1 c1) xs) (ny : Bool) (a2 : Option Addr) (n2 c2 : Nat) (ys : List Int) (hy : Sl w (.slice a2 n2 c2) ys) (hm1 : xs.length ≤ 400000) (_hm2 : ys.length ≤ 400000) (h0 : val ys ≠ 0) (hev : val xs % val ys = 0) :
    Calls Try.prog 61 #[.agg #[.bool true, .slice a1 n1 c1], .agg #[.bool ny, .slice a2 n2 c2]] w fun e w' => ∃ nq aq cq qs nr ar cr rs, e = .returned (.tuple #[.agg #[.bool nq, .slice aq qs.length cq], .agg #[.bool nr, .slice ar rs.length cr], .bool true]) ∧ Wh w' nq aq cq qs (sg true (val xs) / sg ny (val ys)) ∧ Wh w' nr ar cr rs (sg true (val xs) % sg ny (val ys)) ∧ qs.length ≤ xs.length + 4 ∧ rs.length ≤ ys.length ∧ Below w.heap.size w w' := by
  obtain ⟨w0, e0, bx, by', bq, br, hb0, hs0⟩ := boxed4 w true (.slice a1 n1 c1) ny (.slice a2 n2 c2)
  have E0 := hide e0
  have hx0 := hx.below hb0
  have hy0 := hy.below hb0
  clear e0 hs0
  have PY : Hid (0 < val ys) := by have := (val_bounds hy.parts.2.2.2).1; show _ < _; omega
  have LY := hide hy.parts.2.2.2
  have H0 := hide h0
  have HE := hide hev
  clear hev
  clear h0
  go_enter Try.func61, Try.ntmps61
  go_wp2_with fail
  rw [E0.out]
  refine (divmod_g _ _ _ _ _ _ _ xs ys hx0 hy0 (by omega) H0.out).mono ?_
  rintro e w1 ⟨p1, q1, r1, p2, q2, r2, rfl, G1, G2, l1, l2, hb1⟩
  have HB : Below w0.heap.size w0 w1 := hb1
  have hr2 : ¬ 0 < (r2.length : Int) := by
    have h9 : r2 = [] := (canon_zero G2.canon).1 (by rw [G2.val]; exact HE.out)
    rw [h9]; simp
  obtain ⟨xa, xb, xc, xd⟩ := (bx.below HB).facts
  obtain ⟨ya, yb, yc, yd⟩ := (by'.below HB).facts
  go_wp2_with fail
  refine (signed_g _ _ _ _ r1 _ G1 (by omega)).mono ?_
  rintro e w7 ⟨ng7, rfl, G7, hb7⟩
  replace HB := HB.trans (hb7.mono HB.size)
  have G2' := G2.below hb7
  clear xa xb xc xd ya yb yc yd
  obtain ⟨xa, xb, xc, xd⟩ := (bx.below HB).facts
  obtain ⟨ya, yb, yc, yd⟩ := (by'.below HB).facts
  go_wp2_with fail
  refine (signed_g _ _ _ _ r2 _ G2' (by omega)).mono ?_
  rintro e w8 ⟨ng8, rfl, G8, hb8⟩
  replace HB := HB.trans (hb8.mono HB.size)
  replace G7 := G7.below hb8
  clear xa xb xc xd ya yb yc yd
  have bq8 := bq.below HB
  have br8 := br.below HB
  obtain ⟨qa, qb, qc, qd⟩ := bq8.facts
  obtain ⟨ra, rb, rc, rd⟩ := br8.facts
  have VQ : Hid (sg (!ny) (val xs / val ys) = sg true (val xs) / sg ny (val ys) ∧ sg false (val xs % val ys) = sg true (val xs) % sg ny (val ys)) := by have h := wdiv_even true ny PY.out HE.out; rwa [show (true != ny) = !ny by cases ny <;> rfl] at h
  have Y1 := hide ((br8.other (show w.heap.size + 1 + 1 + 1 ≠ w.heap.size + 1 + 1 by omega) (.bool ng7) (.slice p1 r1.length q1)).wh ng8 (.slice p2 r2.length q2) (bq8.wh ng7 (.slice p1 r1.length q1) G7))
  have Y2 := hide ((br8.other (show w.heap.size + 1 + 1 + 1 ≠ w.heap.size + 1 + 1 by omega) (.bool ng7) (.slice p1 r1.length q1)).wh ng8 (.slice p2 r2.length q2) (bq8.wh ng7 (.slice p1 r1.length q1) G8))
  have F := hide (box_two (nq := ng7) (vq := .slice p1 r1.length q1) (nr := ng8) (vr := .slice p2 r2.length q2) bq8 br8 (by omega))
  have Z := hide (hb0.trans (HB.mono hb0.size))
  have Z2 := hide (below_set2 (below_set2 Z.out (show w.heap.size ≤ w.heap.size + 1 + 1 by omega) (.bool ng7) (.slice p1 r1.length q1)) (show w.heap.size ≤ w.heap.size + 1 + 1 + 1 by omega) (.bool ng8) (.slice p2 r2.length q2))
  go_wp2
  refine bodyPost_ret (v := .tuple #[.agg #[.bool ng7, .slice p1 r1.length q1], .agg #[.bool ng8, .slice p2 r2.length q2], .bool true]) ?_ rfl ⟨ng7, p1, q1, r1, ng8, p2, q2, r2, rfl, by rw [← VQ.out.1]; exact Y1.out, by rw [← VQ.out.2]; exact Y2.out, by omega, by omega, Z2.out⟩
  simp [results, Try.results61, go_sem, F.out.1.facts.1, F.out.1.facts.2.1, F.out.2.facts.1, F.out.2.facts.2.1]

set_option maxRecDepth 20000 in
set_option maxHeartbeats 1000000 in
theorem wdivmod_odd (w : World) (a1 : Option Addr) (n1 c1 : Nat) (xs : List Int) (hx : Sl w (.slice a1 n1 c1) xs) (ny : Bool) (a2 : Option Addr) (n2 c2 : Nat) (ys : List Int) (hy : Sl w (.slice a2 n2 c2) ys) (hm1 : xs.length ≤ 400000) (hm2 : ys.length ≤ 400000) (h0 : val ys ≠ 0) (hod : val xs % val ys ≠ 0) :
    Calls Try.prog 61 #[.agg #[.bool true, .slice a1 n1 c1], .agg #[.bool ny, .slice a2 n2 c2]] w fun e w' => ∃ nq aq cq qs nr ar cr rs, e = .returned (.tuple #[.agg #[.bool nq, .slice aq qs.length cq], .agg #[.bool nr, .slice ar rs.length cr], .bool true]) ∧ Wh w' nq aq cq qs (sg true (val xs) / sg ny (val ys)) ∧ Wh w' nr ar cr rs (sg true (val xs) % sg ny (val ys)) ∧ qs.length ≤ xs.length + 4 ∧ rs.length ≤ ys.length ∧ Below w.heap.size w w' := by
  obtain ⟨w0, e0, bx, by', bq, br, hb0, hs0⟩ := boxed4 w true (.slice a1 n1 c1) ny (.slice a2 n2 c2)
  have E0 := hide e0
  have hx0 := hx.below hb0
  have hy0 := hy.below hb0
  clear e0 hs0
  have PY : Hid (0 < val ys) := by have := (val_bounds hy.parts.2.2.2).1; show _ < _; omega
  have LY := hide hy.parts.2.2.2
  have H0 := hide h0
  have HE := hide hod
  clear hod
  clear h0
  go_enter Try.func61, Try.ntmps61
  go_wp2_with fail
  rw [E0.out]
  refine (divmod_g _ _ _ _ _ _ _ xs ys hx0 hy0 (by omega) H0.out).mono ?_
  rintro e w1 ⟨p1, q1, r1, p2, q2, r2, rfl, G1, G2, l1, l2, hb1⟩
  have HB : Below w0.heap.size w0 w1 := hb1
  have hr2 : 0 < (r2.length : Int) := by
    have h9 : r2 ≠ [] := fun e => HE.out (by rw [← G2.val]; exact (canon_zero G2.canon).2 e)
    have h8 : r2.length ≠ 0 := fun e => h9 (List.eq_nil_of_length_eq_zero e)
    omega
  obtain ⟨xa, xb, xc, xd⟩ := (bx.below HB).facts
  go_wp2_with fail
  refine (small_any _ 1 (by omega) (by omega)).mono ?_
  rintro e w3 ⟨v3, rfl, hi3, hb3⟩
  obtain ⟨p3, q3, r3, rfl, G3, l3⟩ := got_small hi3 (by omega)
  clear hi3
  replace HB := HB.trans (hb3.mono HB.size)
  replace G1 := G1.below hb3
  replace G2 := G2.below hb3
  go_wp2_with fail
  refine (add_g _ _ _ _ _ _ _ r1 r3 G1.sl G3.sl (by omega) (by omega)).mono ?_
  rintro e w4 ⟨p4, q4, r4, rfl, G4, l4, hb4⟩
  replace HB := HB.trans (hb4.mono HB.size)
  replace G2 := G2.below hb4
  rw [G1.val, G3.val] at G4
  have hy4 := hy0.below HB
  obtain ⟨ya, yb, yc, yd⟩ := (by'.below HB).facts
  go_wp2_with fail
  refine (sub_g _ _ _ _ _ _ _ ys r2 hy4 G2.sl (by omega) (by rw [G2.val]; exact Int.le_of_lt (Int.emod_lt_of_pos _ PY.out))).mono ?_
  rintro e w5 ⟨p5, q5, r5, rfl, G5, l5, hb5⟩
  replace HB := HB.trans (hb5.mono HB.size)
  replace G4 := G4.below hb5
  rw [G2.val] at G5
  clear xa xb xc xd ya yb yc yd G1 G2 G3 hy4
  obtain ⟨xa, xb, xc, xd⟩ := (bx.below HB).facts
  obtain ⟨ya, yb, yc, yd⟩ := (by'.below HB).facts
  go_wp2_with fail
  refine (signed_g _ _ _ _ r4 _ G4 (by omega)).mono ?_
  rintro e w7 ⟨ng7, rfl, G7, hb7⟩
  replace HB := HB.trans (hb7.mono HB.size)
  have G2' := G5.below hb7
  clear xa xb xc xd ya yb yc yd
  obtain ⟨xa, xb, xc, xd⟩ := (bx.below HB).facts
  obtain ⟨ya, yb, yc, yd⟩ := (by'.below HB).facts
  go_wp2_with fail
  refine (signed_g _ _ _ _ r5 _ G2' (by omega)).mono ?_
  rintro e w8 ⟨ng8, rfl, G8, hb8⟩
  replace HB := HB.trans (hb8.mono HB.size)
  replace G7 := G7.below hb8
  clear xa xb xc xd ya yb yc yd
  have bq8 := bq.below HB
  have br8 := br.below HB
  obtain ⟨qa, qb, qc, qd⟩ := bq8.facts
  obtain ⟨ra, rb, rc, rd⟩ := br8.facts
  have VQ : Hid (sg (!ny) (val xs / val ys + 1) = sg true (val xs) / sg ny (val ys) ∧ sg false (val ys - val xs % val ys) = sg true (val xs) % sg ny (val ys)) := by have h := wdiv_odd ny PY.out HE.out; rwa [show (true != ny) = !ny by cases ny <;> rfl] at h
  have Y1 := hide ((br8.other (show w.heap.size + 1 + 1 + 1 ≠ w.heap.size + 1 + 1 by omega) (.bool ng7) (.slice p4 r4.length q4)).wh ng8 (.slice p5 r5.length q5) (bq8.wh ng7 (.slice p4 r4.length q4) G7))
  have Y2 := hide ((br8.other (show w.heap.size + 1 + 1 + 1 ≠ w.heap.size + 1 + 1 by omega) (.bool ng7) (.slice p4 r4.length q4)).wh ng8 (.slice p5 r5.length q5) (bq8.wh ng7 (.slice p4 r4.length q4) G8))
  have F := hide (box_two (nq := ng7) (vq := .slice p4 r4.length q4) (nr := ng8) (vr := .slice p5 r5.length q5) bq8 br8 (by omega))
  have Z := hide (hb0.trans (HB.mono hb0.size))
  have Z2 := hide (below_set2 (below_set2 Z.out (show w.heap.size ≤ w.heap.size + 1 + 1 by omega) (.bool ng7) (.slice p4 r4.length q4)) (show w.heap.size ≤ w.heap.size + 1 + 1 + 1 by omega) (.bool ng8) (.slice p5 r5.length q5))
  go_wp2
  refine bodyPost_ret (v := .tuple #[.agg #[.bool ng7, .slice p4 r4.length q4], .agg #[.bool ng8, .slice p5 r5.length q5], .bool true]) ?_ rfl ⟨ng7, p4, q4, r4, ng8, p5, q5, r5, rfl, by rw [← VQ.out.1]; exact Y1.out, by rw [← VQ.out.2]; exact Y2.out, by omega, by omega, Z2.out⟩
  simp [results, Try.results61, go_sem, F.out.1.facts.1, F.out.1.facts.2.1, F.out.2.facts.1, F.out.2.facts.2.1]

theorem wdivmod_g (w : World) (nx : Bool) (a1 : Option Addr) (n1 c1 : Nat) (xs : List Int) (hx : Sl w (.slice a1 n1 c1) xs) (ny : Bool) (a2 : Option Addr) (n2 c2 : Nat) (ys : List Int) (hy : Sl w (.slice a2 n2 c2) ys) (hm1 : xs.length ≤ 400000) (hm2 : ys.length ≤ 400000) (h0 : val ys ≠ 0) :
    Calls Try.prog 61 #[.agg #[.bool nx, .slice a1 n1 c1], .agg #[.bool ny, .slice a2 n2 c2]] w fun e w' => ∃ nq aq cq qs nr ar cr rs, e = .returned (.tuple #[.agg #[.bool nq, .slice aq qs.length cq], .agg #[.bool nr, .slice ar rs.length cr], .bool true]) ∧ Wh w' nq aq cq qs (sg nx (val xs) / sg ny (val ys)) ∧ Wh w' nr ar cr rs (sg nx (val xs) % sg ny (val ys)) ∧ qs.length ≤ xs.length + 4 ∧ rs.length ≤ ys.length ∧ Below w.heap.size w w' := by
  cases nx with
  | false => exact wdivmod_pos w a1 n1 c1 xs hx ny a2 n2 c2 ys hy hm1 hm2 h0
  | true =>
    by_cases he : val xs % val ys = 0
    · exact wdivmod_even w a1 n1 c1 xs hx ny a2 n2 c2 ys hy hm1 hm2 h0 he
    · exact wdivmod_odd w a1 n1 c1 xs hx ny a2 n2 c2 ys hy hm1 hm2 h0 he

end Lm
end Go.Proofs.Ytkdcgnooeojjgac

namespace Go.Proofs.Ytkdcgnooeojjgac
namespace Lm
open Go.RowKit

theorem wdec_len {ds : List Int} {x : Int} (h : IsDec ds x) {m : Nat} (hm : 1 ≤ m) (hx : x < p10 m) : ds.length ≤ m := by
  obtain ⟨h1, h2, h3⟩ := h
  rcases h3 with ⟨_, rfl⟩ | ⟨c, cs, rfl, hc⟩
  · simp; omega
  · have := dval_low h1 hc
    simp only [List.length_cons]
    apply Classical.byContradiction
    intro hn
    have := p10_mono (m := m) (n := cs.length) (by omega)
    omega

theorem minus_ahead (ds : List Int) : (⟨#[45]⟩ : ByteArray) ++ strOfNums ds = strOfNums (45 :: ds) := by
  apply ByteArray.ext
  rw [ByteArray.data_append]
  apply Array.toList_inj.1
  simp [strOfNums]

theorem sign_three' (z : Int) : -1 ≤ Int.sign z ∧ Int.sign z ≤ 1 := by
  rcases Int.lt_trichotomy z 0 with h | h | h
  · rw [Int.sign_eq_neg_one_of_neg h]; omega
  · rw [h]; simp
  · rw [Int.sign_eq_one_of_pos h]; omega

set_option maxRecDepth 20000 in
set_option maxHeartbeats 400000 in
theorem wtext_neg (w : World) (ng : Bool) (ao : Option Addr) (n cap : Nat) (zs : List Int) (h : Sl w (.slice ao n cap) zs) (hz : zs.length ≤ 1000000) (hneg : sg ng (val zs) < 0) :
    Calls Try.prog 49 #[.agg #[.bool ng, .slice ao n cap]] w fun e w' => ∃ ds, e = .returned (.string (strOfNums (45 :: ds))) ∧ IsDec ds (val zs) ∧ Below w.heap.size w w' := by
  obtain ⟨w0, e0, bx, hb0, hs0⟩ := boxed0 w ng (.slice ao n cap)
  have E0 := hide e0
  have h0 := h.below hb0
  have HN := hide hneg
  have ks := wsign_any w0 ng ao n cap zs h0 hz
  rw [Int.sign_eq_neg_one_of_neg hneg] at ks
  have KS := hide ks
  clear e0 hs0 ks hneg
  go_enter Try.func49, Try.ntmps49
  go_wp2_with fail
  rw [E0.out]
  refine (KS.out).mono ?_
  rintro e w1 ⟨rfl, hb1⟩
  obtain ⟨xa, xb, xc, xd⟩ := (bx.below hb1).facts
  have h1 := h0.below hb1
  go_wp2_with fail
  refine (text_any _ _ _ _ zs h1 hz).mono ?_
  rintro e w2 ⟨ds, rfl, hd, hb2⟩
  have Z := hide (hb0.trans ((hb1.trans (hb2.mono hb1.size)).mono hb0.size))
  have HD := hide hd
  have hcs : ¬ 9223372036854775807 < 1 + (strOfNums ds).size := by
    have h8 := (val_bounds h.parts.2.2.2).2
    have h7 := pw_le_p10 zs.length
    have h6 := p10_mono (m := 10 * zs.length) (n := 10 * zs.length + 1) (by omega)
    have h9 := wdec_len hd (m := 10 * zs.length + 1) (by omega) (by omega)
    rw [strOfNums_size]
    omega
  have MA := hide (minus_ahead ds)
  clear hd
  go_wp2
  refine bodyPost_ret (v := .string (strOfNums (45 :: ds))) ?_ rfl ⟨ds, rfl, HD.out, Z.out⟩
  simp [results, Try.results49, go_sem, MA.out]

set_option maxRecDepth 20000 in
set_option maxHeartbeats 400000 in
theorem wtext_pos (w : World) (ng : Bool) (ao : Option Addr) (n cap : Nat) (zs : List Int) (h : Sl w (.slice ao n cap) zs) (hz : zs.length ≤ 1000000) (hpos : ¬ sg ng (val zs) < 0) :
    Calls Try.prog 49 #[.agg #[.bool ng, .slice ao n cap]] w fun e w' => ∃ ds, e = .returned (.string (strOfNums ds)) ∧ IsDec ds (val zs) ∧ Below w.heap.size w w' := by
  obtain ⟨w0, e0, bx, hb0, hs0⟩ := boxed0 w ng (.slice ao n cap)
  have E0 := hide e0
  have h0 := h.below hb0
  obtain ⟨s, hs, hs1⟩ : ∃ s, Int.sign (sg ng (val zs)) = s ∧ ¬ s < 0 := ⟨_, rfl, by
    intro h9
    have h8 := Int.sign_eq_neg_one_iff_neg.1 (show Int.sign (sg ng (val zs)) = -1 by have := sign_three' (sg ng (val zs)); omega)
    omega⟩
  have ks := wsign_any w0 ng ao n cap zs h0 hz
  rw [hs] at ks
  have KS := hide ks
  clear e0 hs0 ks hpos hs
  go_enter Try.func49, Try.ntmps49
  go_wp2_with fail
  rw [E0.out]
  refine (KS.out).mono ?_
  rintro e w1 ⟨rfl, hb1⟩
  obtain ⟨xa, xb, xc, xd⟩ := (bx.below hb1).facts
  have h1 := h0.below hb1
  go_wp2_with fail
  refine (text_any _ _ _ _ zs h1 hz).mono ?_
  rintro e w2 ⟨ds, rfl, hd, hb2⟩
  have Z := hide (hb0.trans ((hb1.trans (hb2.mono hb1.size)).mono hb0.size))
  have HD := hide hd
  clear hd
  go_wp2
  go_ret
  exact ⟨ds, rfl, HD.out, Z.out⟩

end Lm
end Go.Proofs.Ytkdcgnooeojjgac
