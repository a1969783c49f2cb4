/-
  The contract of divideLong.
-/
import Derived.Test.YtjhhjefobbhdlaaLongA
import Derived.Deep.QuietTactic
import Derived.BigQuiet
import Derived.Deep.RegionWith
namespace Go.Proofs.Ytjhhjefobbhdlaa
namespace Lm
open Go.RowKit

set_option maxRecDepth 20000 in
set_option maxHeartbeats 2000000 in
theorem divideLong_any (w : World) (a1 a2 : Option Addr) (n1 n2 c1 c2 : Nat) (xs ys : List Int) (hx : Sl w (.slice a1 n1 c1) xs) (hy : Sl w (.slice a2 n2 c2) ys) (hm1 : xs.length ≤ 500000) (h2 : 2 ≤ ys.length) (hle : ys.length ≤ xs.length) (hcan : Canon ys) :
    Calls Try.prog 83 #[.slice a1 n1 c1, .slice a2 n2 c2] w fun e w' => ∃ v1 v2, e = .returned (.tuple #[v1, v2]) ∧ Is w.heap.size w' v1 (val xs / val ys) ∧ Is w.heap.size w' v2 (val xs % val ys) ∧ Sep v1 v2 ∧ Below w.heap.size w w' := by
  obtain ⟨rfl, x1, x2, x3⟩ := hx.parts
  obtain ⟨hyl, y1, y2, y3⟩ := hy.parts
  obtain ⟨n, hn⟩ : ∃ n, ys.length = n + 2 := ⟨ys.length - 2, by omega⟩
  have e2 : n2 = n + 2 := by omega
  subst e2
  obtain ⟨b, off, rfl, hc⟩ := hy.cells (by omega)
  have hcell := hc (n + 1) (by omega)
  have hlb := limb_getD y3 (n + 1)
  have hpos : 0 < ys.getD (n + 1) 0 := by
    have : ys.getD (n + 1) 0 ≠ 0 := fun h0 => by
      have := tl_le_of_zero (zs := ys) (n := n + 1) (by have := tl_le ys; omega) h0
      have := hcan.2
      omega
    omega
  have hbits := bitLen_bits (ys.getD (n + 1) 0).toNat (by omega)
  rw [Int.toNat_of_nonneg hlb.1] at hbits
  have hl32 : Lib.bitLen (ys.getD (n + 1) 0).toNat ≤ 32 := Lib.bitLen_le _ 32 (by omega) (by omega)
  have hl0 := isBits_pos hbits hpos
  obtain ⟨s, hs⟩ : ∃ s : Nat, s + Lib.bitLen (ys.getD (n + 1) 0).toNat = 32 := ⟨32 - Lib.bitLen (ys.getD (n + 1) 0).toNat, by omega⟩
  have NV := hide (norm_val (bits_top hcan hn hbits hpos) hl0 hs)
  have kl : Hid (∀ w : World, Calls Try.prog 91 #[.int .u32 (ys.getD (n + 1) 0)] w fun e w' => e = .returned (.int .i64 (s : Nat)) ∧ w' = w) := by
    intro w
    have h9 := lead_any (ys.getD (n + 1) 0) w hlb.1 hlb.2
    rwa [show (32 - ((Lib.bitLen (ys.getD (n + 1) 0).toNat : Nat) : Int)) = (s : Nat) by omega] at h9
  have hs31 : s ≤ 31 := by omega
  have YL := hide (show pw (n + 1) ≤ val ys by
    have h9 := canon_low hcan (by intro e; subst e; simp at h2)
    rwa [hn] at h9)
  have HN := hide hn
  have X3 := hide x3
  have hxn : n + 2 ≤ xs.length := by omega
  obtain ⟨m, hm2, hm3⟩ : ∃ m, m + n + 1 ≤ xs.length ∧ xs.length ≤ m + n + 1 := ⟨xs.length - (n + 1), by omega, by omega⟩
  generalize ys.getD (n + 1) 0 = top at hcell hlb hpos kl
  obtain ⟨i0, hi, hz0, hz1, hz2⟩ := info_parts info32
  clear hs hl0 hl32 hbits hc y3 hyl hcan h2 hle hn x3
  go_enter Try.func83, Try.ntmps83
  go_wp2_with fail
  refine (kl.out _).mono ?_
  rintro e w' ⟨rfl, rfl⟩
  go_wp2_with fail
  refine (moveUp_any _ _ _ _ xs hx s hs31 (by omega)).mono ?_
  rintro e w1 ⟨cur0, O, rfl, hO, hOl, hOv, hOh, hOs, hOa, hb1⟩
  have hy1 := hy.below hb1
  have O1 := hide hO
  have O2 := hide hOl
  have O3 := hide hOv
  have O4 := hide hOh
  have O5 := hide hOs
  have O6 := hide hOa
  clear hO hOl hOv hOh hOs hOa
  go_wp2_with fail
  refine (moveUp_any _ _ _ _ ys hy1 s hs31 (by have := HN.out; omega)).mono ?_
  rintro e w2 ⟨curY, Y1, rfl, hY, hYl, hYv, hYh, hYs, hYa, hb2⟩
  have Q1 := hide hY
  have Q2 := hide hYl
  have Q3 := hide hYv
  have Q4 := hide hYh
  have Q5 := hide hYs
  have Q6 := hide hYa
  clear hY hYl hYv hYh hYs hYa
  go_wp2_with (refine wpList_make_full _ rfl (.tmp 34) (.tmp 34) 22 rfl w2.heap.size 51 i0 (.int .u32 0) 1 Try.underlying22 hi hz0 hz1 .i64 .i64 _ _ m rfl rfl (by omega) (by omega) (by rw [hz2]; omega) (by unfold maxLen; omega) (Nat.le_refl _) ?hK)
  case hK =>
    intro w3 hown hgrow
    obtain ⟨_, d0, hh, hds, hat⟩ := block_of_made hown
    have hb3 : Below w2.heap.size w2 w3 := (Below.refl w2.heap.size w2).grown hgrow (Nat.le_refl _) (by simp)
    have s1 := lt_of_heap O4.out
    have s2 := lt_of_heap Q4.out
    have s3 := lt_of_heap hh
    have hU : Hid (val (Y1.take (n + 2)) = val ys * p2 s ∧ (Y1.take (n + 2)).length = n + 2 ∧ Limb (Y1.take (n + 2)) ∧ At curY .u32 0 (Y1.take (n + 2))) := by
      have h9 := top_zero Q1.out Q2.out (by rw [Q3.out]; exact NV.out.1)
      exact ⟨by rw [h9.1, Q3.out], by rw [List.length_take, Q2.out]; omega, limb_take Q1.out _, Q6.out.take _⟩
    generalize Y1.take (n + 2) = Y at hU
    have htop : Hid (2147483648 ≤ Y.getD (n + 1) 0) := norm_top hU.out.2.2.1 hU.out.2.1 (by rw [hU.out.1]; exact NV.out.2)
    have U3 : Hid (w3.heap[w1.heap.size]? = some (.cells curY 51 (0, 0))) := (hb3.block _ s2).trans Q4.out
    have hne : w'.heap.size ≠ w2.heap.size := by omega
    have hne2 : w1.heap.size ≠ w2.heap.size := by omega
    have hne3 : w1.heap.size ≠ w'.heap.size := by omega
    have hstart : Hid (Dv w3 w3 w'.heap.size w2.heap.size xs.length m n (val ys * p2 s) (val xs * p2 s) m (O.take m) (O.drop m) [] [] cur0 d0) := by
      have hp := p2_pos s
      have e9 : w3.heap[w'.heap.size]? = some (.cells cur0 51 (0, 0)) := (hb3.block _ (by omega)).trans ((hb2.block _ s1).trans O4.out)
      refine ⟨⟨rfl, rfl, rfl, rfl, e9, hh, fun _ _ _ => rfl⟩, O5.out, hds, ?_, ?_, ?_, ?_, by simp, limb_take O1.out _, limb_drop O1.out _, limb_nil, ?_, ?_⟩
      · rw [List.take_append_drop, List.append_nil]; exact O6.out
      · rw [List.append_nil]; exact hat
      · have := O2.out; rw [List.length_take]; omega
      · have := O2.out; rw [List.length_drop]; omega
      · have h8 : val xs * p2 s < pw xs.length * p2 s := Int.mul_lt_mul_of_pos_right (val_bounds X3.out).2 (by omega)
        rw [show xs.length = m + (n + 1) by omega, pw_add, Int.mul_assoc] at h8
        have h9 := long_start (m := m) (n := n) (P := p2 s) O1.out (by have := O2.out; omega) (by rw [O3.out]; exact h8)
        have h10 : pw (n + 1) * p2 s ≤ val ys * p2 s := Int.mul_le_mul_of_nonneg_right YL.out (by omega)
        omega
      · have h9 := val_append (O.take m) (O.drop m)
        rw [List.take_append_drop, List.length_take, Nat.min_eq_left (by have := O2.out; omega), O3.out] at h9
        rw [h9]
        simp [val]
    clear hown hgrow hh hds hat
    go_wp2
    go_loopw [10] (fun i wr => ∃ (k : Nat) (lo W rest Q : List Int) (cur d : Array Value), k ≤ m ∧ i = .int .i64 ((k : Int) - 1) ∧ Dv w3 wr w'.heap.size w2.heap.size xs.length m n (val ys * p2 s) (val xs * p2 s) k lo W rest Q cur d) (fun i _ => (intOf i + 1).toNat)
    case atStart => exact ⟨m, _, _, _, _, _, _, Nat.le_refl _, by first | rfl | (congr 1; omega), hstart.out⟩
    case round =>
      obtain ⟨k, lo, W, rest, Q, cur, d, hk, rfl, hD⟩ := hrel
      have D := hide hD
      clear hD
      cases k with
      | zero =>
        have hlo : lo = [] := List.eq_nil_of_length_eq_zero D.out.lol
        subst hlo
        have hatQ : At d .u32 0 Q := by simpa using D.out.atd
        have hatW : At cur .u32 0 W := at_mid (A := []) D.out.atc
        have hQm : Q.length = m := by have := D.out.ql; omega
        have hp := p2_pos s
        have hend : val xs / val ys = val Q ∧ val xs % val ys = val W / p2 s := by
          have h9 := D.out.inv
          simp only [val, pw, Int.one_mul, Int.zero_add] at h9
          have h8 := pw_pos (n + 1)
          exact long_end (by omega) (by have := YL.out; omega) h9 (val_bounds D.out.liW).1 D.out.low
        have hbel : Below w'.heap.size w' wr := hb1.trans ((hb2.mono hb1.size).trans ((hb3.mono (by omega)).trans (D.out.two.below (by omega) (by omega))))
        have how : Ow w'.heap.size wr (.slice (some ⟨w2.heap.size, 0, none⟩) m m) Q :=
          ⟨_, m, by rw [hQm], by omega, by unfold maxLen; omega, D.out.liQ, .inr ⟨_, 0, _, rfl, by omega, D.out.two.there, by rw [D.out.dsz]; omega, hatQ⟩⟩
        have his := hide (how.is_cut (x := val xs / val ys) hend.1.symm)
        have hWs : Sl wr (.slice (some ⟨w'.heap.size, 0, none⟩) (n + 2) (xs.length + 1)) W := sl_of_at D.out.two.here hatW D.out.liW D.out.wl (by omega) (by unfold maxLen; omega)
        have HE := hide hend.2
        have hWl : W.length ≤ 1000000 := by have := D.out.wl; omega
        have ht := tl_le Q
        have htm : tl Q ≤ m := by omega
        have HO := hide how
        clear hend hatQ hatW hQm how ht
        go_wp2
        go_region_with (first
          | (go_at_call 69; refine (cut_any _ _ _ _ Q (HO.out.sl.below (by repeat (first | exact Below.refl _ _ | refine Below.drew ?_)))).mono ?_; rintro e wc ⟨rfl, rfl⟩)
          | (go_at_call 96; refine (moveDown_any _ _ _ _ W (hWs.below (by repeat (first | exact Below.refl _ _ | refine Below.drew ?_))) s hs31 hWl).mono ?_; rintro e wd ⟨vd, rfl, hi, hbd⟩))
        all_goals
          have hbd' := (show Below wr.heap.size wr _ by repeat (first | exact Below.refl _ _ | refine Below.drew ?_)).trans hbd
          have his' := his.out.below hbd'
          have hi' := hi.mono (B' := wr.heap.size) (by first | exact Nat.le_refl _ | simp)
          clear hbd hi
          go_wp2
          go_ret2
          obtain ⟨q1, q2, q3, q4⟩ := his.out
          obtain ⟨s1, s2, s3, s4⟩ := hi'
          exact ⟨_, _, rfl, his', ⟨s1, s2.mono hbel.size, s3, by rw [s4, HE.out]⟩, sep_of q2 s2 (Nat.le_refl _), hbel.trans (hbd'.mono hbel.size)⟩
      | succ k =>
        obtain ⟨lo', x, hlo, hll⟩ := split_last D.out.lol
        subst hlo
        have LL := hide hll
        have MD := hide (D.out.mid hll)
        clear hll
        have hxW : (x :: W).length = n + 2 + 1 := by have := D.out.wl; simp; omega
        have hPU : val (x :: W) < 4294967296 * (val ys * p2 s) := part_lt ((limb_cons.1 MD.out.2).1.2) D.out.low
        have e0 : k + (n + 2) + 1 - k = n + 2 + 1 := by omega
        have hYsl : ∀ wq cq, Wr wr wq w'.heap.size cq 51 → Sl wq (.slice (some ⟨w1.heap.size, 0, none⟩) (n + 2) (n + 2 + 1)) Y := by
          intro wq cq hq
          refine sl_of_at (cur := curY) ?_ hU.out.2.2.2 hU.out.2.2.1 hU.out.2.1 (by omega) (by unfold maxLen; omega)
          rw [hq.other _ hne3, D.out.two.other _ hne3 hne2]
          exact U3.out
        have hup : (x :: W).getD (n + 2) 0 ≤ Y.getD (n + 1) 0 := by
          have h9 := top_le (n := n + 1) D.out.liW hU.out.2.2.1 D.out.wl hU.out.2.1 (by rw [hU.out.1]; exact D.out.low)
          simpa using h9
        have kg : Hid (Calls Try.prog 93 #[.slice (some ⟨w'.heap.size, k, none⟩) (k + (n + 2) + 1 - k) (xs.length + 1 - k), .slice (some ⟨w1.heap.size, 0, none⟩) (n + 2) (n + 2 + 1)] wr fun e wz => ∃ g : Int, e = .returned (.int .u32 g) ∧ (0 ≤ g ∧ g < 4294967296) ∧ (val (x :: W) < (g + 1) * (val ys * p2 s) ∧ (g - 1) * (val ys * p2 s) ≤ val (x :: W)) ∧ ∃ q, wz = wr.drewN q) := by
          rw [e0]
          refine (guess_any wr _ _ n _ _ (x :: W) Y (sl_of_at D.out.two.here MD.out.1 MD.out.2 hxW (by omega) (by unfold maxLen; omega)) (hYsl _ _ (Wr.refl D.out.two.here)) htop.out hup).mono ?_
          rintro e wq ⟨g, rfl, hg, hA, hB, hq⟩
          exact ⟨g, rfl, hg, guess_near MD.out.2 hU.out.2.2.1 hxW hU.out.2.1 rfl hU.out.1 (by have := htop.out; omega) hPU hg hA hB, hq⟩
        have kt : Hid (∀ q g, 0 ≤ g ∧ g < 4294967296 → Calls Try.prog 94 #[.slice (some ⟨w'.heap.size, k, none⟩) (k + (n + 2) + 1 - k) (xs.length + 1 - k), .slice (some ⟨w1.heap.size, 0, none⟩) (n + 2) (n + 2 + 1), .int .u32 g] (wr.drewN q) fun e wz => ∃ qs b cur', e = .returned (.bool (b != 0)) ∧ (0 ≤ b ∧ b ≤ 1) ∧ val qs - pw (n + 2 + 1) * b = val (x :: W) - g * val Y ∧ Limb qs ∧ qs.length = n + 2 + 1 ∧ Wr (wr.drewN q) wz w'.heap.size cur' 51 ∧ cur'.size = cur.size ∧ At cur' .u32 k qs ∧ (∀ i, i < k ∨ k + (n + 2 + 1) ≤ i → cur'[i]? = cur[i]?)) := by
          intro q g hg
          rw [e0]
          exact takeTimes_any (wr.drewN q) _ k (n + 2) _ _ cur (x :: W) Y _ g hg (D.out.two.drewN q).here MD.out.1 MD.out.2 hxW (by omega) (fun wq cq hq => hYsl wq cq ⟨hq.os, hq.tape, hq.output, hq.size, hq.here, hq.other⟩)
        have kb : Hid (∀ (wq : World) (cq : Array Value) (ps : List Int), Wr wr wq w'.heap.size cq 51 → At cq .u32 k ps → Limb ps → ps.length = n + 2 + 1 → Calls Try.prog 95 #[.slice (some ⟨w'.heap.size, k, none⟩) (k + (n + 2) + 1 - k) (xs.length + 1 - k), .slice (some ⟨w1.heap.size, 0, none⟩) (n + 2) (n + 2 + 1)] wq fun e wz => ∃ qs c cur', e = .returned (.tuple #[]) ∧ (0 ≤ c ∧ c ≤ 1) ∧ val qs + pw (n + 2 + 1) * c = val ps + val Y ∧ Limb qs ∧ qs.length = n + 2 + 1 ∧ Wr wq wz w'.heap.size cur' 51 ∧ cur'.size = cq.size ∧ At cur' .u32 k qs ∧ (∀ i, i < k ∨ k + (n + 2 + 1) ≤ i → cur'[i]? = cq[i]?)) := by
          intro wq cq ps hq ha hp hl
          rw [e0]
          exact addBack_any wq _ k (n + 2) _ _ cq ps Y _ hq.here ha hp hl (by omega) (fun wz cz hz => hYsl wz cz (hq.trans hz))
        clear hxW hPU e0 hYsl hup
        go_wp2_with fail
        refine (kg.out).mono ?_
        rintro e w4 ⟨g, rfl, hg, hnear, q1, rfl⟩
        have NR := hide hnear
        clear hnear
        go_wp2_with fail
        refine (kt.out q1 g hg).mono ?_
        rintro e w5 ⟨qs, bo, cur', rfl, hbo, hv, hq, hql, hwr, hcs, hat, hout⟩
        have V1 := hide hv
        have V2 := hide hq
        have V3 := hide hql
        have V4 := hide hwr
        have V5 := hide hcs
        have V6 := hide hat
        have V7 := hide hout
        clear hv hq hql hwr hcs hat hout
        have hqb : Hid (0 ≤ val qs ∧ val qs < pw (n + 2 + 1)) := by
          have h9 := val_bounds V2.out
          rwa [V3.out] at h9
        have hU0 : Hid (0 < val ys * p2 s ∧ val ys * p2 s < pw (n + 2 + 1) ∧ val ys * p2 s ≤ pw (n + 2)) := by
          have h9 := NV.out
          have h8 := pw_mono (m := n + 2) (n := n + 2 + 1) (by omega)
          have h7 := pw_pos (n + 1)
          exact ⟨by omega, by omega, by omega⟩
        have V8 : Hid (val qs - pw (n + 2 + 1) * bo = val (x :: W) - g * (val ys * p2 s)) := by rw [← hU.out.1]; exact V1.out
        by_cases hb0 : bo = 0
        · have two := hide ((D.out.two.drewN q1).left hne.symm V4.out)
          have near := (rest_near (A2 := 0) (c := 0) hU0.out.1 hU0.out.2.1 NR.out.1 NR.out.2 hqb.out hbo V8.out).1 hb0
          have ST := hide (D.out.step LL.out hne two.out V5.out V6.out V7.out V2.out V3.out hU0.out.2.2 near.2.1 near.2.2 hg)
          have hcq := D.out.atd.cell two.out.there k (by have := D.out.ql; simp; omega)
          rw [Nat.zero_add] at hcq
          generalize (List.replicate (k + 1) (0 : Int) ++ Q).getD k 0 = old at hcq
          have hfree := (Wr.refl two.out.there).free k
          clear near
          subst hb0
          go_wp2
          go_roundw
          case rel => exact ⟨k, _, _, _, _, _, _, by omega, by first | rfl | go_num, ST.out⟩
          case measure => simp [intOf]
        · have hb1' : bo = 1 := by omega
          subst hb1'
          have hg1 : 1 ≤ g := by
            apply Classical.byContradiction
            intro hn
            have h9 := V8.out
            have h8 := hqb.out
            have h7 := (val_bounds MD.out.2).1
            rw [show g = 0 by omega, Int.zero_mul, Int.mul_one] at h9
            omega
          have KB := hide (kb.out w5 cur' qs ⟨V4.out.os, V4.out.tape, V4.out.output, V4.out.size, V4.out.here, V4.out.other⟩ V6.out V2.out V3.out)
          go_wp2_with fail
          refine (KB.out).mono ?_
          rintro e w6 ⟨q2, c, cur2, rfl, hc, hv, hq, hql, hwr, hcs, hat, hout⟩
          have hq2 : 0 ≤ val q2 ∧ val q2 < pw (n + 2 + 1) := by
            have h9 := val_bounds hq
            rwa [hql] at h9
          have two := hide (((D.out.two.drewN q1).left hne.symm V4.out).left hne.symm hwr)
          have near := (rest_near (A2 := val q2) (c := c) hU0.out.1 hU0.out.2.1 NR.out.1 NR.out.2 hqb.out hbo V8.out).2 rfl hq2 hc (by rw [← hU.out.1]; exact hv)
          have ST := hide (D.out.step LL.out hne two.out (hcs.trans V5.out) hat (fun i hi => (hout i hi).trans (V7.out i hi)) hq hql hU0.out.2.2 near.2.1 near.2.2 (by omega))
          have hcq := D.out.atd.cell two.out.there k (by have := D.out.ql; simp; omega)
          rw [Nat.zero_add] at hcq
          generalize (List.replicate (k + 1) (0 : Int) ++ Q).getD k 0 = old at hcq
          have hfree := (Wr.refl two.out.there).free k
          clear near hq2 hv hq hql hwr hcs hat hout
          go_wp2
          go_roundw
          case rel => exact ⟨k, _, _, _, _, _, _, by omega, by first | rfl | go_num, ST.out⟩
          case measure => simp [intOf]

end Lm
end Go.Proofs.Ytjhhjefobbhdlaa
