/-
  The contract of divideLong. The contract of DivMod, for every divisor. LimbsDivides answers true, whatever two lists of limbs it is handed. The given statement on LimbsDivides, for every input: the call answers true, and each argument reads behind it as it read before. No condition beyond the statement's own.
-/
import Derived.Test.YthbomfboohjcfaaDvdsLawM48
import Derived.Deep.QuietTactic
import Derived.BigQuiet
import Derived.Deep.RegionWith
import Derived.Test.YthbomfboohjcfaaProds
import Derived.Test.YthbomfboohjcfaaDvdsLawM47
import Derived.Test.YthbomfboohjcfaaRows
import Derived.ProofKit
import Derived.OpenShut
import Derived.ShutString
import Derived.ChangeOld
import Derived.SizedLaws
namespace Go.Proofs.Ythbomfboohjcfaa
namespace Lm
open Go.RowKit

set_option maxRecDepth 20000 in
set_option maxHeartbeats 2000000 in
theorem divideLong_any (w : World) (a1 a2 : Option Addr) (n1 n2 c1 c2 : Nat) (xs ys : List Int) (hx : Sl w (.slice a1 n1 c1) xs) (hy : Sl w (.slice a2 n2 c2) ys) (hm1 : xs.length ≤ 500000) (h2 : 2 ≤ ys.length) (hle : ys.length ≤ xs.length) (hcan : Canon ys) :
    Calls Try.prog 54 #[.slice a1 n1 c1, .slice a2 n2 c2] w fun e w' => ∃ v1 v2, e = .returned (.tuple #[v1, v2]) ∧ Is w.heap.size w' v1 (val xs / val ys) ∧ Is w.heap.size w' v2 (val xs % val ys) ∧ Sep v1 v2 ∧ Below w.heap.size w w' := by
  obtain ⟨rfl, x1, x2, x3⟩ := hx.parts
  obtain ⟨hyl, y1, y2, y3⟩ := hy.parts
  obtain ⟨n, hn⟩ : ∃ n, ys.length = n + 2 := ⟨ys.length - 2, by omega⟩
  have e2 : n2 = n + 2 := by omega
  subst e2
  obtain ⟨b, off, rfl, hc⟩ := hy.cells (by omega)
  have hcell := hc (n + 1) (by omega)
  have hlb := limb_getD y3 (n + 1)
  have hpos : 0 < ys.getD (n + 1) 0 := by
    have : ys.getD (n + 1) 0 ≠ 0 := fun h0 => by
      have := tl_le_of_zero (zs := ys) (n := n + 1) (by have := tl_le ys; omega) h0
      have := hcan.2
      omega
    omega
  have hbits := bitLen_bits (ys.getD (n + 1) 0).toNat (by omega)
  rw [Int.toNat_of_nonneg hlb.1] at hbits
  have hl32 : Lib.bitLen (ys.getD (n + 1) 0).toNat ≤ 32 := Lib.bitLen_le _ 32 (by omega) (by omega)
  have hl0 := isBits_pos hbits hpos
  obtain ⟨s, hs⟩ : ∃ s : Nat, s + Lib.bitLen (ys.getD (n + 1) 0).toNat = 32 := ⟨32 - Lib.bitLen (ys.getD (n + 1) 0).toNat, by omega⟩
  have NV := hide (norm_val (bits_top hcan hn hbits hpos) hl0 hs)
  have kl : Hid (∀ w : World, Calls Try.prog 74 #[.int .u32 (ys.getD (n + 1) 0)] w fun e w' => e = .returned (.int .i64 (s : Nat)) ∧ w' = w) := by
    intro w
    have h9 := lead_any (ys.getD (n + 1) 0) w hlb.1 hlb.2
    rwa [show (32 - ((Lib.bitLen (ys.getD (n + 1) 0).toNat : Nat) : Int)) = (s : Nat) by omega] at h9
  have hs31 : s ≤ 31 := by omega
  have YL := hide (show pw (n + 1) ≤ val ys by
    have h9 := canon_low hcan (by intro e; subst e; simp at h2)
    rwa [hn] at h9)
  have HN := hide hn
  have X3 := hide x3
  have hxn : n + 2 ≤ xs.length := by omega
  obtain ⟨m, hm2, hm3⟩ : ∃ m, m + n + 1 ≤ xs.length ∧ xs.length ≤ m + n + 1 := ⟨xs.length - (n + 1), by omega, by omega⟩
  generalize ys.getD (n + 1) 0 = top at hcell hlb hpos kl
  obtain ⟨i0, hi, hz0, hz1, hz2⟩ := info_parts info32
  clear hs hl0 hl32 hbits hc y3 hyl hcan h2 hle hn x3
  go_enter Try.func54, Try.ntmps54
  go_wp2_with fail
  refine (kl.out _).mono ?_
  rintro e w' ⟨rfl, rfl⟩
  go_wp2_with fail
  refine (moveUp_any _ _ _ _ xs hx s hs31 (by omega)).mono ?_
  rintro e w1 ⟨cur0, O, rfl, hO, hOl, hOv, hOh, hOs, hOa, hb1⟩
  have hy1 := hy.below hb1
  have O1 := hide hO
  have O2 := hide hOl
  have O3 := hide hOv
  have O4 := hide hOh
  have O5 := hide hOs
  have O6 := hide hOa
  clear hO hOl hOv hOh hOs hOa
  go_wp2_with fail
  refine (moveUp_any _ _ _ _ ys hy1 s hs31 (by have := HN.out; omega)).mono ?_
  rintro e w2 ⟨curY, Y1, rfl, hY, hYl, hYv, hYh, hYs, hYa, hb2⟩
  have Q1 := hide hY
  have Q2 := hide hYl
  have Q3 := hide hYv
  have Q4 := hide hYh
  have Q5 := hide hYs
  have Q6 := hide hYa
  clear hY hYl hYv hYh hYs hYa
  go_wp2_with (refine wpList_make_full _ rfl (.tmp 34) (.tmp 34) 22 rfl w2.heap.size 47 i0 (.int .u32 0) 1 Try.underlying22 hi hz0 hz1 .i64 .i64 _ _ m rfl rfl (by omega) (by omega) (by rw [hz2]; omega) (by unfold maxLen; omega) (Nat.le_refl _) ?hK)
  case hK =>
    intro w3 hown hgrow
    obtain ⟨_, d0, hh, hds, hat⟩ := block_of_made hown
    have hb3 : Below w2.heap.size w2 w3 := (Below.refl w2.heap.size w2).grown hgrow (Nat.le_refl _) (by simp)
    have s1 := lt_of_heap O4.out
    have s2 := lt_of_heap Q4.out
    have s3 := lt_of_heap hh
    have hU : Hid (val (Y1.take (n + 2)) = val ys * p2 s ∧ (Y1.take (n + 2)).length = n + 2 ∧ Limb (Y1.take (n + 2)) ∧ At curY .u32 0 (Y1.take (n + 2))) := by
      have h9 := top_zero Q1.out Q2.out (by rw [Q3.out]; exact NV.out.1)
      exact ⟨by rw [h9.1, Q3.out], by rw [List.length_take, Q2.out]; omega, limb_take Q1.out _, Q6.out.take _⟩
    generalize Y1.take (n + 2) = Y at hU
    have htop : Hid (2147483648 ≤ Y.getD (n + 1) 0) := norm_top hU.out.2.2.1 hU.out.2.1 (by rw [hU.out.1]; exact NV.out.2)
    have U3 : Hid (w3.heap[w1.heap.size]? = some (.cells curY 47 (0, 0))) := (hb3.block _ s2).trans Q4.out
    have hne : w'.heap.size ≠ w2.heap.size := by omega
    have hne2 : w1.heap.size ≠ w2.heap.size := by omega
    have hne3 : w1.heap.size ≠ w'.heap.size := by omega
    have hstart : Hid (Dv w3 w3 w'.heap.size w2.heap.size xs.length m n (val ys * p2 s) (val xs * p2 s) m (O.take m) (O.drop m) [] [] cur0 d0) := by
      have hp := p2_pos s
      have e9 : w3.heap[w'.heap.size]? = some (.cells cur0 47 (0, 0)) := (hb3.block _ (by omega)).trans ((hb2.block _ s1).trans O4.out)
      refine ⟨⟨rfl, rfl, rfl, rfl, e9, hh, fun _ _ _ => rfl⟩, O5.out, hds, ?_, ?_, ?_, ?_, by simp, limb_take O1.out _, limb_drop O1.out _, limb_nil, ?_, ?_⟩
      · rw [List.take_append_drop, List.append_nil]; exact O6.out
      · rw [List.append_nil]; exact hat
      · have := O2.out; rw [List.length_take]; omega
      · have := O2.out; rw [List.length_drop]; omega
      · have h8 : val xs * p2 s < pw xs.length * p2 s := Int.mul_lt_mul_of_pos_right (val_bounds X3.out).2 (by omega)
        rw [show xs.length = m + (n + 1) by omega, pw_add, Int.mul_assoc] at h8
        have h9 := long_start (m := m) (n := n) (P := p2 s) O1.out (by have := O2.out; omega) (by rw [O3.out]; exact h8)
        have h10 : pw (n + 1) * p2 s ≤ val ys * p2 s := Int.mul_le_mul_of_nonneg_right YL.out (by omega)
        omega
      · have h9 := val_append (O.take m) (O.drop m)
        rw [List.take_append_drop, List.length_take, Nat.min_eq_left (by have := O2.out; omega), O3.out] at h9
        rw [h9]
        simp [val]
    clear hown hgrow hh hds hat
    go_wp2
    go_loopw [10] (fun i wr => ∃ (k : Nat) (lo W rest Q : List Int) (cur d : Array Value), k ≤ m ∧ i = .int .i64 ((k : Int) - 1) ∧ Dv w3 wr w'.heap.size w2.heap.size xs.length m n (val ys * p2 s) (val xs * p2 s) k lo W rest Q cur d) (fun i _ => (intOf i + 1).toNat)
    case atStart => exact ⟨m, _, _, _, _, _, _, Nat.le_refl _, by first | rfl | (congr 1; omega), hstart.out⟩
    case round =>
      obtain ⟨k, lo, W, rest, Q, cur, d, hk, rfl, hD⟩ := hrel
      have D := hide hD
      clear hD
      cases k with
      | zero =>
        have hlo : lo = [] := List.eq_nil_of_length_eq_zero D.out.lol
        subst hlo
        have hatQ : At d .u32 0 Q := by simpa using D.out.atd
        have hatW : At cur .u32 0 W := at_mid (A := []) D.out.atc
        have hQm : Q.length = m := by have := D.out.ql; omega
        have hp := p2_pos s
        have hend : val xs / val ys = val Q ∧ val xs % val ys = val W / p2 s := by
          have h9 := D.out.inv
          simp only [val, pw, Int.one_mul, Int.zero_add] at h9
          have h8 := pw_pos (n + 1)
          exact long_end (by omega) (by have := YL.out; omega) h9 (val_bounds D.out.liW).1 D.out.low
        have hbel : Below w'.heap.size w' wr := hb1.trans ((hb2.mono hb1.size).trans ((hb3.mono (by omega)).trans (D.out.two.below (by omega) (by omega))))
        have how : Ow w'.heap.size wr (.slice (some ⟨w2.heap.size, 0, none⟩) m m) Q :=
          ⟨_, m, by rw [hQm], by omega, by unfold maxLen; omega, D.out.liQ, .inr ⟨_, 0, _, rfl, by omega, D.out.two.there, by rw [D.out.dsz]; omega, hatQ⟩⟩
        have his := hide (how.is_cut (x := val xs / val ys) hend.1.symm)
        have hWs : Sl wr (.slice (some ⟨w'.heap.size, 0, none⟩) (n + 2) (xs.length + 1)) W := sl_of_at D.out.two.here hatW D.out.liW D.out.wl (by omega) (by unfold maxLen; omega)
        have HE := hide hend.2
        have hWl : W.length ≤ 1000000 := by have := D.out.wl; omega
        have ht := tl_le Q
        have htm : tl Q ≤ m := by omega
        have HO := hide how
        clear hend hatQ hatW hQm how ht
        go_wp2
        go_region_with (first
          | (go_at_call 38; refine (cut_any _ _ _ _ Q (HO.out.sl.below (by repeat (first | exact Below.refl _ _ | refine Below.drew ?_)))).mono ?_; rintro e wc ⟨rfl, rfl⟩)
          | (go_at_call 60; refine (moveDown_any _ _ _ _ W (hWs.below (by repeat (first | exact Below.refl _ _ | refine Below.drew ?_))) s hs31 hWl).mono ?_; rintro e wd ⟨vd, rfl, hi, hbd⟩))
        all_goals
          have hbd' := (show Below wr.heap.size wr _ by repeat (first | exact Below.refl _ _ | refine Below.drew ?_)).trans hbd
          have his' := his.out.below hbd'
          have hi' := hi.mono (B' := wr.heap.size) (by first | exact Nat.le_refl _ | simp)
          clear hbd hi
          go_wp2
          go_ret2
          obtain ⟨q1, q2, q3, q4⟩ := his.out
          obtain ⟨s1, s2, s3, s4⟩ := hi'
          exact ⟨_, _, rfl, his', ⟨s1, s2.mono hbel.size, s3, by rw [s4, HE.out]⟩, sep_of q2 s2 (Nat.le_refl _), hbel.trans (hbd'.mono hbel.size)⟩
      | succ k =>
        obtain ⟨lo', x, hlo, hll⟩ := split_last D.out.lol
        subst hlo
        have LL := hide hll
        have MD := hide (D.out.mid hll)
        clear hll
        have hxW : (x :: W).length = n + 2 + 1 := by have := D.out.wl; simp; omega
        have hPU : val (x :: W) < 4294967296 * (val ys * p2 s) := part_lt ((limb_cons.1 MD.out.2).1.2) D.out.low
        have e0 : k + (n + 2) + 1 - k = n + 2 + 1 := by omega
        have hYsl : ∀ wq cq, Wr wr wq w'.heap.size cq 47 → Sl wq (.slice (some ⟨w1.heap.size, 0, none⟩) (n + 2) (n + 2 + 1)) Y := by
          intro wq cq hq
          refine sl_of_at (cur := curY) ?_ hU.out.2.2.2 hU.out.2.2.1 hU.out.2.1 (by omega) (by unfold maxLen; omega)
          rw [hq.other _ hne3, D.out.two.other _ hne3 hne2]
          exact U3.out
        have hup : (x :: W).getD (n + 2) 0 ≤ Y.getD (n + 1) 0 := by
          have h9 := top_le (n := n + 1) D.out.liW hU.out.2.2.1 D.out.wl hU.out.2.1 (by rw [hU.out.1]; exact D.out.low)
          simpa using h9
        have kg : Hid (Calls Try.prog 75 #[.slice (some ⟨w'.heap.size, k, none⟩) (k + (n + 2) + 1 - k) (xs.length + 1 - k), .slice (some ⟨w1.heap.size, 0, none⟩) (n + 2) (n + 2 + 1)] wr fun e wz => ∃ g : Int, e = .returned (.int .u32 g) ∧ (0 ≤ g ∧ g < 4294967296) ∧ (val (x :: W) < (g + 1) * (val ys * p2 s) ∧ (g - 1) * (val ys * p2 s) ≤ val (x :: W)) ∧ ∃ q, wz = wr.drewN q) := by
          rw [e0]
          refine (guess_any wr _ _ n _ _ (x :: W) Y (sl_of_at D.out.two.here MD.out.1 MD.out.2 hxW (by omega) (by unfold maxLen; omega)) (hYsl _ _ (Wr.refl D.out.two.here)) htop.out hup).mono ?_
          rintro e wq ⟨g, rfl, hg, hA, hB, hq⟩
          exact ⟨g, rfl, hg, guess_near MD.out.2 hU.out.2.2.1 hxW hU.out.2.1 rfl hU.out.1 (by have := htop.out; omega) hPU hg hA hB, hq⟩
        have kt : Hid (∀ q g, 0 ≤ g ∧ g < 4294967296 → Calls Try.prog 76 #[.slice (some ⟨w'.heap.size, k, none⟩) (k + (n + 2) + 1 - k) (xs.length + 1 - k), .slice (some ⟨w1.heap.size, 0, none⟩) (n + 2) (n + 2 + 1), .int .u32 g] (wr.drewN q) fun e wz => ∃ qs b cur', e = .returned (.bool (b != 0)) ∧ (0 ≤ b ∧ b ≤ 1) ∧ val qs - pw (n + 2 + 1) * b = val (x :: W) - g * val Y ∧ Limb qs ∧ qs.length = n + 2 + 1 ∧ Wr (wr.drewN q) wz w'.heap.size cur' 47 ∧ cur'.size = cur.size ∧ At cur' .u32 k qs ∧ (∀ i, i < k ∨ k + (n + 2 + 1) ≤ i → cur'[i]? = cur[i]?)) := by
          intro q g hg
          rw [e0]
          exact takeTimes_any (wr.drewN q) _ k (n + 2) _ _ cur (x :: W) Y _ g hg (D.out.two.drewN q).here MD.out.1 MD.out.2 hxW (by omega) (fun wq cq hq => hYsl wq cq ⟨hq.os, hq.tape, hq.output, hq.size, hq.here, hq.other⟩)
        have kb : Hid (∀ (wq : World) (cq : Array Value) (ps : List Int), Wr wr wq w'.heap.size cq 47 → At cq .u32 k ps → Limb ps → ps.length = n + 2 + 1 → Calls Try.prog 77 #[.slice (some ⟨w'.heap.size, k, none⟩) (k + (n + 2) + 1 - k) (xs.length + 1 - k), .slice (some ⟨w1.heap.size, 0, none⟩) (n + 2) (n + 2 + 1)] wq fun e wz => ∃ qs c cur', e = .returned (.tuple #[]) ∧ (0 ≤ c ∧ c ≤ 1) ∧ val qs + pw (n + 2 + 1) * c = val ps + val Y ∧ Limb qs ∧ qs.length = n + 2 + 1 ∧ Wr wq wz w'.heap.size cur' 47 ∧ cur'.size = cq.size ∧ At cur' .u32 k qs ∧ (∀ i, i < k ∨ k + (n + 2 + 1) ≤ i → cur'[i]? = cq[i]?)) := by
          intro wq cq ps hq ha hp hl
          rw [e0]
          exact addBack_any wq _ k (n + 2) _ _ cq ps Y _ hq.here ha hp hl (by omega) (fun wz cz hz => hYsl wz cz (hq.trans hz))
        clear hxW hPU e0 hYsl hup
        go_wp2_with fail
        refine (kg.out).mono ?_
        rintro e w4 ⟨g, rfl, hg, hnear, q1, rfl⟩
        have NR := hide hnear
        clear hnear
        go_wp2_with fail
        refine (kt.out q1 g hg).mono ?_
        rintro e w5 ⟨qs, bo, cur', rfl, hbo, hv, hq, hql, hwr, hcs, hat, hout⟩
        have V1 := hide hv
        have V2 := hide hq
        have V3 := hide hql
        have V4 := hide hwr
        have V5 := hide hcs
        have V6 := hide hat
        have V7 := hide hout
        clear hv hq hql hwr hcs hat hout
        have hqb : Hid (0 ≤ val qs ∧ val qs < pw (n + 2 + 1)) := by
          have h9 := val_bounds V2.out
          rwa [V3.out] at h9
        have hU0 : Hid (0 < val ys * p2 s ∧ val ys * p2 s < pw (n + 2 + 1) ∧ val ys * p2 s ≤ pw (n + 2)) := by
          have h9 := NV.out
          have h8 := pw_mono (m := n + 2) (n := n + 2 + 1) (by omega)
          have h7 := pw_pos (n + 1)
          exact ⟨by omega, by omega, by omega⟩
        have V8 : Hid (val qs - pw (n + 2 + 1) * bo = val (x :: W) - g * (val ys * p2 s)) := by rw [← hU.out.1]; exact V1.out
        by_cases hb0 : bo = 0
        · have two := hide ((D.out.two.drewN q1).left hne.symm V4.out)
          have near := (rest_near (A2 := 0) (c := 0) hU0.out.1 hU0.out.2.1 NR.out.1 NR.out.2 hqb.out hbo V8.out).1 hb0
          have ST := hide (D.out.step LL.out hne two.out V5.out V6.out V7.out V2.out V3.out hU0.out.2.2 near.2.1 near.2.2 hg)
          have hcq := D.out.atd.cell two.out.there k (by have := D.out.ql; simp; omega)
          rw [Nat.zero_add] at hcq
          generalize (List.replicate (k + 1) (0 : Int) ++ Q).getD k 0 = old at hcq
          have hfree := (Wr.refl two.out.there).free k
          clear near
          subst hb0
          go_wp2
          go_roundw
          case rel => exact ⟨k, _, _, _, _, _, _, by omega, by first | rfl | go_num, ST.out⟩
          case measure => simp [intOf]
        · have hb1' : bo = 1 := by omega
          subst hb1'
          have hg1 : 1 ≤ g := by
            apply Classical.byContradiction
            intro hn
            have h9 := V8.out
            have h8 := hqb.out
            have h7 := (val_bounds MD.out.2).1
            rw [show g = 0 by omega, Int.zero_mul, Int.mul_one] at h9
            omega
          have KB := hide (kb.out w5 cur' qs ⟨V4.out.os, V4.out.tape, V4.out.output, V4.out.size, V4.out.here, V4.out.other⟩ V6.out V2.out V3.out)
          go_wp2_with fail
          refine (KB.out).mono ?_
          rintro e w6 ⟨q2, c, cur2, rfl, hc, hv, hq, hql, hwr, hcs, hat, hout⟩
          have hq2 : 0 ≤ val q2 ∧ val q2 < pw (n + 2 + 1) := by
            have h9 := val_bounds hq
            rwa [hql] at h9
          have two := hide (((D.out.two.drewN q1).left hne.symm V4.out).left hne.symm hwr)
          have near := (rest_near (A2 := val q2) (c := c) hU0.out.1 hU0.out.2.1 NR.out.1 NR.out.2 hqb.out hbo V8.out).2 rfl hq2 hc (by rw [← hU.out.1]; exact hv)
          have ST := hide (D.out.step LL.out hne two.out (hcs.trans V5.out) hat (fun i hi => (hout i hi).trans (V7.out i hi)) hq hql hU0.out.2.2 near.2.1 near.2.2 (by omega))
          have hcq := D.out.atd.cell two.out.there k (by have := D.out.ql; simp; omega)
          rw [Nat.zero_add] at hcq
          generalize (List.replicate (k + 1) (0 : Int) ++ Q).getD k 0 = old at hcq
          have hfree := (Wr.refl two.out.there).free k
          clear near hq2 hv hq hql hwr hcs hat hout
          go_wp2
          go_roundw
          case rel => exact ⟨k, _, _, _, _, _, _, by omega, by first | rfl | go_num, ST.out⟩
          case measure => simp [intOf]

end Lm
end Go.Proofs.Ythbomfboohjcfaa

namespace Go.Proofs.Ythbomfboohjcfaa
namespace Lm
open Go.RowKit

set_option maxRecDepth 20000 in
set_option maxHeartbeats 1000000 in
theorem divmod_long (w : World) (a1 a2 : Option Addr) (n1 n2 c1 c2 : Nat) (xs ys : List Int) (hx : Sl w (.slice a1 n1 c1) xs) (hy : Sl w (.slice a2 n2 c2) ys) (hm1 : xs.length ≤ 500000) (hle : tl ys ≤ tl xs) (h2 : 2 ≤ tl ys) :
    Calls Try.prog 28 #[.slice a1 n1 c1, .slice a2 n2 c2] w fun e w' => ∃ v1 v2, e = .returned (.tuple #[v1, v2, .bool true]) ∧ Is w.heap.size w' v1 (val xs / val ys) ∧ Is w.heap.size w' v2 (val xs % val ys) ∧ Sep v1 v2 ∧ Below w.heap.size w w' := by
  obtain ⟨rfl, h1, _, h3⟩ := hx.parts
  obtain ⟨rfl, g1, _, g3⟩ := hy.parts
  have t1 := tl_le xs
  have t2 := tl_le ys
  have kd := divideLong_any w a1 a2 (tl xs) (tl ys) c1 c2 _ _ hx.cut hy.cut (by rw [List.length_take]; omega) (by rw [List.length_take]; omega) (by rw [List.length_take, List.length_take]; omega) (canon_trim g3)
  rw [val_take_tl, val_take_tl] at kd
  have KD := hide kd
  clear kd h3 g3
  have hne : (((tl ys : Nat) : Int) == 0) = false := by simp; omega
  have hne1 : (((tl ys : Nat) : Int) == 1) = false := by simp; omega
  go_enter Try.func28, Try.ntmps28
  go_wp2_with fail
  refine (cut_any w a1 _ c1 xs hx).mono ?_
  rintro e w' ⟨rfl, rfl⟩
  go_wp2_with fail
  refine (cut_any _ a2 _ c2 ys hy).mono ?_
  rintro e w' ⟨rfl, rfl⟩
  go_wp2_with fail
  refine (KD.out).mono ?_
  rintro e w1 ⟨v1, v2, rfl, hi1, hi2, hsep, hb⟩
  go_wp2
  go_ret3
  exact ⟨_, _, rfl, hi1, hi2, hsep, hb⟩

theorem divmod_any (w : World) (a1 a2 : Option Addr) (n1 n2 c1 c2 : Nat) (xs ys : List Int) (hx : Sl w (.slice a1 n1 c1) xs) (hy : Sl w (.slice a2 n2 c2) ys) (hm1 : xs.length ≤ 500000) (h0 : val ys ≠ 0) :
    Calls Try.prog 28 #[.slice a1 n1 c1, .slice a2 n2 c2] w fun e w' => ∃ v1 v2, e = .returned (.tuple #[v1, v2, .bool true]) ∧ Is w.heap.size w' v1 (val xs / val ys) ∧ Is w.heap.size w' v2 (val xs % val ys) ∧ Sep v1 v2 ∧ Below w.heap.size w w' := by
  have hz : 0 < tl ys := by
    apply Classical.byContradiction
    intro hn
    exact h0 (tl_zero (by omega))
  by_cases h1 : tl xs < tl ys
  · exact divmod_less w a1 a2 n1 n2 c1 c2 xs ys hx hy (by omega) h1
  · by_cases h2 : tl ys = 1
    · exact divmod_short w a1 a2 n1 n2 c1 c2 xs ys hx hy (by omega) (by omega) h2
    · exact divmod_long w a1 a2 n1 n2 c1 c2 xs ys hx hy hm1 (by omega) (by omega)

theorem divmod_none (w : World) (a1 a2 : Option Addr) (n1 n2 c1 c2 : Nat) (xs ys : List Int) (hx : Sl w (.slice a1 n1 c1) xs) (hy : Sl w (.slice a2 n2 c2) ys) (h0 : val ys = 0) :
    Calls Try.prog 28 #[.slice a1 n1 c1, .slice a2 n2 c2] w fun e w' => e = .returned (.tuple #[.slice none 0 0, .slice none 0 0, .bool false]) ∧ Below w.heap.size w w' := by
  refine divmod_zero w a1 a2 n1 n2 c1 c2 xs ys hx hy ?_
  apply Classical.byContradiction
  intro hn
  have := val_pos_tl hy.parts.2.2.2 (by omega)
  omega

theorem divmod_g (w : World) (a1 a2 : Option Addr) (n1 n2 c1 c2 : Nat) (xs ys : List Int) (hx : Sl w (.slice a1 n1 c1) xs) (hy : Sl w (.slice a2 n2 c2) ys) (hm1 : xs.length ≤ 500000) (h0 : val ys ≠ 0) :
    Calls Try.prog 28 #[.slice a1 n1 c1, .slice a2 n2 c2] w fun e w' => ∃ ao cap rs bo dap ss, e = .returned (.tuple #[.slice ao rs.length cap, .slice bo ss.length dap, .bool true]) ∧ Got w' ao cap rs (val xs / val ys) ∧ Got w' bo dap ss (val xs % val ys) ∧ rs.length ≤ xs.length ∧ ss.length ≤ ys.length ∧ Below w.heap.size w w' := by
  refine (divmod_any w a1 a2 n1 n2 c1 c2 xs ys hx hy hm1 h0).mono ?_
  rintro e w' ⟨v1, v2, rfl, hi1, hi2, _, hb⟩
  obtain ⟨ao, cap, rs, rfl, hg1⟩ := hi1.got
  obtain ⟨bo, dap, ss, rfl, hg2⟩ := hi2.got
  have bx := val_bounds hx.parts.2.2.2
  have by' := val_bounds hy.parts.2.2.2
  refine ⟨ao, cap, rs, bo, dap, ss, rfl, hg1, hg2, le_len hx.parts.2.2.2 hg1.canon ?_, le_len hy.parts.2.2.2 hg2.canon ?_, hb⟩
  · rw [hg1.val]
    exact Int.ediv_le_self _ bx.1
  · rw [hg2.val]
    have := Int.emod_lt_of_pos (val xs) (show 0 < val ys by omega)
    omega

end Lm
end Go.Proofs.Ythbomfboohjcfaa

namespace Go.Proofs.Ythbomfboohjcfaa
namespace Lm
open Go.RowKit

theorem Is.tight {B : Nat} {w : World} {v : Value} {x : Int} (h : Is B w v x) (hB : B ≤ w.heap.size) : ∃ ao cap rs B1 T1, v = .slice ao rs.length cap ∧ Fr B1 T1 w ao cap rs x ∧ B ≤ B1 ∧ T1 ≤ w.heap.size ∧ ((cap = 0 ∧ T1 = B1) ∨ (0 < cap ∧ T1 = B1 + 1 ∧ ∃ off, ao = some ⟨B1, off, none⟩)) := by
  obtain ⟨rs, ho, hc, hv⟩ := h
  obtain ⟨ao, cap, rfl, h1, h2, h3, h4⟩ := ho
  by_cases h0 : cap = 0
  · exact ⟨ao, cap, rs, B, B, rfl, ⟨⟨ao, cap, rfl, h1, h2, h3, .inl h0⟩, hc, hv, fun h => by omega⟩, Nat.le_refl _, hB, .inl ⟨h0, rfl⟩⟩
  · rcases h4 with h4 | ⟨g, off, cur, rfl, hg, hh, hs, ha⟩
    · exact absurd h4 h0
    · refine ⟨_, cap, rs, g, g + 1, rfl, ⟨⟨_, cap, rfl, h1, h2, h3, .inr ⟨g, off, cur, rfl, Nat.le_refl _, hh, hs, ha⟩⟩, hc, hv, fun _ g' off' e => ?_⟩, hg, lt_of_heap hh, .inr ⟨by omega, rfl, off, rfl⟩⟩
      simp only [Option.some.injEq, Addr.mk.injEq] at e
      omega

/-- Two answers of one call that have nothing in common. -/
theorem Is.two {B : Nat} {w : World} {v1 v2 : Value} {x1 x2 : Int} (h1 : Is B w v1 x1) (h2 : Is B w v2 x2) (hs : Sep v1 v2) (hB : B ≤ w.heap.size) : ∃ ao cap rs bo dap ss B1 T1 B2 T2, v1 = .slice ao rs.length cap ∧ v2 = .slice bo ss.length dap ∧ Fr B1 T1 w ao cap rs x1 ∧ Fr B2 T2 w bo dap ss x2 ∧ B ≤ B1 ∧ T1 ≤ w.heap.size ∧ B ≤ B2 ∧ T2 ≤ w.heap.size ∧ (∀ j, B1 ≤ j → j < T1 → j < B2 ∨ T2 ≤ j) := by
  obtain ⟨ao, cap, rs, B1, T1, rfl, f1, b1, t1, c1⟩ := h1.tight hB
  obtain ⟨bo, dap, ss, B2, T2, rfl, f2, b2, t2, c2⟩ := h2.tight hB
  refine ⟨ao, cap, rs, bo, dap, ss, B1, T1, B2, T2, rfl, rfl, f1, f2, b1, t1, b2, t2, fun j hj1 hj2 => ?_⟩
  rcases c1 with ⟨_, c1⟩ | ⟨p1, c1, off1, rfl⟩
  · omega
  · rcases c2 with ⟨_, c2⟩ | ⟨p2, c2, off2, rfl⟩
    · omega
    · have := hs _ _ _ _ _ _ rfl rfl
      simp only at this
      omega

set_option maxRecDepth 20000 in
set_option maxHeartbeats 400000 in
theorem divides_long (w : World) (a0 a1 : Option Addr) (n0 n1 c0 c1 : Nat) (h : 1500 < (n0 : Int) + n1) (b0 : n0 ≤ 35184372088832) (b1 : n1 ≤ 35184372088832) :
    Calls Try.prog 6 #[.slice a0 n0 c0, .slice a1 n1 c1] w fun e w' => e = .returned (.bool true) ∧ Below w.heap.size w w' := by
  go_enter Try.func6, Try.ntmps6
  go_wp2_with fail
  refine (awake_any _).mono ?_
  rintro e w1 ⟨rfl, hb⟩
  go_wp2
  go_ret
  exact ⟨rfl, hb⟩

set_option maxRecDepth 20000 in
set_option maxHeartbeats 1000000 in
theorem divides_short_true (w : World) (a0 a1 : Option Addr) (n0 n1 c0 c1 : Nat) (xs ys : List Int) (hx : Sl w (.slice a0 n0 c0) xs) (hy : Sl w (.slice a1 n1 c1) ys) (h : ¬ 1500 < (n0 : Int) + n1) (dq dr : Int) (KS : Hid (∀ (w : World) (a1 a2 : Option Addr) (n1 n2 c1 c2 : Nat), Sl w (.slice a1 n1 c1) xs → Sl w (.slice a2 n2 c2) ys → Calls Try.prog 28 #[.slice a1 n1 c1, .slice a2 n2 c2] w fun e w' => ∃ v1 v2, e = .returned (.tuple #[v1, v2, .bool true]) ∧ Is w.heap.size w' v1 dq ∧ Is w.heap.size w' v2 dr ∧ Sep v1 v2 ∧ Below w.heap.size w w')) (KR : Hid (∀ (w : World) (a1 a2 : Option Addr) (n1 n2 c1 c2 : Nat), Sl w (.slice a1 n1 c1) xs → Sl w (.slice a2 n2 c2) ys → Calls Try.prog 27 #[.slice a1 n1 c1, .slice a2 n2 c2] w fun e w' => ∃ v1 v2, e = .returned (.tuple #[v1, v2, .bool true]) ∧ Is w.heap.size w' v1 dq ∧ Is w.heap.size w' v2 dr ∧ Below w.heap.size w w')) :
    Calls Try.prog 6 #[.slice a0 n0 c0, .slice a1 n1 c1] w fun e w' => e = .returned (.bool true) ∧ Below w.heap.size w w' := by
  obtain ⟨rfl, _, _, _⟩ := hx.parts
  obtain ⟨rfl, _, _, _⟩ := hy.parts
  have lx := hide hx.lt
  have ly := hide hy.lt
  have HB := Below.refl w.heap.size w
  go_enter Try.func6, Try.ntmps6
  go_wp2_with fail
  refine (awake_any _).mono ?_
  rintro e w1 ⟨rfl, hb1⟩
  replace HB := HB.trans (hb1.mono HB.size)
  go_wp2_with fail
  have BN := hide (book_new w1)
  replace HB := HB.trans (BN.out.2.1.mono HB.size)
  have z1 := hb1.size
  refine (KR.out _ _ _ _ _ _ _ (hx.below HB) (hy.below HB)).mono ?_
  rintro e w2' ⟨v2, v2', rfl, I2, I2', hb2⟩
  obtain ⟨p2, q2, r2, rfl, F2⟩ := I2.fr
  obtain ⟨p2', q2', r2', rfl, F2'⟩ := I2'.fr
  replace HB := HB.trans (hb2.mono HB.size)
  have z2 := hb2.size
  have B2 := hide ((hb2.block w1.heap.size (by rw [BN.out.2.2]; omega)).trans BN.out.1)
  rw [BN.out.2.2] at F2 F2' z2
  have BK : Bs w2' w1.heap.size w2'.heap.size [] 0 := Bs.new B2.out
  clear I2 I2' BN hb1 hb2 B2
  go_wp2
  go_loopw [9] (fun iv wr => ∃ (i : Nat) (bs : List Nat), i ≤ 2 ∧ iv = .int .i64 i ∧ Bs wr w1.heap.size w2'.heap.size bs (2 * i) ∧ Touch w2' wr w1.heap.size) (fun iv _ => 2 - (intOf iv).toNat)
  case atStart => exact ⟨0, [], Nat.zero_le _, rfl, BK, Touch.refl _ _⟩
  case round =>
    clear BK
    obtain ⟨i, bs, hi, rfl, BK, T0⟩ := hrel
    have HBr := HB.trans (T0.below z1 HB.size)
    have hlow := BK.low
    have ht := T0.size
    by_cases hlt : i < 2
    · have dI : (i : Int) < 2 := by omega
      go_wp2_with fail
      have L := hide (lenders wr _ rfl)
      have hLs := L.out.2.2.2
      replace T0 := T0.calm L.out.2.2.1
      replace BK := BK.below L.out.2.2.1
      replace HBr := HBr.trans (L.out.2.2.1.mono HBr.size)
      refine (lend_any _ _ _ _ _ _ _ xs L.out.1 (hx.below HBr) (by omega) (fun h0 b off e => by have := lx.out h0 b off e; omega)).mono ?_
      rintro e w3 ⟨rfl, S1, t3⟩
      rw [hLs] at S1 ⊢
      replace T0 := T0.newer t3 (by omega)
      replace BK := BK.touch t3 (by omega) (fun hj => by have := hlow _ hj; omega)
      have hL2 := hide ((t3.other (wr.heap.size + 1) (by omega) (by omega)).trans L.out.2.1)
      have z3 := S1.lt
      have HB3 := HB.trans (T0.below z1 HB.size)
      clear t3 L hLs HBr
      go_wp2_with fail
      refine (lend_any _ _ _ _ _ _ _ ys hL2.out (hy.below HB3) (by omega) (fun h0 b off e => by have := ly.out h0 b off e; omega)).mono ?_
      rintro e w4 ⟨rfl, S2, t4⟩
      replace T0 := T0.newer t4 (by omega)
      replace BK := BK.touch t4 (by omega) (fun hj => by have := hlow _ hj; omega)
      replace S1 := S1.touch t4 (by omega) (by omega)
      have z4 := S2.lt
      clear t4 hL2 HB3
      go_wp2_with fail
      refine (KS.out _ _ _ _ _ _ _ (S1.sl (by omega)) (S2.sl (by omega))).mono ?_
      rintro e w5 ⟨v5, v5', rfl, I5, I5', sep5, hb5⟩
      have z5 := hb5.size
      obtain ⟨p5, q5, r5, p5', q5', r5', B5, T5, B5', T5', rfl, rfl, F5, F5', x1, x2, x3, x4, x5⟩ := I5.two I5' sep5 z5
      replace T0 := T0.calm hb5
      replace BK := BK.below hb5
      replace S1 := S1.below hb5
      replace S2 := S2.below hb5
      clear hb5 I5 I5' sep5
      have HB5 := HB.trans (T0.below z1 HB.size)
      go_wp2_with fail
      refine (back_any _ _ _ _ _ _ xs S1 (by omega) (hx.below HB5) (by omega) (fun h0 b off e => by have := lx.out h0 b off e; omega)).mono ?_
      rintro e w6 ⟨rfl, t6⟩
      replace T0 := T0.newer t6 (by omega)
      replace BK := BK.touch t6 (by omega) (fun hj => by have := hlow _ hj; omega)
      replace S2 := S2.touch t6 (by omega) (by omega)
      replace F5 := F5.touch t6 (by omega)
      replace F5' := F5'.touch t6 (by omega)
      have z6 := t6.size
      have HB6 := HB.trans (T0.below z1 HB.size)
      clear t6 S1 HB5
      go_wp2_with fail
      refine (back_any _ _ _ _ _ _ ys S2 (by omega) (hy.below HB6) (by omega) (fun h0 b off e => by have := ly.out h0 b off e; omega)).mono ?_
      rintro e w7 ⟨rfl, t7⟩
      replace T0 := T0.newer t7 (by omega)
      replace BK := BK.touch t7 (by omega) (fun hj => by have := hlow _ hj; omega)
      replace F5 := F5.touch t7 (by omega)
      replace F5' := F5'.touch t7 (by omega)
      have z7 := t7.size
      clear t7 S2 HB6
      have G2 := F2.touch T0 (by omega)
      have G2' := F2'.touch T0 (by omega)
      go_wp2_with fail
      refine (same_g _ _ _ _ _ r5 r2 _ _ F5.got G2.got rfl).mono ?_
      rintro e w8 ⟨rfl, hb8⟩
      replace T0 := T0.calm hb8
      replace BK := BK.below hb8
      replace F5 := F5.below hb8
      replace F5' := F5'.below hb8
      replace G2' := G2'.below hb8
      have z8 := hb8.size
      clear hb8 G2
      go_wp2_with fail
      refine (same_g _ _ _ _ _ r5' r2' _ _ F5'.got G2'.got rfl).mono ?_
      rintro e w8' ⟨rfl, hb8⟩
      replace T0 := T0.calm hb8
      replace BK := BK.below hb8
      replace F5 := F5.below hb8
      replace F5' := F5'.below hb8
      have z8' := hb8.size
      clear hb8 G2'
      go_wp2_with fail
      refine (own_b _ _ _ _ bs BK (by omega) _ _ _ _ _ _ F5 (by omega) (by omega) (fun j hj => by have := hlow j hj; omega)).mono ?_
      rintro e w9 ⟨rfl, bs9, BK9, kp9, hj9⟩
      have lo9 : ∀ j, j ∈ bs9 → w2'.heap.size ≤ j ∧ (j < B5' ∨ T5' ≤ j) := fun j hj => by rcases hj9 j hj with a | a | a; (have := hlow j a; omega); omega; (have := x5 j a.1 a.2; omega)
      replace T0 := T0.kp kp9 (fun j hj => (lo9 j hj).1)
      replace F5' := F5'.kp kp9 (by omega) (fun j hj => (lo9 j hj).2)
      have z9 := kp9.size
      clear BK kp9 hj9 F5 hlow
      go_wp2_with fail
      refine (own_b _ _ _ _ bs9 BK9 (by omega) _ _ _ _ _ _ F5' (by omega) (by omega) (fun j hj => (lo9 j hj).2)).mono ?_
      rintro e w10 ⟨rfl, bs10, BK10, kp10, hj10⟩
      replace T0 := T0.kp kp10 (fun j hj => by rcases hj10 j hj with a | a | a; exact (lo9 j a).1; omega; omega)
      clear BK9 kp10 hj10 F5' lo9
      go_wp2
      go_roundw
      case rel => exact ⟨i + 1, bs10, by omega, by go_num, BK10, T0⟩
      case measure => simp [intOf]; omega
    · have dI : ¬ (i : Int) < 2 := by omega
      go_wp2_with fail
      refine (done_b _ _ _ _ bs BK (by omega)).mono ?_
      rintro e w3 ⟨rfl, hb3⟩
      replace HBr := HBr.trans (hb3.mono HBr.size)
      go_wp2
      go_ret
      exact ⟨rfl, HBr⟩

set_option maxRecDepth 20000 in
set_option maxHeartbeats 1000000 in
theorem divides_short_false (w : World) (a0 a1 : Option Addr) (n0 n1 c0 c1 : Nat) (xs ys : List Int) (hx : Sl w (.slice a0 n0 c0) xs) (hy : Sl w (.slice a1 n1 c1) ys) (h : ¬ 1500 < (n0 : Int) + n1) (dq dr : Int) (KS : Hid (∀ (w : World) (a1 a2 : Option Addr) (n1 n2 c1 c2 : Nat), Sl w (.slice a1 n1 c1) xs → Sl w (.slice a2 n2 c2) ys → Calls Try.prog 28 #[.slice a1 n1 c1, .slice a2 n2 c2] w fun e w' => ∃ v1 v2, e = .returned (.tuple #[v1, v2, .bool false]) ∧ Is w.heap.size w' v1 dq ∧ Is w.heap.size w' v2 dr ∧ Sep v1 v2 ∧ Below w.heap.size w w')) (KR : Hid (∀ (w : World) (a1 a2 : Option Addr) (n1 n2 c1 c2 : Nat), Sl w (.slice a1 n1 c1) xs → Sl w (.slice a2 n2 c2) ys → Calls Try.prog 27 #[.slice a1 n1 c1, .slice a2 n2 c2] w fun e w' => ∃ v1 v2, e = .returned (.tuple #[v1, v2, .bool false]) ∧ Is w.heap.size w' v1 dq ∧ Is w.heap.size w' v2 dr ∧ Below w.heap.size w w')) :
    Calls Try.prog 6 #[.slice a0 n0 c0, .slice a1 n1 c1] w fun e w' => e = .returned (.bool true) ∧ Below w.heap.size w w' := by
  obtain ⟨rfl, _, _, _⟩ := hx.parts
  obtain ⟨rfl, _, _, _⟩ := hy.parts
  have lx := hide hx.lt
  have ly := hide hy.lt
  have HB := Below.refl w.heap.size w
  go_enter Try.func6, Try.ntmps6
  go_wp2_with fail
  refine (awake_any _).mono ?_
  rintro e w1 ⟨rfl, hb1⟩
  replace HB := HB.trans (hb1.mono HB.size)
  go_wp2_with fail
  have BN := hide (book_new w1)
  replace HB := HB.trans (BN.out.2.1.mono HB.size)
  have z1 := hb1.size
  refine (KR.out _ _ _ _ _ _ _ (hx.below HB) (hy.below HB)).mono ?_
  rintro e w2' ⟨v2, v2', rfl, I2, I2', hb2⟩
  obtain ⟨p2, q2, r2, rfl, F2⟩ := I2.fr
  obtain ⟨p2', q2', r2', rfl, F2'⟩ := I2'.fr
  replace HB := HB.trans (hb2.mono HB.size)
  have z2 := hb2.size
  have B2 := hide ((hb2.block w1.heap.size (by rw [BN.out.2.2]; omega)).trans BN.out.1)
  rw [BN.out.2.2] at F2 F2' z2
  have BK : Bs w2' w1.heap.size w2'.heap.size [] 0 := Bs.new B2.out
  clear I2 I2' BN hb1 hb2 B2
  go_wp2
  go_loopw [9] (fun iv wr => ∃ (i : Nat) (bs : List Nat), i ≤ 2 ∧ iv = .int .i64 i ∧ Bs wr w1.heap.size w2'.heap.size bs (2 * i) ∧ Touch w2' wr w1.heap.size) (fun iv _ => 2 - (intOf iv).toNat)
  case atStart => exact ⟨0, [], Nat.zero_le _, rfl, BK, Touch.refl _ _⟩
  case round =>
    clear BK
    obtain ⟨i, bs, hi, rfl, BK, T0⟩ := hrel
    have HBr := HB.trans (T0.below z1 HB.size)
    have hlow := BK.low
    have ht := T0.size
    by_cases hlt : i < 2
    · have dI : (i : Int) < 2 := by omega
      go_wp2_with fail
      have L := hide (lenders wr _ rfl)
      have hLs := L.out.2.2.2
      replace T0 := T0.calm L.out.2.2.1
      replace BK := BK.below L.out.2.2.1
      replace HBr := HBr.trans (L.out.2.2.1.mono HBr.size)
      refine (lend_any _ _ _ _ _ _ _ xs L.out.1 (hx.below HBr) (by omega) (fun h0 b off e => by have := lx.out h0 b off e; omega)).mono ?_
      rintro e w3 ⟨rfl, S1, t3⟩
      rw [hLs] at S1 ⊢
      replace T0 := T0.newer t3 (by omega)
      replace BK := BK.touch t3 (by omega) (fun hj => by have := hlow _ hj; omega)
      have hL2 := hide ((t3.other (wr.heap.size + 1) (by omega) (by omega)).trans L.out.2.1)
      have z3 := S1.lt
      have HB3 := HB.trans (T0.below z1 HB.size)
      clear t3 L hLs HBr
      go_wp2_with fail
      refine (lend_any _ _ _ _ _ _ _ ys hL2.out (hy.below HB3) (by omega) (fun h0 b off e => by have := ly.out h0 b off e; omega)).mono ?_
      rintro e w4 ⟨rfl, S2, t4⟩
      replace T0 := T0.newer t4 (by omega)
      replace BK := BK.touch t4 (by omega) (fun hj => by have := hlow _ hj; omega)
      replace S1 := S1.touch t4 (by omega) (by omega)
      have z4 := S2.lt
      clear t4 hL2 HB3
      go_wp2_with fail
      refine (KS.out _ _ _ _ _ _ _ (S1.sl (by omega)) (S2.sl (by omega))).mono ?_
      rintro e w5 ⟨v5, v5', rfl, I5, I5', sep5, hb5⟩
      have z5 := hb5.size
      obtain ⟨p5, q5, r5, p5', q5', r5', B5, T5, B5', T5', rfl, rfl, F5, F5', x1, x2, x3, x4, x5⟩ := I5.two I5' sep5 z5
      replace T0 := T0.calm hb5
      replace BK := BK.below hb5
      replace S1 := S1.below hb5
      replace S2 := S2.below hb5
      clear hb5 I5 I5' sep5
      have HB5 := HB.trans (T0.below z1 HB.size)
      go_wp2_with fail
      refine (back_any _ _ _ _ _ _ xs S1 (by omega) (hx.below HB5) (by omega) (fun h0 b off e => by have := lx.out h0 b off e; omega)).mono ?_
      rintro e w6 ⟨rfl, t6⟩
      replace T0 := T0.newer t6 (by omega)
      replace BK := BK.touch t6 (by omega) (fun hj => by have := hlow _ hj; omega)
      replace S2 := S2.touch t6 (by omega) (by omega)
      replace F5 := F5.touch t6 (by omega)
      replace F5' := F5'.touch t6 (by omega)
      have z6 := t6.size
      have HB6 := HB.trans (T0.below z1 HB.size)
      clear t6 S1 HB5
      go_wp2_with fail
      refine (back_any _ _ _ _ _ _ ys S2 (by omega) (hy.below HB6) (by omega) (fun h0 b off e => by have := ly.out h0 b off e; omega)).mono ?_
      rintro e w7 ⟨rfl, t7⟩
      replace T0 := T0.newer t7 (by omega)
      replace BK := BK.touch t7 (by omega) (fun hj => by have := hlow _ hj; omega)
      replace F5 := F5.touch t7 (by omega)
      replace F5' := F5'.touch t7 (by omega)
      have z7 := t7.size
      clear t7 S2 HB6
      have G2 := F2.touch T0 (by omega)
      have G2' := F2'.touch T0 (by omega)
      go_wp2_with fail
      refine (same_g _ _ _ _ _ r5 r2 _ _ F5.got G2.got rfl).mono ?_
      rintro e w8 ⟨rfl, hb8⟩
      replace T0 := T0.calm hb8
      replace BK := BK.below hb8
      replace F5 := F5.below hb8
      replace F5' := F5'.below hb8
      replace G2' := G2'.below hb8
      have z8 := hb8.size
      clear hb8 G2
      go_wp2_with fail
      refine (same_g _ _ _ _ _ r5' r2' _ _ F5'.got G2'.got rfl).mono ?_
      rintro e w8' ⟨rfl, hb8⟩
      replace T0 := T0.calm hb8
      replace BK := BK.below hb8
      replace F5 := F5.below hb8
      replace F5' := F5'.below hb8
      have z8' := hb8.size
      clear hb8 G2'
      go_wp2_with fail
      refine (own_b _ _ _ _ bs BK (by omega) _ _ _ _ _ _ F5 (by omega) (by omega) (fun j hj => by have := hlow j hj; omega)).mono ?_
      rintro e w9 ⟨rfl, bs9, BK9, kp9, hj9⟩
      have lo9 : ∀ j, j ∈ bs9 → w2'.heap.size ≤ j ∧ (j < B5' ∨ T5' ≤ j) := fun j hj => by rcases hj9 j hj with a | a | a; (have := hlow j a; omega); omega; (have := x5 j a.1 a.2; omega)
      replace T0 := T0.kp kp9 (fun j hj => (lo9 j hj).1)
      replace F5' := F5'.kp kp9 (by omega) (fun j hj => (lo9 j hj).2)
      have z9 := kp9.size
      clear BK kp9 hj9 F5 hlow
      go_wp2_with fail
      refine (own_b _ _ _ _ bs9 BK9 (by omega) _ _ _ _ _ _ F5' (by omega) (by omega) (fun j hj => (lo9 j hj).2)).mono ?_
      rintro e w10 ⟨rfl, bs10, BK10, kp10, hj10⟩
      replace T0 := T0.kp kp10 (fun j hj => by rcases hj10 j hj with a | a | a; exact (lo9 j a).1; omega; omega)
      clear BK9 kp10 hj10 F5' lo9
      go_wp2
      go_roundw
      case rel => exact ⟨i + 1, bs10, by omega, by go_num, BK10, T0⟩
      case measure => simp [intOf]; omega
    · have dI : ¬ (i : Int) < 2 := by omega
      go_wp2_with fail
      refine (done_b _ _ _ _ bs BK (by omega)).mono ?_
      rintro e w3 ⟨rfl, hb3⟩
      replace HBr := HBr.trans (hb3.mono HBr.size)
      go_wp2
      go_ret
      exact ⟨rfl, HBr⟩


theorem divides_law (w : World) (a0 : Option Addr) (n0 c0 : Nat) (xs : List Int) (a1 : Option Addr) (n1 c1 : Nat) (ys : List Int)
    (hx : Sl w (.slice a0 n0 c0) xs) (b0 : n0 ≤ 35184372088832) (hy : Sl w (.slice a1 n1 c1) ys) (b1 : n1 ≤ 35184372088832) :
    Calls Try.prog 6 #[.slice a0 n0 c0, .slice a1 n1 c1] w fun e w' => e = .returned (.bool true) ∧ Below w.heap.size w w' := by
  by_cases h : 1500 < (n0 : Int) + n1
  · exact divides_long w a0 a1 n0 n1 c0 c1 h b0 b1
  · have e0 := hx.parts.1
    have e1 := hy.parts.1
    by_cases h0 : val ys = 0
    · exact divides_short_false w a0 a1 n0 n1 c0 c1 xs ys hx hy h 0 0 (hide fun w a1 a2 n1 n2 c1 c2 hx hy => (divmod_none w a1 a2 n1 n2 c1 c2 xs ys hx hy h0).mono fun e w' ⟨he, hb⟩ => ⟨_, _, he, Dm.is_nil _ _, Dm.is_nil _ _, sep_nil _ _ _, hb⟩)
        (hide fun w a1 a2 n1 n2 c1 c2 hx hy => Dm.rdivmod_none w a1 a2 n1 n2 c1 c2 xs ys hx hy (by omega) (by omega) h0)
    · exact divides_short_true w a0 a1 n0 n1 c0 c1 xs ys hx hy h _ _ (hide fun w a1 a2 n1 n2 c1 c2 hx hy => divmod_any w a1 a2 n1 n2 c1 c2 xs ys hx hy (by omega) h0)
        (hide fun w a1 a2 n1 n2 c1 c2 hx hy => Dm.rdivmod_any w a1 a2 n1 n2 c1 c2 xs ys hx hy (by omega) (by omega) h0)

end Lm
end Go.Proofs.Ythbomfboohjcfaa

namespace Go.Proofs.Ythbomfboohjcfaa
namespace limbsDividesLaw
open Go.ChangeShapes Go.WideShapes Go.ChangeAt Go.RowKit
open Go.ChangeMaps (open_string shut_string)

theorem own : ownKnob Try.prog.godebug = none := by kernel_rfl
theorem laidOut : laidOutB Try.prog = true := by kernel_rfl
theorem bytes4 : Try.prog.bytesOf 47 = 4 := by kernel_rfl

theorem sl_of {w : World} {x : Addr} {l c : Nat} {zs : List Int} (hl : l ≤ c) (hm : c ≤ maxLen) (hz : zs.length = c) (hcell : ∀ i, i < zs.length → w.cell? (x.add i) = some (.int .u32 (zs.getD i 0))) (hwz : ∀ n ∈ zs, (Lit.int .u32 n).wf = true) : Lm.Sl w (.slice (some x) l c) (zs.take l) := by
  have hll : (zs.take l).length = l := by rw [List.length_take]; omega
  refine ⟨some x, c, by rw [hll], by omega, hm, fun n hn => ?_, ?_⟩
  · have := bounds_u32 (hwz n (List.mem_of_mem_take hn))
    omega
  · by_cases h0 : l = 0
    · exact .inl (List.eq_nil_of_length_eq_zero (by omega))
    · obtain ⟨b, off, spot⟩ := x
      have h1 := hcell 0 (by omega)
      have hspot : spot = none := by simpa [Addr.add] using World.cell?_spot h1
      subst hspot
      refine .inr ⟨b, off, rfl, fun i hi => ?_⟩
      have h2 := hcell i (by omega)
      rw [Lm.getD_take _ _ _ (by omega)]
      have e : (⟨b, off, none⟩ : Addr).add i = ⟨b, off + i, none⟩ := by
        by_cases hi0 : i = 0
        · subst hi0; simp [Addr.add]
        · simp [Addr.add, hi0]
      rwa [e] at h2

set_option linter.unusedVariables false in
set_option maxRecDepth 100000 in
theorem lifted (os : Os) (started : os.Started) (H : Type) (enc : TypeId × Value → H) :
    ReturnsInHanded {} Try.checked os 6 .any (Rows.limbsDividesSpec.pre6 enc Try.prog Try.f6 Rows.limbsDividesRow.domain false) (Rows.limbsDividesSpec.post enc Try.prog Try.f6 false true false false) := by
  refine returnsInHanded_of_change_sized (C := Try.checked) own started (by kernel_rfl) Try.func6
    (ChangeSpec.witness6 (enc := enc) (C := Try.checked) false ⟨#[], #[.slice none 0 0, .slice none 0 0], []⟩ 8 (by kernel_rfl) (by kernel_rfl) (by kernel_rfl) (by kernel_rfl)) ?_
  intro W base args ds gs before hval0 hW hcnd hsz0 _
  have hval : ∀ (j : Nat) t v, Try.f6.params[j]? = some t → args[j]? = some v → Value.okWide Try.prog W .any base t v := hval0
  have hW' := hW
  obtain ⟨p, q, hA0, hV, rfl, hfz, hnd⟩ := hW
  have hA : DataW.TrodAll enc Try.prog W 0 (fun _ => true) true Try.f6.params.toList args.toList ds p := hA0
  have hsz : (DataW.weightsEach Try.prog (Try.f6.params.toList ++ Rows.limbsDividesSpec.plain.varTypes Try.prog) (ds ++ gs)).all (· ≤ reachBytes) = true := hsz0
  rw [Try.params6] at hA hval hsz
  obtain ⟨v0, vs0, d0, ds0, p0, q0, hargs, rfl, rfl, h0, r0⟩ := trodAll_cons hA
  obtain ⟨v1, vs1, d1, ds1, p1, q1, rfl, rfl, rfl, h1, r1⟩ := trodAll_cons r0
  obtain ⟨rfl, rfl, rfl⟩ := trodAll_nil r1
  obtain rfl : args = #[v0, v1] := by cases args; simp_all
  obtain ⟨rfl, rfl⟩ := trodVars_none hV
  obtain ⟨a0, len0, cap0, rfl⟩ := okWide_slice Try.underlying22 (hval 0 22 v0 rfl rfl)
  have k0 := h0
  have lt0 : ∀ x ∈ p0, x.block < W.heap.size := by obtain ⟨m, hm⟩ := k0; exact DataW.trod_lt m _ _ _ hm
  obtain ⟨z0, w0, b0⟩ : ∃ zs, Lm.Sl W (.slice a0 len0 cap0) zs ∧ len0 ≤ 35184372088832 := by
    obtain ⟨fuel, hf⟩ := h0
    rcases open_ints Try.underlying22 Try.underlying47 (by kernel_rfl) hf with ⟨hcs, _⟩ | ⟨x, l, c, zs, hcs, _, hl, hm, hz, hx, hcell, hwz⟩
    · simp [Value.cells] at hcs
      obtain ⟨rfl, rfl, rfl⟩ := hcs
      exact ⟨[], ⟨none, 0, rfl, Nat.le_refl _, by simp [maxLen], Lm.limb_nil, .inl rfl⟩, by omega⟩
    · simp [Value.cells] at hcs
      obtain ⟨rfl, rfl, rfl⟩ := hcs
      have hx1 : d0 = .slice (lits .u32 (zs.take len0)) (lits .u32 (zs.drop len0)) := congrArg Prod.fst hx
      have hz' : zs.length = cap0 := by simpa using hz
      refine ⟨_, sl_of hl hm hz' hcell hwz, ?_⟩
      have hs := sized_slice hsz (j := 0) (t := 22) (e := 47) rfl (congrArg some hx1) Try.underlying22
      rw [bytes4] at hs
      simp only [lits, List.length_map, List.length_take, List.length_drop, reachBytes] at hs
      omega
  obtain ⟨a1, len1, cap1, rfl⟩ := okWide_slice Try.underlying22 (hval 1 22 v1 rfl rfl)
  have k1 := h1
  have lt1 : ∀ x ∈ p1, x.block < W.heap.size := by obtain ⟨m, hm⟩ := k1; exact DataW.trod_lt m _ _ _ hm
  obtain ⟨z1, w1, b1⟩ : ∃ zs, Lm.Sl W (.slice a1 len1 cap1) zs ∧ len1 ≤ 35184372088832 := by
    obtain ⟨fuel, hf⟩ := h1
    rcases open_ints Try.underlying22 Try.underlying47 (by kernel_rfl) hf with ⟨hcs, _⟩ | ⟨x, l, c, zs, hcs, _, hl, hm, hz, hx, hcell, hwz⟩
    · simp [Value.cells] at hcs
      obtain ⟨rfl, rfl, rfl⟩ := hcs
      exact ⟨[], ⟨none, 0, rfl, Nat.le_refl _, by simp [maxLen], Lm.limb_nil, .inl rfl⟩, by omega⟩
    · simp [Value.cells] at hcs
      obtain ⟨rfl, rfl, rfl⟩ := hcs
      have hx1 : d1 = .slice (lits .u32 (zs.take len1)) (lits .u32 (zs.drop len1)) := congrArg Prod.fst hx
      have hz' : zs.length = cap1 := by simpa using hz
      refine ⟨_, sl_of hl hm hz' hcell hwz, ?_⟩
      have hs := sized_slice hsz (j := 1) (t := 22) (e := 47) rfl (congrArg some hx1) Try.underlying22
      rw [bytes4] at hs
      simp only [lits, List.length_map, List.length_take, List.length_drop, reachBytes] at hs
      omega
  clear hA0 hval0
  refine (Lm.divides_law W a0 len0 cap0 z0 a1 len1 cap1 z1 w0 b0 w1 b1 ).mono fun e W' ⟨he, bel⟩ => ?_
  subst he
  exact ⟨_, rfl, _, _, _, [], _, [], hW', trodAll_mk1 (shut_bool Try.underlying4 _), (trodAll_cons_mk (Below.trod laidOut (by kernel_rfl) (of_decide_eq_true (by kernel_rfl)) k0 bel lt0) (trodAll_cons_mk (Below.trod laidOut (by kernel_rfl) (of_decide_eq_true (by kernel_rfl)) k1 bel lt1) trodAll_mk0)), rfl, bel.frame _, fun h => by cases h⟩

theorem over : Rows.limbsDividesRow.holds Try.pinned (OpenSpec.ofChange Rows.limbsDividesSpec) :=
  OpenClaim.holds_of_wide 6 Try.f6 rfl rfl rfl rfl rfl rfl rfl ⟨rfl, rfl, rfl, rfl, rfl⟩ rfl rfl rfl rfl rfl (by kernel_rfl) Try.func6 (by kernel_rfl)
    (of_decide_eq_true (by kernel_rfl)) (by unfold Func.isWrapper; first | (rw [if_pos (by decide +kernel)]; kernel_rfl) | (rw [if_neg (by decide +kernel)]; exact ⟨rfl, rfl⟩))
    (fun os started H enc _ => lifted os started H enc)
end limbsDividesLaw

theorem limbsDivides_holds : Rows.LimbsDividesSaid := limbsDividesLaw.over
#print axioms limbsDivides_holds
end Go.Proofs.Ythbomfboohjcfaa
