/-
  The contract of divideLong. The contract of DivMod, for every divisor. Whole numbers: the contract of DivMod. The contract of window. The contract of combine. Plain facts on Lehmer's steps: what the upper bits tell of two numbers. No program is named here. The contract of lookAhead. The contract of shrink. The contracts of Uint, gcdShort and Gcd. Whole numbers: the contract of Gcd. A region that draws, within a walk whose frame is written out: what each operation comes to is shown once, whatever the order; behind it the frame is written out again. A region that draws, whose last operations wait for all ahead of them (a store, what is assigned): first the others, whatever the order, then these, one by one. The calls on fractions. The contract of Book's Own. Answers of one call, and of several, that have nothing in common. Whole numbers: Trim, Neg, Add, Sub, Mul; each answer in memory of its own. The contracts of the reference's Sign, Size and Cmp. The contracts of the reference's Of and Told: whole numbers as they are handed in, and as they are told. How many limbs a whole number has. What is lent, and what lies in memory of its own, in regions that are gone through in stretches. The contracts of DivMod and Gcd on whole numbers, with the memory in which the answers lie. What the reference's divided holds on its way: its memory, and the plain facts on quotient and rest. WholeDivides: what its walk uses beside the contracts. The book of what was answered, in regions that are gone through in stretches. Rows of whole numbers in memory: a slice of structs, each a sign and a list of limbs. Functions that go through rows of whole numbers. A row of whole numbers that is handed in: what it reads as. The place behind a glyph. Cells of a slice. Numbers that stay. Whole numbers in own memory: what the calls of package whole come to, by worth; exactly. Calls as steps of a region that draws: of a function, of a function value. Rows of whole numbers held against one another. Rows of whole numbers copied. Rows of whole numbers by worth; a row that is made number by number; exactly, divisor. The divisor of a row, and the row divided by it. A row divided by its divisor. Package matrix: exactly, divisor (as in package affine), other. Package matrix: turned, whatever function turns the numbers. Is a number among those of a slice? Package matrix: the basis in its block, and single operations on it.
-/
import Derived.Deep.QuietTactic
import Derived.BigQuiet
import Derived.Deep.RegionWith
import Derived.Deep.RegionHeld3
import Derived.Deep.DeepCutAuto
import Derived.Laws.AppendOwn
import Derived.Deep.LoopGhost
import Derived.Test.YtodgiglhconkoaaRows
import Derived.ProofKit
import Derived.OpenShut
import Derived.Deep.SlicePairs
import Derived.Handy
import Derived.Test.YtodgiglhconkoaaMZsLawZ0
namespace Go.Proofs.Ytodgiglhconkoaa
namespace Lm
open Go.RowKit
set_option maxRecDepth 20000 in
set_option maxHeartbeats 2000000 in
theorem divideLong_any (w : World) (a1 a2 : Option Addr) (n1 n2 c1 c2 : Nat) (xs ys : List Int) (hx : Sl w (.slice a1 n1 c1) xs) (hy : Sl w (.slice a2 n2 c2) ys) (hm1 : xs.length ≤ 500000) (h2 : 2 ≤ ys.length) (hle : ys.length ≤ xs.length) (hcan : Canon ys) :
    Calls Try.prog 86 #[.slice a1 n1 c1, .slice a2 n2 c2] w fun e w' => ∃ v1 v2, e = .returned (.tuple #[v1, v2]) ∧ Is w.heap.size w' v1 (val xs / val ys) ∧ Is w.heap.size w' v2 (val xs % val ys) ∧ Sep v1 v2 ∧ Below w.heap.size w w' := by
  obtain ⟨rfl, x1, x2, x3⟩ := hx.parts
  obtain ⟨hyl, y1, y2, y3⟩ := hy.parts
  obtain ⟨n, hn⟩ : ∃ n, ys.length = n + 2 := ⟨ys.length - 2, by omega⟩
  have e2 : n2 = n + 2 := by omega
  subst e2
  obtain ⟨b, off, rfl, hc⟩ := hy.cells (by omega)
  have hcell := hc (n + 1) (by omega)
  have hlb := limb_getD y3 (n + 1)
  have hpos : 0 < ys.getD (n + 1) 0 := by
    have : ys.getD (n + 1) 0 ≠ 0 := fun h0 => by
      have := tl_le_of_zero (zs := ys) (n := n + 1) (by have := tl_le ys; omega) h0
      have := hcan.2
      omega
    omega
  have hbits := bitLen_bits (ys.getD (n + 1) 0).toNat (by omega)
  rw [Int.toNat_of_nonneg hlb.1] at hbits
  have hl32 : Lib.bitLen (ys.getD (n + 1) 0).toNat ≤ 32 := Lib.bitLen_le _ 32 (by omega) (by omega)
  have hl0 := isBits_pos hbits hpos
  obtain ⟨s, hs⟩ : ∃ s : Nat, s + Lib.bitLen (ys.getD (n + 1) 0).toNat = 32 := ⟨32 - Lib.bitLen (ys.getD (n + 1) 0).toNat, by omega⟩
  have NV := hide (norm_val (bits_top hcan hn hbits hpos) hl0 hs)
  have kl : Hid (∀ w : World, Calls Try.prog 92 #[.int .u32 (ys.getD (n + 1) 0)] w fun e w' => e = .returned (.int .i64 (s : Nat)) ∧ w' = w) := by
    intro w
    have h9 := lead_any (ys.getD (n + 1) 0) w hlb.1 hlb.2
    rwa [show (32 - ((Lib.bitLen (ys.getD (n + 1) 0).toNat : Nat) : Int)) = (s : Nat) by omega] at h9
  have hs31 : s ≤ 31 := by omega
  have YL := hide (show pw (n + 1) ≤ val ys by
    have h9 := canon_low hcan (by intro e; subst e; simp at h2)
    rwa [hn] at h9)
  have HN := hide hn
  have X3 := hide x3
  have hxn : n + 2 ≤ xs.length := by omega
  obtain ⟨m, hm2, hm3⟩ : ∃ m, m + n + 1 ≤ xs.length ∧ xs.length ≤ m + n + 1 := ⟨xs.length - (n + 1), by omega, by omega⟩
  generalize ys.getD (n + 1) 0 = top at hcell hlb hpos kl
  obtain ⟨i0, hi, hz0, hz1, hz2⟩ := info_parts info32
  clear hs hl0 hl32 hbits hc y3 hyl hcan h2 hle hn x3
  go_enter Try.func86, Try.ntmps86
  go_wp2_with fail
  refine (kl.out _).mono ?_
  rintro e w' ⟨rfl, rfl⟩
  go_wp2_with fail
  refine (moveUp_any _ _ _ _ xs hx s hs31 (by omega)).mono ?_
  rintro e w1 ⟨cur0, O, rfl, hO, hOl, hOv, hOh, hOs, hOa, hb1⟩
  have hy1 := hy.below hb1
  have O1 := hide hO
  have O2 := hide hOl
  have O3 := hide hOv
  have O4 := hide hOh
  have O5 := hide hOs
  have O6 := hide hOa
  clear hO hOl hOv hOh hOs hOa
  go_wp2_with fail
  refine (moveUp_any _ _ _ _ ys hy1 s hs31 (by have := HN.out; omega)).mono ?_
  rintro e w2 ⟨curY, Y1, rfl, hY, hYl, hYv, hYh, hYs, hYa, hb2⟩
  have Q1 := hide hY
  have Q2 := hide hYl
  have Q3 := hide hYv
  have Q4 := hide hYh
  have Q5 := hide hYs
  have Q6 := hide hYa
  clear hY hYl hYv hYh hYs hYa
  go_wp2_with (refine wpList_make_full _ rfl (.tmp 34) (.tmp 34) 28 rfl w2.heap.size 62 i0 (.int .u32 0) 1 Try.underlying28 hi hz0 hz1 .i64 .i64 _ _ m rfl rfl (by omega) (by omega) (by rw [hz2]; omega) (by unfold maxLen; omega) (Nat.le_refl _) ?hK)
  case hK =>
    intro w3 hown hgrow
    obtain ⟨_, d0, hh, hds, hat⟩ := block_of_made hown
    have hb3 : Below w2.heap.size w2 w3 := (Below.refl w2.heap.size w2).grown hgrow (Nat.le_refl _) (by simp)
    have s1 := lt_of_heap O4.out
    have s2 := lt_of_heap Q4.out
    have s3 := lt_of_heap hh
    have hU : Hid (val (Y1.take (n + 2)) = val ys * p2 s ∧ (Y1.take (n + 2)).length = n + 2 ∧ Limb (Y1.take (n + 2)) ∧ At curY .u32 0 (Y1.take (n + 2))) := by
      have h9 := top_zero Q1.out Q2.out (by rw [Q3.out]; exact NV.out.1)
      exact ⟨by rw [h9.1, Q3.out], by rw [List.length_take, Q2.out]; omega, limb_take Q1.out _, Q6.out.take _⟩
    generalize Y1.take (n + 2) = Y at hU
    have htop : Hid (2147483648 ≤ Y.getD (n + 1) 0) := norm_top hU.out.2.2.1 hU.out.2.1 (by rw [hU.out.1]; exact NV.out.2)
    have U3 : Hid (w3.heap[w1.heap.size]? = some (.cells curY 62 (0, 0))) := (hb3.block _ s2).trans Q4.out
    have hne : w'.heap.size ≠ w2.heap.size := by omega
    have hne2 : w1.heap.size ≠ w2.heap.size := by omega
    have hne3 : w1.heap.size ≠ w'.heap.size := by omega
    have hstart : Hid (Dv w3 w3 w'.heap.size w2.heap.size xs.length m n (val ys * p2 s) (val xs * p2 s) m (O.take m) (O.drop m) [] [] cur0 d0) := by
      have hp := p2_pos s
      have e9 : w3.heap[w'.heap.size]? = some (.cells cur0 62 (0, 0)) := (hb3.block _ (by omega)).trans ((hb2.block _ s1).trans O4.out)
      refine ⟨⟨rfl, rfl, rfl, rfl, e9, hh, fun _ _ _ => rfl⟩, O5.out, hds, ?_, ?_, ?_, ?_, by simp, limb_take O1.out _, limb_drop O1.out _, limb_nil, ?_, ?_⟩
      · rw [List.take_append_drop, List.append_nil]; exact O6.out
      · rw [List.append_nil]; exact hat
      · have := O2.out; rw [List.length_take]; omega
      · have := O2.out; rw [List.length_drop]; omega
      · have h8 : val xs * p2 s < pw xs.length * p2 s := Int.mul_lt_mul_of_pos_right (val_bounds X3.out).2 (by omega)
        rw [show xs.length = m + (n + 1) by omega, pw_add, Int.mul_assoc] at h8
        have h9 := long_start (m := m) (n := n) (P := p2 s) O1.out (by have := O2.out; omega) (by rw [O3.out]; exact h8)
        have h10 : pw (n + 1) * p2 s ≤ val ys * p2 s := Int.mul_le_mul_of_nonneg_right YL.out (by omega)
        omega
      · have h9 := val_append (O.take m) (O.drop m)
        rw [List.take_append_drop, List.length_take, Nat.min_eq_left (by have := O2.out; omega), O3.out] at h9
        rw [h9]
        simp [val]
    clear hown hgrow hh hds hat
    go_wp2
    go_loopw [10] (fun i wr => ∃ (k : Nat) (lo W rest Q : List Int) (cur d : Array Value), k ≤ m ∧ i = .int .i64 ((k : Int) - 1) ∧ Dv w3 wr w'.heap.size w2.heap.size xs.length m n (val ys * p2 s) (val xs * p2 s) k lo W rest Q cur d) (fun i _ => (intOf i + 1).toNat)
    case atStart => exact ⟨m, _, _, _, _, _, _, Nat.le_refl _, by first | rfl | (congr 1; omega), hstart.out⟩
    case round =>
      obtain ⟨k, lo, W, rest, Q, cur, d, hk, rfl, hD⟩ := hrel
      have D := hide hD
      clear hD
      cases k with
      | zero =>
        have hlo : lo = [] := List.eq_nil_of_length_eq_zero D.out.lol
        subst hlo
        have hatQ : At d .u32 0 Q := by simpa using D.out.atd
        have hatW : At cur .u32 0 W := at_mid (A := []) D.out.atc
        have hQm : Q.length = m := by have := D.out.ql; omega
        have hp := p2_pos s
        have hend : val xs / val ys = val Q ∧ val xs % val ys = val W / p2 s := by
          have h9 := D.out.inv
          simp only [val, pw, Int.one_mul, Int.zero_add] at h9
          have h8 := pw_pos (n + 1)
          exact long_end (by omega) (by have := YL.out; omega) h9 (val_bounds D.out.liW).1 D.out.low
        have hbel : Below w'.heap.size w' wr := hb1.trans ((hb2.mono hb1.size).trans ((hb3.mono (by omega)).trans (D.out.two.below (by omega) (by omega))))
        have how : Ow w'.heap.size wr (.slice (some ⟨w2.heap.size, 0, none⟩) m m) Q :=
          ⟨_, m, by rw [hQm], by omega, by unfold maxLen; omega, D.out.liQ, .inr ⟨_, 0, _, rfl, by omega, D.out.two.there, by rw [D.out.dsz]; omega, hatQ⟩⟩
        have his := hide (how.is_cut (x := val xs / val ys) hend.1.symm)
        have hWs : Sl wr (.slice (some ⟨w'.heap.size, 0, none⟩) (n + 2) (xs.length + 1)) W := sl_of_at D.out.two.here hatW D.out.liW D.out.wl (by omega) (by unfold maxLen; omega)
        have HE := hide hend.2
        have hWl : W.length ≤ 1000000 := by have := D.out.wl; omega
        have ht := tl_le Q
        have htm : tl Q ≤ m := by omega
        have HO := hide how
        clear hend hatQ hatW hQm how ht
        go_wp2
        go_region_with (first
          | (go_at_call 35; refine (cut_any _ _ _ _ Q (HO.out.sl.below (by repeat (first | exact Below.refl _ _ | refine Below.drew ?_)))).mono ?_; rintro e wc ⟨rfl, rfl⟩)
          | (go_at_call 97; refine (moveDown_any _ _ _ _ W (hWs.below (by repeat (first | exact Below.refl _ _ | refine Below.drew ?_))) s hs31 hWl).mono ?_; rintro e wd ⟨vd, rfl, hi, hbd⟩))
        all_goals
          have hbd' := (show Below wr.heap.size wr _ by repeat (first | exact Below.refl _ _ | refine Below.drew ?_)).trans hbd
          have his' := his.out.below hbd'
          have hi' := hi.mono (B' := wr.heap.size) (by first | exact Nat.le_refl _ | simp)
          clear hbd hi
          go_wp2
          go_ret2
          obtain ⟨q1, q2, q3, q4⟩ := his.out
          obtain ⟨s1, s2, s3, s4⟩ := hi'
          exact ⟨_, _, rfl, his', ⟨s1, s2.mono hbel.size, s3, by rw [s4, HE.out]⟩, sep_of q2 s2 (Nat.le_refl _), hbel.trans (hbd'.mono hbel.size)⟩
      | succ k =>
        obtain ⟨lo', x, hlo, hll⟩ := split_last D.out.lol
        subst hlo
        have LL := hide hll
        have MD := hide (D.out.mid hll)
        clear hll
        have hxW : (x :: W).length = n + 2 + 1 := by have := D.out.wl; simp; omega
        have hPU : val (x :: W) < 4294967296 * (val ys * p2 s) := part_lt ((limb_cons.1 MD.out.2).1.2) D.out.low
        have e0 : k + (n + 2) + 1 - k = n + 2 + 1 := by omega
        have hYsl : ∀ wq cq, Wr wr wq w'.heap.size cq 62 → Sl wq (.slice (some ⟨w1.heap.size, 0, none⟩) (n + 2) (n + 2 + 1)) Y := by
          intro wq cq hq
          refine sl_of_at (cur := curY) ?_ hU.out.2.2.2 hU.out.2.2.1 hU.out.2.1 (by omega) (by unfold maxLen; omega)
          rw [hq.other _ hne3, D.out.two.other _ hne3 hne2]
          exact U3.out
        have hup : (x :: W).getD (n + 2) 0 ≤ Y.getD (n + 1) 0 := by
          have h9 := top_le (n := n + 1) D.out.liW hU.out.2.2.1 D.out.wl hU.out.2.1 (by rw [hU.out.1]; exact D.out.low)
          simpa using h9
        have kg : Hid (Calls Try.prog 94 #[.slice (some ⟨w'.heap.size, k, none⟩) (k + (n + 2) + 1 - k) (xs.length + 1 - k), .slice (some ⟨w1.heap.size, 0, none⟩) (n + 2) (n + 2 + 1)] wr fun e wz => ∃ g : Int, e = .returned (.int .u32 g) ∧ (0 ≤ g ∧ g < 4294967296) ∧ (val (x :: W) < (g + 1) * (val ys * p2 s) ∧ (g - 1) * (val ys * p2 s) ≤ val (x :: W)) ∧ ∃ q, wz = wr.drewN q) := by
          rw [e0]
          refine (guess_any wr _ _ n _ _ (x :: W) Y (sl_of_at D.out.two.here MD.out.1 MD.out.2 hxW (by omega) (by unfold maxLen; omega)) (hYsl _ _ (Wr.refl D.out.two.here)) htop.out hup).mono ?_
          rintro e wq ⟨g, rfl, hg, hA, hB, hq⟩
          exact ⟨g, rfl, hg, guess_near MD.out.2 hU.out.2.2.1 hxW hU.out.2.1 rfl hU.out.1 (by have := htop.out; omega) hPU hg hA hB, hq⟩
        have kt : Hid (∀ q g, 0 ≤ g ∧ g < 4294967296 → Calls Try.prog 95 #[.slice (some ⟨w'.heap.size, k, none⟩) (k + (n + 2) + 1 - k) (xs.length + 1 - k), .slice (some ⟨w1.heap.size, 0, none⟩) (n + 2) (n + 2 + 1), .int .u32 g] (wr.drewN q) fun e wz => ∃ qs b cur', e = .returned (.bool (b != 0)) ∧ (0 ≤ b ∧ b ≤ 1) ∧ val qs - pw (n + 2 + 1) * b = val (x :: W) - g * val Y ∧ Limb qs ∧ qs.length = n + 2 + 1 ∧ Wr (wr.drewN q) wz w'.heap.size cur' 62 ∧ cur'.size = cur.size ∧ At cur' .u32 k qs ∧ (∀ i, i < k ∨ k + (n + 2 + 1) ≤ i → cur'[i]? = cur[i]?)) := by
          intro q g hg
          rw [e0]
          exact takeTimes_any (wr.drewN q) _ k (n + 2) _ _ cur (x :: W) Y _ g hg (D.out.two.drewN q).here MD.out.1 MD.out.2 hxW (by omega) (fun wq cq hq => hYsl wq cq ⟨hq.os, hq.tape, hq.output, hq.size, hq.here, hq.other⟩)
        have kb : Hid (∀ (wq : World) (cq : Array Value) (ps : List Int), Wr wr wq w'.heap.size cq 62 → At cq .u32 k ps → Limb ps → ps.length = n + 2 + 1 → Calls Try.prog 96 #[.slice (some ⟨w'.heap.size, k, none⟩) (k + (n + 2) + 1 - k) (xs.length + 1 - k), .slice (some ⟨w1.heap.size, 0, none⟩) (n + 2) (n + 2 + 1)] wq fun e wz => ∃ qs c cur', e = .returned (.tuple #[]) ∧ (0 ≤ c ∧ c ≤ 1) ∧ val qs + pw (n + 2 + 1) * c = val ps + val Y ∧ Limb qs ∧ qs.length = n + 2 + 1 ∧ Wr wq wz w'.heap.size cur' 62 ∧ cur'.size = cq.size ∧ At cur' .u32 k qs ∧ (∀ i, i < k ∨ k + (n + 2 + 1) ≤ i → cur'[i]? = cq[i]?)) := by
          intro wq cq ps hq ha hp hl
          rw [e0]
          exact addBack_any wq _ k (n + 2) _ _ cq ps Y _ hq.here ha hp hl (by omega) (fun wz cz hz => hYsl wz cz (hq.trans hz))
        clear hxW hPU e0 hYsl hup
        go_wp2_with fail
        refine (kg.out).mono ?_
        rintro e w4 ⟨g, rfl, hg, hnear, q1, rfl⟩
        have NR := hide hnear
        clear hnear
        go_wp2_with fail
        refine (kt.out q1 g hg).mono ?_
        rintro e w5 ⟨qs, bo, cur', rfl, hbo, hv, hq, hql, hwr, hcs, hat, hout⟩
        have V1 := hide hv
        have V2 := hide hq
        have V3 := hide hql
        have V4 := hide hwr
        have V5 := hide hcs
        have V6 := hide hat
        have V7 := hide hout
        clear hv hq hql hwr hcs hat hout
        have hqb : Hid (0 ≤ val qs ∧ val qs < pw (n + 2 + 1)) := by
          have h9 := val_bounds V2.out
          rwa [V3.out] at h9
        have hU0 : Hid (0 < val ys * p2 s ∧ val ys * p2 s < pw (n + 2 + 1) ∧ val ys * p2 s ≤ pw (n + 2)) := by
          have h9 := NV.out
          have h8 := pw_mono (m := n + 2) (n := n + 2 + 1) (by omega)
          have h7 := pw_pos (n + 1)
          exact ⟨by omega, by omega, by omega⟩
        have V8 : Hid (val qs - pw (n + 2 + 1) * bo = val (x :: W) - g * (val ys * p2 s)) := by rw [← hU.out.1]; exact V1.out
        by_cases hb0 : bo = 0
        · have two := hide ((D.out.two.drewN q1).left hne.symm V4.out)
          have near := (rest_near (A2 := 0) (c := 0) hU0.out.1 hU0.out.2.1 NR.out.1 NR.out.2 hqb.out hbo V8.out).1 hb0
          have ST := hide (D.out.step LL.out hne two.out V5.out V6.out V7.out V2.out V3.out hU0.out.2.2 near.2.1 near.2.2 hg)
          have hcq := D.out.atd.cell two.out.there k (by have := D.out.ql; simp; omega)
          rw [Nat.zero_add] at hcq
          generalize (List.replicate (k + 1) (0 : Int) ++ Q).getD k 0 = old at hcq
          have hfree := (Wr.refl two.out.there).free k
          clear near
          subst hb0
          go_wp2
          go_roundw
          case rel => exact ⟨k, _, _, _, _, _, _, by omega, by first | rfl | go_num, ST.out⟩
          case measure => simp [intOf]
        · have hb1' : bo = 1 := by omega
          subst hb1'
          have hg1 : 1 ≤ g := by
            apply Classical.byContradiction
            intro hn
            have h9 := V8.out
            have h8 := hqb.out
            have h7 := (val_bounds MD.out.2).1
            rw [show g = 0 by omega, Int.zero_mul, Int.mul_one] at h9
            omega
          have KB := hide (kb.out w5 cur' qs ⟨V4.out.os, V4.out.tape, V4.out.output, V4.out.size, V4.out.here, V4.out.other⟩ V6.out V2.out V3.out)
          go_wp2_with fail
          refine (KB.out).mono ?_
          rintro e w6 ⟨q2, c, cur2, rfl, hc, hv, hq, hql, hwr, hcs, hat, hout⟩
          have hq2 : 0 ≤ val q2 ∧ val q2 < pw (n + 2 + 1) := by
            have h9 := val_bounds hq
            rwa [hql] at h9
          have two := hide (((D.out.two.drewN q1).left hne.symm V4.out).left hne.symm hwr)
          have near := (rest_near (A2 := val q2) (c := c) hU0.out.1 hU0.out.2.1 NR.out.1 NR.out.2 hqb.out hbo V8.out).2 rfl hq2 hc (by rw [← hU.out.1]; exact hv)
          have ST := hide (D.out.step LL.out hne two.out (hcs.trans V5.out) hat (fun i hi => (hout i hi).trans (V7.out i hi)) hq hql hU0.out.2.2 near.2.1 near.2.2 (by omega))
          have hcq := D.out.atd.cell two.out.there k (by have := D.out.ql; simp; omega)
          rw [Nat.zero_add] at hcq
          generalize (List.replicate (k + 1) (0 : Int) ++ Q).getD k 0 = old at hcq
          have hfree := (Wr.refl two.out.there).free k
          clear near hq2 hv hq hql hwr hcs hat hout
          go_wp2
          go_roundw
          case rel => exact ⟨k, _, _, _, _, _, _, by omega, by first | rfl | go_num, ST.out⟩
          case measure => simp [intOf]
end Lm
end Go.Proofs.Ytodgiglhconkoaa

namespace Go.Proofs.Ytodgiglhconkoaa
namespace Lm
open Go.RowKit
set_option maxRecDepth 20000 in
set_option maxHeartbeats 1000000 in
theorem divmod_long (w : World) (a1 a2 : Option Addr) (n1 n2 c1 c2 : Nat) (xs ys : List Int) (hx : Sl w (.slice a1 n1 c1) xs) (hy : Sl w (.slice a2 n2 c2) ys) (hm1 : xs.length ≤ 500000) (hle : tl ys ≤ tl xs) (h2 : 2 ≤ tl ys) :
    Calls Try.prog 77 #[.slice a1 n1 c1, .slice a2 n2 c2] w fun e w' => ∃ v1 v2, e = .returned (.tuple #[v1, v2, .bool true]) ∧ Is w.heap.size w' v1 (val xs / val ys) ∧ Is w.heap.size w' v2 (val xs % val ys) ∧ Sep v1 v2 ∧ Below w.heap.size w w' := by
  obtain ⟨rfl, h1, _, h3⟩ := hx.parts
  obtain ⟨rfl, g1, _, g3⟩ := hy.parts
  have t1 := tl_le xs
  have t2 := tl_le ys
  have kd := divideLong_any w a1 a2 (tl xs) (tl ys) c1 c2 _ _ hx.cut hy.cut (by rw [List.length_take]; omega) (by rw [List.length_take]; omega) (by rw [List.length_take, List.length_take]; omega) (canon_trim g3)
  rw [val_take_tl, val_take_tl] at kd
  have KD := hide kd
  clear kd h3 g3
  have hne : (((tl ys : Nat) : Int) == 0) = false := by simp; omega
  have hne1 : (((tl ys : Nat) : Int) == 1) = false := by simp; omega
  go_enter Try.func77, Try.ntmps77
  go_wp2_with fail
  refine (cut_any w a1 _ c1 xs hx).mono ?_
  rintro e w' ⟨rfl, rfl⟩
  go_wp2_with fail
  refine (cut_any _ a2 _ c2 ys hy).mono ?_
  rintro e w' ⟨rfl, rfl⟩
  go_wp2_with fail
  refine (KD.out).mono ?_
  rintro e w1 ⟨v1, v2, rfl, hi1, hi2, hsep, hb⟩
  go_wp2
  go_ret3
  exact ⟨_, _, rfl, hi1, hi2, hsep, hb⟩
theorem divmod_any (w : World) (a1 a2 : Option Addr) (n1 n2 c1 c2 : Nat) (xs ys : List Int) (hx : Sl w (.slice a1 n1 c1) xs) (hy : Sl w (.slice a2 n2 c2) ys) (hm1 : xs.length ≤ 500000) (h0 : val ys ≠ 0) :
    Calls Try.prog 77 #[.slice a1 n1 c1, .slice a2 n2 c2] w fun e w' => ∃ v1 v2, e = .returned (.tuple #[v1, v2, .bool true]) ∧ Is w.heap.size w' v1 (val xs / val ys) ∧ Is w.heap.size w' v2 (val xs % val ys) ∧ Sep v1 v2 ∧ Below w.heap.size w w' := by
  have hz : 0 < tl ys := by
    apply Classical.byContradiction
    intro hn
    exact h0 (tl_zero (by omega))
  by_cases h1 : tl xs < tl ys
  · exact divmod_less w a1 a2 n1 n2 c1 c2 xs ys hx hy (by omega) h1
  · by_cases h2 : tl ys = 1
    · exact divmod_short w a1 a2 n1 n2 c1 c2 xs ys hx hy (by omega) (by omega) h2
    · exact divmod_long w a1 a2 n1 n2 c1 c2 xs ys hx hy hm1 (by omega) (by omega)
theorem divmod_none (w : World) (a1 a2 : Option Addr) (n1 n2 c1 c2 : Nat) (xs ys : List Int) (hx : Sl w (.slice a1 n1 c1) xs) (hy : Sl w (.slice a2 n2 c2) ys) (h0 : val ys = 0) :
    Calls Try.prog 77 #[.slice a1 n1 c1, .slice a2 n2 c2] w fun e w' => e = .returned (.tuple #[.slice none 0 0, .slice none 0 0, .bool false]) ∧ Below w.heap.size w w' := by
  refine divmod_zero w a1 a2 n1 n2 c1 c2 xs ys hx hy ?_
  apply Classical.byContradiction
  intro hn
  have := val_pos_tl hy.parts.2.2.2 (by omega)
  omega
theorem divmod_g (w : World) (a1 a2 : Option Addr) (n1 n2 c1 c2 : Nat) (xs ys : List Int) (hx : Sl w (.slice a1 n1 c1) xs) (hy : Sl w (.slice a2 n2 c2) ys) (hm1 : xs.length ≤ 500000) (h0 : val ys ≠ 0) :
    Calls Try.prog 77 #[.slice a1 n1 c1, .slice a2 n2 c2] w fun e w' => ∃ ao cap rs bo dap ss, e = .returned (.tuple #[.slice ao rs.length cap, .slice bo ss.length dap, .bool true]) ∧ Got w' ao cap rs (val xs / val ys) ∧ Got w' bo dap ss (val xs % val ys) ∧ rs.length ≤ xs.length ∧ ss.length ≤ ys.length ∧ Below w.heap.size w w' := by
  refine (divmod_any w a1 a2 n1 n2 c1 c2 xs ys hx hy hm1 h0).mono ?_
  rintro e w' ⟨v1, v2, rfl, hi1, hi2, _, hb⟩
  obtain ⟨ao, cap, rs, rfl, hg1⟩ := hi1.got
  obtain ⟨bo, dap, ss, rfl, hg2⟩ := hi2.got
  have bx := val_bounds hx.parts.2.2.2
  have by' := val_bounds hy.parts.2.2.2
  refine ⟨ao, cap, rs, bo, dap, ss, rfl, hg1, hg2, le_len hx.parts.2.2.2 hg1.canon ?_, le_len hy.parts.2.2.2 hg2.canon ?_, hb⟩
  · rw [hg1.val]
    exact Int.ediv_le_self _ bx.1
  · rw [hg2.val]
    have := Int.emod_lt_of_pos (val xs) (show 0 < val ys by omega)
    omega
end Lm
end Go.Proofs.Ytodgiglhconkoaa

namespace Go.Proofs.Ytodgiglhconkoaa
namespace Lm
open Go.RowKit
theorem boxed4 (w : World) (nx : Bool) (vx : Value) (ny : Bool) (vy : Value) : ∃ w0 : World, (((w.alloc (.cells #[.bool nx, vx] 30)).alloc (.cells #[.bool ny, vy] 30)).alloc (.cells #[.bool false, .slice none 0 0] 30)).alloc (.cells #[.bool false, .slice none 0 0] 30) = w0 ∧ Box w0 w.heap.size nx vx ∧ Box w0 (w.heap.size + 1) ny vy ∧ Box w0 (w.heap.size + 1 + 1) false (.slice none 0 0) ∧ Box w0 (w.heap.size + 1 + 1 + 1) false (.slice none 0 0) ∧ Below w.heap.size w w0 ∧ w0.heap.size = w.heap.size + 4 := by
  obtain ⟨w2, e2, b1, b2, b3, hb, hs⟩ := boxed3 w nx vx ny vy
  have h2 := boxed w2 false (.slice none 0 0)
  rw [e2]
  refine ⟨_, rfl, b1.below h2.2.1, b2.below h2.2.1, b3.below h2.2.1, ?_, hb.trans (h2.2.1.mono (by omega)), by rw [h2.2.2, hs]⟩
  have h3 := h2.1
  rw [hs] at h3
  exact h3
theorem ediv_sg (ny : Bool) (X Y : Int) : X / sg ny Y = sg ny (X / Y) ∧ X % sg ny Y = X % Y := by
  cases ny <;> simp [sg, Int.ediv_neg, Int.emod_neg]
theorem euclid_neg {X Y : Int} (hY : 0 < Y) : (X % Y = 0 → -X / Y = -(X / Y) ∧ -X % Y = 0) ∧ (X % Y ≠ 0 → -X / Y = -(X / Y + 1) ∧ -X % Y = Y - X % Y) := by
  have h1 := Int.mul_ediv_add_emod X Y
  have h2 := Int.emod_nonneg X (show Y ≠ 0 by omega)
  have h3 := Int.emod_lt_of_pos X hY
  constructor
  · intro h0
    refine div_of hY ?_ (Int.le_refl 0) hY
    rw [Int.neg_mul, Int.mul_comm (X / Y)]
    omega
  · intro h0
    refine div_of hY ?_ (by omega) (by omega)
    rw [Int.neg_mul, Int.add_mul, Int.mul_comm (X / Y)]
    omega
theorem Box.other {w : World} {g h : Nat} {ng : Bool} {v : Value} (H : Box w g ng v) (hn : g ≠ h) (b u : Value) : Box ((w.setCell ⟨h, 0, none⟩ b).setCell ⟨h, 1, none⟩ u) g ng v :=
  (heap_setCell_other _ ⟨h, 1, none⟩ g u hn).trans ((heap_setCell_other w ⟨h, 0, none⟩ g b hn).trans H)
theorem box_two {w : World} {g h : Nat} {n1 n2 nq nr : Bool} {v1 v2 vq vr : Value} (H1 : Box w g n1 v1) (H2 : Box w h n2 v2) (hn : g ≠ h) : Box ((((w.setCell ⟨g, 0, none⟩ (.bool nq)).setCell ⟨g, 1, none⟩ vq).setCell ⟨h, 0, none⟩ (.bool nr)).setCell ⟨h, 1, none⟩ vr) g nq vq ∧ Box ((((w.setCell ⟨g, 0, none⟩ (.bool nq)).setCell ⟨g, 1, none⟩ vq).setCell ⟨h, 0, none⟩ (.bool nr)).setCell ⟨h, 1, none⟩ vr) h nr vr :=
  ⟨(H1.set nq vq).other hn _ _, (H2.other (Ne.symm hn) _ _).set nr vr⟩
theorem wdiv_pos (ny : Bool) (X Y : Int) : sg (false != ny) (X / Y) = sg false X / sg ny Y ∧ sg false (X % Y) = sg false X % sg ny Y := by
  have h := ediv_sg ny (sg false X) Y
  rw [h.1, h.2]
  cases ny <;> simp [sg]
theorem wdiv_even (nx ny : Bool) {X Y : Int} (hY : 0 < Y) (h0 : X % Y = 0) : sg (nx != ny) (X / Y) = sg nx X / sg ny Y ∧ sg false (X % Y) = sg nx X % sg ny Y := by
  cases nx with
  | false => exact wdiv_pos ny X Y
  | true =>
    have h := ediv_sg ny (sg true X) Y
    have h2 := (euclid_neg (X := X) hY).1 h0
    rw [h.1, h.2, h0]
    cases ny <;> simp [sg, h2]
theorem wdiv_odd (ny : Bool) {X Y : Int} (hY : 0 < Y) (h0 : X % Y ≠ 0) : sg (true != ny) (X / Y + 1) = sg true X / sg ny Y ∧ sg false (Y - X % Y) = sg true X % sg ny Y := by
  have h := ediv_sg ny (sg true X) Y
  have h2 := (euclid_neg (X := X) hY).2 h0
  rw [h.1, h.2]
  cases ny <;> simp [sg, h2]
set_option maxRecDepth 20000 in
set_option maxHeartbeats 1000000 in
theorem wdivmod_none (w : World) (nx : Bool) (a1 : Option Addr) (n1 c1 : Nat) (xs : List Int) (hx : Sl w (.slice a1 n1 c1) xs) (ny : Bool) (a2 : Option Addr) (n2 c2 : Nat) (ys : List Int) (hy : Sl w (.slice a2 n2 c2) ys) (h0 : val ys = 0) :
    Calls Try.prog 65 #[.agg #[.bool nx, .slice a1 n1 c1], .agg #[.bool ny, .slice a2 n2 c2]] w fun e w' => e = .returned (.tuple #[.agg #[.bool false, .slice none 0 0], .agg #[.bool false, .slice none 0 0], .bool false]) ∧ Below w.heap.size w w' := by
  obtain ⟨w0, e0, bx, by', bq, br, hb0, hs0⟩ := boxed4 w nx (.slice a1 n1 c1) ny (.slice a2 n2 c2)
  have E0 := hide e0
  have hx0 := hx.below hb0
  have hy0 := hy.below hb0
  clear e0 hs0
  have H0 := hide h0
  clear h0
  go_enter Try.func65, Try.ntmps65
  go_wp2_with fail
  rw [E0.out]
  obtain ⟨ca, cb, cc, cd⟩ := bx.facts
  obtain ⟨ea, eb, ec, ed⟩ := by'.facts
  refine (divmod_none _ _ _ _ _ _ _ xs ys hx0 hy0 H0.out).mono ?_
  rintro e w1 ⟨rfl, hb1⟩
  have Z := hide (hb0.trans (hb1.mono hb0.size))
  obtain ⟨qa, qb, qc, qd⟩ := (bq.below hb1).facts
  obtain ⟨ra, rb, rc, rd⟩ := (br.below hb1).facts
  have F := hide (box_two (nq := false) (vq := .slice none 0 0) (nr := false) (vr := .slice none 0 0) (bq.below hb1) (br.below hb1) (by omega))
  have Z2 := hide (below_set2 (below_set2 Z.out (show w.heap.size ≤ w.heap.size + 1 + 1 by omega) (.bool false) (.slice none 0 0)) (show w.heap.size ≤ w.heap.size + 1 + 1 + 1 by omega) (.bool false) (.slice none 0 0))
  go_wp2
  refine bodyPost_ret (v := .tuple #[.agg #[.bool false, .slice none 0 0], .agg #[.bool false, .slice none 0 0], .bool false]) ?_ rfl ⟨rfl, Z2.out⟩
  simp [results, Try.results65, go_sem, F.out.1.facts.1, F.out.1.facts.2.1, F.out.2.facts.1, F.out.2.facts.2.1]
end Lm
end Go.Proofs.Ytodgiglhconkoaa

namespace Go.Proofs.Ytodgiglhconkoaa
namespace Lm
open Go.RowKit
theorem two_limbs {zs : List Int} (hz : Limb zs) (i : Nat) : ∃ t : Int, val zs / pw i = (zs.getD (i + 1) 0 * 4294967296 + zs.getD i 0) + 18446744073709551616 * t := by
  have h0 : val zs / pw i = val (zs.drop i) := by
    by_cases hi : i ≤ zs.length
    · have e := val_append (zs.take i) (zs.drop i)
      rw [List.take_append_drop, List.length_take, Nat.min_eq_left hi] at e
      have b := val_bounds (limb_take hz i)
      rw [List.length_take, Nat.min_eq_left hi] at b
      exact (div_of (a := val zs) (b := pw i) (by have := pw_pos i; omega) (by rw [e, Int.mul_comm]; omega) b.1 b.2).1
    · rw [List.drop_of_length_le (by omega)]
      have b := val_bounds hz
      have hm := pw_mono (m := zs.length) (n := i) (by omega)
      exact Int.ediv_eq_zero_of_lt b.1 (by omega)
  refine ⟨val (zs.drop (i + 2)), ?_⟩
  rw [h0]
  by_cases h1 : i < zs.length
  · rw [drop_getD zs i h1, val]
    by_cases h2 : i + 1 < zs.length
    · rw [drop_getD zs (i + 1) h2, val, show i + 2 = i + 1 + 1 from rfl]
      omega
    · have e1 : zs.drop (i + 1) = [] := List.drop_of_length_le (by omega)
      have e2 : zs.drop (i + 2) = [] := List.drop_of_length_le (by omega)
      have e3 : zs.getD (i + 1) 0 = 0 := by rw [List.getD_eq_getElem?_getD, List.getElem?_eq_none (by omega)]; rfl
      rw [e1, e2, e3]
      simp [val]
  · have e1 : zs.drop i = [] := List.drop_of_length_le (by omega)
    have e2 : zs.drop (i + 2) = [] := List.drop_of_length_le (by omega)
    have e3 : zs.getD (i + 1) 0 = 0 := by rw [List.getD_eq_getElem?_getD, List.getElem?_eq_none (by omega)]; rfl
    have e4 : zs.getD i 0 = 0 := by rw [List.getD_eq_getElem?_getD, List.getElem?_eq_none (by omega)]; rfl
    rw [e1, e2, e3, e4]
    simp [val]
theorem mask30 {x : Int} (h0 : 0 ≤ x) (h1 : x < 4294967296) : bits .and .u32 x 1073741823 = x % 1073741824 := by
  rw [u32_and _ _ h0 h1 (by omega) (by omega)]
  have : (1073741823 : Int).toNat = 2 ^ 30 - 1 := by decide
  rw [this, Nat.and_two_pow_sub_one_eq_mod]
  omega
theorem window_val {V r t : Int} {s : Nat} (hs : s ≤ 31) (hV : V = r + 18446744073709551616 * t) : r / p2 s % 4294967296 % 1073741824 = V / p2 s % 1073741824 := by
  have hp := p2_pos s
  have e1 : (18446744073709551616 : Int) = p2 s * (1073741824 * p2 (34 - s)) := by
    have h9 : p2 s * (p2 30 * p2 (34 - s)) = p2 64 := by rw [← p2_add, ← p2_add, show s + (30 + (34 - s)) = 64 by omega]
    rw [show p2 30 = 1073741824 from by decide, show p2 64 = 18446744073709551616 from by decide] at h9
    exact h9.symm
  have e2 : V / p2 s = r / p2 s + 1073741824 * (p2 (34 - s) * t) := by
    rw [hV, e1, Int.mul_assoc, Int.add_mul_ediv_left _ _ (by omega), Int.mul_assoc]
  rw [e2, Int.add_mul_emod_self_left]
  omega
set_option maxRecDepth 20000 in
set_option maxHeartbeats 400000 in
theorem window_any (w : World) (ao : Option Addr) (n cap : Nat) (zs : List Int) (h : Sl w (.slice ao n cap) zs) (low : Nat) (hlow : low ≤ 100000000) :
    Calls Try.prog 90 #[.slice ao n cap, .int .i64 low] w fun e w' => e = .returned (.int .u32 (val zs / p2 low % 1073741824)) ∧ w' = w := by
  obtain ⟨rfl, x1, x2, x3⟩ := h.parts
  obtain ⟨i, hi⟩ : ∃ i, i = low / 32 := ⟨_, rfl⟩
  obtain ⟨s, hs⟩ : ∃ s, s = low % 32 := ⟨_, rfl⟩
  have e1 : (low : Int) / 32 = (i : Nat) := by omega
  have e2 : (low : Int) % 32 = (s : Nat) := by omega
  have hs31 : s ≤ 31 := by omega
  have hib : i ≤ 100000000 := by omega
  have HPL : Hid (p2 low = pw i * p2 s) := by
    show _ = _
    rw [pw_p2, ← p2_add]
    congr 1
    omega
  have bA := limb_getD x3 i
  have bC := limb_getD x3 (i + 1)
  obtain ⟨t, ht⟩ := two_limbs x3 i
  have k1 : Hid (∀ w' : World, Sl w' (.slice ao zs.length cap) zs → Calls Try.prog 52 #[.slice ao zs.length cap, .int .i64 ((i : Int) + 1)] w' fun e w'' => e = .returned (.int .u32 (zs.getD (i + 1) 0)) ∧ w'' = w') := by
    intro w' h'
    have h9 := limb_any w' _ zs h' ((i : Int) + 1) (by omega)
    rwa [show ((i : Int) + 1).toNat = i + 1 by omega] at h9
  have k2 : Hid (∀ w' : World, Sl w' (.slice ao zs.length cap) zs → Calls Try.prog 52 #[.slice ao zs.length cap, .int .i64 (i : Int)] w' fun e w'' => e = .returned (.int .u32 (zs.getD i 0)) ∧ w'' = w') := fun w' h' => limb_nat w' _ zs h' i
  have HT := hide ht
  generalize zs.getD (i + 1) 0 = C at bC k1 HT
  generalize zs.getD i 0 = A at bA k2 HT
  have hor := or_join C A bC.1 bC.2 bA.1 bA.2
  obtain ⟨M, hM⟩ : ∃ M, M = C * 4294967296 + A := ⟨_, rfl⟩
  rw [← hM] at hor HT
  have hM0 : 0 ≤ M := by omega
  have hM1 : M < 18446744073709551616 := by omega
  have hpw := p2_pow s
  have hp1 := p2_pos s
  have hd0 : 0 ≤ M / p2 s := Int.ediv_nonneg hM0 (by omega)
  have hmk : bits .and .u32 (M / p2 s % 4294967296) 1073741823 = M / p2 s % 4294967296 % 1073741824 := mask30 (by omega) (by omega)
  have HV : Hid (M / p2 s % 1073741824 = val zs / p2 low % 1073741824) := by
    have h9 := window_val hs31 HT.out
    rw [Int.ediv_ediv_of_nonneg (by have := pw_pos i; omega), ← HPL.out] at h9
    show _ = _
    omega
  clear x3 ht hM hi hs
  go_enter Try.func90, Try.ntmps90
  go_wp2_with fail
  refine (k1.out _ h).mono ?_
  rintro e w1 ⟨rfl, rfl⟩
  go_wp2_with fail
  refine (k2.out _ h).mono ?_
  rintro e w1 ⟨rfl, rfl⟩
  go_wp2
  go_ret
  exact ⟨by rw [← HV.out]; rfl, rfl⟩
end Lm
end Go.Proofs.Ytodgiglhconkoaa

namespace Go.Proofs.Ytodgiglhconkoaa
namespace Lm
open Go.RowKit
theorem com_val {xs ys os : List Int} {k : Nat} {p q x y c s : Int} (hk : os.length = k) (hx : xs.getD k 0 = x) (hy : ys.getD k 0 = y) (hs : s = p * x + q * y + c) (h : val os + pw k * c = p * vf xs k + q * vf ys k) :
    val (os ++ [s % 4294967296]) + pw (k + 1) * (s / 4294967296) = p * vf xs (k + 1) + q * vf ys (k + 1) := by
  rw [val_snoc, vf, vf, hx, hy, hk, pw]
  have e : s = s % 4294967296 + 4294967296 * (s / 4294967296) := by omega
  have e2 : pw k * (s % 4294967296) + 4294967296 * pw k * (s / 4294967296) = pw k * s := by
    rw [Int.mul_comm 4294967296 (pw k), Int.mul_assoc, ← Int.mul_add, ← e]
  have e3 : p * (pw k * x) = pw k * (p * x) := by rw [← Int.mul_assoc, Int.mul_comm p, Int.mul_assoc]
  have e4 : q * (pw k * y) = pw k * (q * y) := by rw [← Int.mul_assoc, Int.mul_comm q, Int.mul_assoc]
  rw [Int.add_assoc, e2, hs, Int.mul_add, Int.mul_add, Int.mul_add, Int.mul_add, e3, e4]
  omega
theorem com_bound {p x : Int} (hp : -1073741824 ≤ p ∧ p ≤ 1073741824) (hx : 0 ≤ x ∧ x < 4294967296) : -4611686018427387904 ≤ p * x ∧ p * x ≤ 4611686018427387904 := by
  have h1 : p * x ≤ 1073741824 * x := Int.mul_le_mul_of_nonneg_right hp.2 hx.1
  have h2 : -1073741824 * x ≤ p * x := Int.mul_le_mul_of_nonneg_right hp.1 hx.1
  omega
theorem com_two {p q x y : Int} (hp : -1073741824 ≤ p ∧ p ≤ 1073741824) (hq : -1073741824 ≤ q ∧ q ≤ 1073741824) (hs : (0 ≤ p ∧ q ≤ 0) ∨ (p ≤ 0 ∧ 0 ≤ q)) (hx : 0 ≤ x ∧ x < 4294967296) (hy : 0 ≤ y ∧ y < 4294967296) : -4611686018427387904 ≤ p * x + q * y ∧ p * x + q * y ≤ 4611686018427387904 := by
  have b1 := com_bound hp hx
  have b2 := com_bound hq hy
  rcases hs with ⟨h1, h2⟩ | ⟨h1, h2⟩
  · have p1 : 0 ≤ p * x := Int.mul_nonneg h1 hx.1
    have p2 : 0 ≤ (-q) * y := Int.mul_nonneg (by omega) hy.1
    rw [Int.neg_mul] at p2
    omega
  · have p1 : 0 ≤ (-p) * x := Int.mul_nonneg (by omega) hx.1
    have p2 : 0 ≤ q * y := Int.mul_nonneg h2 hy.1
    rw [Int.neg_mul] at p1
    omega
set_option maxRecDepth 20000 in
set_option maxHeartbeats 1000000 in
theorem combine_any (w : World) (a1 a2 : Option Addr) (n1 n2 c1 c2 : Nat) (xs ys : List Int) (hx : Sl w (.slice a1 n1 c1) xs) (hy : Sl w (.slice a2 n2 c2) ys) (hm : xs.length ≤ 1000000) (hl : ys.length ≤ xs.length) (p q : Int) (hp : -1073741824 ≤ p ∧ p ≤ 1073741824) (hq : -1073741824 ≤ q ∧ q ≤ 1073741824) (hs : (0 ≤ p ∧ q ≤ 0) ∨ (p ≤ 0 ∧ 0 ≤ q)) (h0 : 0 ≤ p * val xs + q * val ys) (h1 : p * val xs + q * val ys < pw xs.length) :
    Calls Try.prog 91 #[.int .i64 p, .slice a1 n1 c1, .int .i64 q, .slice a2 n2 c2] w fun e w' => ∃ v, e = .returned v ∧ Is w.heap.size w' v (p * val xs + q * val ys) ∧ Below w.heap.size w w' := by
  obtain ⟨rfl, x1, x2, x3⟩ := hx.parts
  obtain ⟨rfl, y1, y2, y3⟩ := hy.parts
  obtain ⟨i0, hi, hz0, hz1, hz2⟩ := info_parts info32
  have X3 := hide x3
  have Y3 := hide y3
  have H0 := hide h0
  have H1 := hide h1
  have HP := hide hp
  have HQ := hide hq
  have HS := hide hs
  clear x3 y3 h0 h1 hp hq hs
  go_enter Try.func91, Try.ntmps91
  go_wp2_with (refine wpList_make_full _ rfl (.tmp 14) (.tmp 14) 28 rfl w.heap.size 62 i0 (.int .u32 0) 1 Try.underlying28 hi hz0 hz1 .i64 .i64 _ _ xs.length rfl rfl (by omega) (by omega) (by rw [hz2]; omega) (by unfold maxLen; omega) (Nat.le_refl _) ?hK)
  case hK =>
    intro w1 hown hgrow
    obtain ⟨_, cur, hh, hcs, hat⟩ := block_of_made hown
    have hb1 : Below w.heap.size w w1 := (Below.refl w.heap.size w).grown hgrow (Nat.le_refl _) (by simp)
    have HH := hide hh
    have HC0 := hide hcs
    have HA := hide hat
    clear hown hgrow hh hcs hat
    go_wp2
    go_loopw [10, 18] (fun cv i wr => ∃ (k : Nat) (c : Int) (os : List Int) (cur' : Array Value), k ≤ xs.length ∧ cv = .int .i64 c ∧ i = .int .i64 k ∧ (-1073741826 ≤ c ∧ c ≤ 1073741826) ∧ os.length = k ∧ Limb os ∧ val os + pw k * c = p * vf xs k + q * vf ys k ∧ Wr w1 wr w.heap.size cur' 62 ∧ cur'.size = xs.length ∧ At cur' .u32 0 (os ++ (List.replicate xs.length 0).drop k)) (fun _ i _ => xs.length - (intOf i).toNat)
    case atStart => exact ⟨0, 0, [], cur, Nat.zero_le _, rfl, rfl, by omega, rfl, limb_nil, by simp [val, vf, pw], Wr.refl HH.out, HC0.out, by simpa using HA.out⟩
    case round =>
      obtain ⟨k, c, os, cur', hk, rfl, rfl, hc, hol, ho, hval, hwr, hcs, hat⟩ := hrel
      have HOL := hide hol
      have HO := hide ho
      have HV := hide hval
      have HW := hide hwr
      have HC := hide hcs
      have HT := hide hat
      clear hol ho hval hwr hcs hat
      by_cases hlt : k < xs.length
      · have sx := HW.out.sl (Nat.le_refl _) hb1 rfl hx
        have sy := HW.out.sl (Nat.le_refl _) hb1 rfl hy
        obtain ⟨b, off, rfl, hcx⟩ := sx.cells (by omega)
        have cx := hcx k (by omega)
        have bx := limb_getD X3.out k
        have by' := limb_getD Y3.out k
        obtain ⟨x, hxk⟩ : ∃ x, xs.getD k 0 = x := ⟨_, rfl⟩
        obtain ⟨y, hyk⟩ : ∃ y, ys.getD k 0 = y := ⟨_, rfl⟩
        have ky : Hid (∀ n, Calls Try.prog 52 #[.slice a2 ys.length c2, .int .i64 k] (wr.drewN n) fun e w' => e = .returned (.int .u32 y) ∧ w' = wr.drewN n) := by
          intro n; rw [← hyk]; exact limb_nat _ _ ys (sy.below (below_drewN (Below.refl _ _) n)) k
        rw [hxk] at cx bx
        rw [hyk] at by'
        have hpx := com_bound HP.out bx
        have hqy := com_bound HQ.out by'
        have htw := com_two HP.out HQ.out HS.out bx by'
        obtain ⟨P, hP⟩ : ∃ P, P = p * x := ⟨_, rfl⟩
        obtain ⟨R, hR⟩ : ∃ R, R = q * y := ⟨_, rfl⟩
        have HV' := hide (com_val (p := p) (q := q) HOL.out hxk hyk rfl HV.out)
        rw [← hP] at hpx htw HV'
        rw [← hR] at hqy htw HV'
        have ep : p * x = P := hP.symm
        have er : q * y = R := hR.symm
        have hlen : (os ++ (List.replicate xs.length (0 : Int)).drop k).length = xs.length := by have := HOL.out; simp; omega
        have hcell := HT.out.cell HW.out.here k (by rw [hlen]; omega)
        rw [Nat.zero_add] at hcell
        generalize (os ++ (List.replicate xs.length (0 : Int)).drop k).getD k 0 = old at hcell
        have hfree := HW.out.free k
        have HT' := hide (HT.out.set k ((P + R + c) % 4294967296))
        have HW' := hide (HW.out.set k (.int .u32 ((P + R + c) % 4294967296)))
        clear hlen sx sy hcx hxk hyk hP hR
        go_wp2
        go_quiet ((go_at_call 52; exact Calls.quiet_of_same (ky.out _)))
        go_wp2
        go_roundw
        case rel => exact ⟨k + 1, (P + R + c) / 4294967296, os ++ [(P + R + c) % 4294967296], _, by omega, rfl, by go_num, by omega, by have := HOL.out; simp; omega, limb_append.2 ⟨HO.out, limb_cons.2 ⟨by omega, limb_nil⟩⟩, HV'.out, HW'.out.drewN _, by simpa using HC.out, by rw [← set_snoc os _ k _ HOL.out (by simp; omega)]; simpa using HT'.out⟩
        case measure => simp [intOf]; omega
      · have hkn : k = xs.length := by omega
        subst hkn
        have hat2 := HT.out
        rw [List.drop_of_length_le (by simp), List.append_nil] at hat2
        have how : Ow w.heap.size wr (.slice (some ⟨w.heap.size, 0, none⟩) xs.length xs.length) os := by
          have := HOL.out
          exact ⟨_, xs.length, by rw [this], by omega, by unfold maxLen; omega, HO.out, .inr ⟨_, 0, _, rfl, Nat.le_refl _, HW.out.here, by rw [HC.out]; omega, hat2⟩⟩
        have hbel : Below w.heap.size w wr := hb1.trans (HW.out.below (Nat.le_refl _))
        have hfin : val os = p * val xs + q * val ys := by
          have hv := HV.out
          rw [vf_all xs _ (Nat.le_refl _), vf_all ys _ hl] at hv
          have hb := val_bounds HO.out
          rw [HOL.out] at hb
          have h0 := H0.out
          have h1 := H1.out
          have hp := pw_pos xs.length
          have hc0 : c = 0 := by
            rcases Int.lt_trichotomy c 0 with h | h | h
            · have : pw xs.length * c ≤ pw xs.length * (-1) := Int.mul_le_mul_of_nonneg_left (by omega) (by omega)
              omega
            · exact h
            · have : pw xs.length * 1 ≤ pw xs.length * c := Int.mul_le_mul_of_nonneg_left (by omega) (by omega)
              omega
          rw [hc0, Int.mul_zero, Int.add_zero] at hv
          exact hv
        have his := how.is_cut hfin
        clear hat2 hfin
        go_wp2_with fail
        refine (cut_any _ _ _ _ _ how.sl).mono ?_
        rintro e w2 ⟨rfl, rfl⟩
        go_wp2
        go_ret
        exact ⟨_, rfl, his, hbel⟩
end Lm
end Go.Proofs.Ytodgiglhconkoaa

namespace Go.Proofs.Ytodgiglhconkoaa
namespace Lm
structure Lh (x0 y0 X Y a b c d x y : Int) : Prop where
  ex : x = a * x0 + b * y0
  ey : y = c * x0 + d * y0
  sig : (0 ≤ a ∧ b ≤ 0 ∧ c ≤ 0 ∧ 0 ≤ d ∧ d * x - b * y = x0 ∧ a * y - c * x = y0) ∨ (a ≤ 0 ∧ 0 ≤ b ∧ 0 ≤ c ∧ d ≤ 0 ∧ b * y - d * x = x0 ∧ c * x - a * y = y0)
  xa : 0 ≤ x + a
  xb : 0 ≤ x + b
  yc : 0 ≤ y + c
  yd : 0 ≤ y + d
  x1 : 1 ≤ x
  y0' : 0 ≤ y
  ba : -1073741824 ≤ a ∧ a ≤ 1073741824
  bb : -1073741824 ≤ b ∧ b ≤ 1073741824
  bc : -1073741824 ≤ c ∧ c ≤ 1073741824
  bd : -1073741824 ≤ d ∧ d ≤ 1073741824
  bx : x < 1073741824
  by' : y < 1073741824
  le : c * X + d * Y ≤ a * X + b * Y
  nn : 0 ≤ c * X + d * Y
  top : a * X + b * Y ≤ X
  low : c * X + d * Y ≤ Y
  bz : b ≠ 0 → c * X + d * Y < Y
  gcd : Int.gcd (a * X + b * Y) (c * X + d * Y) = Int.gcd X Y
theorem lh_between {x0 y0 X Y L a b x : Int} (hX : x0 * L ≤ X) (hX2 : X ≤ (x0 + 1) * L) (hY : y0 * L ≤ Y) (hY2 : Y ≤ (y0 + 1) * L) (ex : x = a * x0 + b * y0) (ha : 0 ≤ a) (hb : b ≤ 0) :
    (x + b) * L ≤ a * X + b * Y ∧ a * X + b * Y ≤ (x + a) * L := by
  have e1 : a * (x0 * L) ≤ a * X := Int.mul_le_mul_of_nonneg_left hX ha
  have e2 : a * X ≤ a * ((x0 + 1) * L) := Int.mul_le_mul_of_nonneg_left hX2 ha
  have e3 : (-b) * (y0 * L) ≤ (-b) * Y := Int.mul_le_mul_of_nonneg_left hY (by omega)
  have e4 : (-b) * Y ≤ (-b) * ((y0 + 1) * L) := Int.mul_le_mul_of_nonneg_left hY2 (by omega)
  rw [Int.add_mul, Int.one_mul, Int.mul_add] at e2 e4
  rw [Int.neg_mul, Int.neg_mul] at e3
  rw [Int.neg_mul, Int.neg_mul, Int.neg_mul] at e4
  rw [ex, Int.add_mul, Int.add_mul, Int.add_mul, Int.add_mul, Int.mul_assoc, Int.mul_assoc]
  constructor <;> omega
theorem lh_between' {x0 y0 X Y L a b x : Int} (hX : x0 * L ≤ X) (hX2 : X ≤ (x0 + 1) * L) (hY : y0 * L ≤ Y) (hY2 : Y ≤ (y0 + 1) * L) (ex : x = a * x0 + b * y0) (ha : a ≤ 0) (hb : 0 ≤ b) :
    (x + a) * L ≤ a * X + b * Y ∧ a * X + b * Y ≤ (x + b) * L := by
  have h := lh_between hY hY2 hX hX2 (a := b) (b := a) (x := x) (by omega) hb ha
  constructor <;> omega
theorem euclid_between {L X1 Y1 q u v s t : Int} (hL : 0 < L) (hu : X1 ≤ u * L) (hv : v * L ≤ X1) (hs : s * L ≤ Y1) (ht : Y1 ≤ t * L) (h1 : q * t ≤ v) (h2 : u < (q + 1) * s) (hq : 0 ≤ q) : q * Y1 ≤ X1 ∧ X1 < (q + 1) * Y1 := by
  constructor
  · have e1 : q * Y1 ≤ q * (t * L) := Int.mul_le_mul_of_nonneg_left ht hq
    have e2 : q * t * L ≤ v * L := Int.mul_le_mul_of_nonneg_right h1 (by omega)
    rw [Int.mul_assoc] at e2
    omega
  · have e1 : (q + 1) * (s * L) ≤ (q + 1) * Y1 := Int.mul_le_mul_of_nonneg_left hs (by omega)
    have e2 : (u + 1) * L ≤ (q + 1) * s * L := Int.mul_le_mul_of_nonneg_right (by omega) (by omega)
    rw [Int.mul_assoc, Int.add_mul, Int.one_mul] at e2
    omega
theorem gcd_step (X Y q : Int) : Int.gcd Y (X - q * Y) = Int.gcd X Y := by
  apply Nat.dvd_antisymm
  · apply Int.dvd_gcd
    · have h1 := Int.gcd_dvd_left Y (X - q * Y)
      have h2 := Int.gcd_dvd_right Y (X - q * Y)
      have h4 := Int.dvd_add h2 (Int.dvd_mul_of_dvd_right (b := q) h1)
      have h3 : (X - q * Y) + q * Y = X := by omega
      rw [h3] at h4
      exact h4
    · exact Int.gcd_dvd_left _ _
  · apply Int.dvd_gcd
    · exact Int.gcd_dvd_right _ _
    · exact Int.dvd_sub (Int.gcd_dvd_left _ _) (Int.dvd_mul_of_dvd_right (Int.gcd_dvd_right _ _))
theorem fac_bound {c y x0 : Int} (hy : 1 ≤ y) (hc : 0 ≤ c) (h : c * y ≤ x0) : c ≤ x0 := by
  have : c * 1 ≤ c * y := Int.mul_le_mul_of_nonneg_left hy hc
  omega
theorem Lh.step {x0 y0 X Y L a b c d x y q : Int} (H : Lh x0 y0 X Y a b c d x y) (hL : 0 < L) (hX : x0 * L ≤ X) (hX2 : X ≤ (x0 + 1) * L) (hY : y0 * L ≤ Y) (hY2 : Y ≤ (y0 + 1) * L) (hx0 : x0 < 1073741824) (hy0 : y0 < 1073741824)
    (hc : 0 < y + c) (hd : 0 < y + d) (q1 : q * (y + c) ≤ x + a) (q2 : x + a < (q + 1) * (y + c)) (q3 : q * (y + d) ≤ x + b) (q4 : x + b < (q + 1) * (y + d)) (hq : 0 ≤ q) :
    Lh x0 y0 X Y c d (a - q * c) (b - q * d) y (x - q * y) := by
  have hqy : 0 ≤ q * y := Int.mul_nonneg hq H.y0'
  have m1 : q * (y + c) = q * y + q * c := Int.mul_add _ _ _
  have m2 : q * (y + d) = q * y + q * d := Int.mul_add _ _ _
  have eXY : (a - q * c) * X + (b - q * d) * Y = (a * X + b * Y) - q * (c * X + d * Y) := by
    rw [Int.sub_mul, Int.sub_mul, Int.mul_add, Int.mul_assoc, Int.mul_assoc]; omega
  have ey' : x - q * y = (a - q * c) * x0 + (b - q * d) * y0 := by
    rw [Int.sub_mul, Int.sub_mul, Int.mul_assoc, Int.mul_assoc, H.ex, H.ey, Int.mul_add]; omega
  have n1 : d * (x - q * y) = d * x - q * d * y := by rw [Int.mul_sub, ← Int.mul_assoc, Int.mul_comm d q]
  have n2 : (b - q * d) * y = b * y - q * d * y := Int.sub_mul _ _ _
  have n3 : c * (x - q * y) = c * x - q * c * y := by rw [Int.mul_sub, ← Int.mul_assoc, Int.mul_comm c q]
  have n4 : (a - q * c) * y = a * y - q * c * y := Int.sub_mul _ _ _
  have key : q * (c * X + d * Y) ≤ a * X + b * Y ∧ a * X + b * Y < (q + 1) * (c * X + d * Y) := by
    rcases H.sig with ⟨s1, s2, s3, s4, _, _⟩ | ⟨s1, s2, s3, s4, _, _⟩
    · have b1 := lh_between hX hX2 hY hY2 H.ex s1 s2
      have b2 := lh_between' hX hX2 hY hY2 H.ey s3 s4
      exact euclid_between hL b1.2 b1.1 b2.1 b2.2 q3 q2 hq
    · have b1 := lh_between' hX hX2 hY hY2 H.ex s1 s2
      have b2 := lh_between hX hX2 hY hY2 H.ey s3 s4
      exact euclid_between hL b1.2 b1.1 b2.1 b2.2 q1 q4 hq
  have key2 : (q + 1) * (c * X + d * Y) = q * (c * X + d * Y) + (c * X + d * Y) := by rw [Int.add_mul, Int.one_mul]
  have hle := H.le
  have hnn := H.nn
  have htop := H.top
  have hlow := H.low
  have hg := gcd_step (a * X + b * Y) (c * X + d * Y) q
  rw [H.gcd, ← eXY] at hg
  have hsig : ((0 ≤ c ∧ d ≤ 0 ∧ a - q * c ≤ 0 ∧ 0 ≤ b - q * d ∧ (b - q * d) * y - d * (x - q * y) = x0 ∧ c * (x - q * y) - (a - q * c) * y = y0) ∨ (c ≤ 0 ∧ 0 ≤ d ∧ 0 ≤ a - q * c ∧ b - q * d ≤ 0 ∧ d * (x - q * y) - (b - q * d) * y = x0 ∧ (a - q * c) * y - c * (x - q * y) = y0)) ∧ 1 ≤ y ∧ 0 ≤ x - q * y := by
    rcases H.sig with ⟨s1, s2, s3, s4, s5, s6⟩ | ⟨s1, s2, s3, s4, s5, s6⟩
    · have p1 : q * c ≤ 0 := by
        have : q * c ≤ q * 0 := Int.mul_le_mul_of_nonneg_left s3 hq
        omega
      have p2 : 0 ≤ q * d := Int.mul_nonneg hq s4
      exact ⟨.inr ⟨s3, s4, by omega, by omega, by omega, by omega⟩, by omega, by omega⟩
    · have p1 : 0 ≤ q * c := Int.mul_nonneg hq s3
      have p2 : q * d ≤ 0 := by
        have : q * d ≤ q * 0 := Int.mul_le_mul_of_nonneg_left s4 hq
        omega
      exact ⟨.inl ⟨s3, s4, by omega, by omega, by omega, by omega⟩, by omega, by omega⟩
  obtain ⟨hsg, hy1, hyy⟩ := hsig
  have hbnd : (-1073741824 ≤ a - q * c ∧ a - q * c ≤ 1073741824) ∧ (-1073741824 ≤ b - q * d ∧ b - q * d ≤ 1073741824) := by
    rcases hsg with ⟨s1, s2, s3, s4, s5, s6⟩ | ⟨s1, s2, s3, s4, s5, s6⟩
    · have p1 : 0 ≤ c * (x - q * y) := Int.mul_nonneg s1 hyy
      have p2 : 0 ≤ (-d) * (x - q * y) := Int.mul_nonneg (by omega) hyy
      rw [Int.neg_mul] at p2
      have f1 := fac_bound (c := -(a - q * c)) (x0 := y0) hy1 (by omega) (by rw [Int.neg_mul]; omega)
      have f2 := fac_bound (c := b - q * d) (x0 := x0) hy1 (by omega) (by omega)
      omega
    · have p1 : 0 ≤ (-c) * (x - q * y) := Int.mul_nonneg (by omega) hyy
      have p2 : 0 ≤ d * (x - q * y) := Int.mul_nonneg s2 hyy
      rw [Int.neg_mul] at p1
      have f1 := fac_bound (c := a - q * c) (x0 := y0) hy1 (by omega) (by omega)
      have f2 := fac_bound (c := -(b - q * d)) (x0 := x0) hy1 (by omega) (by rw [Int.neg_mul]; omega)
      omega
  refine ⟨H.ey, ey', ?_, H.yc, H.yd, by omega, by omega, hy1, hyy, H.bc, H.bd, hbnd.1, hbnd.2, H.by', ?_, ?_, ?_, ?_, ?_, ?_, hg⟩
  · rcases hsg with h | h
    · exact .inl ⟨h.1, h.2.1, h.2.2.1, h.2.2.2.1, h.2.2.2.2.1, h.2.2.2.2.2⟩
    · exact .inr ⟨h.1, h.2.1, h.2.2.1, h.2.2.2.1, h.2.2.2.2.1, h.2.2.2.2.2⟩
  · have := H.bx; omega
  · rw [eXY]; omega
  · rw [eXY]; omega
  · omega
  · rw [eXY]; omega
  · intro _; rw [eXY]; omega
theorem Lh.start {x0 y0 X Y : Int} (h1 : 1 ≤ x0) (h2 : 0 ≤ y0) (h3 : x0 < 1073741824) (h4 : y0 < 1073741824) (hY : 0 ≤ Y) (hle : Y ≤ X) : Lh x0 y0 X Y 1 0 0 1 x0 y0 := by
  refine ⟨by omega, by omega, .inl ⟨by omega, by omega, by omega, by omega, by omega, by omega⟩, by omega, by omega, by omega, by omega, h1, h2, by omega, by omega, by omega, by omega, h3, h4, by omega, by omega, by omega, by omega, fun h => absurd rfl h, ?_⟩
  rw [Int.one_mul, Int.zero_mul, Int.zero_mul, Int.one_mul, Int.add_zero, Int.zero_add]
end Lm
end Go.Proofs.Ytodgiglhconkoaa

namespace Go.Proofs.Ytodgiglhconkoaa
namespace Lm
open Go.RowKit
def Fac (w : World) (g : Nat) (a b c d : Int) : Prop := w.heap[g]? = some (.cells #[.int .i64 a, .int .i64 b, .int .i64 c, .int .i64 d] 110 (0, 0))
theorem Fac.facts {w : World} {g : Nat} {a b c d : Int} (h : Fac w g a b c d) : (w.cell? ⟨g, 0, none⟩ = some (.int .i64 a) ∧ w.cell? ⟨g, 1, none⟩ = some (.int .i64 b) ∧ w.cell? ⟨g, 2, none⟩ = some (.int .i64 c) ∧ w.cell? ⟨g, 3, none⟩ = some (.int .i64 d)) ∧ (w.frozen? ⟨g, 0, none⟩ = false ∧ w.frozen? ⟨g, 1, none⟩ = false ∧ w.frozen? ⟨g, 2, none⟩ = false ∧ w.frozen? ⟨g, 3, none⟩ = false) :=
  ⟨⟨by rw [cell_of_row _ _ _ _ _ (0, 0) h]; rfl, by rw [cell_of_row _ _ _ _ _ (0, 0) h]; rfl, by rw [cell_of_row _ _ _ _ _ (0, 0) h]; rfl, by rw [cell_of_row _ _ _ _ _ (0, 0) h]; rfl⟩, frozen_of_row _ _ _ _ _ h, frozen_of_row _ _ _ _ _ h, frozen_of_row _ _ _ _ _ h, frozen_of_row _ _ _ _ _ h⟩
theorem div_fit {u s : Int} (hs : 0 < s) : u / s * s ≤ u ∧ u < (u / s + 1) * s := by
  have h1 := Int.mul_ediv_add_emod u s
  have h2 := Int.emod_nonneg u (show s ≠ 0 by omega)
  have h3 := Int.emod_lt_of_pos u hs
  rw [Int.add_mul, Int.one_mul, Int.mul_comm (u / s) s]
  omega
theorem div_small {u s : Int} (hu : 0 ≤ u) (hs : 0 < s) : 0 ≤ u / s ∧ u / s ≤ u := ⟨Int.ediv_nonneg hu (by omega), Int.ediv_le_self _ hu⟩
theorem Lh.less {x0 y0 X Y a b c d x y q : Int} (H : Lh x0 y0 X Y a b c d x y) (hq : 0 ≤ q) (q2 : x + a < (q + 1) * (y + c)) (q4 : x + b < (q + 1) * (y + d)) : x - q * y < y ∧ q * y ≤ q * y := by
  have m1 : (q + 1) * (y + c) = q * y + q * c + (y + c) := by rw [Int.add_mul, Int.one_mul, Int.mul_add]
  have m2 : (q + 1) * (y + d) = q * y + q * d + (y + d) := by rw [Int.add_mul, Int.one_mul, Int.mul_add]
  rcases H.sig with ⟨s1, s2, s3, s4, _, _⟩ | ⟨s1, s2, s3, s4, _, _⟩
  · have p1 : q * c ≤ 0 := by
      have : q * c ≤ q * 0 := Int.mul_le_mul_of_nonneg_left s3 hq
      omega
    omega
  · have p2 : q * d ≤ 0 := by
      have : q * d ≤ q * 0 := Int.mul_le_mul_of_nonneg_left s4 hq
      omega
    omega
theorem Fac.set {w : World} {g : Nat} {a b c d : Int} (h : Fac w g a b c d) (a' b' c' d' : Int) : Fac ((((w.setCell ⟨g, 0, none⟩ (.int .i64 a')).setCell ⟨g, 1, none⟩ (.int .i64 b')).setCell ⟨g, 2, none⟩ (.int .i64 c')).setCell ⟨g, 3, none⟩ (.int .i64 d')) g a' b' c' d' := by
  have h1 := heap_setCell_same w g 0 _ _ (.int .i64 a') h
  have h2 := heap_setCell_same _ g 1 _ _ (.int .i64 b') h1
  have h3 := heap_setCell_same _ g 2 _ _ (.int .i64 c') h2
  have h4 := heap_setCell_same _ g 3 _ _ (.int .i64 d') h3
  exact h4
theorem Fac.other {w : World} {g k : Nat} {a b c d : Int} (H : Fac w g a b c d) (hn : g ≠ k) (a' b' c' d' : Value) : Fac ((((w.setCell ⟨k, 0, none⟩ a').setCell ⟨k, 1, none⟩ b').setCell ⟨k, 2, none⟩ c').setCell ⟨k, 3, none⟩ d') g a b c d :=
  (heap_setCell_other _ ⟨k, 3, none⟩ g d' hn).trans ((heap_setCell_other _ ⟨k, 2, none⟩ g c' hn).trans ((heap_setCell_other _ ⟨k, 1, none⟩ g b' hn).trans ((heap_setCell_other w ⟨k, 0, none⟩ g a' hn).trans H)))
theorem below_set4 {B : Nat} {w w1 : World} {g : Nat} (hb : Below B w w1) (hg : B ≤ g) (a b c d : Value) : Below B w ((((w1.setCell ⟨g, 0, none⟩ a).setCell ⟨g, 1, none⟩ b).setCell ⟨g, 2, none⟩ c).setCell ⟨g, 3, none⟩ d) := (((hb.setCell hg _).setCell hg _).setCell hg _).setCell hg _
set_option maxRecDepth 20000 in
set_option maxHeartbeats 2000000 in
theorem lookAhead_any (w : World) (x0 y0 X Y L : Int) (h1 : 1 ≤ x0) (h2 : 0 ≤ y0) (h3 : x0 < 1073741824) (h4 : y0 < 1073741824) (hY0 : 0 ≤ Y) (hle : Y ≤ X) (hL : 0 < L) (hX : x0 * L ≤ X) (hX2 : X ≤ (x0 + 1) * L) (hY : y0 * L ≤ Y) (hY2 : Y ≤ (y0 + 1) * L) :
    Calls Try.prog 89 #[.int .i64 x0, .int .i64 y0] w fun e w' => ∃ a b c d x y, e = .returned (.agg #[.int .i64 a, .int .i64 b, .int .i64 c, .int .i64 d]) ∧ Lh x0 y0 X Y a b c d x y ∧ Below w.heap.size w w' := by
  have ST := hide (Lh.start h1 h2 h3 h4 hY0 hle)
  have e0 : ∃ w0 : World, (w.alloc (.cells #[.int .i64 0, .int .i64 0, .int .i64 0, .int .i64 0] 110)).alloc (.cells #[.int .i64 1, .int .i64 0, .int .i64 0, .int .i64 1] 110) = w0 ∧ Fac w0 w.heap.size 0 0 0 0 ∧ Fac w0 (w.heap.size + 1) 1 0 0 1 ∧ Below w.heap.size w w0 := by
    have h1 := heap_alloc_new w (.cells #[.int .i64 0, .int .i64 0, .int .i64 0, .int .i64 0] 110)
    have b1 : Below w.heap.size w (w.alloc (.cells #[.int .i64 0, .int .i64 0, .int .i64 0, .int .i64 0] 110)) := (Below.refl _ _).alloc (Nat.le_refl _) _
    have h2 := heap_alloc_new (w.alloc (.cells #[.int .i64 0, .int .i64 0, .int .i64 0, .int .i64 0] 110)) (.cells #[.int .i64 1, .int .i64 0, .int .i64 0, .int .i64 1] 110)
    have b2 : Below (w.alloc (.cells #[.int .i64 0, .int .i64 0, .int .i64 0, .int .i64 0] 110)).heap.size (w.alloc (.cells #[.int .i64 0, .int .i64 0, .int .i64 0, .int .i64 0] 110)) ((w.alloc (.cells #[.int .i64 0, .int .i64 0, .int .i64 0, .int .i64 0] 110)).alloc (.cells #[.int .i64 1, .int .i64 0, .int .i64 0, .int .i64 1] 110)) := (Below.refl _ _).alloc (Nat.le_refl _) _
    refine ⟨_, rfl, (b2.block _ (by simp)).trans h1, ?_, b1.trans (b2.mono b1.size)⟩
    have h3 := h2
    rw [World.size_alloc] at h3
    exact h3
  obtain ⟨w0, e0, hR0, hF0, hb0⟩ := e0
  have E0 := hide e0
  clear e0
  go_enter Try.func89, Try.ntmps89
  go_wp2
  rw [E0.out]
  go_loopw [0, 1] (fun xv yv wr => ∃ a b c d x y : Int, xv = .int .i64 x ∧ yv = .int .i64 y ∧ Lh x0 y0 X Y a b c d x y ∧ Fac wr (w.heap.size + 1) a b c d ∧ Fac wr w.heap.size 0 0 0 0 ∧ Below w.heap.size w wr) (fun _ yv _ => (intOf yv).toNat)
  case atStart => exact ⟨1, 0, 0, 1, x0, y0, rfl, rfl, ST.out, hF0, hR0, hb0⟩
  case round =>
    obtain ⟨a, b, c, d, x, y, rfl, rfl, hD, hF, hR, HB⟩ := hrel
    have D := hide hD
    have ba := hD.ba
    have bb := hD.bb
    have bc := hD.bc
    have bd := hD.bd
    have bx := hD.bx
    have by' := hD.by'
    have x1 := hD.x1
    have y1 := hD.y0'
    have pxa := hD.xa
    have pxb := hD.xb
    have pyc := hD.yc
    have pyd := hD.yd
    clear hD
    by_cases hc : y + c = 0
    · have hcb : ((y + c) != 0) = false := by simp [hc]
      have HC := hide hc
      clear hc
      obtain ⟨⟨fa, fb, fc, fd⟩, _⟩ := hF.facts
      obtain ⟨⟨ra, rb, rc, rd⟩, re, rf, rg, rh⟩ := hR.facts
      have XF := hide (hR.set a b c d).facts.1
      have Z := hide (below_set4 HB (Nat.le_refl _) (.int .i64 a) (.int .i64 b) (.int .i64 c) (.int .i64 d))
      go_wp2
      refine bodyPost_ret (v := .agg #[.int .i64 a, .int .i64 b, .int .i64 c, .int .i64 d]) ?_ rfl ⟨a, b, c, d, x, y, rfl, D.out, Z.out⟩
      simp [results, Try.results89, go_sem, XF.out.1, XF.out.2.1, XF.out.2.2.1, XF.out.2.2.2]
    · have hcb : ((y + c) != 0) = true := by simp [hc]
      have hcp : 0 < y + c := by omega
      clear hc
      by_cases hd : y + d = 0
      · have hdb : ((y + d) != 0) = false := by simp [hd]
        have HD := hide hd
        clear hd
        obtain ⟨⟨fa, fb, fc, fd⟩, _⟩ := hF.facts
        obtain ⟨⟨ra, rb, rc, rd⟩, re, rf, rg, rh⟩ := hR.facts
        have XF := hide (hR.set a b c d).facts.1
        have Z := hide (below_set4 HB (Nat.le_refl _) (.int .i64 a) (.int .i64 b) (.int .i64 c) (.int .i64 d))
        go_wp2
        refine bodyPost_ret (v := .agg #[.int .i64 a, .int .i64 b, .int .i64 c, .int .i64 d]) ?_ rfl ⟨a, b, c, d, x, y, rfl, D.out, Z.out⟩
        simp [results, Try.results89, go_sem, XF.out.1, XF.out.2.1, XF.out.2.2.1, XF.out.2.2.2]
      · have hdb : ((y + d) != 0) = true := by simp [hd]
        have hdp : 0 < y + d := by omega
        clear hd
        have f1 := div_fit (u := x + a) hcp
        have f2 := div_fit (u := x + b) hdp
        have g1 := div_small pxa hcp
        have g2 := div_small pxb hdp
        have t1 : (x + a).tdiv (y + c) = (x + a) / (y + c) := Int.tdiv_eq_ediv_of_nonneg pxa
        have t2 : (x + b).tdiv (y + d) = (x + b) / (y + d) := Int.tdiv_eq_ediv_of_nonneg pxb
        obtain ⟨q, hq⟩ : ∃ q, (x + a) / (y + c) = q := ⟨_, rfl⟩
        obtain ⟨q', hq'⟩ : ∃ q, (x + b) / (y + d) = q := ⟨_, rfl⟩
        rw [hq] at f1 g1 t1
        rw [hq'] at f2 g2 t2
        clear hq hq'
        by_cases hqq : q = q'
        · subst hqq
          have ST' := hide (D.out.step hL hX hX2 hY hY2 h3 h4 hcp hdp f1.1 f1.2 f2.1 f2.2 g1.1)
          have LS := (D.out.less g1.1 f1.2 f2.2).1
          have bc' := ST'.out.bc
          have bd' := ST'.out.bd
          have by2 := ST'.out.y0'
          obtain ⟨P1, hP1⟩ : ∃ P, q * c = P := ⟨_, rfl⟩
          obtain ⟨P2, hP2⟩ : ∃ P, q * d = P := ⟨_, rfl⟩
          obtain ⟨P3, hP3⟩ : ∃ P, q * y = P := ⟨_, rfl⟩
          rw [hP1] at ST' bc'
          rw [hP2] at ST' bd'
          rw [hP3] at ST' LS by2
          obtain ⟨⟨fa, fb, fc, fd⟩, fe, ff, fg, fh⟩ := hF.facts
          have HF' := hide (hF.set c d (a - P1) (b - P2))
          have HR' := hide (hR.other (show w.heap.size ≠ w.heap.size + 1 by omega) (.int .i64 c) (.int .i64 d) (.int .i64 (a - P1)) (.int .i64 (b - P2)))
          have HB' := hide (below_set4 HB (Nat.le_succ _) (.int .i64 c) (.int .i64 d) (.int .i64 (a - P1)) (.int .i64 (b - P2)))
          have p3 : 0 ≤ P3 := by rw [← hP3]; exact Int.mul_nonneg g1.1 y1
          clear f1 f2
          go_wp2
          go_roundw
          case rel => exact ⟨c, d, a - P1, b - P2, y, x - P3, rfl, rfl, ST'.out, HF'.out, HR'.out, HB'.out⟩
          case measure => simp [intOf]; omega
        · have hqb : (q != q') = true := by simp [hqq]
          clear f1 f2
          obtain ⟨⟨fa, fb, fc, fd⟩, _⟩ := hF.facts
          obtain ⟨⟨ra, rb, rc, rd⟩, re, rf, rg, rh⟩ := hR.facts
          have XF := hide (hR.set a b c d).facts.1
          have Z := hide (below_set4 HB (Nat.le_refl _) (.int .i64 a) (.int .i64 b) (.int .i64 c) (.int .i64 d))
          go_wp2
          refine bodyPost_ret (v := .agg #[.int .i64 a, .int .i64 b, .int .i64 c, .int .i64 d]) ?_ rfl ⟨a, b, c, d, x, y, rfl, D.out, Z.out⟩
          simp [results, Try.results89, go_sem, XF.out.1, XF.out.2.1, XF.out.2.2.1, XF.out.2.2.2]
end Lm
end Go.Proofs.Ytodgiglhconkoaa

namespace Go.Proofs.Ytodgiglhconkoaa
namespace Lm
open Go.RowKit
theorem Fac.below {w w' : World} {g : Nat} {a b c d : Int} (h : Fac w g a b c d) (hb : Below w.heap.size w w') : Fac w' g a b c d := (hb.block g (lt_of_heap h)).trans h
theorem below_then {w w' w'' : World} (h : Below w.heap.size w w') (h2 : Below w'.heap.size w' w'') : Below w.heap.size w w'' := h.trans (h2.mono h.size)
theorem win_facts {X Y : Int} {l m : Nat} (hX : IsBits X l) (hl : l = m + 30) (hY0 : 0 ≤ Y) (hle : Y ≤ X) :
    X / p2 m % 1073741824 = X / p2 m ∧ Y / p2 m % 1073741824 = Y / p2 m ∧ 1 ≤ X / p2 m ∧ 0 ≤ Y / p2 m ∧ X / p2 m < 1073741824 ∧ Y / p2 m < 1073741824 ∧ X / p2 m * p2 m ≤ X ∧ X ≤ (X / p2 m + 1) * p2 m ∧ Y / p2 m * p2 m ≤ Y ∧ Y ≤ (Y / p2 m + 1) * p2 m := by
  have hp := p2_pos m
  have hlow : p2 (l - 1) ≤ X := by rcases hX.2 with h | h <;> omega
  have h29 : p2 (l - 1) = p2 m * p2 29 := by rw [← p2_add]; congr 1; omega
  have h30 : p2 l = p2 m * p2 30 := by rw [← p2_add, hl]
  rw [show p2 29 = 536870912 from by decide] at h29
  rw [show p2 30 = 1073741824 from by decide] at h30
  have hX1 := hX.1
  have fx := div_fit (u := X) (s := p2 m) (by omega)
  have fy := div_fit (u := Y) (s := p2 m) (by omega)
  have x0 : 0 ≤ X / p2 m := Int.ediv_nonneg (by omega) (by omega)
  have y0 : 0 ≤ Y / p2 m := Int.ediv_nonneg hY0 (by omega)
  have xl : X / p2 m < 1073741824 := Int.ediv_lt_of_lt_mul (by omega) (by rw [Int.mul_comm]; omega)
  have yl : Y / p2 m < 1073741824 := Int.ediv_lt_of_lt_mul (by omega) (by rw [Int.mul_comm]; omega)
  have x1 : 1 ≤ X / p2 m := by
    apply Int.le_ediv_of_mul_le (by omega)
    omega
  refine ⟨Int.emod_eq_of_lt x0 xl, Int.emod_eq_of_lt y0 yl, x1, y0, xl, yl, fx.1, by omega, fy.1, by omega⟩
set_option maxRecDepth 20000 in
set_option maxHeartbeats 2000000 in
theorem shrink_any (w : World) (B : Nat) (hB : B ≤ w.heap.size) (a1 a2 : Option Addr) (c1 c2 : Nat) (xs ys : List Int) (hx : Ow B w (.slice a1 xs.length c1) xs) (hy : Ow B w (.slice a2 ys.length c2) ys) (hcy : Canon ys) (hm : xs.length ≤ 400000) (h3 : 2 < ys.length) (hle : val ys ≤ val xs) :
    Calls Try.prog 82 #[.slice a1 xs.length c1, .slice a2 ys.length c2] w fun e w' => ∃ v1 v2 X' Y', e = .returned (.tuple #[v1, v2]) ∧ Is B w' v1 X' ∧ Is B w' v2 Y' ∧ Y' ≤ X' ∧ Y' < val ys ∧ X' ≤ val xs ∧ Int.gcd X' Y' = Int.gcd (val xs) (val ys) ∧ Below w.heap.size w w' := by
  obtain ⟨_, x1, x2, x3⟩ := hx.sl.parts
  obtain ⟨_, y1, y2, y3⟩ := hy.sl.parts
  have hY0 := (val_bounds y3).1
  have hlen : ys.length ≤ xs.length := le_len x3 hcy hle
  have hX64 : 18446744073709551616 ≤ val xs := by
    have h9 := canon_low hcy (by intro e; subst e; simp at h3)
    have h8 := pw_mono (m := 2) (n := ys.length - 1) (by omega)
    rw [show pw 2 = 18446744073709551616 from by decide] at h8
    omega
  have sx := hx.sl
  have sy := hy.sl
  go_enter Try.func82, Try.ntmps82
  go_wp2_with fail
  refine (bits_any _ _ _ _ xs sx (by omega)).mono ?_
  rintro e w' ⟨l, rfl, t1, rfl⟩
  have hl65 : 65 ≤ l := by
    apply Classical.byContradiction
    intro hn
    have h9 := p2_mono (m := l) (n := 64) (by omega)
    rw [show p2 64 = 18446744073709551616 from by decide] at h9
    have := t1.1
    omega
  have hlm : l ≤ 32 * xs.length := by
    have h9 := (val_bounds x3).2
    rw [pw_p2] at h9
    apply Classical.byContradiction
    intro hn
    have h8 := p2_mono (m := 32 * xs.length) (n := l - 1) (by omega)
    rcases t1.2 with h | h <;> omega
  obtain ⟨m, hm'⟩ : ∃ m, l = m + 30 := ⟨l - 30, by omega⟩
  have WF := hide (win_facts t1 hm' hY0 hle)
  have el : (l : Int) - 30 = (m : Nat) := by omega
  have kx : Hid (∀ w2 : World, Sl w2 (.slice a1 xs.length c1) xs → Calls Try.prog 90 #[.slice a1 xs.length c1, .int .i64 m] w2 fun e w3 => e = .returned (.int .u32 (val xs / p2 m)) ∧ w3 = w2) := by
    intro w2 h2
    have h9 := window_any w2 a1 _ c1 xs h2 m (by omega)
    rwa [WF.out.1] at h9
  have ky : Hid (∀ w2 : World, Sl w2 (.slice a2 ys.length c2) ys → Calls Try.prog 90 #[.slice a2 ys.length c2, .int .i64 m] w2 fun e w3 => e = .returned (.int .u32 (val ys / p2 m)) ∧ w3 = w2) := by
    intro w2 h2
    have h9 := window_any w2 a2 _ c2 ys h2 m (by omega)
    rwa [WF.out.2.1] at h9
  obtain ⟨u, hu⟩ : ∃ u, val xs / p2 m = u := ⟨_, rfl⟩
  obtain ⟨v, hv⟩ : ∃ v, val ys / p2 m = v := ⟨_, rfl⟩
  rw [hu] at WF kx
  rw [hv] at WF ky
  have u1 := WF.out.2.2.1
  have v1 := WF.out.2.2.2.1
  have u2 := WF.out.2.2.2.2.1
  have v2 := WF.out.2.2.2.2.2.1
  have kl : Hid (∀ w2 : World, Calls Try.prog 89 #[.int .i64 u, .int .i64 v] w2 fun e w3 => ∃ a b c d x y, e = .returned (.agg #[.int .i64 a, .int .i64 b, .int .i64 c, .int .i64 d]) ∧ Lh u v (val xs) (val ys) a b c d x y ∧ Below w2.heap.size w2 w3) := by
    intro w2
    have hp := p2_pos m
    exact lookAhead_any w2 u v (val xs) (val ys) (p2 m) u1 v1 u2 v2 hY0 hle (by omega) WF.out.2.2.2.2.2.2.1 WF.out.2.2.2.2.2.2.2.1 WF.out.2.2.2.2.2.2.2.2.1 WF.out.2.2.2.2.2.2.2.2.2
  clear t1 hm' hu hv x3 y3
  go_wp2_with fail
  refine (kx.out _ sx).mono ?_
  rintro e w2 ⟨rfl, rfl⟩
  go_wp2_with fail
  refine (ky.out _ sy).mono ?_
  rintro e w2 ⟨rfl, rfl⟩
  go_wp2_with fail
  refine (kl.out _).mono ?_
  rintro e w3 ⟨a, b, c, d, x, y, rfl, hD, hb3⟩
  have D := hide hD
  have hb4 : Below w3.heap.size w3 (w3.alloc (.cells #[.int .i64 a, .int .i64 b, .int .i64 c, .int .i64 d] 110)) := (Below.refl _ _).alloc (Nat.le_refl _) _
  have HZ : Below w2.heap.size w2 (w3.alloc (.cells #[.int .i64 a, .int .i64 b, .int .i64 c, .int .i64 d] 110)) := below_then hb3 hb4
  have FZ : Fac (w3.alloc (.cells #[.int .i64 a, .int .i64 b, .int .i64 c, .int .i64 d] 110)) w3.heap.size a b c d := heap_alloc_new w3 _
  obtain ⟨w4, e4⟩ : ∃ w4, w3.alloc (.cells #[.int .i64 a, .int .i64 b, .int .i64 c, .int .i64 d] 110) = w4 := ⟨_, rfl⟩
  rw [e4] at HZ FZ
  have E4 := hide e4
  clear e4 hD hb4
  have hx4 := hx.below HZ
  have hy4 := hy.below HZ
  by_cases hb : b = 0
  · subst hb
    have G := hide (gcd_step (val xs) (val ys) (val xs / val ys))
    have hpos : 0 < val ys := by
      have h9 := canon_low hcy (by intro e; subst e; simp at h3)
      have := pw_pos (ys.length - 1)
      omega
    have hmod : val xs - val xs / val ys * val ys = val xs % val ys := by
      have := Int.mul_ediv_add_emod (val xs) (val ys)
      rw [Int.mul_comm] at this
      omega
    rw [hmod] at G
    have M := hide (And.intro (Int.emod_nonneg (val xs) (show val ys ≠ 0 by omega)) (Int.emod_lt_of_pos (val xs) hpos))
    clear hmod
    go_wp2_with fail
    rw [E4.out]
    refine (divmod_any _ _ _ _ _ _ _ xs ys hx4.sl hy4.sl (by omega) (by omega)).mono ?_
    rintro e w5 ⟨v1', v2', rfl, i1, i2, _, hb5⟩
    have R1 : Hid (Is B w5 (.slice a2 ys.length c2) (val ys)) := ⟨ys, hy4.below hb5, hcy, rfl⟩
    have R2 := hide (i2.mono (B' := B) (by have := HZ.size; omega))
    have Z := hide (below_then HZ hb5)
    go_wp2
    go_ret2
    exact ⟨_, _, val ys, val xs % val ys, rfl, R1.out, R2.out, by have := M.out; omega, M.out.2, hle, G.out, Z.out⟩
  · have hbb : (b == 0) = false := by simp [hb]
    obtain ⟨⟨fa, fb, fc, fd⟩, fe, ff, fg, fh⟩ := FZ.facts
    have VX := (val_bounds hx.sl.parts.2.2.2).2
    have sgn1 : (0 ≤ a ∧ b ≤ 0) ∨ (a ≤ 0 ∧ 0 ≤ b) := by rcases D.out.sig with h | h <;> omega
    have sgn2 : (0 ≤ c ∧ d ≤ 0) ∨ (c ≤ 0 ∧ 0 ≤ d) := by rcases D.out.sig with h | h <;> omega
    have SG1 := hide sgn1
    have SG2 := hide sgn2
    have P1 : Hid (0 ≤ a * val xs + b * val ys ∧ a * val xs + b * val ys < pw xs.length) := by have h1 := D.out.le; have h2 := D.out.nn; have h4 := D.out.top; show _ ∧ _; omega
    have P2 : Hid (0 ≤ c * val xs + d * val ys ∧ c * val xs + d * val ys < pw xs.length) := by have h1 := D.out.le; have h2 := D.out.nn; have h4 := D.out.top; show _ ∧ _; omega
    have HB0 := hide hb
    clear sgn1 sgn2 VX hb
    go_wp2
    rw [E4.out]
    go_region_held3 (fun w' => w'.cell? ⟨w3.heap.size, 0, none⟩ = some (.int .i64 a) ∧ w'.cell? ⟨w3.heap.size, 1, none⟩ = some (.int .i64 b) ∧ w'.cell? ⟨w3.heap.size, 2, none⟩ = some (.int .i64 c) ∧ w'.cell? ⟨w3.heap.size, 3, none⟩ = some (.int .i64 d)) (go_keep) (first
      | (go_at_call 91; have _hq := hb5'; refine (combine_any _ _ _ _ _ _ _ xs ys ((hx4.below hb5').sl.below (by repeat (first | exact Below.refl _ _ | refine Below.drew ?_))) ((hy4.below hb5').sl.below (by repeat (first | exact Below.refl _ _ | refine Below.drew ?_))) (by omega) hlen c d D.out.bc D.out.bd SG2.out P2.out.1 P2.out.2).mono ?_; rintro e w6 ⟨v6, rfl, i6, hb6⟩; have hb6' : Below w5.heap.size w5 w6 := (show Below w5.heap.size w5 _ by repeat (first | exact Below.refl _ _ | refine Below.drew ?_)).trans hb6; have FZ6 := FZ5.below hb6'; obtain ⟨⟨ha, hb, hc, hd⟩, he, hf, hg, hh⟩ := FZ6.facts)
      | (go_at_call 91; refine (combine_any _ _ _ _ _ _ _ xs ys (hx4.sl.below (by repeat (first | exact Below.refl _ _ | refine Below.drew ?_))) (hy4.sl.below (by repeat (first | exact Below.refl _ _ | refine Below.drew ?_))) (by omega) hlen a b D.out.ba D.out.bb SG1.out P1.out.1 P1.out.2).mono ?_; rintro e w5 ⟨v5, rfl, i5, hb5⟩; have hb5' : Below w4.heap.size w4 w5 := (show Below w4.heap.size w4 _ by repeat (first | exact Below.refl _ _ | refine Below.drew ?_)).trans hb5; have FZ5 := FZ.below hb5'; obtain ⟨⟨ga, gb, gc, gd⟩, ge, gf, gg, gh⟩ := FZ5.facts))
    all_goals
      have R1 := hide ((i5.below hb6').mono (B' := B) (show B ≤ w4.heap.size by have := HZ.size; omega))
      have R2 := hide (i6.mono (B' := B) (show B ≤ w5.heap.size by have := HZ.size; have := hb5'.size; omega))
      have Z := hide (below_then HZ (below_then hb5' hb6'))
      clear fa fb fc fd fe ff fg fh ga gb gc gd ge gf gg gh ha hb hc hd he hf hg hh
      go_wp2
      go_ret2
      exact ⟨_, _, _, _, rfl, R1.out, R2.out, D.out.le, D.out.bz HB0.out, D.out.top, D.out.gcd, Z.out⟩
end Lm
end Go.Proofs.Ytodgiglhconkoaa

namespace Go.Proofs.Ytodgiglhconkoaa
namespace Lm
open Go.RowKit
theorem two_val' {rs : List Int} (h : ¬ 2 < rs.length) : rs.getD 1 0 * 4294967296 + rs.getD 0 0 = val rs := by
  match rs, h with
  | [], _ => rfl
  | [x], _ => simp [val]
  | [x, y], _ => simp [val]; omega
  | _ :: _ :: _ :: _, h => simp at h
theorem ret2_u64' {a b : Int} (h : a = b) : Ending.returned (.tuple #[.int .u64 a, .bool true]) = .returned (.tuple #[.int .u64 b, .bool true]) := by rw [h]
theorem short_val' {rs : List Int} (h : Limb rs) (h2 : rs.length ≤ 2) : 0 ≤ val rs ∧ val rs < 18446744073709551616 := by
  have h1 := val_bounds h
  have h3 := pw_mono (m := rs.length) (n := 2) (by omega)
  rw [show pw 2 = 18446744073709551616 from by decide] at h3
  omega
set_option maxRecDepth 20000 in
set_option maxHeartbeats 400000 in
theorem uint_short (w : World) (ao : Option Addr) (n cap : Nat) (xs : List Int) (hx : Sl w (.slice ao n cap) xs) (hs : xs.length ≤ 2) :
    Calls Try.prog 83 #[.slice ao n cap] w fun e w' => e = .returned (.tuple #[.int .u64 (val xs), .bool true]) ∧ w' = w := by
  obtain ⟨rfl, h1, h2, h3⟩ := hx.parts
  have t1 := tl_le xs
  have kc := hide (cut_any w ao _ cap xs hx)
  have hcn := canon_trim h3
  have hX : (xs.take (tl xs)).length = tl xs := by simp; omega
  have h2' : ¬ (2 : Int) < ((tl xs : Nat) : Int) := by omega
  have E3 := hide (two_val' (rs := xs.take (tl xs)) (by omega))
  rw [val_take_tl] at E3
  have b1 := limb_getD hcn.1 1
  have b0 := limb_getD hcn.1 0
  have k1 := limb_nat w _ _ hx.cut 1
  have k0 := limb_nat w _ _ hx.cut 0
  generalize (xs.take (tl xs)).getD 1 0 = y1 at E3 b1 k1
  generalize (xs.take (tl xs)).getD 0 0 = y0 at E3 b0 k0
  have K1 := hide k1
  have K0 := hide k0
  have hor : bits .or .u64 (y1 * 4294967296) y0 = y1 * 4294967296 + y0 := or_join y1 y0 b1.1 b1.2 b0.1 b0.2
  clear hcn hX k1 k0
  go_enter Try.func83, Try.ntmps83
  go_wp2_with fail
  refine (kc.out).mono ?_
  rintro e w' ⟨rfl, rfl⟩
  go_wp2_with fail
  refine (K1.out).mono ?_
  rintro e w' ⟨rfl, rfl⟩
  go_wp2_with fail
  refine (K0.out).mono ?_
  rintro e w' ⟨rfl, rfl⟩
  go_wp2
  go_ret2
  exact ⟨ret2_u64' E3.out, rfl⟩
theorem gcd_mod (m n : Int) : Int.gcd n (m % n) = Int.gcd m n := by
  have h1 := gcd_step m n (m / n)
  have h2 := Int.mul_ediv_add_emod m n
  rw [Int.mul_comm] at h2
  rw [show m - m / n * n = m % n by omega] at h1
  exact h1
theorem ret_u64 {a b : Int} (h : a = b) : Ending.returned (.int .u64 a) = .returned (.int .u64 b) := by rw [h]
set_option maxRecDepth 20000 in
set_option maxHeartbeats 400000 in
theorem gcdShort_any (w : World) (m n : Int) (hm : 0 ≤ m ∧ m < 18446744073709551616) (hn : 0 ≤ n ∧ n < 18446744073709551616) :
    Calls Try.prog 84 #[.int .u64 m, .int .u64 n] w fun e w' => e = .returned (.int .u64 (Int.gcd m n)) ∧ Below w.heap.size w w' := by
  go_enter Try.func84, Try.ntmps84
  go_wp2
  go_loopw [0, 1] (fun mv nv wr => ∃ a b : Int, mv = .int .u64 a ∧ nv = .int .u64 b ∧ (0 ≤ a ∧ a < 18446744073709551616) ∧ (0 ≤ b ∧ b < 18446744073709551616) ∧ Int.gcd a b = Int.gcd m n ∧ Below w.heap.size w wr) (fun _ nv _ => (intOf nv).toNat)
  case atStart => exact ⟨m, n, rfl, rfl, hm, hn, rfl, Below.refl _ _⟩
  case round =>
    obtain ⟨a, b, rfl, rfl, ha, hb, hg, HB⟩ := hrel
    have HG := hide hg
    clear hg
    by_cases h0 : b = 0
    · subst h0
      have HF : Hid (a = (Int.gcd m n : Int)) := by
        show _ = _
        rw [← HG.out, Int.gcd_zero_right]
        omega
      go_wp2
      go_ret
      exact ⟨ret_u64 HF.out, HB⟩
    · have hbb : (b != 0) = true := by simp [h0]
      have t1 : a.tmod b = a % b := Int.tmod_eq_emod_of_nonneg ha.1
      have r0 := Int.emod_nonneg a h0
      have r1 := Int.emod_lt_of_pos a (show 0 < b by omega)
      have HG' := hide ((gcd_mod a b).trans HG.out)
      go_wp2
      go_quiet (fail)
      go_wp2
      go_roundw
      case rel => exact ⟨b, a % b, rfl, rfl, hb, by omega, HG'.out, below_drewN HB _⟩
      case measure => simp [intOf]; omega
theorem Is.ow {B : Nat} {w : World} {v : Value} {x : Int} (h : Is B w v x) : ∃ ao cap rs, v = .slice ao rs.length cap ∧ Ow B w (.slice ao rs.length cap) rs ∧ Canon rs ∧ val rs = x := by
  obtain ⟨rs, ho, hc, hv⟩ := h
  obtain ⟨ao, cap, rfl, h1, h2, h3, h4⟩ := ho
  exact ⟨ao, cap, rs, rfl, ⟨ao, cap, rfl, h1, h2, h3, h4⟩, hc, hv⟩
theorem trim_is' (w : World) (ao : Option Addr) (n cap : Nat) (zs : List Int) (h : Sl w (.slice ao n cap) zs) (hz : zs.length ≤ 1000000) :
    Calls Try.prog 32 #[.slice ao n cap] w fun e w' => ∃ ao cap rs, e = .returned (.slice ao rs.length cap) ∧ Ow w.heap.size w' (.slice ao rs.length cap) rs ∧ Canon rs ∧ val rs = val zs ∧ rs.length ≤ zs.length ∧ Below w.heap.size w w' := by
  refine (trim_any w ao n cap zs h hz).mono ?_
  rintro e w' ⟨v, rfl, ho, hb⟩
  obtain ⟨ao', cap', rs, rfl, h1, h2, h3⟩ := Is.ow (B := w.heap.size) ⟨_, ho, canon_trim h.parts.2.2.2, val_take_tl zs⟩
  exact ⟨ao', cap', rs, rfl, h1, h2, h3, le_len h.parts.2.2.2 h2 (by omega), hb⟩
theorem sl_one_list {w : World} {v : Value} {r s : List Int} (h1 : Sl w v r) (h2 : Sl w v s) : r = s := by
  obtain ⟨ao, cap, rfl, _, _, _, h4⟩ := h1
  obtain ⟨ao', cap', hv, _, _, _, g4⟩ := h2
  obtain ⟨rfl, hl, rfl⟩ := (Value.slice.injEq .. ▸ hv)
  apply List.ext_getElem hl
  intro i hi1 hi2
  rcases h4 with rfl | ⟨b, off, rfl, hc⟩
  · simp at hi1
  rcases g4 with rfl | ⟨b', off', e, hc'⟩
  · simp at hi2
  · obtain ⟨rfl, rfl⟩ : b = b' ∧ off = off' := by simpa using e
    have e1 := hc i hi1
    have e2 := hc' i hi2
    rw [e1] at e2
    simp only [Option.some.injEq, Value.int.injEq, true_and, List.getD_eq_getElem?_getD, List.getElem?_eq_getElem hi1, List.getElem?_eq_getElem hi2, Option.getD_some] at e2
    exact e2
open Classical in
noncomputable def worth (w : World) (v : Value) : Nat := if h : ∃ r, Sl w v r then (val (Classical.choose h)).toNat else 0
theorem worth_of {w : World} {v : Value} {r : List Int} (h : Sl w v r) : worth w v = (val r).toNat := by
  have hex : ∃ r, Sl w v r := ⟨r, h⟩
  unfold worth
  rw [dif_pos hex, sl_one_list (Classical.choose_spec hex) h]
set_option maxRecDepth 20000 in
set_option maxHeartbeats 2000000 in
theorem gcd_any (w : World) (a1 a2 : Option Addr) (n1 n2 c1 c2 : Nat) (xs ys : List Int) (hx : Sl w (.slice a1 n1 c1) xs) (hy : Sl w (.slice a2 n2 c2) ys) (hm1 : xs.length ≤ 400000) (hm2 : ys.length ≤ 400000) :
    Calls Try.prog 76 #[.slice a1 n1 c1, .slice a2 n2 c2] w fun e w' => ∃ v, e = .returned v ∧ Is w.heap.size w' v (Int.gcd (val xs) (val ys)) ∧ Below w.heap.size w w' := by
  go_enter Try.func76, Try.ntmps76
  go_wp2_with fail
  refine (trim_is' _ _ _ _ xs hx (by omega)).mono ?_
  rintro e w1 ⟨p1, q1, r1, rfl, o1, k1, v1, l1, hb1⟩
  go_wp2_with fail
  refine (trim_is' _ _ _ _ ys (hy.below hb1) (by omega)).mono ?_
  rintro e w2 ⟨p2, q2, r2, rfl, o2, k2, v2, l2, hb2⟩
  replace o1 := o1.below hb2
  replace o2 := o2.mono (B' := w.heap.size) hb1.size
  have HB2 := below_then hb1 hb2
  have C1 := hide k1
  have C2 := hide k2
  have V1 := hide v1
  have V2 := hide v2
  clear k1 k2 v1 v2
  have hle := fun (h : ¬ val r1 < val r2) => show val r2 ≤ val r1 by omega
  have g0 : ∀ {a b c d : Int}, Int.gcd a b = Int.gcd c d → ((Int.gcd a b : Nat) : Int) = ((Int.gcd c d : Nat) : Int) := fun h => by rw [h]
  have G1 : Hid (Int.gcd (val r1) (val r2) = Int.gcd (val xs) (val ys)) := by rw [V1.out, V2.out]; rfl
  have G2 : Hid (Int.gcd (val r2) (val r1) = Int.gcd (val xs) (val ys)) := by show _ = _; rw [Int.gcd_comm]; exact G1.out
  clear g0 hle
  by_cases hlt : val r1 < val r2
  · have k1 := hide (cmpI_lt hlt)
    have HLT := hide hlt
    clear hlt
    go_wp2_with fail
    refine (cmp_any _ _ _ _ _ _ _ r1 r2 o1.sl o2.sl).mono ?_
    rintro e w3 ⟨rfl, hb3⟩
    rw [k1.out]
    replace o1 := o1.below hb3
    replace o2 := o2.below hb3
    have HB3 := below_then HB2 hb3
    go_wp2
    go_loopw [5, 6] (fun xv yv wr => ∃ (p p' : Option Addr) (q q' : Nat) (r r' : List Int), xv = .slice p r.length q ∧ yv = .slice p' r'.length q' ∧ Ow w.heap.size wr (.slice p r.length q) r ∧ Canon r ∧ Ow w.heap.size wr (.slice p' r'.length q') r' ∧ Canon r' ∧ val r' ≤ val r ∧ r.length ≤ 400000 ∧ Int.gcd (val r) (val r') = Int.gcd (val xs) (val ys) ∧ Below w.heap.size w wr) (fun _ yv wr => worth wr yv)
    case atStart => exact ⟨p2, p1, q2, q1, r2, r1, rfl, rfl, o2, C2.out, o1, C1.out, by have := HLT.out; omega, by omega, G2.out, HB3⟩
    case round =>
      obtain ⟨p, p', q, q', r, r', rfl, rfl, hr, hcr, hr', hcr', hle, hlr, hg, HB⟩ := hrel
      obtain ⟨_, z1, z2, z3⟩ := hr.sl.parts
      obtain ⟨_, y1, y2, y3⟩ := hr'.sl.parts
      have HCR := hide hcr
      have HCR' := hide hcr'
      have HLE := hide hle
      have HG := hide hg
      have Z3 := hide z3
      have Y3 := hide y3
      have hrl : r'.length ≤ r.length := le_len z3 hcr' hle
      clear hcr hcr' hle hg z3 y3
      by_cases h2 : 2 < r'.length
      · have h2' : (2 : Int) < (r'.length : Int) := by omega
        have ks := hide (shrink_any wr w.heap.size HB.size p p' q q' r r' hr hr' HCR'.out hlr h2 HLE.out)
        have MW := hide (worth_of hr'.sl)
        have V0 := hide (val_bounds Y3.out).1
        go_wp2_with fail
        refine (ks.out).mono ?_
        rintro e w5 ⟨v5, v6, X', Y', rfl, i5, i6, hle5, hlt5, htop5, hg5, hb5⟩
        obtain ⟨p5, q5, r5, rfl, o5, c5, e5⟩ := i5.ow
        obtain ⟨p6, q6, r6, rfl, o6, c6, e6⟩ := i6.ow
        have MW5 := hide (worth_of o6.sl)
        have L5 : Hid (r5.length ≤ 400000) := by
          have h9 := le_len Z3.out c5 (by rw [e5]; exact htop5)
          show _ ≤ _
          omega
        have R := hide (And.intro e5 (And.intro e6 (And.intro hle5 (And.intro hlt5 hg5))))
        have C5 := hide c5
        have C6 := hide c6
        have Z5 := hide (HB.trans (hb5.mono HB.size))
        clear e5 e6 hle5 hlt5 htop5 hg5 c5 c6
        go_wp2
        go_roundw
        case rel => exact ⟨p5, p6, q5, q6, r5, r6, rfl, rfl, o5, C5.out, o6, C6.out, by rw [R.out.1, R.out.2.1]; exact R.out.2.2.1, L5.out, by rw [R.out.1, R.out.2.1, R.out.2.2.2.2]; exact HG.out, Z5.out⟩
        case measure =>
          rw [MW.out, MW5.out, R.out.2.1]
          have h8 := (val_bounds C6.out.1).1
          rw [R.out.2.1] at h8
          have h7 := R.out.2.2.2.1
          omega
      · have h2' : ¬ (2 : Int) < (r'.length : Int) := by omega
        by_cases h0 : val r' = 0
        · have kd := hide (divmod_none wr _ _ _ _ _ _ r r' hr.sl hr'.sl h0)
          have F : Hid (Is w.heap.size wr (.slice p r.length q) (Int.gcd (val xs) (val ys))) := by
            refine ⟨r, hr, HCR.out, ?_⟩
            rw [← HG.out, h0, Int.gcd_zero_right]
            have := (val_bounds Z3.out).1
            omega
          go_wp2_with fail
          refine (kd.out).mono ?_
          rintro e w5 ⟨rfl, hb5⟩
          have F5 := hide (F.out.below hb5)
          have Z5 := hide (HB.trans (hb5.mono HB.size))
          go_wp2
          go_ret
          exact ⟨_, rfl, F5.out, Z5.out⟩
        · have kd := hide (divmod_g wr _ _ _ _ _ _ r r' hr.sl hr'.sl (by omega) h0)
          have GM := hide ((gcd_mod (val r) (val r')).trans HG.out)
          have sv := short_val' Y3.out (by omega)
          go_wp2_with fail
          refine (kd.out).mono ?_
          rintro e w5 ⟨p5, q5, r5, p6, q6, r6, rfl, G5, G6, l5, l6, hb5⟩
          have hr5 := hr'.below hb5
          have sv6 := short_val' G6.canon.1 (by omega)
          have V6 := hide G6.val
          have Z5 := HB.trans (hb5.mono HB.size)
          go_wp2_with fail
          refine (uint_short _ _ _ _ r' hr5.sl (by omega)).mono ?_
          rintro e w6 ⟨rfl, rfl⟩
          go_wp2_with fail
          refine (uint_short _ _ _ _ r6 G6.sl (by omega)).mono ?_
          rintro e w6 ⟨rfl, rfl⟩
          go_wp2_with fail
          refine (gcdShort_any _ (val r') (val r6) sv sv6).mono ?_
          rintro e w7 ⟨rfl, hb7⟩
          have E7 : Hid (Int.gcd (val r') (val r6) = Int.gcd (val xs) (val ys)) := by rw [V6.out]; exact GM.out
          rw [E7.out]
          have hgl : Hid (((Int.gcd (val xs) (val ys) : Nat) : Int) < 18446744073709551616) := by
            have h9 : Int.gcd (val r') (val r6) ≤ (val r').natAbs := Int.gcd_le_natAbs_left _ (by omega)
            rw [E7.out] at h9
            show _ < _
            omega
          have Z7 := Z5.trans (hb7.mono Z5.size)
          have hs0 : (0 : Int) ≤ ((Int.gcd (val xs) (val ys) : Nat) : Int) := by omega
          obtain ⟨GG, hGG⟩ : ∃ G, ((Int.gcd (val xs) (val ys) : Nat) : Int) = G := ⟨_, rfl⟩
          rw [hGG] at hgl hs0 ⊢
          have HGG := hide hGG
          clear hGG
          go_wp2_with fail
          refine (small_any _ GG hs0 hgl.out).mono ?_
          rintro e w8 ⟨v8, rfl, i8, hb8⟩
          have R8 := hide (i8.mono (B' := w.heap.size) Z7.size)
          have Z8 := hide (Z7.trans (hb8.mono Z7.size))
          go_wp2
          go_ret
          exact ⟨_, rfl, by rw [HGG.out]; exact R8.out, Z8.out⟩
  · have HK : Hid (∃ k, cmpI (val r1) (val r2) = k ∧ ¬ k < 0) := ⟨_, rfl, fun h => hlt (cmpI_neg.1 h)⟩
    obtain ⟨k, hk, hk0⟩ := HK.out
    have k1 := hide hk
    have HLT := hide hlt
    clear hlt hk HK
    go_wp2_with fail
    refine (cmp_any _ _ _ _ _ _ _ r1 r2 o1.sl o2.sl).mono ?_
    rintro e w3 ⟨rfl, hb3⟩
    rw [k1.out]
    replace o1 := o1.below hb3
    replace o2 := o2.below hb3
    have HB3 := below_then HB2 hb3
    go_wp2
    go_loopw [5, 6] (fun xv yv wr => ∃ (p p' : Option Addr) (q q' : Nat) (r r' : List Int), xv = .slice p r.length q ∧ yv = .slice p' r'.length q' ∧ Ow w.heap.size wr (.slice p r.length q) r ∧ Canon r ∧ Ow w.heap.size wr (.slice p' r'.length q') r' ∧ Canon r' ∧ val r' ≤ val r ∧ r.length ≤ 400000 ∧ Int.gcd (val r) (val r') = Int.gcd (val xs) (val ys) ∧ Below w.heap.size w wr) (fun _ yv wr => worth wr yv)
    case atStart => exact ⟨p1, p2, q1, q2, r1, r2, rfl, rfl, o1, C1.out, o2, C2.out, by have := HLT.out; omega, by omega, G1.out, HB3⟩
    case round =>
      obtain ⟨p, p', q, q', r, r', rfl, rfl, hr, hcr, hr', hcr', hle, hlr, hg, HB⟩ := hrel
      obtain ⟨_, z1, z2, z3⟩ := hr.sl.parts
      obtain ⟨_, y1, y2, y3⟩ := hr'.sl.parts
      have HCR := hide hcr
      have HCR' := hide hcr'
      have HLE := hide hle
      have HG := hide hg
      have Z3 := hide z3
      have Y3 := hide y3
      have hrl : r'.length ≤ r.length := le_len z3 hcr' hle
      clear hcr hcr' hle hg z3 y3
      by_cases h2 : 2 < r'.length
      · have h2' : (2 : Int) < (r'.length : Int) := by omega
        have ks := hide (shrink_any wr w.heap.size HB.size p p' q q' r r' hr hr' HCR'.out hlr h2 HLE.out)
        have MW := hide (worth_of hr'.sl)
        have V0 := hide (val_bounds Y3.out).1
        go_wp2_with fail
        refine (ks.out).mono ?_
        rintro e w5 ⟨v5, v6, X', Y', rfl, i5, i6, hle5, hlt5, htop5, hg5, hb5⟩
        obtain ⟨p5, q5, r5, rfl, o5, c5, e5⟩ := i5.ow
        obtain ⟨p6, q6, r6, rfl, o6, c6, e6⟩ := i6.ow
        have MW5 := hide (worth_of o6.sl)
        have L5 : Hid (r5.length ≤ 400000) := by
          have h9 := le_len Z3.out c5 (by rw [e5]; exact htop5)
          show _ ≤ _
          omega
        have R := hide (And.intro e5 (And.intro e6 (And.intro hle5 (And.intro hlt5 hg5))))
        have C5 := hide c5
        have C6 := hide c6
        have Z5 := hide (HB.trans (hb5.mono HB.size))
        clear e5 e6 hle5 hlt5 htop5 hg5 c5 c6
        go_wp2
        go_roundw
        case rel => exact ⟨p5, p6, q5, q6, r5, r6, rfl, rfl, o5, C5.out, o6, C6.out, by rw [R.out.1, R.out.2.1]; exact R.out.2.2.1, L5.out, by rw [R.out.1, R.out.2.1, R.out.2.2.2.2]; exact HG.out, Z5.out⟩
        case measure =>
          rw [MW.out, MW5.out, R.out.2.1]
          have h8 := (val_bounds C6.out.1).1
          rw [R.out.2.1] at h8
          have h7 := R.out.2.2.2.1
          omega
      · have h2' : ¬ (2 : Int) < (r'.length : Int) := by omega
        by_cases h0 : val r' = 0
        · have kd := hide (divmod_none wr _ _ _ _ _ _ r r' hr.sl hr'.sl h0)
          have F : Hid (Is w.heap.size wr (.slice p r.length q) (Int.gcd (val xs) (val ys))) := by
            refine ⟨r, hr, HCR.out, ?_⟩
            rw [← HG.out, h0, Int.gcd_zero_right]
            have := (val_bounds Z3.out).1
            omega
          go_wp2_with fail
          refine (kd.out).mono ?_
          rintro e w5 ⟨rfl, hb5⟩
          have F5 := hide (F.out.below hb5)
          have Z5 := hide (HB.trans (hb5.mono HB.size))
          go_wp2
          go_ret
          exact ⟨_, rfl, F5.out, Z5.out⟩
        · have kd := hide (divmod_g wr _ _ _ _ _ _ r r' hr.sl hr'.sl (by omega) h0)
          have GM := hide ((gcd_mod (val r) (val r')).trans HG.out)
          have sv := short_val' Y3.out (by omega)
          go_wp2_with fail
          refine (kd.out).mono ?_
          rintro e w5 ⟨p5, q5, r5, p6, q6, r6, rfl, G5, G6, l5, l6, hb5⟩
          have hr5 := hr'.below hb5
          have sv6 := short_val' G6.canon.1 (by omega)
          have V6 := hide G6.val
          have Z5 := HB.trans (hb5.mono HB.size)
          go_wp2_with fail
          refine (uint_short _ _ _ _ r' hr5.sl (by omega)).mono ?_
          rintro e w6 ⟨rfl, rfl⟩
          go_wp2_with fail
          refine (uint_short _ _ _ _ r6 G6.sl (by omega)).mono ?_
          rintro e w6 ⟨rfl, rfl⟩
          go_wp2_with fail
          refine (gcdShort_any _ (val r') (val r6) sv sv6).mono ?_
          rintro e w7 ⟨rfl, hb7⟩
          have E7 : Hid (Int.gcd (val r') (val r6) = Int.gcd (val xs) (val ys)) := by rw [V6.out]; exact GM.out
          rw [E7.out]
          have hgl : Hid (((Int.gcd (val xs) (val ys) : Nat) : Int) < 18446744073709551616) := by
            have h9 : Int.gcd (val r') (val r6) ≤ (val r').natAbs := Int.gcd_le_natAbs_left _ (by omega)
            rw [E7.out] at h9
            show _ < _
            omega
          have Z7 := Z5.trans (hb7.mono Z5.size)
          have hs0 : (0 : Int) ≤ ((Int.gcd (val xs) (val ys) : Nat) : Int) := by omega
          obtain ⟨GG, hGG⟩ : ∃ G, ((Int.gcd (val xs) (val ys) : Nat) : Int) = G := ⟨_, rfl⟩
          rw [hGG] at hgl hs0 ⊢
          have HGG := hide hGG
          clear hGG
          go_wp2_with fail
          refine (small_any _ GG hs0 hgl.out).mono ?_
          rintro e w8 ⟨v8, rfl, i8, hb8⟩
          have R8 := hide (i8.mono (B' := w.heap.size) Z7.size)
          have Z8 := hide (Z7.trans (hb8.mono Z7.size))
          go_wp2
          go_ret
          exact ⟨_, rfl, by rw [HGG.out]; exact R8.out, Z8.out⟩
end Lm
end Go.Proofs.Ytodgiglhconkoaa

namespace Go.Proofs.Ytodgiglhconkoaa
namespace Lm
open Go.RowKit
theorem gcd_sg (nx ny : Bool) (X Y : Int) : Int.gcd (sg nx X) (sg ny Y) = Int.gcd X Y := by
  cases nx <;> cases ny <;> simp [sg]
theorem gcd_small {X Y : Int} (hX : 0 ≤ X) (hY : 0 ≤ Y) : ((Int.gcd X Y : Nat) : Int) ≤ X + Y := by
  by_cases h : X = 0
  · subst h
    rw [Int.gcd_zero_left]
    omega
  · have h9 : Int.gcd X Y ≤ X.natAbs := Int.gcd_le_natAbs_left _ h
    omega
end Lm
end Go.Proofs.Ytodgiglhconkoaa

namespace Go.Proofs.Ytodgiglhconkoaa
namespace Lm
open Go Go.RowKit
theorem Mono.of4 {p : Says} (h : Mono4 p) : Mono p := fun v w w' hb hp => h v w w' (Rl.of_below hb) hp
def Fits2 (D : List Nat) (a : Act) : Nat → List Value → List Value → Prop
  | _, [], [] => True
  | i, x :: xs, y :: ys => ((x = y ∧ D.contains i = false) ∨ a.eval (.tmp i) = y) ∧ Fits2 D a (i + 1) xs ys
  | _, _, _ => False
theorem Fits2.at {D : List Nat} {a : Act} : ∀ {xs ys : List Value} {i : Nat}, Fits2 D a i xs ys → xs.length = ys.length ∧ ∀ k x y, xs[k]? = some x → ys[k]? = some y → (x = y ∧ D.contains (i + k) = false) ∨ a.eval (.tmp (i + k)) = y
  | [], [], _, _ => ⟨rfl, fun k x y h => by simp at h⟩
  | x :: xs, y :: ys, i, h => by
    obtain ⟨h1, h2⟩ := h
    obtain ⟨hl, h3⟩ := Fits2.at h2
    refine ⟨by simp [hl], fun k u v hu hv => ?_⟩
    cases k with
    | zero =>
      simp only [List.getElem?_cons_zero, Option.some.injEq] at hu hv
      subst hu hv
      exact h1
    | succ k =>
      have := h3 k u v (by simpa using hu) (by simpa using hv)
      have e : i + 1 + k = i + (k + 1) := by omega
      rwa [e] at this
  | [], _ :: _, _, h => h.elim
  | _ :: _, [], _, h => h.elim
theorem eval_list {xs : List Value} {ds : List Deferred} {k : Nat} {x : Value} (h : xs[k]? = some x) : (Act.mk xs.toArray ds).eval (.tmp k) = x := by
  obtain ⟨hk, rfl⟩ := List.getElem?_eq_some_iff.1 h
  simp [Act.eval, hk]
theorem act_fit {D : List Nat} {a : Act} {xs ys : List Value} {ds : List Deferred} (hn : a.tmps.size = xs.length) (hd : a.defers = ds) (hR : Rest D ⟨xs.toArray, ds⟩ a) (h : Fits2 D a 0 xs ys) : a = ⟨ys.toArray, ds⟩ := by
  obtain ⟨hl, h2⟩ := h.at
  obtain ⟨tmps, defers⟩ := a
  simp only at hn hd
  subst hd
  congr 1
  refine Array.ext (by simp [hn, hl]) fun i h1 h3 => ?_
  have hi : i < ys.length := by simpa using h3
  obtain ⟨x, hx⟩ : ∃ x, xs[i]? = some x := ⟨_, List.getElem?_eq_getElem (by omega)⟩
  have hy : ys[i]? = some ys[i] := List.getElem?_eq_getElem hi
  have key : (Act.mk tmps defers).eval (.tmp i) = ys[i] := by
    rcases h2 i x _ hx hy with ⟨e, hc⟩ | e
    · rw [Nat.zero_add] at hc
      rw [hR i hc, eval_list hx, e]
    · rwa [Nat.zero_add] at e
  have : (Act.mk tmps defers).eval (.tmp i) = tmps[i] := by simp [Act.eval, h1]
  rw [← this, key]
  simp
theorem cut_abs {P : Program} {ops : Array Oper} {Q : Exit → Act → World → Prop} {J K' R : Act → World → Prop} {id : Nat} {xs : List Value} {ds : List Deferred} {w : World} (Ds : List Nat) (Ps : List Says) (hK : ∀ a' w', Met J a' w' → K' a' w') (hJ : ∀ a' w', R a' w' → J a' w') (hm : P.follows .mixedOrders = true) (hnd : Ds.Nodup) (hlt : (Ds.all fun d => decide (d < xs.length)) = true)
    (hdep : (ops.toList.zipIdx.all fun p => p.1.after.all fun e => decide (e.on < p.2)) = true) (hM : Monos Ps) (hD : Duties P xs.length Ds Ps ⟨xs.toArray, ds⟩ w ops.toList Ds Ps)
    (hend : ∀ a' w', a'.tmps.size = xs.length → a'.defers = ds → Below w.heap.size w w' → Rest Ds ⟨xs.toArray, ds⟩ a' → (∀ j, j < Ds.length → Ps.getD j (fun _ _ => True) (a'.eval (.tmp (Ds.getD j 0))) w') → R a' w') : (Code.region id ops true).wp P (Exit.then K' Q) ⟨xs.toArray, ds⟩ w :=
  region_abs Ds Ps hm (by simp) hnd hlt hdep hM hD fun a' w' h1 h2 h3 h4 h5 => hK _ _ (Met.intro (hJ _ _ (hend a' w' h1 h2 h3 h4 h5)))
section
variable {dst : Option Tmp} {ty : TypeId} {pos : String} {after : Array Edge} {guard : Option (Nat × Bool)} {a : Act} {w : World} {i j k : Nat}
theorem op_ldP {g : Nat} {ng : Bool} {ao : Option Addr} {n c : Nat} {p : Says} (hp : a.eval (.tmp k) = .pointer (some ⟨g, 0, none⟩)) (hb : w.heap[g]? = some (.cells #[.bool ng, .slice ao n c] 30 (0, 0))) (hv : p (.agg #[.bool ng, .slice ao n c]) w) :
    Does Try.prog { dst, op := .load 30 (.tmp k), type := ty, pos, after, guard } a.eval w fun v' w' => Below w.heap.size w w' ∧ p v' w' :=
  does_load (by rw [hp]; exact load_whole hb) ⟨Below.refl _ _, hv⟩
theorem op_ldc {b off : Nat} {ng : Bool} {ao : Option Addr} {n c : Nat} {p : Says} (hp : a.eval (.tmp k) = .pointer (some ⟨b, off, none⟩)) (h0 : w.cell? ⟨b, off, none⟩ = some (.bool ng)) (h1 : w.cell? ⟨b, off + 1, none⟩ = some (.slice ao n c)) (hv : p (.agg #[.bool ng, .slice ao n c]) w) :
    Does Try.prog { dst, op := .load 30 (.tmp k), type := ty, pos, after, guard } a.eval w fun v' w' => Below w.heap.size w w' ∧ p v' w' := by
  refine does_load (v := .agg #[.bool ng, .slice ao n c]) ?_ ⟨Below.refl _ _, hv⟩
  rw [hp]
  go_simp
end
end Lm
end Go.Proofs.Ytodgiglhconkoaa

namespace Go.Proofs.Ytodgiglhconkoaa
namespace Lm
open Go Go.RowKit
theorem Fits2.nil {D : List Nat} {a : Act} {i : Nat} : Fits2 D a i [] [] := trivial
theorem Fits2.same {D : List Nat} {a : Act} {i : Nat} {x : Value} {xs ys : List Value} (hc : D.contains i = false) (h : Fits2 D a (i + 1) xs ys) : Fits2 D a i (x :: xs) (x :: ys) := ⟨.inl ⟨rfl, hc⟩, h⟩
theorem Fits2.new {D : List Nat} {a : Act} {i : Nat} {x u : Value} {xs ys : List Value} (hu : a.eval (.tmp i) = u) (h : Fits2 D a (i + 1) xs ys) : Fits2 D a i (x :: xs) (u :: ys) := ⟨.inr hu, h⟩
theorem Fits2.s4 {D : List Nat} {a : Act} {i : Nat} {x1 x2 x3 x4 : Value} {xs ys : List Value} (hc : (D.contains i || D.contains (i + 1) || D.contains (i + 2) || D.contains (i + 3)) = false) (h : Fits2 D a (i + 4) xs ys) : Fits2 D a i (x1 :: x2 :: x3 :: x4 :: xs) (x1 :: x2 :: x3 :: x4 :: ys) := by
  simp only [Bool.or_eq_false_iff] at hc
  exact .same hc.1.1.1 <| .same hc.1.1.2 <| .same hc.1.2 <| .same hc.2 h
theorem Fits2.s16 {D : List Nat} {a : Act} {i : Nat} {x1 x2 x3 x4 x5 x6 x7 x8 y1 y2 y3 y4 y5 y6 y7 y8 : Value} {xs ys : List Value} (hc : ((List.range 16).all fun k => !D.contains (i + k)) = true) (h : Fits2 D a (i + 16) xs ys) : Fits2 D a i (x1 :: x2 :: x3 :: x4 :: x5 :: x6 :: x7 :: x8 :: y1 :: y2 :: y3 :: y4 :: y5 :: y6 :: y7 :: y8 :: xs) (x1 :: x2 :: x3 :: x4 :: x5 :: x6 :: x7 :: x8 :: y1 :: y2 :: y3 :: y4 :: y5 :: y6 :: y7 :: y8 :: ys) := by
  have hk : ∀ k, k < 16 → D.contains (i + k) = false := fun k hk => by simpa using List.all_eq_true.1 hc k (List.mem_range.2 hk)
  have g : ∀ j, j + 3 < 16 → (D.contains (i + j) || D.contains (i + j + 1) || D.contains (i + j + 2) || D.contains (i + j + 3)) = false := fun j hj => by
    simp only [Bool.or_eq_false_iff]
    exact ⟨⟨⟨hk j (by omega), hk (j + 1) (by omega)⟩, hk (j + 2) (by omega)⟩, hk (j + 3) (by omega)⟩
  exact .s4 (g 0 (by omega)) <| .s4 (g 4 (by omega)) <| .s4 (g 8 (by omega)) <| .s4 (g 12 (by omega)) h
theorem tail_fit {P : Program} {ops : Array Oper} {Q : Exit → Act → World → Prop} {l : List Oper} {w : World} {D : List Nat} {a : Act} {xs ys : List Value} {ds : List Deferred} (hn : a.tmps.size = xs.length) (hd : a.defers = ds) (hR : Rest D ⟨xs.toArray, ds⟩ a) (h : Fits2 D a 0 xs ys) (k : wpList P ops Q l ⟨ys.toArray, ds⟩ w) : wpList P ops Q l a w := by
  rw [act_fit hn hd hR h]
  exact k
theorem duty_one {P : Program} {ops : Array Oper} {Q : Exit → Act → World → Prop} {n : Nat} {Ds : List Nat} {Ps : List Says} {a0 : Act} {w0 : World} {l : Array Bool} {a : Act} {w : World} {i : Nat} {o : Oper} (hat : ∀ i o, ops[i]? = some o → i < Ds.length → Duty P n Ds Ps a0 w0 o (Ds.getD i 0) (Ps.getD i fun _ _ => True)) (hlo : Ds.length ≤ ops.size) (hnd : Ds.Nodup) (hlt : (Ds.all fun d => decide (d < n)) = true) (hM : Monos Ps) (ho : ops[i]? = some o) (hil : i < Ds.length) (h : Mid n Ds Ps a0 w0 l a w) (hdeps : ∀ e ∈ o.after, Region.binds .any e = true → l.getD e.on false = true) :
    wpOp P ops Q i (fun a' w' => Mid n Ds Ps a0 w0 (l.setIfInBounds i true) a' w') a w := by
  have h' := h
  obtain ⟨h1, h2, h3, h4, h5, h6⟩ := h
  obtain ⟨hdst, hduty⟩ := hat i o ho hil
  have hduty := hduty a w h2 h4 h5 (fun j hj => by
    obtain ⟨e, he, hj⟩ := List.any_eq_true.1 hj
    simp only [Bool.and_eq_true, beq_iff_eq] at hj
    obtain ⟨rfl, hb⟩ := hj
    exact h6 _ (hdeps e (by simpa using he) hb))
  refine wpOp_step ho (fun K' hK => ?_)
  cases hg : o.guard with
  | none =>
    rw [hg] at hduty
    simp only [Region.wanted, hg, if_true]
    exact Does.wp hduty (fun v w' ⟨hb, hp⟩ => by rw [hdst]; exact hK _ _ (h'.put hil hnd hlt hM hb hp))
  | some gb =>
    obtain ⟨g, b⟩ := gb
    rw [hg] at hduty
    simp only at hduty
    obtain ⟨hgl, hyes, hno⟩ := hduty
    obtain ⟨og, hog⟩ : ∃ og, ops[g]? = some og := ⟨_, Array.getElem?_eq_getElem (by omega)⟩
    have hgd := (hat g og hog hgl).1
    have hgn : Ds.getD g 0 < n := by
      have := List.all_eq_true.1 hlt (Ds.getD g 0) (by rw [List.getD_eq_getElem?_getD, List.getElem?_eq_getElem hgl]; simp)
      simpa using this
    have hy : yielded ops a.tmps g = (match a.eval (.tmp (Ds.getD g 0)) with | .bool b => some b | _ => none) := by
      unfold yielded
      rw [hog]
      simp only [Option.bind_some, hgd]
      have : a.tmps[Ds.getD g 0]? = some (a.eval (.tmp (Ds.getD g 0))) := by
        rw [Array.getElem?_eq_getElem (by omega)]
        simp only [Act.eval, Array.getD, h2, hgn, dif_pos]
        rfl
      rw [this]
      generalize a.eval (.tmp (Ds.getD g 0)) = v
      cases v <;> rfl
    by_cases hv : a.eval (.tmp (Ds.getD g 0)) = .bool b
    · have hw : Region.wanted o (yielded ops a.tmps) = true := by
        simp only [Region.wanted, hg]
        rw [hy, hv]
        simp
      rw [if_pos hw]
      exact Does.wp (hyes hv) (fun v w' ⟨hb, hp⟩ => by rw [hdst]; exact hK _ _ (h'.put hil hnd hlt hM hb hp))
    · have hw : ¬ Region.wanted o (yielded ops a.tmps) = true := by
        simp only [Region.wanted, hg]
        rw [hy]
        intro hc
        apply hv
        generalize a.eval (.tmp (Ds.getD g 0)) = v at *
        cases v <;> simp at hc
        rw [hc]
      rw [if_neg hw, hdst]
      exact hK _ _ (h'.put hil hnd hlt hM (Below.refl _ _) (hno hv))
theorem Duties.take {P : Program} {n : Nat} {Ds : List Nat} {Ps : List Says} {a0 : Act} {w0 : World} {ops : Array Oper} {m : Nat} (h : Duties P n Ds Ps a0 w0 (ops.toList.take m) Ds Ps) (hm : m ≤ ops.size) : Ds.length = m ∧ ∀ i o, ops[i]? = some o → i < Ds.length → Duty P n Ds Ps a0 w0 o (Ds.getD i 0) (Ps.getD i fun _ _ => True) := by
  obtain ⟨hl, hat⟩ := h.at
  have hl' : Ds.length = m := by rw [hl, List.length_take]; simp; omega
  refine ⟨hl', fun i o ho hi => hat i o ?_⟩
  rw [List.getElem?_take_of_lt (by omega), Array.getElem?_toList]
  exact ho
theorem getD_extract {l : Array Bool} {m j : Nat} (h : j < m) (b : Bool) : (l.extract 0 m).getD j b = l.getD j b := by
  rw [Array.getD_eq_getD_getElem?, Array.getD_eq_getD_getElem?, Array.getElem?_extract]
  simp only [Nat.sub_zero, Nat.zero_add]
  by_cases hj : j < min m l.size
  · rw [if_pos hj]
  · rw [if_neg hj, Array.getElem?_eq_none (by omega)]
theorem extract_set {l : Array Bool} {m i : Nat} : (l.setIfInBounds i true).extract 0 m = (l.extract 0 m).setIfInBounds i true := by
  apply Array.ext_getElem?
  intro j
  simp only [Array.getElem?_extract, Array.getElem?_setIfInBounds, Array.size_setIfInBounds, Array.size_extract, Nat.sub_zero, Nat.zero_add]
  by_cases hj : j < min m l.size
  · rw [if_pos hj, if_pos hj]
    by_cases e : i = j
    · subst e
      rw [if_pos rfl, if_pos rfl, if_pos (by omega), if_pos hj]
    · rw [if_neg e, if_neg e]
  · rw [if_neg hj, if_neg hj]
    by_cases e : i = j
    · subst e
      rw [if_pos rfl, if_neg hj]
    · rw [if_neg e]
theorem region_tail {P : Program} {ops : Array Oper} {Q : Exit → Act → World → Prop} {id n : Nat} {a : Act} {w : World} (m : Nat) (Ds : List Nat) (Ps : List Says) (hm : P.follows .mixedOrders = true) (hn : a.tmps.size = n) (hnd : Ds.Nodup) (hlt : (Ds.all fun d => decide (d < n)) = true)
    (hdep : (ops.toList.zipIdx.all fun p => p.1.after.all fun e => decide (e.on < p.2)) = true) (hms : m ≤ ops.size) (hall : (ops.toList.zipIdx.all fun p => decide (p.2 < m) || (List.range p.2).all fun j => p.1.after.any fun e => e.on == j && Region.binds .any e) = true) (hM : Monos Ps) (hD : Duties P n Ds Ps a w (ops.toList.take m) Ds Ps)
    (hend : ∀ a' w', a'.tmps.size = n → a'.defers = a.defers → Below w.heap.size w w' → Rest Ds a a' → (∀ j, j < Ds.length → Ps.getD j (fun _ _ => True) (a'.eval (.tmp (Ds.getD j 0))) w') → wpList P ops Q (ops.toList.drop m) a' w') : (Code.region id ops true).wp P Q a w := by
  obtain ⟨hlen, hat⟩ := hD.take hms
  have hL : ∀ k, k ≤ ops.size → wpOps P ops Q (List.range' k (ops.size - k)) = wpList P ops Q (ops.toList.drop k) := fun k hk => by
    have := wpOps_eq_wpList (P := P) (ops := ops) (Q := Q) (ops.toList.drop k) k (fun j => by rw [List.getElem?_drop, Array.getElem?_toList])
    rw [← this]
    simp
  have hneed : ∀ i o, ops[i]? = some o → m ≤ i → ∀ l : Array Bool, (∀ e ∈ o.after, Region.binds .any e = true → l.getD e.on false = true) → ∀ j, j < i → l.getD j false = true := by
    intro i o ho hi l hl j hj
    have h1 := List.all_eq_true.1 hall (o, i) (by rw [List.mem_zipIdx_iff_getElem?]; simpa using ho)
    simp only [Bool.or_eq_true, decide_eq_true_eq] at h1
    rcases h1 with h1 | h1
    · omega
    · have h2 := List.all_eq_true.1 h1 j (List.mem_range.2 hj)
      rw [← Array.any_toList] at h2
      obtain ⟨e, he, h3⟩ := List.any_eq_true.1 h2
      replace he := Array.mem_toList_iff.1 he
      simp only [Bool.and_eq_true, beq_iff_eq] at h3
      rw [← h3.1]
      exact hl e he h3.2
  refine wp_region_inv hm (fun l a' w' => l.size = ops.size ∧ (((∀ j, m ≤ j → l.getD j false = false) ∧ Mid n Ds Ps a w (l.extract 0 m) a' w') ∨ ∃ j, m < j ∧ j ≤ ops.size ∧ (∀ k, k < j → l.getD k false = true) ∧ (∀ k, j ≤ k → l.getD k false = false) ∧ wpOps P ops Q (List.range' j (ops.size - j)) a' w')) ?_ ?_ ?_
  · refine ⟨by simp, .inl ⟨fun j _ => ?_, by simp [hlen]; omega, hn, rfl, Below.drew (Below.refl _ _), fun _ _ => rfl, fun j hj => ?_⟩⟩
    · simp [Array.getElem?_replicate]
      split <;> simp
    · exfalso
      by_cases hjm : j < m
      · rw [getD_extract hjm] at hj
        simp [Array.getElem?_replicate] at hj
        split at hj <;> simp at hj
      · rw [Array.getD_eq_getD_getElem?, Array.getElem?_eq_none (by simp; omega)] at hj
        simp at hj
  · rintro l a' w' ⟨hs, hI⟩ hr
    have hal := all_listed hdep hs hr
    rcases hI with ⟨h1, h2, h3, h4, h5, h6, h7⟩ | ⟨j, hj1, hj2, hj3, hj4, hj5⟩
    · have hmo : m = ops.size := by
        apply Classical.byContradiction
        intro hne
        have := hal m (by omega)
        rw [h1 m (Nat.le_refl _)] at this
        cases this
      have := hend a' w' h3 h4 h5 h6 (fun j hj => h7 j (by rw [getD_extract (by omega)]; exact hal j (by omega)))
      rw [List.drop_eq_nil_of_le (by simp; omega)] at this
      exact this
    · have hje : j = ops.size := by
        apply Classical.byContradiction
        intro hne
        have := hal j (by omega)
        rw [hj4 j (Nat.le_refl _)] at this
        cases this
      subst hje
      simpa [wpOps] using hj5
  · rintro l a' w' ⟨hs, hI⟩ i hi
    obtain ⟨hun, o, ho, hdeps⟩ := mem_ready.1 hi
    have hio : i < ops.size := (Array.getElem?_eq_some_iff.1 ho).1
    have hset : ∀ k, k ≠ i → (l.setIfInBounds i true).getD k false = l.getD k false := fun k hk => getD_set_ne false (fun e => hk e.symm)
    have hseti : (l.setIfInBounds i true).getD i false = true := by
      rw [Array.getD_eq_getD_getElem?, Array.getElem?_setIfInBounds_self_of_lt (by omega)]
      rfl
    have hif : l.getD i false = false := by
      rw [Array.getD_eq_getD_getElem?] at hun ⊢
      cases hc : l[i]? with
      | none => rfl
      | some b => rw [hc] at hun; simpa using hun
    have hrun : ∀ j, j = i → wpOps P ops Q (List.range' j (ops.size - j)) a' w' → m ≤ j → (∀ k, k < j → l.getD k false = true) → (∀ k, j ≤ k → l.getD k false = false) → wpOp P ops Q i (fun a' w' => (l.setIfInBounds i true).size = ops.size ∧ (((∀ j, m ≤ j → (l.setIfInBounds i true).getD j false = false) ∧ Mid n Ds Ps a w ((l.setIfInBounds i true).extract 0 m) a' w') ∨ ∃ j, m < j ∧ j ≤ ops.size ∧ (∀ k, k < j → (l.setIfInBounds i true).getD k false = true) ∧ (∀ k, j ≤ k → (l.setIfInBounds i true).getD k false = false) ∧ wpOps P ops Q (List.range' j (ops.size - j)) a' w')) a' w' := by
      rintro j rfl hw hmj hlo hhi
      rw [show ops.size - j = (ops.size - (j + 1)) + 1 by omega, List.range'_succ, wpOps_cons] at hw
      refine wpOp_mono (fun a2 w2 h => ⟨by simpa using hs, .inr ⟨j + 1, by omega, by omega, fun k hk => ?_, fun k hk => ?_, h⟩⟩) hw
      · by_cases e : k = j
        · subst e; exact hseti
        · rw [hset k e]; exact hlo k (by omega)
      · rw [hset k (by omega)]; exact hhi k (by omega)
    rcases hI with ⟨h1, hmid⟩ | ⟨j, hj1, hj2, hj3, hj4, hj5⟩
    · by_cases him : i < m
      · have hd' : ∀ e ∈ o.after, Region.binds .any e = true → (l.extract 0 m).getD e.on false = true := fun e he hb => by
          have h2 := List.all_eq_true.1 hdep (o, i) (by rw [List.mem_zipIdx_iff_getElem?]; simpa using ho)
          have h3 : e.on < i := by simpa using Array.all_eq_true_iff_forall_mem.1 h2 e he
          rw [getD_extract (by omega)]
          exact hdeps e he hb
        refine wpOp_mono (fun a2 w2 h => ⟨by simpa using hs, .inl ⟨fun k hk => ?_, ?_⟩⟩) (duty_one hat (by omega) hnd hlt hM ho (by omega) hmid hd')
        · rw [hset k (by omega)]
          exact h1 k hk
        · rw [extract_set]
          exact h
      · have hpre := hneed i o ho (by omega) l hdeps
        have hie : i = m := by
          apply Classical.byContradiction
          intro hne
          have := hpre m (by omega)
          rw [h1 m (Nat.le_refl _)] at this
          cases this
        subst hie
        obtain ⟨h2, h3, h4, h5, h6, h7⟩ := hmid
        have hw := hend a' w' h3 h4 h5 h6 (fun j hj => h7 j (by rw [getD_extract (by omega)]; exact hpre j (by omega)))
        rw [← hL _ hms] at hw
        exact hrun i rfl hw (Nat.le_refl _) hpre h1
    · have hij : i = j := by
        apply Classical.byContradiction
        intro hne
        by_cases hlt' : i < j
        · rw [hj3 i hlt'] at hif
          cases hif
        · have := hneed i o ho (by omega) l hdeps j (by omega)
          rw [hj4 j (Nat.le_refl _)] at this
          cases this
      exact hrun j hij.symm hj5 (by omega) hj3 hj4
end Lm
end Go.Proofs.Ytodgiglhconkoaa

namespace Go.Proofs.Ytodgiglhconkoaa
namespace Lm
open Go Go.RowKit
section
variable {dst : Option Tmp} {ty : TypeId} {pos : String} {after : Array Edge} {guard : Option (Nat × Bool)} {a : Act} {w : World} {ats : Array TypeId} {i j : Nat} {x y : Int} {L L1 L2 : Nat}
theorem has_wtrim : Has Try.prog 17 := by unfold Has; kernel_rfl
theorem op_wtrim (hx : IsW x L1 (a.eval (.tmp i)) w) (h1 : L1 ≤ 400000) :
    Does Try.prog { dst, op := .call { callee := .value (.func 17), args := #[.tmp i], argTypes := ats }, type := ty, pos, after, guard } a.eval w fun v w' => Below w.heap.size w w' ∧ OutW x L1 v w' := by
  obtain ⟨n1, a1, m1, c1, xs, e1, A1, l1⟩ := hx
  refine does_call has_wtrim _ (by simp only [List.map_toArray, List.map_cons, List.map_nil, e1]) ((trim_z _ _ _ _ _ _ _ A1 (by omega)).mono ?_)
  rintro e w' ⟨ng, ao, cap, rs, rfl, G, l, hb⟩
  exact ⟨_, rfl, hb, _, _, _, _, rfl, G, by omega⟩
end
theorem does_alloc {P : Program} {dst : Option Tmp} {ty : TypeId} {pos : String} {after : Array Edge} {guard : Option (Nat × Bool)} {a : Act} {w : World} {R : Value → World → Prop} {t : TypeId} {v : Value} {w' : World} (hb : (Instr.alloc t true (.tuple #[])).run P w = .ok v w') (h : R v w') : Does P { dst, op := .alloc t, type := ty, pos, after, guard } a.eval w R := by
  refine ⟨?_⟩
  unfold Turns
  simp only [execOp]
  simp [hb, h]
def NewW (n : Nat) : Says := fun v w => ∃ g, n ≤ g ∧ v = .pointer (some ⟨g, 0, none⟩) ∧ w.heap[g]? = some (.cells #[.bool false, .slice none 0 0] 30 (0, 0))
theorem NewW.mono (n : Nat) : Mono (NewW n) := fun _ _ _ hb ⟨g, h1, h2, h3⟩ => ⟨g, h1, h2, (hb.block _ (lt_of_heap h3)).trans h3⟩
theorem op_newW {dst : Option Tmp} {ty : TypeId} {pos : String} {after : Array Edge} {guard : Option (Nat × Bool)} {a : Act} {w : World} {n : Nat} (hn : n ≤ w.heap.size) :
    Does Try.prog { dst, op := .alloc 30, type := ty, pos, after, guard } a.eval w fun v w' => Below w.heap.size w w' ∧ NewW n v w' := by
  obtain ⟨cs, ⟨ng, ao, k, c, e, rfl⟩, hr⟩ := W2ok.alloc w
  cases e
  exact does_alloc hr ⟨hAl _ _, _, hn, rfl, heap_alloc_new _ _⟩
end Lm
end Go.Proofs.Ytodgiglhconkoaa

namespace Go.Proofs.Ytodgiglhconkoaa
namespace Lm
open Go.RowKit
structure Fr (B T : Nat) (w : World) (ao : Option Addr) (cap : Nat) (rs : List Int) (x : Int) : Prop where
  ow : Ow B w (.slice ao rs.length cap) rs
  canon : Canon rs
  val : val rs = x
  lies : 0 < cap → ∀ g off, ao = some ⟨g, off, none⟩ → B ≤ g ∧ g < T
theorem Is.fr {B : Nat} {w : World} {v : Value} {x : Int} (h : Is B w v x) : ∃ ao cap rs, v = .slice ao rs.length cap ∧ Fr B w.heap.size w ao cap rs x := by
  obtain ⟨rs, ho, hc, hv⟩ := h
  obtain ⟨ao, cap, rfl, h1, h2, h3, h4⟩ := ho
  refine ⟨ao, cap, rs, rfl, ⟨ao, cap, rfl, h1, h2, h3, h4⟩, hc, hv, ?_⟩
  intro h0 g off e
  rcases h4 with h4 | ⟨g', off', cur, e', hB, hh, _⟩
  · omega
  · rw [e'] at e
    simp only [Option.some.injEq, Addr.mk.injEq, and_true] at e
    have := lt_of_heap hh
    omega
theorem Fr.got {B T : Nat} {w : World} {ao : Option Addr} {cap : Nat} {rs : List Int} {x : Int} (h : Fr B T w ao cap rs x) : Got w ao cap rs x := ⟨h.ow.sl, h.canon, h.val⟩
end Lm
end Go.Proofs.Ytodgiglhconkoaa

namespace Go.Proofs.Ytodgiglhconkoaa
namespace Lm
open Go.RowKit
theorem Is.tight {B : Nat} {w : World} {v : Value} {x : Int} (h : Is B w v x) (hB : B ≤ w.heap.size) : ∃ ao cap rs B1 T1, v = .slice ao rs.length cap ∧ Fr B1 T1 w ao cap rs x ∧ B ≤ B1 ∧ T1 ≤ w.heap.size ∧ ((cap = 0 ∧ T1 = B1) ∨ (0 < cap ∧ T1 = B1 + 1 ∧ ∃ off, ao = some ⟨B1, off, none⟩)) := by
  obtain ⟨rs, ho, hc, hv⟩ := h
  obtain ⟨ao, cap, rfl, h1, h2, h3, h4⟩ := ho
  by_cases h0 : cap = 0
  · exact ⟨ao, cap, rs, B, B, rfl, ⟨⟨ao, cap, rfl, h1, h2, h3, .inl h0⟩, hc, hv, fun h => by omega⟩, Nat.le_refl _, hB, .inl ⟨h0, rfl⟩⟩
  · rcases h4 with h4 | ⟨g, off, cur, rfl, hg, hh, hs, ha⟩
    · exact absurd h4 h0
    · refine ⟨_, cap, rs, g, g + 1, rfl, ⟨⟨_, cap, rfl, h1, h2, h3, .inr ⟨g, off, cur, rfl, Nat.le_refl _, hh, hs, ha⟩⟩, hc, hv, fun _ g' off' e => ?_⟩, hg, lt_of_heap hh, .inr ⟨by omega, rfl, off, rfl⟩⟩
      simp only [Option.some.injEq, Addr.mk.injEq] at e
      omega
theorem Is.two {B : Nat} {w : World} {v1 v2 : Value} {x1 x2 : Int} (h1 : Is B w v1 x1) (h2 : Is B w v2 x2) (hs : Sep v1 v2) (hB : B ≤ w.heap.size) : ∃ ao cap rs bo dap ss B1 T1 B2 T2, v1 = .slice ao rs.length cap ∧ v2 = .slice bo ss.length dap ∧ Fr B1 T1 w ao cap rs x1 ∧ Fr B2 T2 w bo dap ss x2 ∧ B ≤ B1 ∧ T1 ≤ w.heap.size ∧ B ≤ B2 ∧ T2 ≤ w.heap.size ∧ (∀ j, B1 ≤ j → j < T1 → j < B2 ∨ T2 ≤ j) := by
  obtain ⟨ao, cap, rs, B1, T1, rfl, f1, b1, t1, c1⟩ := h1.tight hB
  obtain ⟨bo, dap, ss, B2, T2, rfl, f2, b2, t2, c2⟩ := h2.tight hB
  refine ⟨ao, cap, rs, bo, dap, ss, B1, T1, B2, T2, rfl, rfl, f1, f2, b1, t1, b2, t2, fun j hj1 hj2 => ?_⟩
  rcases c1 with ⟨_, c1⟩ | ⟨p1, c1, off1, rfl⟩
  · omega
  · rcases c2 with ⟨_, c2⟩ | ⟨p2, c2, off2, rfl⟩
    · omega
    · have := hs _ _ _ _ _ _ rfl rfl
      simp only at this
      omega
structure Li (B T : Nat) (w : World) (ao : Option Addr) (cap : Nat) (rs : List Int) : Prop where
  ow : Ow B w (.slice ao rs.length cap) rs
  lies : 0 < cap → ∀ g off, ao = some ⟨g, off, none⟩ → B ≤ g ∧ g < T
theorem Fr.li {B T : Nat} {w : World} {ao : Option Addr} {cap : Nat} {rs : List Int} {x : Int} (h : Fr B T w ao cap rs x) : Li B T w ao cap rs := ⟨h.ow, h.lies⟩
theorem Li.fr {B T : Nat} {w : World} {ao : Option Addr} {cap : Nat} {rs : List Int} {x : Int} (h : Li B T w ao cap rs) (hg : Got w ao cap rs x) : Fr B T w ao cap rs x := ⟨h.ow, hg.canon, hg.val, h.lies⟩
theorem Li.kept {B T : Nat} {w w' : World} {ao : Option Addr} {cap : Nat} {rs : List Int} (h : Li B T w ao cap rs) (hk : ∀ g, g < w.heap.size → B ≤ g → g < T → w'.heap[g]? = w.heap[g]?) : Li B T w' ao cap rs := by
  obtain ⟨ho, hl⟩ := h
  refine ⟨?_, hl⟩
  obtain ⟨ao', cap', hv', h1, h2, h3, h4⟩ := ho
  obtain ⟨rfl, _, rfl⟩ := (Value.slice.injEq .. ▸ hv')
  refine ⟨ao, cap, rfl, h1, h2, h3, ?_⟩
  rcases h4 with h4 | ⟨g, off, cur, rfl, hB, hh, r⟩
  · exact .inl h4
  · by_cases h0 : 0 < cap
    · have := hl h0 g off rfl
      exact .inr ⟨g, off, cur, rfl, hB, (hk g (lt_of_heap hh) this.1 this.2).trans hh, r⟩
    · exact .inl (by omega)
theorem Li.below {B T : Nat} {w w' : World} {ao : Option Addr} {cap : Nat} {rs : List Int} (h : Li B T w ao cap rs) (hb : Below w.heap.size w w') : Li B T w' ao cap rs := h.kept fun g hg _ _ => hb.block g hg
theorem Li.set2 {B T : Nat} {w : World} {ao : Option Addr} {cap : Nat} {rs : List Int} (h : Li B T w ao cap rs) (k : Nat) (hk : k < B ∨ T ≤ k) (b u : Value) : Li B T ((w.setCell ⟨k, 0, none⟩ b).setCell ⟨k, 1, none⟩ u) ao cap rs :=
  h.kept fun g _ h1 h2 => by
    have hne : g ≠ k := by omega
    rw [heap_setCell_other _ ⟨k, 1, none⟩ g _ hne, heap_setCell_other _ ⟨k, 0, none⟩ g _ hne]
theorem divmod_o (w : World) (a1 a2 : Option Addr) (n1 n2 c1 c2 : Nat) (xs ys : List Int) (hx : Sl w (.slice a1 n1 c1) xs) (hy : Sl w (.slice a2 n2 c2) ys) (hm1 : xs.length ≤ 500000) (h0 : val ys ≠ 0) :
    Calls Try.prog 77 #[.slice a1 n1 c1, .slice a2 n2 c2] w fun e w' => ∃ ao cap rs bo dap ss B1 T1 B2 T2, e = .returned (.tuple #[.slice ao rs.length cap, .slice bo ss.length dap, .bool true]) ∧ Got w' ao cap rs (val xs / val ys) ∧ Got w' bo dap ss (val xs % val ys) ∧ rs.length ≤ xs.length ∧ ss.length ≤ ys.length ∧ Li B1 T1 w' ao cap rs ∧ Li B2 T2 w' bo dap ss ∧ (w.heap.size ≤ B1 ∧ T1 ≤ w'.heap.size ∧ w.heap.size ≤ B2 ∧ T2 ≤ w'.heap.size ∧ ∀ j, B1 ≤ j → j < T1 → j < B2 ∨ T2 ≤ j) ∧ Below w.heap.size w w' := by
  refine (divmod_any w a1 a2 n1 n2 c1 c2 xs ys hx hy hm1 h0).mono ?_
  rintro e w' ⟨v1, v2, rfl, hi1, hi2, hsep, hb⟩
  obtain ⟨ao, cap, rs, bo, dap, ss, B1, T1, B2, T2, rfl, rfl, f1, f2, x1, x2, x3, x4, x5⟩ := hi1.two hi2 hsep hb.size
  have lx := hx.parts.2.2.2
  have ly := hy.parts.2.2.2
  have bx := val_bounds lx
  have bY := val_bounds ly
  refine ⟨ao, cap, rs, bo, dap, ss, B1, T1, B2, T2, rfl, f1.got, f2.got, le_len lx f1.canon (by rw [f1.val]; exact Int.ediv_le_self _ bx.1), le_len ly f2.canon (by rw [f2.val]; exact Int.le_of_lt (Int.emod_lt_of_pos _ (by omega))), f1.li, f2.li, ⟨x1, x2, x3, x4, x5⟩, hb⟩
theorem add_o (w : World) (a1 a2 : Option Addr) (n1 n2 c1 c2 : Nat) (xs ys : List Int) (hx : Sl w (.slice a1 n1 c1) xs) (hy : Sl w (.slice a2 n2 c2) ys) (hm1 : xs.length ≤ 1000000) (hm2 : ys.length ≤ 1000000) :
    Calls Try.prog 37 #[.slice a1 n1 c1, .slice a2 n2 c2] w fun e w' => ∃ ao cap rs, e = .returned (.slice ao rs.length cap) ∧ Got w' ao cap rs (val xs + val ys) ∧ rs.length ≤ xs.length + ys.length + 1 ∧ Li w.heap.size w'.heap.size w' ao cap rs ∧ Below w.heap.size w w' := by
  refine (add_any w a1 a2 n1 n2 c1 c2 xs ys hx hy hm1 hm2).mono ?_
  rintro e w' ⟨v, rfl, hi, hb⟩
  obtain ⟨ao, cap, rs, rfl, f⟩ := hi.fr
  exact ⟨ao, cap, rs, rfl, f.got, add_len hx.parts.2.2.2 hy.parts.2.2.2 f.canon f.val, f.li, hb⟩
theorem sub_o (w : World) (a1 a2 : Option Addr) (n1 n2 c1 c2 : Nat) (xs ys : List Int) (hx : Sl w (.slice a1 n1 c1) xs) (hy : Sl w (.slice a2 n2 c2) ys) (hm1 : xs.length ≤ 1000000) (hge : val ys ≤ val xs) :
    Calls Try.prog 38 #[.slice a1 n1 c1, .slice a2 n2 c2] w fun e w' => ∃ ao cap rs, e = .returned (.tuple #[.slice ao rs.length cap, .bool true]) ∧ Got w' ao cap rs (val xs - val ys) ∧ rs.length ≤ xs.length ∧ Li w.heap.size w'.heap.size w' ao cap rs ∧ Below w.heap.size w w' := by
  refine (sub_yes w a1 a2 n1 n2 c1 c2 xs ys hx hy hm1 hge).mono ?_
  rintro e w' ⟨v, rfl, hi, hb⟩
  obtain ⟨ao, cap, rs, rfl, f⟩ := hi.fr
  have := (val_bounds hy.parts.2.2.2).1
  exact ⟨ao, cap, rs, rfl, f.got, le_len hx.parts.2.2.2 f.canon (by rw [f.val]; omega), f.li, hb⟩
end Lm
end Go.Proofs.Ytodgiglhconkoaa

namespace Go.Proofs.Ytodgiglhconkoaa
namespace Lm
open Go.RowKit
theorem trim_o (w : World) (ao : Option Addr) (n cap : Nat) (zs : List Int) (h : Sl w (.slice ao n cap) zs) (hz : zs.length ≤ 1000000) :
    Calls Try.prog 32 #[.slice ao n cap] w fun e w' => ∃ ao cap rs, e = .returned (.slice ao rs.length cap) ∧ Got w' ao cap rs (val zs) ∧ rs.length ≤ zs.length ∧ Li w.heap.size w'.heap.size w' ao cap rs ∧ Below w.heap.size w w' := by
  refine (trim_any w ao n cap zs h hz).mono ?_
  rintro e w' ⟨v, rfl, ho, hb⟩
  have hc := canon_trim h.parts.2.2.2
  obtain ⟨ao', cap', rs, rfl, f⟩ := (show Is w.heap.size w' v (val zs) from ⟨_, ho, hc, val_take_tl zs⟩).fr
  refine ⟨ao', cap', rs, rfl, f.got, ?_, f.li, hb⟩
  exact le_len h.parts.2.2.2 f.canon (by rw [f.val]; exact Int.le_refl _)
theorem mul_o (w : World) (a1 a2 : Option Addr) (n1 n2 c1 c2 : Nat) (xs ys : List Int) (hx : Sl w (.slice a1 n1 c1) xs) (hy : Sl w (.slice a2 n2 c2) ys) (hm1 : xs.length ≤ 500000) (hm2 : ys.length ≤ 500000) :
    Calls Try.prog 23 #[.slice a1 n1 c1, .slice a2 n2 c2] w fun e w' => ∃ ao cap rs, e = .returned (.slice ao rs.length cap) ∧ Got w' ao cap rs (val xs * val ys) ∧ rs.length ≤ xs.length + ys.length ∧ Li w.heap.size w'.heap.size w' ao cap rs ∧ Below w.heap.size w w' := by
  refine (mul_any w a1 a2 n1 n2 c1 c2 xs ys hx hy hm1 hm2).mono ?_
  rintro e w' ⟨v, rfl, hi, hb⟩
  obtain ⟨ao, cap, rs, rfl, f⟩ := hi.fr
  exact ⟨ao, cap, rs, rfl, f.got, mul_len hx.parts.2.2.2 hy.parts.2.2.2 f.canon f.val, f.li, hb⟩
set_option maxRecDepth 20000 in
set_option maxHeartbeats 400000 in
theorem wtrim_o (w : World) (ng : Bool) (ao : Option Addr) (n cap : Nat) (zs : List Int) (h : Sl w (.slice ao n cap) zs) (hz : zs.length ≤ 1000000) :
    Calls Try.prog 17 #[.agg #[.bool ng, .slice ao n cap]] w fun e w' => ∃ ng' ao cap rs, e = .returned (.agg #[.bool ng', .slice ao rs.length cap]) ∧ Wh w' ng' ao cap rs (sg ng (val zs)) ∧ rs.length ≤ zs.length ∧ Li w.heap.size w'.heap.size w' ao cap rs ∧ Below w.heap.size w w' := by
  obtain ⟨w0, e0, bx, br, hb0, hs0⟩ := boxed1 w ng (.slice ao n cap)
  have E0 := hide e0
  have h0 := h.below hb0
  have HS0 := hide hs0
  clear e0 hs0
  go_enter Try.func17, Try.ntmps17
  go_wp2_with fail
  rw [E0.out]
  obtain ⟨c0, c1, f0, f1⟩ := bx.facts
  obtain ⟨d0, d1, g0, g1⟩ := br.facts
  go_region_held3 (fun w' => w'.cell? ⟨w.heap.size, 0, none⟩ = some (.bool ng) ∧ w'.cell? ⟨w.heap.size, 1, none⟩ = some (.slice ao n cap)) (go_keep) (first
    | (go_at_call 32; refine (trim_o _ _ _ _ zs (h0.below (by repeat (first | exact Below.refl _ _ | refine Below.drew ?_))) hz).mono ?_; rintro e w1 ⟨p1, q1, r1, rfl, G1, l1, o1, hb1⟩; have hb1' : Below w0.heap.size w0 w1 := (show Below w0.heap.size w0 _ by repeat (first | exact Below.refl _ _ | refine Below.drew ?_)).trans hb1; have bx1 := bx.below hb1'; have br1 := br.below hb1'; obtain ⟨i0, i1, j0, j1⟩ := bx1.facts)
    | (go_at_call 22; refine (signed_g _ _ _ _ r1 _ (G1.below (by repeat (first | exact Below.refl _ _ | refine Below.drew ?_))) (by omega)).mono ?_; rintro e w2 ⟨ng2, rfl, G2, hb2⟩; have hb2' : Below w1.heap.size w1 w2 := (show Below w1.heap.size w1 _ by repeat (first | exact Below.refl _ _ | refine Below.drew ?_)).trans hb2; have bx2 := bx1.below hb2'; have br2 := br1.below hb2'; obtain ⟨k0, k1, m0, m1⟩ := br2.facts; obtain ⟨o0, o1, t0, t1⟩ := bx2.facts))
  all_goals
    have X := hide (br2.set ng2 (.slice p1 r1.length q1)).facts
    have Y := hide (br2.wh ng2 (.slice p1 r1.length q1) G2)
    have Z := hide (below_set2 (hb0.trans ((hb1'.trans (hb2'.mono hb1'.size)).mono hb0.size)) (Nat.le_succ _) (.bool ng2) (.slice p1 r1.length q1))
    clear k0 k1 m0 m1 o0 o1 t0 t1 i0 i1 j0 j1 c0 c1 f0 f1 d0 d1 g0 g1
    have hs9 := HS0.out
    have o1 : Li w0.heap.size w1.heap.size w1 p1 q1 r1 := o1
    have s_1 := hb1'.size
    have s_2 := hb2'.size
    have O1 := hide ((o1.below hb2').set2 (w.heap.size + 1) (by omega) (.bool ng2) (.slice p1 r1.length q1))
    have O2 := hide (show Li w.heap.size _ _ p1 q1 r1 from ⟨O1.out.ow.mono (by omega), fun h0 g off e => by have := O1.out.lies h0 g off e; exact ⟨by omega, Nat.lt_of_lt_of_le this.2 (show w1.heap.size ≤ ((w2.setCell ⟨w.heap.size + 1, 0, none⟩ (.bool ng2)).setCell ⟨w.heap.size + 1, 1, none⟩ (.slice p1 r1.length q1)).heap.size by simp [World.setCell]; exact s_2)⟩⟩)
    clear O1
    go_wp2
    refine bodyPost_ret (v := .agg #[.bool ng2, .slice p1 r1.length q1]) ?_ rfl ⟨ng2, p1, q1, r1, rfl, Y.out, l1, O2.out, Z.out⟩
    simp [results, Try.results17, go_sem, X.out.1, X.out.2.1]
set_option maxRecDepth 20000 in
set_option maxHeartbeats 400000 in
theorem wneg_o (w : World) (ng : Bool) (ao : Option Addr) (n cap : Nat) (zs : List Int) (h : Sl w (.slice ao n cap) zs) (hz : zs.length ≤ 1000000) :
    Calls Try.prog 18 #[.agg #[.bool ng, .slice ao n cap]] w fun e w' => ∃ ng' ao cap rs, e = .returned (.agg #[.bool ng', .slice ao rs.length cap]) ∧ Wh w' ng' ao cap rs (-sg ng (val zs)) ∧ rs.length ≤ zs.length ∧ Li w.heap.size w'.heap.size w' ao cap rs ∧ Below w.heap.size w w' := by
  obtain ⟨w0, e0, bx, br, hb0, hs0⟩ := boxed1 w ng (.slice ao n cap)
  have E0 := hide e0
  have h0 := h.below hb0
  have HS0 := hide hs0
  clear e0 hs0
  go_enter Try.func18, Try.ntmps18
  go_wp2_with fail
  rw [E0.out]
  obtain ⟨c0, c1, f0, f1⟩ := bx.facts
  obtain ⟨d0, d1, g0, g1⟩ := br.facts
  go_region_held3 (fun w' => w'.cell? ⟨w.heap.size, 0, none⟩ = some (.bool ng) ∧ w'.cell? ⟨w.heap.size, 1, none⟩ = some (.slice ao n cap)) (go_keep) (first
    | (go_at_call 32; refine (trim_o _ _ _ _ zs (h0.below (by repeat (first | exact Below.refl _ _ | refine Below.drew ?_))) hz).mono ?_; rintro e w1 ⟨p1, q1, r1, rfl, G1, l1, o1, hb1⟩; have hb1' : Below w0.heap.size w0 w1 := (show Below w0.heap.size w0 _ by repeat (first | exact Below.refl _ _ | refine Below.drew ?_)).trans hb1; have bx1 := bx.below hb1'; obtain ⟨bx1a, bx1b, bx1c, bx1d⟩ := bx1.facts; have br1 := br.below hb1'; obtain ⟨br1a, br1b, br1c, br1d⟩ := br1.facts)
    | (go_at_call 22; refine (signed_g _ _ _ _ r1 _ (G1.below (by repeat (first | exact Below.refl _ _ | refine Below.drew ?_))) (by omega)).mono ?_; rintro e w2 ⟨ng2, rfl, G2, hb2⟩; have hb2' : Below w1.heap.size w1 w2 := (show Below w1.heap.size w1 _ by repeat (first | exact Below.refl _ _ | refine Below.drew ?_)).trans hb2; have bx2 := bx1.below hb2'; obtain ⟨bx2a, bx2b, bx2c, bx2d⟩ := bx2.facts; have br2 := br1.below hb2'; obtain ⟨br2a, br2b, br2c, br2d⟩ := br2.facts))
  all_goals
    have X := hide (br2.set ng2 (.slice p1 r1.length q1)).facts
    have Y := hide (br2.wh ng2 (.slice p1 r1.length q1) G2)
    have Z := hide (below_set2 (hb0.trans ((hb1'.trans (hb2'.mono hb1'.size)).mono hb0.size)) (Nat.le_succ _) (.bool ng2) (.slice p1 r1.length q1))
    clear bx2a bx2b bx2c bx2d br2a br2b br2c br2d bx1a bx1b bx1c bx1d br1a br1b br1c br1d c0 c1 f0 f1 d0 d1 g0 g1
    have hs9 := HS0.out
    have o1 : Li w0.heap.size w1.heap.size w1 p1 q1 r1 := o1
    have s_1 := hb1'.size
    have s_2 := hb2'.size
    have O1 := hide ((o1.below hb2').set2 (w.heap.size + 1) (by omega) (.bool ng2) (.slice p1 r1.length q1))
    have O2 := hide (show Li w.heap.size _ _ p1 q1 r1 from ⟨O1.out.ow.mono (by omega), fun h0 g off e => by have := O1.out.lies h0 g off e; exact ⟨by omega, Nat.lt_of_lt_of_le this.2 (show w1.heap.size ≤ ((w2.setCell ⟨w.heap.size + 1, 0, none⟩ (.bool ng2)).setCell ⟨w.heap.size + 1, 1, none⟩ (.slice p1 r1.length q1)).heap.size by simp [World.setCell]; exact s_2)⟩⟩)
    clear O1
    go_wp2
    refine bodyPost_ret (v := .agg #[.bool ng2, .slice p1 r1.length q1]) ?_ rfl ⟨ng2, p1, q1, r1, rfl, by rw [← sg_neg]; exact Y.out, l1, O2.out, Z.out⟩
    simp [results, Try.results18, go_sem, X.out.1, X.out.2.1]
set_option maxRecDepth 20000 in
set_option maxHeartbeats 1000000 in
theorem join_sameo (w : World) (nx : Bool) (a1 : Option Addr) (n1 c1 : Nat) (xs : List Int) (hx : Sl w (.slice a1 n1 c1) xs) (a2 : Option Addr) (n2 c2 : Nat) (ys : List Int) (hy : Sl w (.slice a2 n2 c2) ys) (hm1 : xs.length ≤ 400000) (hm2 : ys.length ≤ 400000) :
    Calls Try.prog 25 #[.agg #[.bool nx, .slice a1 n1 c1], .bool nx, .slice a2 n2 c2] w fun e w' => ∃ ng' ao cap rs, e = .returned (.agg #[.bool ng', .slice ao rs.length cap]) ∧ Wh w' ng' ao cap rs (sg nx (val xs) + sg nx (val ys)) ∧ rs.length ≤ xs.length + ys.length + 1 ∧ Li w.heap.size w'.heap.size w' ao cap rs ∧ Below w.heap.size w w' := by
  obtain ⟨w0, e0, bx, br, hb0, hs0⟩ := boxed1 w nx (.slice a1 n1 c1)
  have E0 := hide e0
  have hx0 := hx.below hb0
  have hy0 := hy.below hb0
  have HS0 := hide hs0
  clear e0 hs0
  go_enter Try.func25, Try.ntmps25
  go_wp2_with fail
  rw [E0.out]
  obtain ⟨ca, cb, cc, cd⟩ := bx.facts
  obtain ⟨da, db, dc, dd⟩ := br.facts
  refine (add_o _ _ _ _ _ _ _ xs ys hx0 hy0 (by omega) (by omega)).mono ?_
  rintro e w1 ⟨p1, q1, r1, rfl, G1, l1, o1, hb1⟩
  go_wp2_with fail
  refine (signed_g _ _ _ _ r1 _ G1 (by omega)).mono ?_
  rintro e w2 ⟨ng2, rfl, G2, hb2⟩
  have br2 := (br.below hb1).below hb2
  obtain ⟨ka, kb, kc, kd⟩ := br2.facts
  have X := hide (br2.set ng2 (.slice p1 r1.length q1)).facts
  have Y := hide (br2.wh ng2 (.slice p1 r1.length q1) G2)
  have Z := hide (below_set2 (hb0.trans ((hb1.trans (hb2.mono hb1.size)).mono hb0.size)) (Nat.le_succ _) (.bool ng2) (.slice p1 r1.length q1))
  skip
  have hs9 := HS0.out
  have s_1 := hb1.size
  have s_2 := hb2.size
  have O1 := hide ((o1.below hb2).set2 (w.heap.size + 1) (by omega) (.bool ng2) (.slice p1 r1.length q1))
  have O2 := hide (show Li w.heap.size _ _ p1 q1 r1 from ⟨O1.out.ow.mono (by omega), fun h0 g off e => by have := O1.out.lies h0 g off e; exact ⟨by omega, Nat.lt_of_lt_of_le this.2 (show w1.heap.size ≤ ((w2.setCell ⟨w.heap.size + 1, 0, none⟩ (.bool ng2)).setCell ⟨w.heap.size + 1, 1, none⟩ (.slice p1 r1.length q1)).heap.size by simp [World.setCell]; exact s_2)⟩⟩)
  clear O1
  go_wp2
  refine bodyPost_ret (v := .agg #[.bool ng2, .slice p1 r1.length q1]) ?_ rfl ⟨ng2, p1, q1, r1, rfl, by rw [← sg_add]; exact Y.out, by omega, O2.out, Z.out⟩
  simp [results, Try.results25, go_sem, X.out.1, X.out.2.1]
set_option maxRecDepth 20000 in
set_option maxHeartbeats 1000000 in
theorem join_geo (w : World) (nx : Bool) (a1 : Option Addr) (n1 c1 : Nat) (xs : List Int) (hx : Sl w (.slice a1 n1 c1) xs) (a2 : Option Addr) (n2 c2 : Nat) (ys : List Int) (hy : Sl w (.slice a2 n2 c2) ys) (hm1 : xs.length ≤ 400000) (hm2 : ys.length ≤ 400000) (hge : val ys ≤ val xs) :
    Calls Try.prog 25 #[.agg #[.bool nx, .slice a1 n1 c1], .bool (!nx), .slice a2 n2 c2] w fun e w' => ∃ ng' ao cap rs, e = .returned (.agg #[.bool ng', .slice ao rs.length cap]) ∧ Wh w' ng' ao cap rs (sg nx (val xs) + sg (!nx) (val ys)) ∧ rs.length ≤ xs.length + ys.length + 1 ∧ Li w.heap.size w'.heap.size w' ao cap rs ∧ Below w.heap.size w w' := by
  obtain ⟨w0, e0, bx, br, hb0, hs0⟩ := boxed1 w nx (.slice a1 n1 c1)
  have E0 := hide e0
  have hx0 := hx.below hb0
  have hy0 := hy.below hb0
  have HS0 := hide hs0
  clear e0 hs0
  cases nx
  all_goals
    go_enter Try.func25, Try.ntmps25
    go_wp2_with fail
    rw [E0.out]
    obtain ⟨ca, cb, cc, cd⟩ := bx.facts
    obtain ⟨da, db, dc, dd⟩ := br.facts
    refine (sub_o _ _ _ _ _ _ _ xs ys hx0 hy0 (by omega) hge).mono ?_
    rintro e w1 ⟨p1, q1, r1, rfl, G1, l1, o1, hb1⟩
    have bx1 := bx.below hb1
    obtain ⟨ia, ib, ic, id⟩ := bx1.facts
    go_wp2_with fail
    refine (signed_g _ _ _ _ r1 _ G1 (by omega)).mono ?_
    rintro e w2 ⟨ng2, rfl, G2, hb2⟩
    have br2 := (br.below hb1).below hb2
    obtain ⟨ka, kb, kc, kd⟩ := br2.facts
    have X := hide (br2.set ng2 (.slice p1 r1.length q1)).facts
    have Y := hide (br2.wh ng2 (.slice p1 r1.length q1) G2)
    have Z := hide (below_set2 (hb0.trans ((hb1.trans (hb2.mono hb1.size)).mono hb0.size)) (Nat.le_succ _) (.bool ng2) (.slice p1 r1.length q1))
    skip
    have hs9 := HS0.out
    have s_1 := hb1.size
    have s_2 := hb2.size
    have O1 := hide ((o1.below hb2).set2 (w.heap.size + 1) (by omega) (.bool ng2) (.slice p1 r1.length q1))
    have O2 := hide (show Li w.heap.size _ _ p1 q1 r1 from ⟨O1.out.ow.mono (by omega), fun h0 g off e => by have := O1.out.lies h0 g off e; exact ⟨by omega, Nat.lt_of_lt_of_le this.2 (show w1.heap.size ≤ ((w2.setCell ⟨w.heap.size + 1, 0, none⟩ (.bool ng2)).setCell ⟨w.heap.size + 1, 1, none⟩ (.slice p1 r1.length q1)).heap.size by simp [World.setCell]; exact s_2)⟩⟩)
    clear O1
    go_wp2
    refine bodyPost_ret (v := .agg #[.bool ng2, .slice p1 r1.length q1]) ?_ rfl ⟨ng2, p1, q1, r1, rfl, by rw [← sg_sub]; exact Y.out, by omega, O2.out, Z.out⟩
    simp [results, Try.results25, go_sem, X.out.1, X.out.2.1]
set_option maxRecDepth 20000 in
set_option maxHeartbeats 1000000 in
theorem join_lto (w : World) (nx : Bool) (a1 : Option Addr) (n1 c1 : Nat) (xs : List Int) (hx : Sl w (.slice a1 n1 c1) xs) (a2 : Option Addr) (n2 c2 : Nat) (ys : List Int) (hy : Sl w (.slice a2 n2 c2) ys) (hm1 : xs.length ≤ 400000) (hm2 : ys.length ≤ 400000) (hlt : val xs < val ys) :
    Calls Try.prog 25 #[.agg #[.bool nx, .slice a1 n1 c1], .bool (!nx), .slice a2 n2 c2] w fun e w' => ∃ ng' ao cap rs, e = .returned (.agg #[.bool ng', .slice ao rs.length cap]) ∧ Wh w' ng' ao cap rs (sg nx (val xs) + sg (!nx) (val ys)) ∧ rs.length ≤ xs.length + ys.length + 1 ∧ Li w.heap.size w'.heap.size w' ao cap rs ∧ Below w.heap.size w w' := by
  obtain ⟨w0, e0, bx, br, hb0, hs0⟩ := boxed1 w nx (.slice a1 n1 c1)
  have E0 := hide e0
  have hx0 := hx.below hb0
  have hy0 := hy.below hb0
  have HS0 := hide hs0
  clear e0 hs0
  cases nx
  all_goals
    go_enter Try.func25, Try.ntmps25
    go_wp2_with fail
    rw [E0.out]
    obtain ⟨ca, cb, cc, cd⟩ := bx.facts
    obtain ⟨da, db, dc, dd⟩ := br.facts
    refine (sub_no _ _ _ _ _ _ _ xs ys hx0 hy0 hlt).mono ?_
    rintro e w9 ⟨rfl, hb9⟩
    have hx9 := hx0.below hb9
    have hy9 := hy0.below hb9
    have bx9 := bx.below hb9
    have br9 := br.below hb9
    obtain ⟨ia, ib, ic, id⟩ := bx9.facts
    go_wp2_with fail
    refine (sub_o _ _ _ _ _ _ _ ys xs hy9 hx9 (by omega) (by omega)).mono ?_
    rintro e w1 ⟨p1, q1, r1, rfl, G1, l1, o1, hb1⟩
    go_wp2_with fail
    refine (signed_g _ _ _ _ r1 _ G1 (by omega)).mono ?_
    rintro e w2 ⟨ng2, rfl, G2, hb2⟩
    have br2 := (br9.below hb1).below hb2
    obtain ⟨ka, kb, kc, kd⟩ := br2.facts
    have X := hide (br2.set ng2 (.slice p1 r1.length q1)).facts
    have Y := hide (br2.wh ng2 (.slice p1 r1.length q1) G2)
    have Z := hide (below_set2 (hb0.trans ((hb9.trans ((hb1.trans (hb2.mono hb1.size)).mono hb9.size)).mono hb0.size)) (Nat.le_succ _) (.bool ng2) (.slice p1 r1.length q1))
    skip
    have hs9 := HS0.out
    have s_9 := hb9.size
    have s_1 := hb1.size
    have s_2 := hb2.size
    have O1 := hide ((o1.below hb2).set2 (w.heap.size + 1) (by omega) (.bool ng2) (.slice p1 r1.length q1))
    have O2 := hide (show Li w.heap.size _ _ p1 q1 r1 from ⟨O1.out.ow.mono (by omega), fun h0 g off e => by have := O1.out.lies h0 g off e; exact ⟨by omega, Nat.lt_of_lt_of_le this.2 (show w1.heap.size ≤ ((w2.setCell ⟨w.heap.size + 1, 0, none⟩ (.bool ng2)).setCell ⟨w.heap.size + 1, 1, none⟩ (.slice p1 r1.length q1)).heap.size by simp [World.setCell]; exact s_2)⟩⟩)
    clear O1
    go_wp2
    refine bodyPost_ret (v := .agg #[.bool ng2, .slice p1 r1.length q1]) ?_ rfl ⟨ng2, p1, q1, r1, rfl, by rw [← sg_sub']; exact Y.out, by omega, O2.out, Z.out⟩
    simp [results, Try.results25, go_sem, X.out.1, X.out.2.1]
theorem join_o (w : World) (nx : Bool) (a1 : Option Addr) (n1 c1 : Nat) (xs : List Int) (hx : Sl w (.slice a1 n1 c1) xs) (ny : Bool) (a2 : Option Addr) (n2 c2 : Nat) (ys : List Int) (hy : Sl w (.slice a2 n2 c2) ys) (hm1 : xs.length ≤ 400000) (hm2 : ys.length ≤ 400000) :
    Calls Try.prog 25 #[.agg #[.bool nx, .slice a1 n1 c1], .bool ny, .slice a2 n2 c2] w fun e w' => ∃ ng' ao cap rs, e = .returned (.agg #[.bool ng', .slice ao rs.length cap]) ∧ Wh w' ng' ao cap rs (sg nx (val xs) + sg ny (val ys)) ∧ rs.length ≤ xs.length + ys.length + 1 ∧ Li w.heap.size w'.heap.size w' ao cap rs ∧ Below w.heap.size w w' := by
  by_cases hn : ny = nx
  · subst hn
    exact join_sameo w ny a1 n1 c1 xs hx a2 n2 c2 ys hy hm1 hm2
  · have hn' : ny = !nx := by cases nx <;> cases ny <;> simp_all
    subst hn'
    by_cases h : val ys ≤ val xs
    · exact join_geo w nx a1 n1 c1 xs hx a2 n2 c2 ys hy hm1 hm2 h
    · exact join_lto w nx a1 n1 c1 xs hx a2 n2 c2 ys hy hm1 hm2 (by omega)
set_option maxRecDepth 20000 in
set_option maxHeartbeats 400000 in
theorem wadd_o (w : World) (nx : Bool) (a1 : Option Addr) (n1 c1 : Nat) (xs : List Int) (hx : Sl w (.slice a1 n1 c1) xs) (ny : Bool) (a2 : Option Addr) (n2 c2 : Nat) (ys : List Int) (hy : Sl w (.slice a2 n2 c2) ys) (hm1 : xs.length ≤ 400000) (hm2 : ys.length ≤ 400000) :
    Calls Try.prog 10 #[.agg #[.bool nx, .slice a1 n1 c1], .agg #[.bool ny, .slice a2 n2 c2]] w fun e w' => ∃ ng' ao cap rs, e = .returned (.agg #[.bool ng', .slice ao rs.length cap]) ∧ Wh w' ng' ao cap rs (sg nx (val xs) + sg ny (val ys)) ∧ rs.length ≤ xs.length + ys.length + 1 ∧ Li w.heap.size w'.heap.size w' ao cap rs ∧ Below w.heap.size w w' := by
  obtain ⟨w0, e0, bx, by', br, hb0, hs0⟩ := boxed3 w nx (.slice a1 n1 c1) ny (.slice a2 n2 c2)
  have E0 := hide e0
  have hx0 := hx.below hb0
  have hy0 := hy.below hb0
  have HS0 := hide hs0
  clear e0 hs0
  go_enter Try.func10, Try.ntmps10
  go_wp2_with fail
  rw [E0.out]
  obtain ⟨ca, cb, cc, cd⟩ := bx.facts
  obtain ⟨ea, eb, ec, ed⟩ := by'.facts
  obtain ⟨da, db, dc, dd⟩ := br.facts
  refine (join_o _ nx _ _ _ xs hx0 ny _ _ _ ys hy0 hm1 hm2).mono ?_
  rintro e w1 ⟨ng2, p1, q1, r1, rfl, G2, l1, o1, hb1⟩
  have br2 := br.below hb1
  obtain ⟨ka, kb, kc, kd⟩ := br2.facts
  have X := hide (br2.set ng2 (.slice p1 r1.length q1)).facts
  have Y := hide (br2.wh ng2 (.slice p1 r1.length q1) G2)
  have Z := hide (below_set2 (hb0.trans (hb1.mono hb0.size)) (Nat.le_add_right _ 2) (.bool ng2) (.slice p1 r1.length q1))
  skip
  have hs9 := HS0.out
  have s_1 := hb1.size
  have O1 := hide (o1.set2 (w.heap.size + 1 + 1) (by omega) (.bool ng2) (.slice p1 r1.length q1))
  have O2 := hide (show Li w.heap.size _ _ p1 q1 r1 from ⟨O1.out.ow.mono (by omega), fun h0 g off e => by have := O1.out.lies h0 g off e; exact ⟨by omega, Nat.lt_of_lt_of_le this.2 (show w1.heap.size ≤ ((w1.setCell ⟨w.heap.size + 1 + 1, 0, none⟩ (.bool ng2)).setCell ⟨w.heap.size + 1 + 1, 1, none⟩ (.slice p1 r1.length q1)).heap.size by simp [World.setCell])⟩⟩)
  clear O1
  go_wp2
  refine bodyPost_ret (v := .agg #[.bool ng2, .slice p1 r1.length q1]) ?_ rfl ⟨ng2, p1, q1, r1, rfl, Y.out, by omega, O2.out, Z.out⟩
  simp [results, Try.results10, go_sem, X.out.1, X.out.2.1]
set_option maxRecDepth 20000 in
set_option maxHeartbeats 400000 in
theorem wsub_o (w : World) (nx : Bool) (a1 : Option Addr) (n1 c1 : Nat) (xs : List Int) (hx : Sl w (.slice a1 n1 c1) xs) (ny : Bool) (a2 : Option Addr) (n2 c2 : Nat) (ys : List Int) (hy : Sl w (.slice a2 n2 c2) ys) (hm1 : xs.length ≤ 400000) (hm2 : ys.length ≤ 400000) :
    Calls Try.prog 57 #[.agg #[.bool nx, .slice a1 n1 c1], .agg #[.bool ny, .slice a2 n2 c2]] w fun e w' => ∃ ng' ao cap rs, e = .returned (.agg #[.bool ng', .slice ao rs.length cap]) ∧ Wh w' ng' ao cap rs (sg nx (val xs) - sg ny (val ys)) ∧ rs.length ≤ xs.length + ys.length + 1 ∧ Li w.heap.size w'.heap.size w' ao cap rs ∧ Below w.heap.size w w' := by
  obtain ⟨w0, e0, bx, by', br, hb0, hs0⟩ := boxed3 w nx (.slice a1 n1 c1) ny (.slice a2 n2 c2)
  have E0 := hide e0
  have hx0 := hx.below hb0
  have hy0 := hy.below hb0
  have HS0 := hide hs0
  clear e0 hs0
  go_enter Try.func57, Try.ntmps57
  go_wp2_with fail
  rw [E0.out]
  obtain ⟨ca, cb, cc, cd⟩ := bx.facts
  obtain ⟨ea, eb, ec, ed⟩ := by'.facts
  obtain ⟨da, db, dc, dd⟩ := br.facts
  refine (join_o _ nx _ _ _ xs hx0 (!ny) _ _ _ ys hy0 hm1 hm2).mono ?_
  rintro e w1 ⟨ng2, p1, q1, r1, rfl, G2, l1, o1, hb1⟩
  have br2 := br.below hb1
  obtain ⟨ka, kb, kc, kd⟩ := br2.facts
  have X := hide (br2.set ng2 (.slice p1 r1.length q1)).facts
  have Y := hide (br2.wh ng2 (.slice p1 r1.length q1) G2)
  have Z := hide (below_set2 (hb0.trans (hb1.mono hb0.size)) (Nat.le_add_right _ 2) (.bool ng2) (.slice p1 r1.length q1))
  skip
  have hs9 := HS0.out
  have s_1 := hb1.size
  have O1 := hide (o1.set2 (w.heap.size + 1 + 1) (by omega) (.bool ng2) (.slice p1 r1.length q1))
  have O2 := hide (show Li w.heap.size _ _ p1 q1 r1 from ⟨O1.out.ow.mono (by omega), fun h0 g off e => by have := O1.out.lies h0 g off e; exact ⟨by omega, Nat.lt_of_lt_of_le this.2 (show w1.heap.size ≤ ((w1.setCell ⟨w.heap.size + 1 + 1, 0, none⟩ (.bool ng2)).setCell ⟨w.heap.size + 1 + 1, 1, none⟩ (.slice p1 r1.length q1)).heap.size by simp [World.setCell])⟩⟩)
  clear O1
  go_wp2
  refine bodyPost_ret (v := .agg #[.bool ng2, .slice p1 r1.length q1]) ?_ rfl ⟨ng2, p1, q1, r1, rfl, by rw [Int.sub_eq_add_neg, ← sg_neg]; exact Y.out, by omega, O2.out, Z.out⟩
  simp [results, Try.results57, go_sem, X.out.1, X.out.2.1]
set_option maxRecDepth 20000 in
set_option maxHeartbeats 400000 in
theorem wmul_o (w : World) (nx : Bool) (a1 : Option Addr) (n1 c1 : Nat) (xs : List Int) (hx : Sl w (.slice a1 n1 c1) xs) (ny : Bool) (a2 : Option Addr) (n2 c2 : Nat) (ys : List Int) (hy : Sl w (.slice a2 n2 c2) ys) (hm1 : xs.length ≤ 400000) (hm2 : ys.length ≤ 400000) :
    Calls Try.prog 8 #[.agg #[.bool nx, .slice a1 n1 c1], .agg #[.bool ny, .slice a2 n2 c2]] w fun e w' => ∃ ng' ao cap rs, e = .returned (.agg #[.bool ng', .slice ao rs.length cap]) ∧ Wh w' ng' ao cap rs (sg nx (val xs) * sg ny (val ys)) ∧ rs.length ≤ xs.length + ys.length ∧ Li w.heap.size w'.heap.size w' ao cap rs ∧ Below w.heap.size w w' := by
  obtain ⟨w0, e0, bx, by', br, hb0, hs0⟩ := boxed3 w nx (.slice a1 n1 c1) ny (.slice a2 n2 c2)
  have E0 := hide e0
  have hx0 := hx.below hb0
  have hy0 := hy.below hb0
  have HS0 := hide hs0
  clear e0 hs0
  have q1' : (w.heap.size = w.heap.size + 1 + 1) = False := by simp; omega
  have q2' : (w.heap.size + 1 + 1 = w.heap.size) = False := by simp; omega
  go_enter Try.func8, Try.ntmps8
  go_wp2_with fail
  rw [E0.out]
  obtain ⟨ca, cb, cc, cd⟩ := bx.facts
  obtain ⟨ea, eb, ec, ed⟩ := by'.facts
  obtain ⟨da, db, dc, dd⟩ := br.facts
  go_region_held3 (fun w' => w'.cell? ⟨w.heap.size, 0, none⟩ = some (.bool nx) ∧ w'.cell? ⟨w.heap.size, 1, none⟩ = some (.slice a1 n1 c1) ∧ w'.cell? ⟨w.heap.size + 1, 0, none⟩ = some (.bool ny) ∧ w'.cell? ⟨w.heap.size + 1, 1, none⟩ = some (.slice a2 n2 c2)) (go_keep) (first
    | (go_at_call 23; refine (mul_o _ _ _ _ _ _ _ xs ys (hx0.below (by repeat (first | exact Below.refl _ _ | refine Below.drew ?_))) (hy0.below (by repeat (first | exact Below.refl _ _ | refine Below.drew ?_))) (by omega) (by omega)).mono ?_; rintro e w1 ⟨p1, q1, r1, rfl, G1, l1, o1, hb1⟩; have hb1' : Below w0.heap.size w0 w1 := (show Below w0.heap.size w0 _ by repeat (first | exact Below.refl _ _ | refine Below.drew ?_)).trans hb1; have bx1 := bx.below hb1'; obtain ⟨bx1a, bx1b, bx1c, bx1d⟩ := bx1.facts; have by1 := by'.below hb1'; obtain ⟨by1a, by1b, by1c, by1d⟩ := by1.facts; have br1 := br.below hb1'; obtain ⟨br1a, br1b, br1c, br1d⟩ := br1.facts)
    | (go_at_call 22; refine (signed_g _ _ _ _ r1 _ (G1.below (by repeat (first | exact Below.refl _ _ | refine Below.drew ?_))) (by omega)).mono ?_; rintro e w2 ⟨ng2, rfl, G2, hb2⟩; have hb2' : Below w1.heap.size w1 w2 := (show Below w1.heap.size w1 _ by repeat (first | exact Below.refl _ _ | refine Below.drew ?_)).trans hb2; have bx2 := bx1.below hb2'; obtain ⟨bx2a, bx2b, bx2c, bx2d⟩ := bx2.facts; have by2 := by1.below hb2'; obtain ⟨by2a, by2b, by2c, by2d⟩ := by2.facts; have br2 := br1.below hb2'; obtain ⟨br2a, br2b, br2c, br2d⟩ := br2.facts))
  all_goals
    clear bx1a bx1b bx1c bx1d by1a by1b by1c by1d br1a br1b br1c br1d bx2a bx2b bx2c bx2d by2a by2b by2c by2d ca cb cc cd da db dc dd ea eb ec ed q1' q2'
    have X := hide (br2.set ng2 (.slice p1 r1.length q1)).facts
    have Y := hide (br2.wh ng2 (.slice p1 r1.length q1) G2)
    have Z := hide (below_set2 (hb0.trans ((hb1'.trans (hb2'.mono hb1'.size)).mono hb0.size)) (Nat.le_add_right _ 2) (.bool ng2) (.slice p1 r1.length q1))
    skip
    have hs9 := HS0.out
    have o1 : Li w0.heap.size w1.heap.size w1 p1 q1 r1 := o1
    have s_1 := hb1'.size
    have s_2 := hb2'.size
    have O1 := hide ((o1.below hb2').set2 (w.heap.size + 1 + 1) (by omega) (.bool ng2) (.slice p1 r1.length q1))
    have O2 := hide (show Li w.heap.size _ _ p1 q1 r1 from ⟨O1.out.ow.mono (by omega), fun h0 g off e => by have := O1.out.lies h0 g off e; exact ⟨by omega, Nat.lt_of_lt_of_le this.2 (show w1.heap.size ≤ ((w2.setCell ⟨w.heap.size + 1 + 1, 0, none⟩ (.bool ng2)).setCell ⟨w.heap.size + 1 + 1, 1, none⟩ (.slice p1 r1.length q1)).heap.size by simp [World.setCell]; exact s_2)⟩⟩)
    clear O1
    go_wp2
    refine bodyPost_ret (v := .agg #[.bool ng2, .slice p1 r1.length q1]) ?_ rfl ⟨ng2, p1, q1, r1, rfl, by rw [← sg_mul]; exact Y.out, by omega, O2.out, Z.out⟩
    simp [results, Try.results8, go_sem, X.out.1, X.out.2.1]
end Lm
end Go.Proofs.Ytodgiglhconkoaa

namespace Go.Proofs.Ytodgiglhconkoaa
namespace Dm
open Go.RowKit
open Lm (hide lt_of_cell lt_of_heap div_of info32 cmpI cmpI_lt cmpI_gt cmpI_eq ret_i64)
def sgn (n : Nat) : Int := if n = 0 then 0 else 1
end Dm
end Go.Proofs.Ytodgiglhconkoaa

namespace Go.Proofs.Ytodgiglhconkoaa
namespace Dm
open Go.RowKit
open Lm (hide lt_of_cell lt_of_heap)
structure WFr (B T : Nat) (w : World) (ng : Bool) (ao : Option Addr) (cap : Nat) (rs : List Int) (z : Int) : Prop where
  fr : Lm.Fr B T w ao cap rs (z.natAbs : Int)
  sgn : ng = decide (z < 0)
theorem WFr.wh {B T : Nat} {w : World} {ng : Bool} {ao : Option Addr} {cap : Nat} {rs : List Int} {z : Int} (h : WFr B T w ng ao cap rs z) : Lm.Wh w ng ao cap rs z := ⟨h.fr.got, h.sgn⟩
end Dm
end Go.Proofs.Ytodgiglhconkoaa

namespace Go.Proofs.Ytodgiglhconkoaa
namespace Lm
open Go.RowKit
def IsLen (x : Int) (n : Nat) : Prop := ∃ rs, Canon rs ∧ val rs = x ∧ rs.length = n
theorem isLen_bits {x : Int} {k n : Nat} (h : IsLen x n) (hb : IsBits x k) : (k + 31) / 32 = n := by
  obtain ⟨rs, c, v, rfl⟩ := h
  have hu := (val_bounds c.1).2
  rw [v, pw_p2] at hu
  by_cases h0 : rs.length = 0
  · have e : rs = [] := List.eq_nil_of_length_eq_zero h0
    subst e
    have : x = 0 := by rw [← v]; rfl
    subst this
    rw [isBits_zero hb]
    rfl
  · have hlow : pw (rs.length - 1) ≤ x := by
      apply Classical.byContradiction
      intro hn
      have := canon_len c (m := rs.length - 1) (by rw [v]; omega)
      omega
    rw [pw_p2] at hlow
    have h1 : 32 * (rs.length - 1) < k := by
      apply Classical.byContradiction
      intro hn
      have := p2_mono (m := k) (n := 32 * (rs.length - 1)) (by omega)
      have := hb.1
      omega
    have h2 : k ≤ 32 * rs.length := by
      rcases hb.2 with h | h
      · omega
      · apply Classical.byContradiction
        intro hn
        have := p2_mono (m := 32 * rs.length) (n := k - 1) (by omega)
        omega
    omega
set_option maxRecDepth 20000 in
set_option maxHeartbeats 400000 in
theorem wlimbs_any (w : World) (ng : Bool) (ao : Option Addr) (n cap : Nat) (zs : List Int) (h : Sl w (.slice ao n cap) zs) (hz : zs.length ≤ 1000000) (m : Nat) (hm : IsLen (val zs) m) :
    Calls Try.prog 19 #[.agg #[.bool ng, .slice ao n cap]] w fun e w' => e = .returned (.int .i64 m) ∧ Below w.heap.size w w' := by
  obtain ⟨w0, e0, bx, hb0, hs0⟩ := boxed0 w ng (.slice ao n cap)
  have E0 := hide e0
  have h0 := h.below hb0
  have hu := (val_bounds h.parts.2.2.2).2
  clear e0 hs0
  go_enter Try.func19, Try.ntmps19
  go_wp2_with fail
  rw [E0.out]
  obtain ⟨c0, c1, f0, f1⟩ := bx.facts
  refine (bits_any _ _ _ _ zs h0 hz).mono ?_
  rintro e w1 ⟨l, rfl, t, rfl⟩
  have hl := isLen_bits hm t
  have hle : l ≤ 32000000 := by
    rcases t.2 with h | h
    · omega
    · apply Classical.byContradiction
      intro hn
      rw [pw_p2] at hu
      have := p2_mono (m := 32 * zs.length) (n := l - 1) (by omega)
      omega
  have HL := hide hl
  clear t hl hm hu
  go_wp2
  go_ret
  have hl := HL.out
  exact ⟨ret_i64 (by omega), hb0⟩
end Lm
end Go.Proofs.Ytodgiglhconkoaa

namespace Go.Proofs.Ytodgiglhconkoaa
namespace Lm
open Go Go.RowKit
open Dm (WFr)
theorem Ow.ru {B : Nat} {w w' : World} {v : Value} {zs : List Int} (h : Ow B w v zs) (hr : Ru w w') : Ow B w' v zs := by
  obtain ⟨ao, cap, rfl, h1, h2, h3, h4⟩ := h
  refine ⟨ao, cap, rfl, h1, h2, h3, ?_⟩
  rcases h4 with h4 | ⟨g, off, cur, rfl, hB, hh, r⟩
  · exact .inl h4
  · exact .inr ⟨g, off, cur, rfl, hB, hr.rows g cur hh, r⟩
theorem Fr.ru {B T : Nat} {w w' : World} {ao : Option Addr} {cap : Nat} {rs : List Int} {x : Int} (h : Fr B T w ao cap rs x) (hr : Ru w w') : Fr B T w' ao cap rs x := ⟨h.ow.ru hr, h.canon, h.val, h.lies⟩
theorem _root_.Go.Proofs.Ytodgiglhconkoaa.Dm.WFr.ru {B T : Nat} {w w' : World} {ng : Bool} {ao : Option Addr} {cap : Nat} {rs : List Int} {z : Int} (h : WFr B T w ng ao cap rs z) (hr : Ru w w') : WFr B T w' ng ao cap rs z := ⟨h.fr.ru hr, h.sgn⟩
def FrW (K : Nat) (z : Int) (L : Nat) : Says := fun v w => ∃ ng ao cap rs B T, v = .agg #[.bool ng, .slice ao rs.length cap] ∧ WFr B T w ng ao cap rs z ∧ K ≤ B ∧ T ≤ w.heap.size ∧ rs.length ≤ L
theorem FrW.mono5 (K : Nat) (z : Int) (L : Nat) : Mono5 (FrW K z L) := fun _ _ _ hr ⟨ng, ao, cap, rs, B, T, e, h, h1, h2, l⟩ => ⟨ng, ao, cap, rs, B, T, e, h.ru hr, h1, Nat.le_trans h2 hr.size, l⟩
theorem FrW.mono4 (K : Nat) (z : Int) (L : Nat) : Mono4 (FrW K z L) := fun v w w' hr h => FrW.mono5 K z L v w w' (Ru.of_rl hr) h
theorem FrW.out {z : Int} {L K : Nat} {v : Value} {w : World} : FrW K z L v w → OutW z L v w := fun ⟨ng, ao, cap, rs, _, _, e, h, _, _, l⟩ => ⟨ng, ao, cap, rs, e, h.wh, l⟩
section
end
section
variable {dst : Option Tmp} {ty : TypeId} {pos : String} {after : Array Edge} {guard : Option (Nat × Bool)} {a : Act} {w : World} {ats : Array TypeId} {i j : Nat} {x y z u : Int} {L L1 L2 : Nat}
theorem op_eqlbs {b : Bool} (h1 : a.eval (.tmp i) = .bool b) (h2 : a.eval (.tmp j) = .bool b) :
    Does Try.prog { dst, op := .binOp .eql 4 (.tmp i) (.tmp j) 4, type := ty, pos, after, guard } a.eval w fun v' w' => Below w.heap.size w w' ∧ Eqs (.bool true) v' w' := by
  have := op_eqlb (dst := dst) (ty := ty) (pos := pos) (after := after) (guard := guard) (w := w) h1 h2
  rwa [beq_self_eq_true] at this
end
section
end
theorem isLen_ex {ng : Bool} {ao : Option Addr} {n c : Nat} {w : World} {xs : List Int} {z : Int} (h : Ag w ng ao n c xs z) : ∃ m, IsLen (z.natAbs : Int) m := by
  have hv := (val_bounds h.sl.parts.2.2.2).1
  refine ⟨_, xs.take (tl xs), canon_trim h.sl.parts.2.2.2, ?_, rfl⟩
  rw [val_take_tl, ← h.worth]
  cases ng <;> simp [sg] <;> omega
end Lm
end Go.Proofs.Ytodgiglhconkoaa

namespace Go.Proofs.Ytodgiglhconkoaa
namespace Lm
open Go.RowKit
set_option maxRecDepth 20000 in
set_option maxHeartbeats 1000000 in
theorem wdivmod_poso (w : World) (a1 : Option Addr) (n1 c1 : Nat) (xs : List Int) (hx : Sl w (.slice a1 n1 c1) xs) (ny : Bool) (a2 : Option Addr) (n2 c2 : Nat) (ys : List Int) (hy : Sl w (.slice a2 n2 c2) ys) (hm1 : xs.length ≤ 400000) (hm2 : ys.length ≤ 400000) (h0 : val ys ≠ 0) :
    Calls Try.prog 65 #[.agg #[.bool false, .slice a1 n1 c1], .agg #[.bool ny, .slice a2 n2 c2]] w fun e w' => ∃ nq aq cq qs nr ar cr rs B1 T1 B2 T2, e = .returned (.tuple #[.agg #[.bool nq, .slice aq qs.length cq], .agg #[.bool nr, .slice ar rs.length cr], .bool true]) ∧ Wh w' nq aq cq qs (sg false (val xs) / sg ny (val ys)) ∧ Wh w' nr ar cr rs (sg false (val xs) % sg ny (val ys)) ∧ qs.length ≤ xs.length + 4 ∧ rs.length ≤ ys.length ∧ Li B1 T1 w' aq cq qs ∧ Li B2 T2 w' ar cr rs ∧ (w.heap.size ≤ B1 ∧ T1 ≤ w'.heap.size ∧ w.heap.size ≤ B2 ∧ T2 ≤ w'.heap.size ∧ ∀ j, B1 ≤ j → j < T1 → j < B2 ∨ T2 ≤ j) ∧ Below w.heap.size w w' := by
  obtain ⟨w0, e0, bx, by', bq, br, hb0, hs0⟩ := boxed4 w false (.slice a1 n1 c1) ny (.slice a2 n2 c2)
  have E0 := hide e0
  have hx0 := hx.below hb0
  have hy0 := hy.below hb0
  have HS0 := hide hs0
  clear e0 hs0
  have PY : Hid (0 < val ys) := by have := (val_bounds hy.parts.2.2.2).1; show _ < _; omega
  have LY := hide hy.parts.2.2.2
  have H0 := hide h0
  clear h0
  go_enter Try.func65, Try.ntmps65
  go_wp2_with fail
  rw [E0.out]
  refine (divmod_o _ _ _ _ _ _ _ xs ys hx0 hy0 (by omega) H0.out).mono ?_
  rintro e w1 ⟨p1, q1, r1, p2, q2, r2, B1, T1, B2, T2, rfl, G1, G2, l1, l2, o1, o2, oo, hb1⟩
  have HB : Below w0.heap.size w0 w1 := hb1
  obtain ⟨xa, xb, xc, xd⟩ := (bx.below HB).facts
  obtain ⟨ya, yb, yc, yd⟩ := (by'.below HB).facts
  go_wp2_with fail
  refine (signed_g _ _ _ _ r1 _ G1 (by omega)).mono ?_
  rintro e w7 ⟨ng7, rfl, G7, hb7⟩
  replace HB := HB.trans (hb7.mono HB.size)
  have G2' := G2.below hb7
  clear xa xb xc xd ya yb yc yd
  obtain ⟨xa, xb, xc, xd⟩ := (bx.below HB).facts
  obtain ⟨ya, yb, yc, yd⟩ := (by'.below HB).facts
  go_wp2_with fail
  refine (signed_g _ _ _ _ r2 _ G2' (by omega)).mono ?_
  rintro e w8 ⟨ng8, rfl, G8, hb8⟩
  replace HB := HB.trans (hb8.mono HB.size)
  replace G7 := G7.below hb8
  clear xa xb xc xd ya yb yc yd
  have bq8 := bq.below HB
  have br8 := br.below HB
  obtain ⟨qa, qb, qc, qd⟩ := bq8.facts
  obtain ⟨ra, rb, rc, rd⟩ := br8.facts
  have VQ : Hid (sg ny (val xs / val ys) = sg false (val xs) / sg ny (val ys) ∧ sg false (val xs % val ys) = sg false (val xs) % sg ny (val ys)) := by have h := wdiv_pos ny (val xs) (val ys); rwa [show (false != ny) = ny by cases ny <;> rfl] at h
  have Y1 := hide ((br8.other (show w.heap.size + 1 + 1 + 1 ≠ w.heap.size + 1 + 1 by omega) (.bool ng7) (.slice p1 r1.length q1)).wh ng8 (.slice p2 r2.length q2) (bq8.wh ng7 (.slice p1 r1.length q1) G7))
  have Y2 := hide ((br8.other (show w.heap.size + 1 + 1 + 1 ≠ w.heap.size + 1 + 1 by omega) (.bool ng7) (.slice p1 r1.length q1)).wh ng8 (.slice p2 r2.length q2) (bq8.wh ng7 (.slice p1 r1.length q1) G8))
  have F := hide (box_two (nq := ng7) (vq := .slice p1 r1.length q1) (nr := ng8) (vr := .slice p2 r2.length q2) bq8 br8 (by omega))
  have Z := hide (hb0.trans (HB.mono hb0.size))
  have Z2 := hide (below_set2 (below_set2 Z.out (show w.heap.size ≤ w.heap.size + 1 + 1 by omega) (.bool ng7) (.slice p1 r1.length q1)) (show w.heap.size ≤ w.heap.size + 1 + 1 + 1 by omega) (.bool ng8) (.slice p2 r2.length q2))
  have hs9 := HS0.out
  have s_hb1 := hb1.size
  have s_hb7 := hb7.size
  have s_hb8 := hb8.size
  obtain ⟨oo1, oo2, oo3, oo4, oo5⟩ := oo
  have O1 := hide ((((o1.below hb7).below hb8).set2 (w.heap.size + 1 + 1) (by omega) (.bool ng7) (.slice p1 r1.length q1)).set2 (w.heap.size + 1 + 1 + 1) (by omega) (.bool ng8) (.slice p2 r2.length q2))
  have O2 := hide ((((o2.below hb7).below hb8).set2 (w.heap.size + 1 + 1) (by omega) (.bool ng7) (.slice p1 r1.length q1)).set2 (w.heap.size + 1 + 1 + 1) (by omega) (.bool ng8) (.slice p2 r2.length q2))
  have hsz : ((((w8.setCell ⟨w.heap.size + 1 + 1, 0, none⟩ (.bool ng7)).setCell ⟨w.heap.size + 1 + 1, 1, none⟩ (.slice p1 r1.length q1)).setCell ⟨w.heap.size + 1 + 1 + 1, 0, none⟩ (.bool ng8)).setCell ⟨w.heap.size + 1 + 1 + 1, 1, none⟩ (.slice p2 r2.length q2)).heap.size = w8.heap.size := by simp [World.setCell]
  have OO : Hid (B1 ≥ w.heap.size ∧ T1 ≤ w8.heap.size ∧ B2 ≥ w.heap.size ∧ T2 ≤ w8.heap.size ∧ ∀ j, B1 ≤ j → j < T1 → j < B2 ∨ T2 ≤ j) := ⟨by omega, by omega, by omega, by omega, oo5⟩
  rw [← hsz] at OO
  clear hsz
  go_wp2
  refine bodyPost_ret (v := .tuple #[.agg #[.bool ng7, .slice p1 r1.length q1], .agg #[.bool ng8, .slice p2 r2.length q2], .bool true]) ?_ rfl ⟨ng7, p1, q1, r1, ng8, p2, q2, r2, B1, T1, B2, T2, rfl, by rw [← VQ.out.1]; exact Y1.out, by rw [← VQ.out.2]; exact Y2.out, by omega, by omega, O1.out, O2.out, OO.out, Z2.out⟩
  simp [results, Try.results65, go_sem, F.out.1.facts.1, F.out.1.facts.2.1, F.out.2.facts.1, F.out.2.facts.2.1]
set_option maxRecDepth 20000 in
set_option maxHeartbeats 1000000 in
theorem wdivmod_eveno (w : World) (a1 : Option Addr) (n1 c1 : Nat) (xs : List Int) (hx : Sl w (.slice a1 n1 c1) xs) (ny : Bool) (a2 : Option Addr) (n2 c2 : Nat) (ys : List Int) (hy : Sl w (.slice a2 n2 c2) ys) (hm1 : xs.length ≤ 400000) (_hm2 : ys.length ≤ 400000) (h0 : val ys ≠ 0) (hev : val xs % val ys = 0) :
    Calls Try.prog 65 #[.agg #[.bool true, .slice a1 n1 c1], .agg #[.bool ny, .slice a2 n2 c2]] w fun e w' => ∃ nq aq cq qs nr ar cr rs B1 T1 B2 T2, e = .returned (.tuple #[.agg #[.bool nq, .slice aq qs.length cq], .agg #[.bool nr, .slice ar rs.length cr], .bool true]) ∧ Wh w' nq aq cq qs (sg true (val xs) / sg ny (val ys)) ∧ Wh w' nr ar cr rs (sg true (val xs) % sg ny (val ys)) ∧ qs.length ≤ xs.length + 4 ∧ rs.length ≤ ys.length ∧ Li B1 T1 w' aq cq qs ∧ Li B2 T2 w' ar cr rs ∧ (w.heap.size ≤ B1 ∧ T1 ≤ w'.heap.size ∧ w.heap.size ≤ B2 ∧ T2 ≤ w'.heap.size ∧ ∀ j, B1 ≤ j → j < T1 → j < B2 ∨ T2 ≤ j) ∧ Below w.heap.size w w' := by
  obtain ⟨w0, e0, bx, by', bq, br, hb0, hs0⟩ := boxed4 w true (.slice a1 n1 c1) ny (.slice a2 n2 c2)
  have E0 := hide e0
  have hx0 := hx.below hb0
  have hy0 := hy.below hb0
  have HS0 := hide hs0
  clear e0 hs0
  have PY : Hid (0 < val ys) := by have := (val_bounds hy.parts.2.2.2).1; show _ < _; omega
  have LY := hide hy.parts.2.2.2
  have H0 := hide h0
  have HE := hide hev
  clear hev
  clear h0
  go_enter Try.func65, Try.ntmps65
  go_wp2_with fail
  rw [E0.out]
  refine (divmod_o _ _ _ _ _ _ _ xs ys hx0 hy0 (by omega) H0.out).mono ?_
  rintro e w1 ⟨p1, q1, r1, p2, q2, r2, B1, T1, B2, T2, rfl, G1, G2, l1, l2, o1, o2, oo, hb1⟩
  have HB : Below w0.heap.size w0 w1 := hb1
  have hr2 : ¬ 0 < (r2.length : Int) := by
    have h9 : r2 = [] := (canon_zero G2.canon).1 (by rw [G2.val]; exact HE.out)
    rw [h9]; simp
  obtain ⟨xa, xb, xc, xd⟩ := (bx.below HB).facts
  obtain ⟨ya, yb, yc, yd⟩ := (by'.below HB).facts
  go_wp2_with fail
  refine (signed_g _ _ _ _ r1 _ G1 (by omega)).mono ?_
  rintro e w7 ⟨ng7, rfl, G7, hb7⟩
  replace HB := HB.trans (hb7.mono HB.size)
  have G2' := G2.below hb7
  clear xa xb xc xd ya yb yc yd
  obtain ⟨xa, xb, xc, xd⟩ := (bx.below HB).facts
  obtain ⟨ya, yb, yc, yd⟩ := (by'.below HB).facts
  go_wp2_with fail
  refine (signed_g _ _ _ _ r2 _ G2' (by omega)).mono ?_
  rintro e w8 ⟨ng8, rfl, G8, hb8⟩
  replace HB := HB.trans (hb8.mono HB.size)
  replace G7 := G7.below hb8
  clear xa xb xc xd ya yb yc yd
  have bq8 := bq.below HB
  have br8 := br.below HB
  obtain ⟨qa, qb, qc, qd⟩ := bq8.facts
  obtain ⟨ra, rb, rc, rd⟩ := br8.facts
  have VQ : Hid (sg (!ny) (val xs / val ys) = sg true (val xs) / sg ny (val ys) ∧ sg false (val xs % val ys) = sg true (val xs) % sg ny (val ys)) := by have h := wdiv_even true ny PY.out HE.out; rwa [show (true != ny) = !ny by cases ny <;> rfl] at h
  have Y1 := hide ((br8.other (show w.heap.size + 1 + 1 + 1 ≠ w.heap.size + 1 + 1 by omega) (.bool ng7) (.slice p1 r1.length q1)).wh ng8 (.slice p2 r2.length q2) (bq8.wh ng7 (.slice p1 r1.length q1) G7))
  have Y2 := hide ((br8.other (show w.heap.size + 1 + 1 + 1 ≠ w.heap.size + 1 + 1 by omega) (.bool ng7) (.slice p1 r1.length q1)).wh ng8 (.slice p2 r2.length q2) (bq8.wh ng7 (.slice p1 r1.length q1) G8))
  have F := hide (box_two (nq := ng7) (vq := .slice p1 r1.length q1) (nr := ng8) (vr := .slice p2 r2.length q2) bq8 br8 (by omega))
  have Z := hide (hb0.trans (HB.mono hb0.size))
  have Z2 := hide (below_set2 (below_set2 Z.out (show w.heap.size ≤ w.heap.size + 1 + 1 by omega) (.bool ng7) (.slice p1 r1.length q1)) (show w.heap.size ≤ w.heap.size + 1 + 1 + 1 by omega) (.bool ng8) (.slice p2 r2.length q2))
  have hs9 := HS0.out
  have s_hb1 := hb1.size
  have s_hb7 := hb7.size
  have s_hb8 := hb8.size
  obtain ⟨oo1, oo2, oo3, oo4, oo5⟩ := oo
  have O1 := hide ((((o1.below hb7).below hb8).set2 (w.heap.size + 1 + 1) (by omega) (.bool ng7) (.slice p1 r1.length q1)).set2 (w.heap.size + 1 + 1 + 1) (by omega) (.bool ng8) (.slice p2 r2.length q2))
  have O2 := hide ((((o2.below hb7).below hb8).set2 (w.heap.size + 1 + 1) (by omega) (.bool ng7) (.slice p1 r1.length q1)).set2 (w.heap.size + 1 + 1 + 1) (by omega) (.bool ng8) (.slice p2 r2.length q2))
  have hsz : ((((w8.setCell ⟨w.heap.size + 1 + 1, 0, none⟩ (.bool ng7)).setCell ⟨w.heap.size + 1 + 1, 1, none⟩ (.slice p1 r1.length q1)).setCell ⟨w.heap.size + 1 + 1 + 1, 0, none⟩ (.bool ng8)).setCell ⟨w.heap.size + 1 + 1 + 1, 1, none⟩ (.slice p2 r2.length q2)).heap.size = w8.heap.size := by simp [World.setCell]
  have OO : Hid (B1 ≥ w.heap.size ∧ T1 ≤ w8.heap.size ∧ B2 ≥ w.heap.size ∧ T2 ≤ w8.heap.size ∧ ∀ j, B1 ≤ j → j < T1 → j < B2 ∨ T2 ≤ j) := ⟨by omega, by omega, by omega, by omega, oo5⟩
  rw [← hsz] at OO
  clear hsz
  go_wp2
  refine bodyPost_ret (v := .tuple #[.agg #[.bool ng7, .slice p1 r1.length q1], .agg #[.bool ng8, .slice p2 r2.length q2], .bool true]) ?_ rfl ⟨ng7, p1, q1, r1, ng8, p2, q2, r2, B1, T1, B2, T2, rfl, by rw [← VQ.out.1]; exact Y1.out, by rw [← VQ.out.2]; exact Y2.out, by omega, by omega, O1.out, O2.out, OO.out, Z2.out⟩
  simp [results, Try.results65, go_sem, F.out.1.facts.1, F.out.1.facts.2.1, F.out.2.facts.1, F.out.2.facts.2.1]
set_option maxRecDepth 20000 in
set_option maxHeartbeats 1000000 in
theorem wdivmod_oddo (w : World) (a1 : Option Addr) (n1 c1 : Nat) (xs : List Int) (hx : Sl w (.slice a1 n1 c1) xs) (ny : Bool) (a2 : Option Addr) (n2 c2 : Nat) (ys : List Int) (hy : Sl w (.slice a2 n2 c2) ys) (hm1 : xs.length ≤ 400000) (hm2 : ys.length ≤ 400000) (h0 : val ys ≠ 0) (hod : val xs % val ys ≠ 0) :
    Calls Try.prog 65 #[.agg #[.bool true, .slice a1 n1 c1], .agg #[.bool ny, .slice a2 n2 c2]] w fun e w' => ∃ nq aq cq qs nr ar cr rs B1 T1 B2 T2, e = .returned (.tuple #[.agg #[.bool nq, .slice aq qs.length cq], .agg #[.bool nr, .slice ar rs.length cr], .bool true]) ∧ Wh w' nq aq cq qs (sg true (val xs) / sg ny (val ys)) ∧ Wh w' nr ar cr rs (sg true (val xs) % sg ny (val ys)) ∧ qs.length ≤ xs.length + 4 ∧ rs.length ≤ ys.length ∧ Li B1 T1 w' aq cq qs ∧ Li B2 T2 w' ar cr rs ∧ (w.heap.size ≤ B1 ∧ T1 ≤ w'.heap.size ∧ w.heap.size ≤ B2 ∧ T2 ≤ w'.heap.size ∧ ∀ j, B1 ≤ j → j < T1 → j < B2 ∨ T2 ≤ j) ∧ Below w.heap.size w w' := by
  obtain ⟨w0, e0, bx, by', bq, br, hb0, hs0⟩ := boxed4 w true (.slice a1 n1 c1) ny (.slice a2 n2 c2)
  have E0 := hide e0
  have hx0 := hx.below hb0
  have hy0 := hy.below hb0
  have HS0 := hide hs0
  clear e0 hs0
  have PY : Hid (0 < val ys) := by have := (val_bounds hy.parts.2.2.2).1; show _ < _; omega
  have LY := hide hy.parts.2.2.2
  have H0 := hide h0
  have HE := hide hod
  clear hod
  clear h0
  go_enter Try.func65, Try.ntmps65
  go_wp2_with fail
  rw [E0.out]
  refine (divmod_o _ _ _ _ _ _ _ xs ys hx0 hy0 (by omega) H0.out).mono ?_
  rintro e w1 ⟨p1, q1, r1, p2, q2, r2, B1, T1, B2, T2, rfl, G1, G2, l1, l2, o1, o2, oo, hb1⟩
  have HB : Below w0.heap.size w0 w1 := hb1
  have hr2 : 0 < (r2.length : Int) := by
    have h9 : r2 ≠ [] := fun e => HE.out (by rw [← G2.val]; exact (canon_zero G2.canon).2 e)
    have h8 : r2.length ≠ 0 := fun e => h9 (List.eq_nil_of_length_eq_zero e)
    omega
  obtain ⟨xa, xb, xc, xd⟩ := (bx.below HB).facts
  go_wp2_with fail
  refine (small_any _ 1 (by omega) (by omega)).mono ?_
  rintro e w3 ⟨v3, rfl, hi3, hb3⟩
  obtain ⟨p3, q3, r3, rfl, G3, l3⟩ := got_small hi3 (by omega)
  clear hi3
  replace HB := HB.trans (hb3.mono HB.size)
  replace G1 := G1.below hb3
  replace G2 := G2.below hb3
  go_wp2_with fail
  refine (add_o _ _ _ _ _ _ _ r1 r3 G1.sl G3.sl (by omega) (by omega)).mono ?_
  rintro e w4 ⟨p4, q4, r4, rfl, G4, l4, o4, hb4⟩
  replace HB := HB.trans (hb4.mono HB.size)
  replace G2 := G2.below hb4
  rw [G1.val, G3.val] at G4
  have hy4 := hy0.below HB
  obtain ⟨ya, yb, yc, yd⟩ := (by'.below HB).facts
  go_wp2_with fail
  refine (sub_o _ _ _ _ _ _ _ ys r2 hy4 G2.sl (by omega) (by rw [G2.val]; exact Int.le_of_lt (Int.emod_lt_of_pos _ PY.out))).mono ?_
  rintro e w5 ⟨p5, q5, r5, rfl, G5, l5, o5, hb5⟩
  replace HB := HB.trans (hb5.mono HB.size)
  replace G4 := G4.below hb5
  rw [G2.val] at G5
  clear xa xb xc xd ya yb yc yd G1 G2 G3 hy4
  obtain ⟨xa, xb, xc, xd⟩ := (bx.below HB).facts
  obtain ⟨ya, yb, yc, yd⟩ := (by'.below HB).facts
  go_wp2_with fail
  refine (signed_g _ _ _ _ r4 _ G4 (by omega)).mono ?_
  rintro e w7 ⟨ng7, rfl, G7, hb7⟩
  replace HB := HB.trans (hb7.mono HB.size)
  have G2' := G5.below hb7
  clear xa xb xc xd ya yb yc yd
  obtain ⟨xa, xb, xc, xd⟩ := (bx.below HB).facts
  obtain ⟨ya, yb, yc, yd⟩ := (by'.below HB).facts
  go_wp2_with fail
  refine (signed_g _ _ _ _ r5 _ G2' (by omega)).mono ?_
  rintro e w8 ⟨ng8, rfl, G8, hb8⟩
  replace HB := HB.trans (hb8.mono HB.size)
  replace G7 := G7.below hb8
  clear xa xb xc xd ya yb yc yd
  have bq8 := bq.below HB
  have br8 := br.below HB
  obtain ⟨qa, qb, qc, qd⟩ := bq8.facts
  obtain ⟨ra, rb, rc, rd⟩ := br8.facts
  have VQ : Hid (sg (!ny) (val xs / val ys + 1) = sg true (val xs) / sg ny (val ys) ∧ sg false (val ys - val xs % val ys) = sg true (val xs) % sg ny (val ys)) := by have h := wdiv_odd ny PY.out HE.out; rwa [show (true != ny) = !ny by cases ny <;> rfl] at h
  have Y1 := hide ((br8.other (show w.heap.size + 1 + 1 + 1 ≠ w.heap.size + 1 + 1 by omega) (.bool ng7) (.slice p4 r4.length q4)).wh ng8 (.slice p5 r5.length q5) (bq8.wh ng7 (.slice p4 r4.length q4) G7))
  have Y2 := hide ((br8.other (show w.heap.size + 1 + 1 + 1 ≠ w.heap.size + 1 + 1 by omega) (.bool ng7) (.slice p4 r4.length q4)).wh ng8 (.slice p5 r5.length q5) (bq8.wh ng7 (.slice p4 r4.length q4) G8))
  have F := hide (box_two (nq := ng7) (vq := .slice p4 r4.length q4) (nr := ng8) (vr := .slice p5 r5.length q5) bq8 br8 (by omega))
  have Z := hide (hb0.trans (HB.mono hb0.size))
  have Z2 := hide (below_set2 (below_set2 Z.out (show w.heap.size ≤ w.heap.size + 1 + 1 by omega) (.bool ng7) (.slice p4 r4.length q4)) (show w.heap.size ≤ w.heap.size + 1 + 1 + 1 by omega) (.bool ng8) (.slice p5 r5.length q5))
  have hs9 := HS0.out
  have s_hb1 := hb1.size
  have s_hb7 := hb7.size
  have s_hb8 := hb8.size
  have s_hb3 := hb3.size
  have s_hb4 := hb4.size
  have s_hb5 := hb5.size
  have O1 := hide (((((o4.below hb5).below hb7).below hb8).set2 (w.heap.size + 1 + 1) (by omega) (.bool ng7) (.slice p4 r4.length q4)).set2 (w.heap.size + 1 + 1 + 1) (by omega) (.bool ng8) (.slice p5 r5.length q5))
  have O2 := hide ((((o5.below hb7).below hb8).set2 (w.heap.size + 1 + 1) (by omega) (.bool ng7) (.slice p4 r4.length q4)).set2 (w.heap.size + 1 + 1 + 1) (by omega) (.bool ng8) (.slice p5 r5.length q5))
  have hsz : ((((w8.setCell ⟨w.heap.size + 1 + 1, 0, none⟩ (.bool ng7)).setCell ⟨w.heap.size + 1 + 1, 1, none⟩ (.slice p4 r4.length q4)).setCell ⟨w.heap.size + 1 + 1 + 1, 0, none⟩ (.bool ng8)).setCell ⟨w.heap.size + 1 + 1 + 1, 1, none⟩ (.slice p5 r5.length q5)).heap.size = w8.heap.size := by simp [World.setCell]
  have OO : Hid (w3.heap.size ≥ w.heap.size ∧ w4.heap.size ≤ w8.heap.size ∧ w4.heap.size ≥ w.heap.size ∧ w5.heap.size ≤ w8.heap.size ∧ ∀ j, w3.heap.size ≤ j → j < w4.heap.size → j < w4.heap.size ∨ w5.heap.size ≤ j) := ⟨by omega, by omega, by omega, by omega, fun j h1 h2 => by omega⟩
  rw [← hsz] at OO
  clear hsz
  go_wp2
  refine bodyPost_ret (v := .tuple #[.agg #[.bool ng7, .slice p4 r4.length q4], .agg #[.bool ng8, .slice p5 r5.length q5], .bool true]) ?_ rfl ⟨ng7, p4, q4, r4, ng8, p5, q5, r5, w3.heap.size, w4.heap.size, w4.heap.size, w5.heap.size, rfl, by rw [← VQ.out.1]; exact Y1.out, by rw [← VQ.out.2]; exact Y2.out, by omega, by omega, O1.out, O2.out, OO.out, Z2.out⟩
  simp [results, Try.results65, go_sem, F.out.1.facts.1, F.out.1.facts.2.1, F.out.2.facts.1, F.out.2.facts.2.1]
theorem wdivmod_o (w : World) (nx : Bool) (a1 : Option Addr) (n1 c1 : Nat) (xs : List Int) (hx : Sl w (.slice a1 n1 c1) xs) (ny : Bool) (a2 : Option Addr) (n2 c2 : Nat) (ys : List Int) (hy : Sl w (.slice a2 n2 c2) ys) (hm1 : xs.length ≤ 400000) (hm2 : ys.length ≤ 400000) (h0 : val ys ≠ 0) :
    Calls Try.prog 65 #[.agg #[.bool nx, .slice a1 n1 c1], .agg #[.bool ny, .slice a2 n2 c2]] w fun e w' => ∃ nq aq cq qs nr ar cr rs B1 T1 B2 T2, e = .returned (.tuple #[.agg #[.bool nq, .slice aq qs.length cq], .agg #[.bool nr, .slice ar rs.length cr], .bool true]) ∧ Wh w' nq aq cq qs (sg nx (val xs) / sg ny (val ys)) ∧ Wh w' nr ar cr rs (sg nx (val xs) % sg ny (val ys)) ∧ qs.length ≤ xs.length + 4 ∧ rs.length ≤ ys.length ∧ Li B1 T1 w' aq cq qs ∧ Li B2 T2 w' ar cr rs ∧ (w.heap.size ≤ B1 ∧ T1 ≤ w'.heap.size ∧ w.heap.size ≤ B2 ∧ T2 ≤ w'.heap.size ∧ ∀ j, B1 ≤ j → j < T1 → j < B2 ∨ T2 ≤ j) ∧ Below w.heap.size w w' := by
  cases nx with
  | false => exact wdivmod_poso w a1 n1 c1 xs hx ny a2 n2 c2 ys hy hm1 hm2 h0
  | true =>
    by_cases he : val xs % val ys = 0
    · exact wdivmod_eveno w a1 n1 c1 xs hx ny a2 n2 c2 ys hy hm1 hm2 h0 he
    · exact wdivmod_oddo w a1 n1 c1 xs hx ny a2 n2 c2 ys hy hm1 hm2 h0 he
theorem gcd_o (w : World) (a1 a2 : Option Addr) (n1 n2 c1 c2 : Nat) (xs ys : List Int) (hx : Sl w (.slice a1 n1 c1) xs) (hy : Sl w (.slice a2 n2 c2) ys) (hm1 : xs.length ≤ 400000) (hm2 : ys.length ≤ 400000) :
    Calls Try.prog 76 #[.slice a1 n1 c1, .slice a2 n2 c2] w fun e w' => ∃ ao cap rs, e = .returned (.slice ao rs.length cap) ∧ Got w' ao cap rs (Int.gcd (val xs) (val ys)) ∧ rs.length ≤ xs.length + ys.length + 1 ∧ Li w.heap.size w'.heap.size w' ao cap rs ∧ Below w.heap.size w w' := by
  refine (gcd_any w a1 a2 n1 n2 c1 c2 xs ys hx hy hm1 hm2).mono ?_
  rintro e w' ⟨v, rfl, hi, hb⟩
  obtain ⟨ao, cap, rs, rfl, hg⟩ := hi.fr
  refine ⟨ao, cap, rs, rfl, hg.got, canon_len hg.canon ?_, hg.li, hb⟩
  rw [hg.val]
  have b1 := val_bounds hx.parts.2.2.2
  have b2 := val_bounds hy.parts.2.2.2
  have h1 := gcd_small b1.1 b2.1
  have m1 := pw_mono (m := xs.length) (n := xs.length + ys.length) (by omega)
  have m2 := pw_mono (m := ys.length) (n := xs.length + ys.length) (by omega)
  rw [pw]
  have := pw_pos (xs.length + ys.length)
  omega
set_option maxRecDepth 20000 in
set_option maxHeartbeats 1000000 in
theorem wgcd_o (w : World) (nx : Bool) (a1 : Option Addr) (n1 c1 : Nat) (xs : List Int) (hx : Sl w (.slice a1 n1 c1) xs) (ny : Bool) (a2 : Option Addr) (n2 c2 : Nat) (ys : List Int) (hy : Sl w (.slice a2 n2 c2) ys) (hm1 : xs.length ≤ 400000) (hm2 : ys.length ≤ 400000) :
    Calls Try.prog 64 #[.agg #[.bool nx, .slice a1 n1 c1], .agg #[.bool ny, .slice a2 n2 c2]] w fun e w' => ∃ ng' ao cap rs, e = .returned (.agg #[.bool ng', .slice ao rs.length cap]) ∧ Wh w' ng' ao cap rs (((Int.gcd (sg nx (val xs)) (sg ny (val ys)) : Nat) : Int)) ∧ rs.length ≤ xs.length + ys.length + 1 ∧ Li w.heap.size w'.heap.size w' ao cap rs ∧ Below w.heap.size w w' := by
  obtain ⟨w0, e0, bx, by', br, hb0, hs0⟩ := boxed3 w nx (.slice a1 n1 c1) ny (.slice a2 n2 c2)
  have E0 := hide e0
  have hx0 := hx.below hb0
  have hy0 := hy.below hb0
  have HS0 := hide hs0
  clear e0 hs0
  go_enter Try.func64, Try.ntmps64
  go_wp2_with fail
  rw [E0.out]
  obtain ⟨ca, cb, cc, cd⟩ := bx.facts
  obtain ⟨ea, eb, ec, ed⟩ := by'.facts
  obtain ⟨da, db, dc, dd⟩ := br.facts
  refine (gcd_o _ _ _ _ _ _ _ xs ys hx0 hy0 (by omega) (by omega)).mono ?_
  rintro e w1 ⟨p1, q1, r1, rfl, G1, l1, o1, hb1⟩
  go_wp2_with fail
  refine (signed_g _ false _ _ r1 _ G1 (by omega)).mono ?_
  rintro e w2 ⟨ng2, rfl, G2, hb2⟩
  have br2 := (br.below hb1).below hb2
  obtain ⟨ka, kb, kc, kd⟩ := br2.facts
  have SGF : Hid (sg false ((Int.gcd (val xs) (val ys) : Nat) : Int) = ((Int.gcd (sg nx (val xs)) (sg ny (val ys)) : Nat) : Int)) := by show _ = _; rw [gcd_sg]; rfl
  have X := hide (br2.set ng2 (.slice p1 r1.length q1)).facts
  have Y := hide (br2.wh ng2 (.slice p1 r1.length q1) G2)
  have Z := hide (below_set2 (hb0.trans ((hb1.trans (hb2.mono hb1.size)).mono hb0.size)) (Nat.le_add_right _ 2) (.bool ng2) (.slice p1 r1.length q1))
  skip
  have hs9 := HS0.out
  have s_1 := hb1.size
  have s_2 := hb2.size
  have O1 := hide ((o1.below hb2).set2 (w.heap.size + 1 + 1) (by omega) (.bool ng2) (.slice p1 r1.length q1))
  have O2 := hide (show Li w.heap.size _ _ p1 q1 r1 from ⟨O1.out.ow.mono (by omega), fun h0 g off e => by have := O1.out.lies h0 g off e; exact ⟨by omega, Nat.lt_of_lt_of_le this.2 (show w1.heap.size ≤ ((w2.setCell ⟨w.heap.size + 1 + 1, 0, none⟩ (.bool ng2)).setCell ⟨w.heap.size + 1 + 1, 1, none⟩ (.slice p1 r1.length q1)).heap.size by simp [World.setCell]; exact s_2)⟩⟩)
  clear O1
  go_wp2
  refine bodyPost_ret (v := .agg #[.bool ng2, .slice p1 r1.length q1]) ?_ rfl ⟨ng2, p1, q1, r1, rfl, by rw [← SGF.out]; exact Y.out, by omega, O2.out, Z.out⟩
  simp [results, Try.results64, go_sem, X.out.1, X.out.2.1]
end Lm
end Go.Proofs.Ytodgiglhconkoaa

namespace Go.Proofs.Ytodgiglhconkoaa
namespace Dm
open Go.RowKit
open Lm (hide lt_of_cell lt_of_heap cmpI cmpI_lt cmpI_gt)
def Cl (w : World) (b i : Nat) (v : Value) : Prop := w.cell? ⟨b, i, none⟩ = some v
section
end
end Dm
end Go.Proofs.Ytodgiglhconkoaa

namespace Go.Proofs.Ytodgiglhconkoaa
namespace Lm
open Go.RowKit
open Dm (WFr)
theorem li_nil (B T : Nat) (w : World) : Li B T w none 0 [] := ⟨⟨none, 0, rfl, Nat.le_refl _, by simp [maxLen], limb_nil, .inl rfl⟩, fun h => by omega⟩
theorem wh_nil (w : World) : Wh w false none 0 [] 0 := ⟨⟨⟨none, 0, rfl, Nat.le_refl _, by simp [maxLen], limb_nil, .inl rfl⟩, canon_nil, rfl⟩, rfl⟩
theorem Li.wfr {B T : Nat} {w : World} {ng : Bool} {ao : Option Addr} {cap : Nat} {rs : List Int} {z : Int} (h : Li B T w ao cap rs) (g : Wh w ng ao cap rs z) : WFr B T w ng ao cap rs z := ⟨h.fr g.1, g.2⟩
end Lm
end Go.Proofs.Ytodgiglhconkoaa

namespace Go.Proofs.Ytodgiglhconkoaa
namespace Lm
open Go Go.RowKit
open Dm (WFr)
section
variable {dst : Option Tmp} {ty : TypeId} {pos : String} {after : Array Edge} {guard : Option (Nat × Bool)} {a : Act} {w : World} {ats : Array TypeId} {i j : Nat} {z : Int}
theorem op_neqsame {u : Int} (h1 : a.eval (.tmp i) = .int .i64 u) (h2 : a.eval (.tmp j) = .int .i64 u) :
    Does Try.prog { dst, op := .binOp .neq 3 (.tmp i) (.tmp j) 3, type := ty, pos, after, guard } a.eval w fun v' w' => Below w.heap.size w w' ∧ Eqs (.bool false) v' w' := by
  refine does_bin (v := .bool false) ?_ ?_ ⟨Below.refl _ _, rfl⟩
  · rw [h1, h2]; simp [go_sem]
  · rw [h1, h2]; simp [go_sem]
theorem op_addk {u v : Int} (h1 : a.eval (.tmp i) = .int .i64 u) (h : -9223372036854775808 ≤ u + v ∧ u + v ≤ 9223372036854775807) :
    Does Try.prog { dst, op := .binOp .add 3 (.tmp i) (.const (.int .i64 v)) 3, type := ty, pos, after, guard } a.eval w fun v' w' => Below w.heap.size w w' ∧ Eqs (.int .i64 (u + v)) v' w' := by
  refine does_bin (v := .int .i64 (u + v)) ?_ ?_ ⟨Below.refl _ _, rfl⟩
  · rw [h1]; simp [go_sem, Act.eval]
  · rw [h1]; simp [go_sem, Act.eval]; exact wrap64 h.1 h.2
end
end Lm
end Go.Proofs.Ytodgiglhconkoaa

namespace Go.Proofs.Ytodgiglhconkoaa
namespace Lm
open Go Go.RowKit
def Cl (w : World) (v : Value) (size n : Nat) (xs : List Value) : Prop :=
  ∃ ao cap, v = .slice ao n cap ∧ n ≤ cap ∧ cap ≤ 9223372036854775807 ∧ xs.length = n * size ∧ (n = 0 ∨ ∃ b off, ao = some ⟨b, off, none⟩ ∧ b < w.heap.size ∧ ∀ j u, xs[j]? = some u → w.cell? ⟨b, off + j, none⟩ = some u)
theorem Cl.below {w w' : World} {v : Value} {size n : Nat} {xs : List Value} (h : Cl w v size n xs) (hb : Below w.heap.size w w') : Cl w' v size n xs := by
  obtain ⟨ao, cap, rfl, h1, h2, h3, h4⟩ := h
  refine ⟨ao, cap, rfl, h1, h2, h3, ?_⟩
  rcases h4 with h4 | ⟨b, off, rfl, hl, hc⟩
  · exact .inl h4
  · exact .inr ⟨b, off, rfl, Nat.lt_of_lt_of_le hl hb.size, fun j u hu => (hb.cell (p := ⟨b, off + j, none⟩) hl).trans (hc j u hu)⟩
theorem Cl.own {w : World} {base : Nat} {e : TypeId} {size n : Nat} {v : Value} {xs : List Value} (h : w.ownsRow base e size v n xs) : Cl w v size n xs := by
  obtain ⟨hl, ⟨rfl, rfl⟩ | ⟨g, cap, cur, rfl, hb, hh, h1, h2, h3, h4⟩⟩ := h
  · exact ⟨none, 0, rfl, Nat.le_refl _, by omega, hl, .inl rfl⟩
  · refine ⟨_, cap, rfl, h1, by simpa [maxLen] using h2, hl, .inr ⟨g, 0, rfl, lt_of_heap hh, fun j u hu => ?_⟩⟩
    rw [Nat.zero_add, cell_of_row w g j cur e (0, 0) hh]
    rw [← h4, List.getElem?_take] at hu
    split at hu
    · simpa using hu
    · cases hu
structure WE where
  ng : Bool
  a : Option Addr
  m : Nat
  c : Nat
  zs : List Int
def WE.z (e : WE) : Int := sg e.ng (val e.zs)
def flat : List WE → List Value
  | [] => []
  | e :: es => .bool e.ng :: .slice e.a e.m e.c :: flat es
theorem flat_length (es : List WE) : (flat es).length = es.length * 2 := by
  induction es with
  | nil => rfl
  | cons e es ih => simp only [flat, List.length_cons, ih]; omega
theorem flat_at {es : List WE} {k : Nat} {e : WE} (h : es[k]? = some e) : (flat es)[k * 2]? = some (.bool e.ng) ∧ (flat es)[k * 2 + 1]? = some (.slice e.a e.m e.c) := by
  induction es generalizing k with
  | nil => simp at h
  | cons x es ih =>
    cases k with
    | zero =>
      simp only [List.getElem?_cons_zero, Option.some.injEq] at h
      subst h
      simp [flat]
    | succ k =>
      have := ih (k := k) (by simpa using h)
      have e1 : (k + 1) * 2 = k * 2 + 1 + 1 := by omega
      rw [e1]
      simpa [flat] using this
theorem flat_append (es fs : List WE) : flat (es ++ fs) = flat es ++ flat fs := by
  induction es with
  | nil => rfl
  | cons e es ih => simp [flat, ih]
structure Rw (w : World) (v : Value) (es : List WE) : Prop where
  cl : Cl w v 2 es.length (flat es)
  sl : ∀ e ∈ es, Sl w (.slice e.a e.m e.c) e.zs
theorem Rw.below {w w' : World} {v : Value} {es : List WE} (h : Rw w v es) (hb : Below w.heap.size w w') : Rw w' v es := ⟨h.cl.below hb, fun e he => (h.sl e he).below hb⟩
theorem Rw.ag {w : World} {v : Value} {es : List WE} (h : Rw w v es) {e : WE} (he : e ∈ es) : Ag w e.ng e.a e.m e.c e.zs e.z := ⟨h.sl e he, rfl⟩
theorem Rw.parts {w : World} {ao : Option Addr} {n cap : Nat} {es : List WE} (h : Rw w (.slice ao n cap) es) : n = es.length ∧ es.length ≤ cap ∧ cap ≤ 9223372036854775807 := by
  obtain ⟨ao', cap', hv, h1, h2, h3, h4⟩ := h.cl
  obtain ⟨rfl, rfl, rfl⟩ := (Value.slice.injEq .. ▸ hv)
  exact ⟨rfl, h1, h2⟩
theorem Rw.cells {w : World} {ao : Option Addr} {n cap : Nat} {es : List WE} (h : Rw w (.slice ao n cap) es) (hp : 0 < es.length) : ∃ b off, ao = some ⟨b, off, none⟩ ∧ b < w.heap.size ∧ ∀ j u, (flat es)[j]? = some u → w.cell? ⟨b, off + j, none⟩ = some u := by
  obtain ⟨ao', cap', hv, h1, h2, h3, h4⟩ := h.cl
  obtain ⟨rfl, _, rfl⟩ := (Value.slice.injEq .. ▸ hv)
  rcases h4 with h4 | h4
  · omega
  · exact h4
section
variable {dst : Option Tmp} {ty : TypeId} {pos : String} {after : Array Edge} {guard : Option (Nat × Bool)} {a : Act} {w : World} {ats : Array TypeId} {i j : Nat}
theorem op_lenr {ao : Option Addr} {n c : Nat} (h : a.eval (.tmp i) = .slice ao n c) : Does Try.prog { dst, op := .call { callee := .builtin .len, args := #[.tmp i], argTypes := #[27] }, type := ty, pos, after, guard } a.eval w fun v' w' => Below w.heap.size w w' ∧ Eqs (.int .i64 n) v' w' := by
  have e : (execOp a.eval { dst, op := .call { callee := .builtin .len, args := #[.tmp i], argTypes := #[27] }, type := ty, pos, after, guard }).run Try.prog w = .ok (.value (.int .i64 n)) w := by
    have h' : a.tmps[i]?.getD undef = .slice ao n c := by simpa [Act.eval] using h
    simp [go_sem, h']
  refine ⟨?_⟩
  unfold Turns
  rw [e]
  exact ⟨Below.refl _ _, rfl⟩
theorem op_idxr {b off n c k : Nat} {ao : Option Addr} (h : a.eval (.tmp i) = .slice ao n c) (hao : ao = some ⟨b, off, none⟩) (hk : a.eval (.tmp j) = .int .i64 (k : Int)) (hl : k < n) : Does Try.prog { dst, op := .indexAddr 27 (.tmp i) (.tmp j), type := ty, pos, after, guard } a.eval w fun v' w' => Below w.heap.size w w' ∧ Eqs (.pointer (some ⟨b, off + k * 2, none⟩)) v' w' := by
  subst hao
  have e : (execOp a.eval { dst, op := .indexAddr 27 (.tmp i) (.tmp j), type := ty, pos, after, guard }).run Try.prog w = .ok (.value (.pointer (some ⟨b, off + k * 2, none⟩))) w := by
    simp only [execOp, h, hk]
    go_simp
  refine ⟨?_⟩
  unfold Turns
  rw [e]
  exact ⟨Below.refl _ _, rfl⟩
theorem op_ldr {b off k : Nat} {ao : Option Addr} {n cap : Nat} {es : List WE} {e : WE} (hp : a.eval (.tmp i) = .pointer (some ⟨b, off + k * 2, none⟩)) (hao : ao = some ⟨b, off, none⟩) (hR : Rw w (.slice ao n cap) es) (he : es[k]? = some e) : Does Try.prog { dst, op := .load 30 (.tmp i), type := ty, pos, after, guard } a.eval w fun v' w' => Below w.heap.size w w' ∧ Eqs (.agg #[.bool e.ng, .slice e.a e.m e.c]) v' w' := by
  have hk : k < es.length := (List.getElem?_eq_some_iff.1 he).1
  obtain ⟨b', off', e', hb, hc⟩ := hR.cells (by omega)
  obtain ⟨rfl, rfl⟩ : b' = b ∧ off' = off := by
    rw [hao] at e'
    simp only [Option.some.injEq, Addr.mk.injEq, and_true] at e'
    exact ⟨e'.1.symm, e'.2.symm⟩
  obtain ⟨f1, f2⟩ := flat_at he
  have h1 := hc _ _ f1
  have h2 : w.cell? ⟨b', off' + k * 2 + 1, none⟩ = _ := hc _ _ f2
  refine does_load (v := .agg #[.bool e.ng, .slice e.a e.m e.c]) ?_ ⟨Below.refl _ _, rfl⟩
  rw [hp]
  go_simp
end
end Lm
end Go.Proofs.Ytodgiglhconkoaa

namespace Go.Proofs.Ytodgiglhconkoaa
namespace Lm
open Go Go.RowKit
def lenW : List WE → Nat
  | [] => 0
  | e :: es => 1 + e.m + lenW es
theorem lenW_append (es fs : List WE) : lenW (es ++ fs) = lenW es + lenW fs := by
  induction es with
  | nil => simp [lenW]
  | cons e es ih => simp only [List.cons_append, lenW, ih]; omega
theorem lenW_take {es : List WE} {k : Nat} {e : WE} (h : es[k]? = some e) : lenW (es.take (k + 1)) = lenW (es.take k) + (1 + e.m) := by
  rw [List.take_add_one, h, lenW_append]
  simp [lenW]
theorem lenW_mem {es : List WE} {e : WE} (h : e ∈ es) : 1 + e.m ≤ lenW es := by
  induction es with
  | nil => cases h
  | cons x es ih =>
    simp only [lenW]
    rcases List.mem_cons.1 h with rfl | h
    · omega
    · have := ih h; omega
section
variable {dst : Option Tmp} {ty : TypeId} {pos : String} {after : Array Edge} {guard : Option (Nat × Bool)} {a : Act} {w : World} {ats : Array TypeId} {i j : Nat}
theorem op_inck {k : Nat} (h1 : a.eval (.tmp i) = .int .i64 (k : Int)) (h : k < 9223372036854775807) :
    Does Try.prog { dst, op := .binOp .add 3 (.tmp i) (.const (.int .i64 1)) 3, type := ty, pos, after, guard } a.eval w fun v' w' => Below w.heap.size w w' ∧ Eqs (.int .i64 ((k + 1 : Nat) : Int)) v' w' := by
  have := op_addk (dst := dst) (ty := ty) (pos := pos) (after := after) (guard := guard) (w := w) (v := 1) h1 (by omega)
  rwa [show ((k : Int) + 1) = ((k + 1 : Nat) : Int) by omega] at this
theorem op_lssr {u v : Int} (h1 : a.eval (.tmp i) = .int .i64 u) (h2 : a.eval (.tmp j) = .int .i64 v) :
    Does Try.prog { dst, op := .binOp .lss 3 (.tmp i) (.tmp j) 3, type := ty, pos, after, guard } a.eval w fun v' w' => Below w.heap.size w w' ∧ Eqs (.bool (decide (u < v))) v' w' := by
  refine does_bin (v := .bool (decide (u < v))) ?_ ?_ ⟨Below.refl _ _, rfl⟩
  · rw [h1, h2]; simp [go_sem]
  · rw [h1, h2]; simp [go_sem]
theorem op_neqf {u v : Int} (h1 : a.eval (.tmp i) = .int .i64 u) (h2 : a.eval (.tmp j) = .int .i64 v) (h : u = v) :
    Does Try.prog { dst, op := .binOp .neq 3 (.tmp i) (.tmp j) 3, type := ty, pos, after, guard } a.eval w fun v' w' => Below w.heap.size w w' ∧ Eqs (.bool false) v' w' := by
  subst h
  exact op_neqsame h1 h2
end
end Lm
end Go.Proofs.Ytodgiglhconkoaa

namespace Go.Proofs.Ytodgiglhconkoaa
namespace Lm
open Go Go.RowKit Go.ChangeShapes Go.WideShapes Go.ChangeAt Go.Deep
theorem sl_open {w : World} {x : Addr} {l c : Nat} {zs : List Int} (hl : l ≤ c) (hm : c ≤ maxLen) (hz : zs.length = c) (hcell : ∀ i, i < zs.length → w.cell? (x.add i) = some (.int .u32 (zs.getD i 0))) (hwz : ∀ n ∈ zs, (Lit.int .u32 n).wf = true) : Sl w (.slice (some x) l c) (zs.take l) := by
  have hll : (zs.take l).length = l := by rw [List.length_take]; omega
  refine ⟨some x, c, by rw [hll], by omega, hm, fun n hn => ?_, ?_⟩
  · have := bounds_u32 (hwz n (List.mem_of_mem_take hn))
    omega
  · by_cases h0 : l = 0
    · exact .inl (List.eq_nil_of_length_eq_zero (by omega))
    · obtain ⟨b, off, spot⟩ := x
      have h1 := hcell 0 (by omega)
      have hspot : spot = none := by simpa [Addr.add] using World.cell?_spot h1
      subst hspot
      refine .inr ⟨b, off, rfl, fun i hi => ?_⟩
      have h2 := hcell i (by omega)
      rw [getD_take _ _ _ (by omega)]
      have e : (⟨b, off, none⟩ : Addr).add i = ⟨b, off + i, none⟩ := by
        by_cases hi0 : i = 0
        · subst hi0; simp [Addr.add]
        · simp [Addr.add, hi0]
      rwa [e] at h2
instance : Inhabited WE := ⟨⟨false, none, 0, 0, []⟩⟩
theorem bulk_lits {H : Type} (zs : List Int) : Rows.uptoBulkAll (lits .u32 zs : List (DataW H)) = zs.length := by
  induction zs with
  | nil => rfl
  | cons z zs ih =>
    have e : (lits .u32 (z :: zs) : List (DataW H)) = .lit (.int .u32 z) :: lits .u32 zs := rfl
    rw [e, Rows.uptoBulkAll, ih, Rows.uptoBulk, List.length_cons]
    · omega
    · intro b hb; cases hb
theorem bulk_append {H : Type} (l r : List (DataW H)) : Rows.uptoBulkAll (l ++ r) = Rows.uptoBulkAll l + Rows.uptoBulkAll r := by
  induction l with
  | nil => simp [Rows.uptoBulkAll]
  | cons x l ih => simp only [List.cons_append, Rows.uptoBulkAll, ih]; omega
theorem flat_map (E : Nat → WE) (n : Nat) : ∀ j u, (flat ((List.range n).map E))[j]? = some u → j / 2 < n ∧ u = (if j % 2 = 0 then .bool (E (j / 2)).ng else .slice (E (j / 2)).a (E (j / 2)).m (E (j / 2)).c) := by
  intro j u hu
  have hj : j < (flat ((List.range n).map E)).length := (List.getElem?_eq_some_iff.1 hu).1
  rw [flat_length, List.length_map, List.length_range] at hj
  have hk : j / 2 < n := by omega
  have he : ((List.range n).map E)[j / 2]? = some (E (j / 2)) := by simp [hk]
  obtain ⟨h1, h2⟩ := flat_at he
  refine ⟨hk, ?_⟩
  by_cases h0 : j % 2 = 0
  · rw [if_pos h0]
    rw [show j / 2 * 2 = j by omega, hu] at h1
    exact Option.some.inj h1
  · rw [if_neg h0]
    rw [show j / 2 * 2 + 1 = j by omega, hu] at h2
    exact Option.some.inj h2
theorem open_row {H : Type} {enc : TypeId × Value → H} {w : World} {fuel : Nat} {ao : Option Addr} {n cap : Nat} {x : DataW H × List MemPlace} (h : DataW.trod enc Try.prog w 0 (fun _ => true) true fuel 27 [.slice ao n cap] = some x) :
    ∃ es, Rw w (.slice ao n cap) es ∧ lenW es + 1 ≤ Rows.uptoBulk x.1 := by
  rcases open_slice_pairs Try.underlying27 Try.underlying30 (by kernel_rfl) (by kernel_rfl) (by kernel_rfl) (by kernel_rfl) (by kernel_rfl) h with ⟨hcs, rfl⟩ | ⟨a, len, cap', m, k, V0, V1, D0, D1, P0, P1, hcs, _, hl, hm, hmm, rfl, hall⟩
  · obtain ⟨rfl, rfl, rfl⟩ : ao = none ∧ n = 0 ∧ cap = 0 := by simpa using hcs
    exact ⟨[], ⟨⟨none, 0, rfl, Nat.le_refl _, by omega, rfl, .inl rfl⟩, fun e he => by cases he⟩, by simp [lenW, Rows.uptoBulk]⟩
  obtain ⟨rfl, rfl, rfl⟩ : ao = some a ∧ n = len ∧ cap = cap' := by simpa using hcs
  simp only [if_true] at hmm
  subst hmm
  have each : ∀ i, i < m → ∃ e : WE, V0 i = .bool e.ng ∧ V1 i = .slice e.a e.m e.c ∧ Sl w (.slice e.a e.m e.c) e.zs ∧ e.m + 1 ≤ Rows.uptoBulk (DataW.agg (H := H) [D0 i, D1 i]) := by
    intro i hi
    obtain ⟨_, _, t0, t1⟩ := hall i hi
    obtain ⟨b, hb0, _⟩ := DataW.trod_bool Try.underlying4 t0
    obtain hb : V0 i = .bool b := by simpa using hb0
    rcases open_ints Try.underlying28 Try.underlying62 (by kernel_rfl) t1 with ⟨hcs, _⟩ | ⟨x, l, c, zs, hcs, _, hl, hm, hz, hx, hcell, hwz⟩
    · obtain hv : V1 i = .slice none 0 0 := by simpa using hcs
      exact ⟨⟨b, none, 0, 0, []⟩, hb, hv, ⟨none, 0, rfl, Nat.le_refl _, by simp [maxLen], limb_nil, .inl rfl⟩, by simp [Rows.uptoBulk]⟩
    · obtain hv : V1 i = .slice (some x) l c := by simpa using hcs
      have hz' : zs.length = c := by simpa using hz
      refine ⟨⟨b, some x, l, c, zs.take l⟩, hb, hv, sl_open hl hm hz' hcell hwz, ?_⟩
      have hd : D1 i = .slice (lits .u32 (zs.take l)) (lits .u32 (zs.drop l)) := congrArg Prod.fst hx
      have hll : (zs.take l).length = l := by rw [List.length_take]; omega
      simp only [Rows.uptoBulk, Rows.uptoBulkAll, hd, bulk_lits, hll]
      omega
  obtain ⟨E, hE⟩ := choose_lt each
  refine ⟨(List.range n).map E, ⟨⟨some a, m, by rw [List.length_map, List.length_range], by rw [List.length_map, List.length_range]; exact hl, by simpa [maxLen] using hm, flat_length _, ?_⟩, fun e he => ?_⟩, ?_⟩
  · by_cases h0 : n = 0
    · exact .inl (by rw [List.length_map, List.length_range]; exact h0)
    · obtain ⟨b, off, spot⟩ := a
      have h1 := (hall 0 (by omega)).1
      have hspot : spot = none := by simpa [Addr.add] using World.cell?_spot h1
      subst hspot
      have hadd : ∀ i, (⟨b, off, none⟩ : Addr).add i = ⟨b, off + i, none⟩ := fun i => by
        by_cases hi0 : i = 0
        · subst hi0; simp [Addr.add]
        · simp [Addr.add, hi0]
      refine .inr ⟨b, off, rfl, lt_of_cell (off := off + 0 * 2) (by rw [← hadd]; exact h1), fun j u hu => ?_⟩
      obtain ⟨hj, rfl⟩ := flat_map E n j u hu
      obtain ⟨c0, c1, _, _⟩ := hall (j / 2) (by omega)
      obtain ⟨e0, e1, _⟩ := hE (j / 2) (by omega)
      rw [hadd] at c0 c1
      by_cases hj0 : j % 2 = 0
      · rw [if_pos hj0, ← e0, ← c0]
        congr 2
        omega
      · rw [if_neg hj0, ← e1, ← c1]
        congr 2
        omega
  · obtain ⟨i, hi, rfl⟩ := List.mem_map.1 he
    exact (hE i (by have := List.mem_range.1 hi; omega)).2.2.1
  · have key : ∀ k, k ≤ n → lenW ((List.range k).map E) ≤ Rows.uptoBulkAll ((List.range k).map fun i => DataW.agg (H := H) [D0 i, D1 i]) := by
      intro k hk
      induction k with
      | zero => simp [lenW]
      | succ k ih =>
        have h1 := ih (by omega)
        have h2 := (hE k (by omega)).2.2.2
        rw [List.range_succ, List.map_append, List.map_append, lenW_append, bulk_append]
        simp only [List.map_cons, List.map_nil, lenW, Rows.uptoBulkAll] at h1 h2 ⊢
        omega
    have := key n (Nat.le_refl _)
    simp only [Rows.uptoBulk]
    omega
end Lm
end Go.Proofs.Ytodgiglhconkoaa

namespace Go.Proofs.Ytodgiglhconkoaa
namespace Lm
open Go.RowKit
structure Pl where
  b : Nat
  g : Nat
  l : Nat
  c : Nat
theorem gdrewN {B : Nat} {a w : World} (h : Below B a w) (n : Nat) : Below B a (w.drewN n) := h.trans ⟨rfl, rfl, rfl, Nat.le_refl _, fun _ _ => rfl⟩
end Lm
end Go.Proofs.Ytodgiglhconkoaa

namespace Go.Proofs.Ytodgiglhconkoaa
namespace Lm
open Go Go.RowKit
def Ce (w : World) (v : Value) (size n : Nat) (xs : List Value) : Prop :=
  ∃ ao cap, v = .slice ao n cap ∧ n ≤ cap ∧ cap ≤ 9223372036854775807 ∧ xs.length = n * size ∧ (n = 0 ∨ ∃ b off, ao = some ⟨b, off, none⟩ ∧ b < w.heap.size ∧ ∀ j u, xs[j]? = some u → w.cell? ⟨b, off + j, none⟩ = some u)
theorem Ce.below {w w' : World} {v : Value} {size n : Nat} {xs : List Value} (h : Ce w v size n xs) (hb : Below w.heap.size w w') : Ce w' v size n xs := by
  obtain ⟨ao, cap, rfl, h1, h2, h3, h4⟩ := h
  refine ⟨ao, cap, rfl, h1, h2, h3, ?_⟩
  rcases h4 with h4 | ⟨b, off, rfl, hl, hc⟩
  · exact .inl h4
  · exact .inr ⟨b, off, rfl, Nat.lt_of_lt_of_le hl hb.size, fun j u hu => (hb.cell (p := ⟨b, off + j, none⟩) hl).trans (hc j u hu)⟩
theorem Ce.own {w : World} {base : Nat} {e : TypeId} {size n : Nat} {v : Value} {xs : List Value} (h : w.ownsRow base e size v n xs) : Ce w v size n xs := by
  obtain ⟨hl, ⟨rfl, rfl⟩ | ⟨g, cap, cur, rfl, hb, hh, h1, h2, h3, h4⟩⟩ := h
  · exact ⟨none, 0, rfl, Nat.le_refl _, by omega, hl, .inl rfl⟩
  · refine ⟨_, cap, rfl, h1, by simpa [maxLen] using h2, hl, .inr ⟨g, 0, rfl, lt_of_heap hh, fun j u hu => ?_⟩⟩
    rw [Nat.zero_add, cell_of_row w g j cur e (0, 0) hh]
    rw [← h4, List.getElem?_take] at hu
    split at hu
    · simpa using hu
    · cases hu
end Lm
end Go.Proofs.Ytodgiglhconkoaa

namespace Go.Proofs.Ytodgiglhconkoaa
namespace Lm
open Go Go.RowKit
theorem OutW.ru {z : Int} {L : Nat} {v : Value} {w w' : World} (h : OutW z L v w) (hr : Ru w w') : OutW z L v w' := OutW.mono5 z L _ _ _ hr h
theorem OutW.fit {z : Int} {L L' : Nat} {v : Value} {w : World} (h : OutW z L v w) (hf : (z.natAbs : Int) < pw L') : OutW z L' v w := by
  obtain ⟨ng, ao, cap, rs, e, h1, l1⟩ := h
  exact ⟨ng, ao, cap, rs, e, h1, canon_len h1.1.2.1 (by rw [h1.1.2.2]; exact hf)⟩
structure Rc (q b : Nat) (w w' : World) : Prop where
  os : w'.os = w.os
  tape : w'.tape = w.tape
  output : w'.output = w.output
  size : w.heap.size ≤ w'.heap.size
  other : ∀ k, k < w.heap.size → k ≠ q → k ≠ b → w'.heap[k]? = w.heap[k]?
  ru : Ru w w'
theorem Rc.of_below {q b : Nat} {w w' : World} (h : Below w.heap.size w w') : Rc q b w w' := ⟨h.os, h.tape, h.output, h.size, fun k hk _ _ => h.block k hk, Ru.of_below h⟩
theorem Rc.trans {q b : Nat} {w w' w'' : World} (h : Rc q b w w') (h' : Rc q b w' w'') : Rc q b w w'' := ⟨h'.os.trans h.os, h'.tape.trans h.tape, h'.output.trans h.output, Nat.le_trans h.size h'.size, fun k hk h1 h2 => (h'.other k (Nat.lt_of_lt_of_le hk h.size) h1 h2).trans (h.other k hk h1 h2), h.ru.trans h'.ru⟩
theorem Rc.below {q b : Nat} {w w' : World} {B : Nat} (h : Rc q b w w') (hB : B ≤ w.heap.size) (hq : B ≤ q) (hb : B ≤ b) : Below B w w' := ⟨h.os, h.tape, h.output, h.size, fun k hk => h.other k (by omega) (by omega) (by omega)⟩
end Lm
end Go.Proofs.Ytodgiglhconkoaa

namespace Go.Proofs.Ytodgiglhconkoaa
namespace Lm
open Go Go.RowKit
theorem FrW.ru {K : Nat} {z : Int} {L : Nat} {v : Value} {w w' : World} (h : FrW K z L v w) (hr : Ru w w') : FrW K z L v w' := FrW.mono5 K z L _ _ _ hr h
theorem FrW.of_li {w : World} {B T : Nat} {ng : Bool} {ao : Option Addr} {cap : Nat} {rs : List Int} {z : Int} {L : Nat} (hw : Wh w ng ao cap rs z) (hl : Li B T w ao cap rs) (hT : T ≤ w.heap.size) (hL : rs.length ≤ L) : FrW B z L (.agg #[.bool ng, .slice ao rs.length cap]) w :=
  ⟨ng, ao, cap, rs, B, T, rfl, ⟨⟨hl.ow, hw.1.2.1, hw.1.2.2, hl.lies⟩, hw.2⟩, Nat.le_refl _, hT, hL⟩
theorem FrW.low {K K' : Nat} {z : Int} {L : Nat} {v : Value} {w : World} (h : FrW K z L v w) (hk : K' ≤ K) : FrW K' z L v w := by
  obtain ⟨ng, ao, cap, rs, B, T, e, h1, h2, h3, h4⟩ := h
  exact ⟨ng, ao, cap, rs, B, T, e, h1, Nat.le_trans hk h2, h3, h4⟩
theorem FrW.to {K : Nat} {z z' : Int} {L L' : Nat} {v : Value} {w : World} (h : FrW K z L v w) (hz : z = z') (hL : L ≤ L') : FrW K z' L' v w := by
  subst hz
  obtain ⟨ng, ao, cap, rs, B, T, e, h1, h2, h3, h4⟩ := h
  exact ⟨ng, ao, cap, rs, B, T, e, h1, h2, h3, Nat.le_trans h4 hL⟩
theorem FrW.fit {K : Nat} {z : Int} {L L' : Nat} {v : Value} {w : World} (h : FrW K z L v w) (hf : (z.natAbs : Int) < pw L') : FrW K z L' v w := by
  obtain ⟨ng, ao, cap, rs, B, T, e, h1, h2, h3, h4⟩ := h
  exact ⟨ng, ao, cap, rs, B, T, e, h1, h2, h3, canon_len h1.fr.canon (by rw [h1.fr.val]; exact hf)⟩
theorem FrW.is {K : Nat} {z : Int} {L : Nat} {v : Value} {w : World} (h : FrW K z L v w) : IsW z L v w := h.out.is
theorem FrW.agg {K : Nat} {z : Int} {L : Nat} {v : Value} {w : World} (h : FrW K z L v w) : ∃ ng ao n cap, v = .agg #[.bool ng, .slice ao n cap] := by
  obtain ⟨ng, ao, cap, rs, B, T, e, _⟩ := h
  exact ⟨ng, ao, rs.length, cap, e⟩
theorem frw_zero (w : World) {K L : Nat} (hK : K ≤ w.heap.size) : FrW K 0 L (.agg #[.bool false, .slice none 0 0]) w := ⟨false, none, 0, [], w.heap.size, w.heap.size, rfl, (li_nil _ _ _).wfr (wh_nil _), hK, Nat.le_refl _, by simp⟩
theorem IsW.ru {z : Int} {L : Nat} {v : Value} {w w' : World} (h : IsW z L v w) (hr : Ru w w') : IsW z L v w' := IsW.mono5 z L _ _ _ hr h
section
variable (w : World) (x y : Int) (vx vy : Value) (L M : Nat)
theorem mulF (hx : IsW x L vx w) (hy : IsW y M vy w) (hL : L ≤ 400000) (hM : M ≤ 400000) :
    Calls Try.prog 8 #[vx, vy] w fun e w' => ∃ v, e = .returned v ∧ FrW w.heap.size (x * y) (L + M) v w' ∧ Below w.heap.size w w' := by
  obtain ⟨n1, a1, m1, c1, xs, rfl, A1, l1⟩ := hx
  obtain ⟨n2, a2, m2, c2, ys, rfl, A2, l2⟩ := hy
  refine (wmul_o w n1 a1 m1 c1 xs A1.sl n2 a2 m2 c2 ys A2.sl (by omega) (by omega)).mono ?_
  rintro e w' ⟨ng, ao, cap, rs, rfl, hw, hl, hli, hb⟩
  rw [A1.worth, A2.worth] at hw
  exact ⟨_, rfl, FrW.of_li hw hli (Nat.le_refl _) (by omega), hb⟩
theorem addF (hx : IsW x L vx w) (hy : IsW y M vy w) (hL : L ≤ 400000) (hM : M ≤ 400000) :
    Calls Try.prog 10 #[vx, vy] w fun e w' => ∃ v, e = .returned v ∧ FrW w.heap.size (x + y) (L + M + 1) v w' ∧ Below w.heap.size w w' := by
  obtain ⟨n1, a1, m1, c1, xs, rfl, A1, l1⟩ := hx
  obtain ⟨n2, a2, m2, c2, ys, rfl, A2, l2⟩ := hy
  refine (wadd_o w n1 a1 m1 c1 xs A1.sl n2 a2 m2 c2 ys A2.sl (by omega) (by omega)).mono ?_
  rintro e w' ⟨ng, ao, cap, rs, rfl, hw, hl, hli, hb⟩
  rw [A1.worth, A2.worth] at hw
  exact ⟨_, rfl, FrW.of_li hw hli (Nat.le_refl _) (by omega), hb⟩
theorem subF (hx : IsW x L vx w) (hy : IsW y M vy w) (hL : L ≤ 400000) (hM : M ≤ 400000) :
    Calls Try.prog 57 #[vx, vy] w fun e w' => ∃ v, e = .returned v ∧ FrW w.heap.size (x - y) (L + M + 1) v w' ∧ Below w.heap.size w w' := by
  obtain ⟨n1, a1, m1, c1, xs, rfl, A1, l1⟩ := hx
  obtain ⟨n2, a2, m2, c2, ys, rfl, A2, l2⟩ := hy
  refine (wsub_o w n1 a1 m1 c1 xs A1.sl n2 a2 m2 c2 ys A2.sl (by omega) (by omega)).mono ?_
  rintro e w' ⟨ng, ao, cap, rs, rfl, hw, hl, hli, hb⟩
  rw [A1.worth, A2.worth] at hw
  exact ⟨_, rfl, FrW.of_li hw hli (Nat.le_refl _) (by omega), hb⟩
theorem gcdF (hx : IsW x L vx w) (hy : IsW y M vy w) (hL : L ≤ 400000) (hM : M ≤ 400000) :
    Calls Try.prog 64 #[vx, vy] w fun e w' => ∃ v, e = .returned v ∧ FrW w.heap.size ((Int.gcd x y : Nat) : Int) (L + M + 1) v w' ∧ Below w.heap.size w w' := by
  obtain ⟨n1, a1, m1, c1, xs, rfl, A1, l1⟩ := hx
  obtain ⟨n2, a2, m2, c2, ys, rfl, A2, l2⟩ := hy
  refine (wgcd_o w n1 a1 m1 c1 xs A1.sl n2 a2 m2 c2 ys A2.sl (by omega) (by omega)).mono ?_
  rintro e w' ⟨ng, ao, cap, rs, rfl, hw, hl, hli, hb⟩
  rw [A1.worth, A2.worth] at hw
  exact ⟨_, rfl, FrW.of_li hw hli (Nat.le_refl _) (by omega), hb⟩
theorem negF (hx : IsW x L vx w) (hL : L ≤ 400000) :
    Calls Try.prog 18 #[vx] w fun e w' => ∃ v, e = .returned v ∧ FrW w.heap.size (-x) L v w' ∧ Below w.heap.size w w' := by
  obtain ⟨n1, a1, m1, c1, xs, rfl, A1, l1⟩ := hx
  refine (wneg_o w n1 a1 m1 c1 xs A1.sl (by omega)).mono ?_
  rintro e w' ⟨ng, ao, cap, rs, rfl, hw, hl, hli, hb⟩
  rw [A1.worth] at hw
  exact ⟨_, rfl, FrW.of_li hw hli (Nat.le_refl _) (by omega), hb⟩
theorem signF (hx : IsW x L vx w) (hL : L ≤ 400000) :
    Calls Try.prog 15 #[vx] w fun e w' => e = .returned (.int .i64 (Int.sign x)) ∧ Below w.heap.size w w' := by
  obtain ⟨n1, a1, m1, c1, xs, rfl, A1, l1⟩ := hx
  exact sign_z w n1 a1 m1 c1 xs x A1 (by omega) _ rfl
theorem divF (hx : IsW x L vx w) (hy : IsW y M vy w) (hL : L ≤ 400000) (hM : M ≤ 400000) :
    Calls Try.prog 65 #[vx, vy] w fun e w' => ∃ v1 v2 b, e = .returned (.tuple #[v1, v2, .bool b]) ∧ FrW w.heap.size (x / y) (L + 4) v1 w' ∧ OutW (if y = 0 then 0 else x % y) (M + 1) v2 w' ∧ b = decide (y ≠ 0) ∧ Below w.heap.size w w' := by
  obtain ⟨n1, a1, m1, c1, xs, rfl, A1, l1⟩ := hx
  obtain ⟨n2, a2, m2, c2, ys, rfl, A2, l2⟩ := hy
  have hw := A2.worth
  by_cases h0 : val ys = 0
  · have hy0 : y = 0 := by rw [← hw, h0]; cases n2 <;> simp [sg]
    refine (wdivmod_none w n1 a1 m1 c1 xs A1.sl n2 a2 m2 c2 ys A2.sl h0).mono ?_
    rintro e w' ⟨rfl, hb⟩
    refine ⟨_, _, _, rfl, ?_, ?_, by rw [hy0]; rfl, hb⟩
    · rw [hy0, Int.ediv_zero]
      exact frw_zero _ hb.size
    · rw [if_pos hy0]
      exact (frw_zero (K := 0) _ (Nat.zero_le _)).out
  · have hy0 : y ≠ 0 := by rw [← hw]; cases n2 <;> simp [sg] <;> omega
    refine (wdivmod_o w n1 a1 m1 c1 xs A1.sl n2 a2 m2 c2 ys A2.sl (by omega) (by omega) h0).mono ?_
    rintro e w' ⟨nq, aq, cq, qs, nr, ar, cr, rs, B1, T1, B2, T2, rfl, hq, hr, lq, lr, li1, li2, ⟨i1, i2, i3, i4, _⟩, hb⟩
    rw [A1.worth, A2.worth] at hq hr
    refine ⟨_, _, _, rfl, (FrW.of_li hq li1 i2 (by omega)).low i1, ?_, by simp [hy0], hb⟩
    rw [if_neg hy0]
    exact ⟨_, _, _, _, rfl, hr, by omega⟩
end
end Lm
end Go.Proofs.Ytodgiglhconkoaa

namespace Go.Proofs.Ytodgiglhconkoaa
namespace Lm
open Go Go.RowKit
set_option maxRecDepth 20000 in
theorem step_call {ops : Array Oper} {o : Oper} {a : Act} {w : World} {K : Act → World → Prop} {Q : Exit → Act → World → Prop} {E : Prop} (hg : o.guard = none) (f : FuncId) (xs : Array Operand) (ats : Array TypeId)
    (hop : o.op = .call { callee := .value (.func f), args := xs, argTypes := ats }) (hf : Has Try.prog f) (vs : Array Value) (hx : xs.map a.eval = vs) {Post : Ending → World → Prop} (hc : Calls Try.prog f vs w Post) (hK : ∀ e w', Post e w' → ∃ r, e = .returned r ∧ K (a.put o.dst r) w') :
    if Region.wanted o (yielded ops a.tmps) = true then Oper.wp Try.prog o a w K Q else E := by
  obtain ⟨dst, op, ty, pos, after, guard⟩ := o
  simp only at hop hg
  subst hop hg
  have hw : Region.wanted { dst, op := .call { callee := .value (.func f), args := xs, argTypes := ats }, type := ty, pos, after, guard := none } (yielded ops a.tmps) = true := by simp [Region.wanted]
  rw [if_pos hw]
  clear hw
  have hd : Does Try.prog { dst, op := .call { callee := .value (.func f), args := xs, argTypes := ats }, type := ty, pos, after, guard := none } a.eval w (fun r w' => K (a.put dst r) w') := does_call hf vs hx (hc.mono hK)
  have hz := Does.wp (K := K) (Q := Q) hd (fun v w' h => h)
  exact hz
end Lm
end Go.Proofs.Ytodgiglhconkoaa

namespace Go.Proofs.Ytodgiglhconkoaa
namespace Lm
open Go Go.RowKit
section
variable {dst : Option Tmp} {ty : TypeId} {pos : String} {after : Array Edge} {guard : Option (Nat × Bool)} {a : Act} {w : World} {ats : Array TypeId} {i j : Nat}
theorem has_samel0 : Has Try.prog 31 := by unfold Has; kernel_rfl
theorem op_samelraw {ax ay : Option Addr} {mx cx my cy : Nat} {zs : List Int} (h1 : a.eval (.tmp i) = .slice ax mx cx) (h2 : a.eval (.tmp j) = .slice ay my cy) (S1 : Sl w (.slice ax mx cx) zs) (S2 : Sl w (.slice ay my cy) zs) :
    Does Try.prog { dst, op := .call { callee := .value (.func 31), args := #[.tmp i, .tmp j], argTypes := ats }, type := ty, pos, after, guard } a.eval w fun v w' => Below w.heap.size w w' ∧ Eqs (.bool true) v w' := by
  refine does_call has_samel0 _ (by simp only [List.map_toArray, List.map_cons, List.map_nil, h1, h2]) ((same_any w _ _ _ _ _ _ zs zs S1 S2).mono ?_)
  rintro e w' ⟨rfl, hb⟩
  exact ⟨_, rfl, hb, by rw [sameB_self]; rfl⟩
end
set_option maxRecDepth 20000 in
set_option maxHeartbeats 1000000 in
theorem sameraw_z (w : World) (nx : Bool) (ax ay : Option Addr) (mx cx my cy : Nat) (zs : List Int) (Tx : Sl w (.slice ax mx cx) zs) (Ty : Sl w (.slice ay my cy) zs) :
    Calls Try.prog 16 #[.agg #[.bool nx, .slice ax mx cx], .agg #[.bool nx, .slice ay my cy]] w fun e w' => e = .returned (.bool true) ∧ Below w.heap.size w w' := by
  go_enter Try.func16, Try.ntmps16
  generalize hA : (Act.mk _ _) = aa
  have hn : aa.tmps.size = 17 := by rw [← hA]; rfl
  have hd : aa.defers = [] := by rw [← hA]
  have f0 : aa.eval (.tmp 0) = .agg #[.bool nx, .slice ax mx cx] := by rw [← hA]; rfl
  have f1 : aa.eval (.tmp 1) = .agg #[.bool nx, .slice ay my cy] := by rw [← hA]; rfl
  clear hA
  have HB : Below w.heap.size w w := Below.refl _ _
  refine wp_seq ?_
  refine region4 [some 2, some 3, some 4] [(fun _ _ => True), (fun _ _ => True), Eqs ((.bool false))] [⟨W2, some 0, 0, 2, .agg #[.bool nx, .slice ax mx cx], none, []⟩, ⟨W2, some 1, 0, 3, .agg #[.bool nx, .slice ay my cy], none, []⟩] [] (by kernel_rfl) hn rfl (by kernel_rfl) (by kernel_rfl) (by kernel_rfl) (by kernel_rfl) (by kernel_rfl) (by kernel_rfl) ⟨True.mono4, True.mono4, Eqs.mono4 _, trivial⟩ (ok_cons W2ok (ok_cons W2ok ok_nil)) (IsOld.all (bx := [⟨W2, some 0, 0, 2, .agg #[.bool nx, .slice ax mx cx], none, []⟩, ⟨W2, some 1, 0, 3, .agg #[.bool nx, .slice ay my cy], none, []⟩]) ⟨someNe, someNe, trivial⟩) (DisOld.all (bx := [⟨W2, some 0, 0, 2, .agg #[.bool nx, .slice ax mx cx], none, []⟩, ⟨W2, some 1, 0, 3, .agg #[.bool nx, .slice ay my cy], none, []⟩]) ⟨someNe, someNe, trivial⟩) ?_ ?_
  · exact ⟨.alloc 0 _ rfl rfl (.inr ⟨_, rfl, w2_cs, fun a_ hR => (hR 0 rfl).trans f0⟩) rfl rfl rfl rfl rfl,
      .alloc 1 _ rfl rfl (.inr ⟨_, rfl, w2_cs, fun a_ hR => (hR 1 rfl).trans f1⟩) rfl rfl rfl rfl rfl,
      .norm 4 rfl rfl rfl (fun a_ w_ hn_ hBt hr hR hD hO hS => op_assign rfl),
      trivial⟩
  intro a1 w1 gs1 hn1 hd1 hBt hr hR hP hX hU
  replace hn := hn1; replace hd := hd1.trans hd
  have b2 : BoxV W2 w1 (gs1 0) (.agg #[.bool nx, .slice ax mx cx]) := (hX 0 _ rfl).2.2.2
  have f2 := (hX 0 _ rfl).1
  have u2 : w.heap.size ≤ gs1 0 := Nat.le_trans HB.size ((hX 0 _ rfl).2.2.1 (by simp))
  have b3 : BoxV W2 w1 (gs1 1) (.agg #[.bool nx, .slice ay my cy]) := (hX 1 _ rfl).2.2.2
  have f3 := (hX 1 _ rfl).1
  have u3 : w.heap.size ≤ gs1 1 := Nat.le_trans HB.size ((hX 1 _ rfl).2.2.1 (by simp))
  have e4 : a1.eval (.tmp 4) = (.bool false) := hP 2 (by decide)
  have f4 := e4
  replace Tx := Tx.rl hr
  replace Ty := Ty.rl hr
  replace HB := HB.trans (hBt.below HB.size (UpOld.all (bx := [⟨W2, some 0, 0, 2, .agg #[.bool nx, .slice ax mx cx], none, []⟩, ⟨W2, some 1, 0, 3, .agg #[.bool nx, .slice ay my cy], none, []⟩]) ⟨someNe, someNe, trivial⟩))
  clear hBt hr hR hP hX hU
  refine wp_seq ?_
  refine region4 [some 5, some 6, some 7, some 8, some 9, some 10, some 11, some 12, some 13, some 14, some 15, some 16, some 4] [Eqs (.pointer (some ⟨gs1 0, 0, none⟩)), Eqs (.bool nx), Eqs (.pointer (some ⟨gs1 1, 0, none⟩)), Eqs (.bool nx), Eqs (.bool true), Eqs (.bool true), Eqs (.pointer (some ⟨gs1 0, 1, none⟩)), Eqs (.slice ax mx cx), Eqs (.pointer (some ⟨gs1 1, 1, none⟩)), Eqs (.slice ay my cy), Eqs (.bool true), Eqs (.bool true), Eqs (.bool true)] [] [] (by kernel_rfl) hn rfl (by kernel_rfl) (by kernel_rfl) (by kernel_rfl) (by kernel_rfl) (by kernel_rfl) (by kernel_rfl) ⟨Eqs.mono4 _, Eqs.mono4 _, Eqs.mono4 _, Eqs.mono4 _, Eqs.mono4 _, Eqs.mono4 _, Eqs.mono4 _, Eqs.mono4 _, Eqs.mono4 _, Eqs.mono4 _, Eqs.mono4 _, Eqs.mono4 _, Eqs.mono4 _, trivial⟩ ok_nil (IsOld.all (bx := []) trivial) (DisOld.all (bx := []) trivial) ?_ ?_
  · exact ⟨.norm 5 rfl rfl rfl (fun a_ w_ hn_ hBt hr hR hD hO hS => op_fa fa_neg ((hR 2 rfl).trans f2)),
      .norm 6 rfl rfl rfl (fun a_ w_ hn_ hBt hr hR hD hO hS => op_ldneg (show a_.eval (.tmp 5) = .pointer (some ⟨gs1 0, 0, none⟩) from hD 0 rfl) (b2.keep hBt trivial)),
      .norm 7 rfl rfl rfl (fun a_ w_ hn_ hBt hr hR hD hO hS => op_fa fa_neg ((hR 3 rfl).trans f3)),
      .norm 8 rfl rfl rfl (fun a_ w_ hn_ hBt hr hR hD hO hS => op_ldneg (show a_.eval (.tmp 7) = .pointer (some ⟨gs1 1, 0, none⟩) from hD 2 rfl) (b3.keep hBt trivial)),
      .norm 9 rfl rfl rfl (fun a_ w_ hn_ hBt hr hR hD hO hS => op_eqlbs (show a_.eval (.tmp 6) = .bool nx from hD 1 rfl) (show a_.eval (.tmp 8) = .bool nx from hD 3 rfl)),
      .norm 10 rfl rfl rfl (fun a_ w_ hn_ hBt hr hR hD hO hS => op_mv (show a_.eval (.tmp 9) = .bool true from hD 4 rfl)),
      .norm 11 rfl rfl rfl (fun a_ w_ hn_ hBt hr hR hD hO hS => ⟨⟨_, rfl⟩, fun _ => op_fa fa_mag ((hR 2 rfl).trans f2), fun hne => absurd (hD 5 rfl) hne⟩),
      .norm 12 rfl rfl rfl (fun a_ w_ hn_ hBt hr hR hD hO hS => ⟨⟨_, rfl⟩, fun _ => op_ldmag (show a_.eval (.tmp 11) = .pointer (some ⟨gs1 0, 1, none⟩) from hD 6 rfl) (b2.keep hBt trivial), fun hne => absurd (hD 5 rfl) hne⟩),
      .norm 13 rfl rfl rfl (fun a_ w_ hn_ hBt hr hR hD hO hS => ⟨⟨_, rfl⟩, fun _ => op_fa fa_mag ((hR 3 rfl).trans f3), fun hne => absurd (hD 5 rfl) hne⟩),
      .norm 14 rfl rfl rfl (fun a_ w_ hn_ hBt hr hR hD hO hS => ⟨⟨_, rfl⟩, fun _ => op_ldmag (show a_.eval (.tmp 13) = .pointer (some ⟨gs1 1, 1, none⟩) from hD 8 rfl) (b3.keep hBt trivial), fun hne => absurd (hD 5 rfl) hne⟩),
      .norm 15 rfl rfl rfl (fun a_ w_ hn_ hBt hr hR hD hO hS => ⟨⟨_, rfl⟩, fun _ => op_samelraw (show a_.eval (.tmp 12) = .slice ax mx cx from hD 7 rfl) (show a_.eval (.tmp 14) = .slice ay my cy from hD 9 rfl) (Tx.rl hr) (Ty.rl hr), fun hne => absurd (hD 5 rfl) hne⟩),
      .norm 16 rfl rfl rfl (fun a_ w_ hn_ hBt hr hR hD hO hS => op_pickb (show a_.eval (.tmp 10) = .bool true from hD 5 rfl) (show a_.eval (.tmp 15) = .bool true from hD 10 rfl)),
      .norm 4 rfl rfl rfl (fun a_ w_ hn_ hBt hr hR hD hO hS => op_assign (show a_.eval (.tmp 16) = .bool true from hD 11 rfl)),
      trivial⟩
  intro a2 w2 gs2 hn2 hd2 hBt hr hR hP hX hU
  replace hn := hn2; replace hd := hd2.trans hd
  have e4 : a2.eval (.tmp 4) = .bool true := hP 12 (by decide)
  have f4 := e4
  replace Tx := Tx.rl hr
  replace Ty := Ty.rl hr
  replace HB := HB.trans (hBt.below HB.size (UpOld.all (bx := []) trivial))
  clear hBt hr hR hP hX hU
  refine wp_ret ?_
  repeat (first | refine then_ret ?_ | refine scope_ret ?_ | refine block_ret ?_)
  exact bodyPost_ret (v := .bool true) (res_t rfl f4) hd ⟨rfl, HB⟩
section
variable {dst : Option Tmp} {ty : TypeId} {pos : String} {after : Array Edge} {guard : Option (Nat × Bool)} {a : Act} {w : World} {ats : Array TypeId} {i j : Nat}
theorem op_sameraw {nx ny : Bool} {ax ay : Option Addr} {mx cx my cy : Nat} {xs ys : List Int} (h1 : a.eval (.tmp i) = .agg #[.bool nx, .slice ax mx cx]) (h2 : a.eval (.tmp j) = .agg #[.bool ny, .slice ay my cy]) (S1 : Sl w (.slice ax mx cx) xs) (S2 : Sl w (.slice ay my cy) ys) (hn : nx = ny) (hz : xs = ys) :
    Does Try.prog { dst, op := .call { callee := .value (.func 16), args := #[.tmp i, .tmp j], argTypes := ats }, type := ty, pos, after, guard } a.eval w fun v w' => Below w.heap.size w w' ∧ Eqs (.bool true) v w' := by
  subst hn hz
  refine does_call has_same _ (by simp only [List.map_toArray, List.map_cons, List.map_nil, h1, h2]) ((sameraw_z w nx _ _ _ _ _ _ xs S1 S2).mono ?_)
  rintro e w' ⟨rfl, hb⟩
  exact ⟨_, rfl, hb, rfl⟩
end
def WE.raw (e : WE) : Bool × List Int := (e.ng, e.zs)
def SameR (es fs : List WE) : Prop := es.map WE.raw = fs.map WE.raw
theorem SameR.len {es fs : List WE} (h : SameR es fs) : es.length = fs.length := by simpa using congrArg List.length h
theorem SameR.at {es fs : List WE} (h : SameR es fs) {k : Nat} {e f : WE} (he : es[k]? = some e) (hf : fs[k]? = some f) : e.ng = f.ng ∧ e.zs = f.zs := by
  have h1 := congrArg (fun l => l[k]?) h
  simp only [List.getElem?_map, he, hf, Option.map_some, Option.some.injEq, WE.raw, Prod.mk.injEq] at h1
  exact h1
set_option maxRecDepth 20000 in
set_option maxHeartbeats 1000000 in
theorem samerow_z (w : World) (ax : Option Addr) (mx cx : Nat) (xs : List WE) (Rx0 : Rw w (.slice ax mx cx) xs) (ay : Option Addr) (my cy : Nat) (ys : List WE) (Ry0 : Rw w (.slice ay my cy) ys) (hS : SameR xs ys) :
    Calls Try.prog 29 #[.slice ax mx cx, .slice ay my cy] w fun e w' => e = .returned (.bool true) ∧ Below w.heap.size w w' := by
  go_enter Try.func29, Try.ntmps29
  generalize hA : (Act.mk _ _) = aa
  have hn : aa.tmps.size = 27 := by rw [← hA]; rfl
  have hd : aa.defers = [] := by rw [← hA]
  have f0 : aa.eval (.tmp 0) = .slice ax mx cx := by rw [← hA]; rfl
  have f1 : aa.eval (.tmp 1) = .slice ay my cy := by rw [← hA]; rfl
  clear hA
  have HB : Below w.heap.size w w := Below.refl _ _
  have px := Rx0.parts; have py := Ry0.parts; have hSl := hS.len
  refine wp_seq ?_
  refine region4 [some 4] [Eqs ((.bool false))] [] [] (by kernel_rfl) hn rfl (by kernel_rfl) (by kernel_rfl) (by kernel_rfl) (by kernel_rfl) (by kernel_rfl) (by kernel_rfl) ⟨Eqs.mono4 _, trivial⟩ ok_nil (IsOld.all (bx := []) trivial) (DisOld.all (bx := []) trivial) ?_ ?_
  · exact ⟨.norm 4 rfl rfl rfl (fun a_ w_ hn_ hBt hr hR hD hO hS => op_assign rfl),
      trivial⟩
  intro a1 w1 gs1 hn1 hd1 hBt hr hR hP hX hU
  replace hn := hn1; replace hd := hd1.trans hd
  replace f0 := (hR 0 rfl).trans f0
  replace f1 := (hR 1 rfl).trans f1
  have e4 : a1.eval (.tmp 4) = (.bool false) := hP 0 (by decide)
  have f4 := e4
  replace HB := HB.trans (hBt.below HB.size (UpOld.all (bx := []) trivial))
  clear hBt hr hR hP hX hU
  refine wp_seq ?_
  refine wp_seq ?_
  refine region4 [some 6, some 7, some 8, some 9, some 10] [Eqs (.slice ax mx cx), Eqs (.int .i64 (mx : Int)), Eqs (.slice ay my cy), Eqs (.int .i64 (my : Int)), Eqs (.bool false)] [] [] (by kernel_rfl) hn rfl (by kernel_rfl) (by kernel_rfl) (by kernel_rfl) (by kernel_rfl) (by kernel_rfl) (by kernel_rfl) ⟨Eqs.mono4 _, Eqs.mono4 _, Eqs.mono4 _, Eqs.mono4 _, Eqs.mono4 _, trivial⟩ ok_nil (IsOld.all (bx := []) trivial) (DisOld.all (bx := []) trivial) ?_ ?_
  · exact ⟨.norm 6 rfl rfl rfl (fun a_ w_ hn_ hBt hr hR hD hO hS => op_mv ((hR 0 rfl).trans f0)),
      .norm 7 rfl rfl rfl (fun a_ w_ hn_ hBt hr hR hD hO hS => op_lenr (show a_.eval (.tmp 6) = .slice ax mx cx from hD 0 rfl)),
      .norm 8 rfl rfl rfl (fun a_ w_ hn_ hBt hr hR hD hO hS => op_mv ((hR 1 rfl).trans f1)),
      .norm 9 rfl rfl rfl (fun a_ w_ hn_ hBt hr hR hD hO hS => op_lenr (show a_.eval (.tmp 8) = .slice ay my cy from hD 2 rfl)),
      .norm 10 rfl rfl rfl (fun a_ w_ hn_ hBt hr hR hD hO hS => op_neqf (show a_.eval (.tmp 7) = .int .i64 (mx : Int) from hD 1 rfl) (show a_.eval (.tmp 9) = .int .i64 (my : Int) from hD 3 rfl) (by omega)),
      trivial⟩
  intro a2 w2 gs2 hn2 hd2 hBt hr hR hP hX hU
  replace hn := hn2; replace hd := hd2.trans hd
  replace f0 := (hR 0 rfl).trans f0
  replace f1 := (hR 1 rfl).trans f1
  replace f4 := (hR 4 rfl).trans f4
  have e10 : a2.eval (.tmp 10) = .bool false := hP 4 (by decide)
  have f10 := e10
  replace HB := HB.trans (hBt.below HB.size (UpOld.all (bx := []) trivial))
  clear hBt hr hR hP hX hU
  refine wp_cond_false f10 ?_
  refine wp_skip ?_
  refine wp_seq ?_
  refine wp_seq ?_
  refine region4 [some 5] [Eqs ((.int .i64 0))] [] [] (by kernel_rfl) hn rfl (by kernel_rfl) (by kernel_rfl) (by kernel_rfl) (by kernel_rfl) (by kernel_rfl) (by kernel_rfl) ⟨Eqs.mono4 _, trivial⟩ ok_nil (IsOld.all (bx := []) trivial) (DisOld.all (bx := []) trivial) ?_ ?_
  · exact ⟨.norm 5 rfl rfl rfl (fun a_ w_ hn_ hBt hr hR hD hO hS => op_assign rfl),
      trivial⟩
  intro a3 w3 gs3 hn3 hd3 hBt hr hR hP hX hU
  replace hn := hn3; replace hd := hd3.trans hd
  replace f0 := (hR 0 rfl).trans f0
  replace f1 := (hR 1 rfl).trans f1
  replace f4 := (hR 4 rfl).trans f4
  have e5 : a3.eval (.tmp 5) = (.int .i64 0) := hP 0 (by decide)
  have f5 := e5
  replace HB := HB.trans (hBt.below HB.size (UpOld.all (bx := []) trivial))
  clear hBt hr hR hP hX hU
  refine wp_block ?_
  refine wp_loop_ghost (fun n a w' => a.tmps.size = 27 ∧ a.defers = [] ∧ a.eval (.tmp 0) = .slice ax mx cx ∧ a.eval (.tmp 1) = .slice ay my cy ∧ Below w.heap.size w w' ∧ ∃ k : Nat, k + n = xs.length ∧ a.eval (.tmp 5) = .int .i64 (k : Int)) xs.length ⟨hn, hd, f0, f1, HB, 0, by omega, f5⟩ ?_
  clear hn hd HB f0 f1 f4 f5
  rintro nL aL wL ⟨hn, hd, f0, f1, HB, kL, hk, f5⟩
  refine wp_seq ?_
  refine wp_seq ?_
  refine region4 [some 11, some 12, some 13, some 14] [Eqs (.int .i64 (kL : Int)), Eqs (.slice ax mx cx), Eqs (.int .i64 (mx : Int)), Eqs (.bool (decide ((kL : Int) < (mx : Int))))] [] [] (by kernel_rfl) hn rfl (by kernel_rfl) (by kernel_rfl) (by kernel_rfl) (by kernel_rfl) (by kernel_rfl) (by kernel_rfl) ⟨Eqs.mono4 _, Eqs.mono4 _, Eqs.mono4 _, Eqs.mono4 _, trivial⟩ ok_nil (IsOld.all (bx := []) trivial) (DisOld.all (bx := []) trivial) ?_ ?_
  · exact ⟨.norm 11 rfl rfl rfl (fun a_ w_ hn_ hBt hr hR hD hO hS => op_mv ((hR 5 rfl).trans f5)),
      .norm 12 rfl rfl rfl (fun a_ w_ hn_ hBt hr hR hD hO hS => op_mv ((hR 0 rfl).trans f0)),
      .norm 13 rfl rfl rfl (fun a_ w_ hn_ hBt hr hR hD hO hS => op_lenr (show a_.eval (.tmp 12) = .slice ax mx cx from hD 1 rfl)),
      .norm 14 rfl rfl rfl (fun a_ w_ hn_ hBt hr hR hD hO hS => op_lssr (show a_.eval (.tmp 11) = .int .i64 (kL : Int) from hD 0 rfl) (show a_.eval (.tmp 13) = .int .i64 (mx : Int) from hD 2 rfl)),
      trivial⟩
  intro a4 w4 gs4 hn4 hd4 hBt hr hR hP hX hU
  replace hn := hn4; replace hd := hd4.trans hd
  replace f0 := (hR 0 rfl).trans f0
  replace f1 := (hR 1 rfl).trans f1
  replace f5 := (hR 5 rfl).trans f5
  have e14 : a4.eval (.tmp 14) = .bool (decide ((kL : Int) < (mx : Int))) := hP 3 (by decide)
  have f14 := e14
  replace HB := HB.trans (hBt.below HB.size (UpOld.all (bx := []) trivial))
  clear hBt hr hR hP hX hU
  refine wp_cond_split f14 (fun hc14 => ?_) (fun hc14 => ?_)
  · skip
    have hlt := of_decide_eq_true hc14
    obtain ⟨bx_, ox_, hax, _, _⟩ := Rx0.cells (by omega)
    obtain ⟨ex, hex⟩ : ∃ e, xs[kL]? = some e := ⟨_, List.getElem?_eq_getElem (by omega)⟩
    have Ax0 := Rx0.ag (List.mem_of_getElem? hex)
    have Ax := Ax0.below HB
    have lx := Ax.sl.parts.1
    obtain ⟨by_, oy_, hay, _, _⟩ := Ry0.cells (by omega)
    obtain ⟨ey, hey⟩ : ∃ e, ys[kL]? = some e := ⟨_, List.getElem?_eq_getElem (by omega)⟩
    have Ay0 := Ry0.ag (List.mem_of_getElem? hey)
    have Ay := Ay0.below HB
    have ly := Ay.sl.parts.1
    have hsm := hS.at hex hey
    refine wp_skip ?_
    refine wp_seq ?_
    refine wp_block ?_
    refine wp_seq ?_
    refine region4 [some 17, some 18, some 19, some 20, some 21, some 22, some 23, some 24, some 25, some 26] [Eqs (.slice ax mx cx), Eqs (.int .i64 (kL : Int)), Eqs (.pointer (some ⟨bx_, ox_ + kL * 2, none⟩)), Eqs (.agg #[.bool ex.ng, .slice ex.a ex.m ex.c]), Eqs (.slice ay my cy), Eqs (.int .i64 (kL : Int)), Eqs (.pointer (some ⟨by_, oy_ + kL * 2, none⟩)), Eqs (.agg #[.bool ey.ng, .slice ey.a ey.m ey.c]), Eqs (.bool true), Eqs (.bool false)] [] [] (by kernel_rfl) hn rfl (by kernel_rfl) (by kernel_rfl) (by kernel_rfl) (by kernel_rfl) (by kernel_rfl) (by kernel_rfl) ⟨Eqs.mono4 _, Eqs.mono4 _, Eqs.mono4 _, Eqs.mono4 _, Eqs.mono4 _, Eqs.mono4 _, Eqs.mono4 _, Eqs.mono4 _, Eqs.mono4 _, Eqs.mono4 _, trivial⟩ ok_nil (IsOld.all (bx := []) trivial) (DisOld.all (bx := []) trivial) ?_ ?_
    · exact ⟨.norm 17 rfl rfl rfl (fun a_ w_ hn_ hBt hr hR hD hO hS => op_mv ((hR 0 rfl).trans f0)),
        .norm 18 rfl rfl rfl (fun a_ w_ hn_ hBt hr hR hD hO hS => op_mv ((hR 5 rfl).trans f5)),
        .norm 19 rfl rfl rfl (fun a_ w_ hn_ hBt hr hR hD hO hS => op_idxr (show a_.eval (.tmp 17) = .slice ax mx cx from hD 0 rfl) hax (show a_.eval (.tmp 18) = .int .i64 (kL : Int) from hD 1 rfl) (by omega)),
        .norm 20 rfl rfl rfl (fun a_ w_ hn_ hBt hr hR hD hO hS => op_ldr (show a_.eval (.tmp 19) = .pointer (some ⟨bx_, ox_ + kL * 2, none⟩) from hD 2 rfl) hax (Rx0.below (HB.trans (hBt.below HB.size (UpOld.all (bx := []) trivial)))) hex),
        .norm 21 rfl rfl rfl (fun a_ w_ hn_ hBt hr hR hD hO hS => op_mv ((hR 1 rfl).trans f1)),
        .norm 22 rfl rfl rfl (fun a_ w_ hn_ hBt hr hR hD hO hS => op_mv ((hR 5 rfl).trans f5)),
        .norm 23 rfl rfl rfl (fun a_ w_ hn_ hBt hr hR hD hO hS => op_idxr (show a_.eval (.tmp 21) = .slice ay my cy from hD 4 rfl) hay (show a_.eval (.tmp 22) = .int .i64 (kL : Int) from hD 5 rfl) (by omega)),
        .norm 24 rfl rfl rfl (fun a_ w_ hn_ hBt hr hR hD hO hS => op_ldr (show a_.eval (.tmp 23) = .pointer (some ⟨by_, oy_ + kL * 2, none⟩) from hD 6 rfl) hay (Ry0.below (HB.trans (hBt.below HB.size (UpOld.all (bx := []) trivial)))) hey),
        .norm 25 rfl rfl rfl (fun a_ w_ hn_ hBt hr hR hD hO hS => op_sameraw (show a_.eval (.tmp 20) = .agg #[.bool ex.ng, .slice ex.a ex.m ex.c] from hD 3 rfl) (show a_.eval (.tmp 24) = .agg #[.bool ey.ng, .slice ey.a ey.m ey.c] from hD 7 rfl) (Ax.rl hr).sl (Ay.rl hr).sl hsm.1 hsm.2),
        .norm 26 rfl rfl rfl (fun a_ w_ hn_ hBt hr hR hD hO hS => op_not (show a_.eval (.tmp 25) = .bool true from hD 8 rfl)),
        trivial⟩
    intro a5 w5 gs5 hn5 hd5 hBt hr hR hP hX hU
    replace hn := hn5; replace hd := hd5.trans hd
    replace f0 := (hR 0 rfl).trans f0
    replace f1 := (hR 1 rfl).trans f1
    replace f5 := (hR 5 rfl).trans f5
    have e26 : a5.eval (.tmp 26) = .bool false := hP 9 (by decide)
    have f26 := e26
    replace Ax := Ax.rl hr
    replace Ay := Ay.rl hr
    replace HB := HB.trans (hBt.below HB.size (UpOld.all (bx := []) trivial))
    clear hBt hr hR hP hX hU
    refine wp_cond_false f26 ?_
    refine wp_skip ?_
    refine block_normal ?_
    refine region4 [some 15, some 16, some 5] [Eqs (.int .i64 (kL : Int)), Eqs (.int .i64 ((kL + 1 : Nat) : Int)), Eqs (.int .i64 ((kL + 1 : Nat) : Int))] [] [(2, 0)] (by kernel_rfl) hn rfl (by kernel_rfl) (by kernel_rfl) (by kernel_rfl) (by kernel_rfl) (by kernel_rfl) (by kernel_rfl) ⟨Eqs.mono4 _, Eqs.mono4 _, Eqs.mono4 _, trivial⟩ ok_nil (IsOld.all (bx := []) trivial) (DisOld.all (bx := []) trivial) ?_ ?_
    · exact ⟨.norm 15 rfl rfl rfl (fun a_ w_ hn_ hBt hr hR hD hO hS => op_mv ((hS 2 5 rfl rfl).trans f5)),
        .norm 16 rfl rfl rfl (fun a_ w_ hn_ hBt hr hR hD hO hS => op_inck (show a_.eval (.tmp 15) = .int .i64 (kL : Int) from hD 0 rfl) (by omega)),
        .norm 5 rfl rfl rfl (fun a_ w_ hn_ hBt hr hR hD hO hS => op_assign (show a_.eval (.tmp 16) = .int .i64 ((kL + 1 : Nat) : Int) from hD 1 rfl)),
        trivial⟩
    intro a6 w6 gs6 hn6 hd6 hBt hr hR hP hX hU
    replace hn := hn6; replace hd := hd6.trans hd
    replace f0 := (hR 0 rfl).trans f0
    replace f1 := (hR 1 rfl).trans f1
    have e5 : a6.eval (.tmp 5) = .int .i64 ((kL + 1 : Nat) : Int) := hP 2 (by decide)
    have f5 := e5
    replace Ax := Ax.rl hr
    replace Ay := Ay.rl hr
    replace HB := HB.trans (hBt.below HB.size (UpOld.all (bx := []) trivial))
    clear hBt hr hR hP hX hU
    exact ⟨nL - 1, by omega, hn, hd, f0, f1, HB, kL + 1, by omega, f5⟩
  · skip
    have hlt := of_decide_eq_false hc14
    refine wp_exit ?_
    repeat (first | refine then_exit ?_ | refine scope_exit ?_ | refine block_pass (by decide) ?_)
    refine block_exit ?_
    refine wp_seq ?_
    refine region4 [some 4] [Eqs ((.bool true))] [] [] (by kernel_rfl) hn rfl (by kernel_rfl) (by kernel_rfl) (by kernel_rfl) (by kernel_rfl) (by kernel_rfl) (by kernel_rfl) ⟨Eqs.mono4 _, trivial⟩ ok_nil (IsOld.all (bx := []) trivial) (DisOld.all (bx := []) trivial) ?_ ?_
    · exact ⟨.norm 4 rfl rfl rfl (fun a_ w_ hn_ hBt hr hR hD hO hS => op_assign rfl),
        trivial⟩
    intro a7 w7 gs7 hn7 hd7 hBt hr hR hP hX hU
    replace hn := hn7; replace hd := hd7.trans hd
    have e4 : a7.eval (.tmp 4) = (.bool true) := hP 0 (by decide)
    have f4 := e4
    replace HB := HB.trans (hBt.below HB.size (UpOld.all (bx := []) trivial))
    clear hBt hr hR hP hX hU
    refine wp_ret ?_
    repeat (first | refine then_ret ?_ | refine scope_ret ?_ | refine block_ret ?_)
    exact bodyPost_ret (v := .bool true) (res_t rfl f4) hd ⟨rfl, HB⟩
end Lm
end Go.Proofs.Ytodgiglhconkoaa

namespace Go.Proofs.Ytodgiglhconkoaa
namespace Lm
open Go Go.RowKit
theorem Ow.grown {B : Nat} {w w' : World} {v : Value} {zs : List Int} {row : Option Nat} {cur : Nat → Array Value} (h : Ow B w v zs) (hg : w.grownBy w' row) (hr : ∀ k, row = some k → w.heap[k]? = some (.cells (cur k) 30 (0, 0))) : Ow B w' v zs := by
  obtain ⟨ao, cap, rfl, h1, h2, h3, h4⟩ := h
  refine ⟨ao, cap, rfl, h1, h2, h3, ?_⟩
  rcases h4 with h4 | ⟨g, off, c, rfl, hB, hh, h5, h6⟩
  · exact .inl h4
  · refine .inr ⟨g, off, c, rfl, hB, (hg.block g (lt_of_heap hh) (fun e => ?_)).trans hh, h5, h6⟩
    have := hr g e.symm
    rw [hh] at this
    injection this with this
    injection this with _ this
    exact absurd this (by decide)
structure RwO (B : Nat) (w : World) (v : Value) (es : List WE) : Prop where
  own : w.ownsRow B 30 2 v es.length (flat es)
  ow : ∀ e ∈ es, Ow B w (.slice e.a e.m e.c) e.zs
theorem RwO.below {B : Nat} {w w' : World} {v : Value} {es : List WE} (h : RwO B w v es) (hb : Below w.heap.size w w') : RwO B w' v es :=
  ⟨h.own.kept (row := none) ⟨hb.os, hb.tape, hb.output, hb.size, fun k hk _ => hb.block k hk⟩ (by cases hv : v.ownBlock <;> simp), fun e he => (h.ow e he).below hb⟩
theorem RwO.rw {B : Nat} {w : World} {v : Value} {es : List WE} (h : RwO B w v es) : Rw w v es := ⟨Cl.own h.own, fun e he => (h.ow e he).sl⟩
theorem rwo_nil (B : Nat) (w : World) : RwO B w (.slice none 0 0) [] := ⟨World.ownsRow_nil w B _ 2, fun e he => by cases he⟩
def One (w : World) (g : Nat) (ng : Bool) (ao : Option Addr) (n c : Nat) : Prop := w.heap[g]? = some (.cells #[.bool ng, .slice ao n c] 30 (0, 0))
theorem One.below {w w' : World} {g : Nat} {ng : Bool} {ao : Option Addr} {n c : Nat} (h : One w g ng ao n c) (hb : Below w.heap.size w w') : One w' g ng ao n c := (hb.block g (lt_of_heap h)).trans h
section
variable {dst : Option Tmp} {ty : TypeId} {pos : String} {after : Array Edge} {guard : Option (Nat × Bool)} {a : Act} {w : World} {ats : Array TypeId} {i j : Nat}
theorem op_bsl {ng : Bool} {ao : Option Addr} {n c : Nat} (h : a.eval (.tmp i) = .agg #[.bool ng, .slice ao n c]) :
    Does Try.prog { dst, op := .buildSlice 27 1 #[(0, .tmp i)], type := ty, pos, after, guard } a.eval w fun v w' => v = .slice (some ⟨w.heap.size, 0, none⟩) 1 1 ∧ One w' w.heap.size ng ao n c ∧ Below w.heap.size w w' := by
  refine does_buildSlice (v := .slice (some ⟨w.heap.size, 0, none⟩) 1 1) (w' := w.alloc (.cells #[.bool ng, .slice ao n c] 30)) ?_ ⟨rfl, heap_alloc_new _ _, (Below.refl _ _).alloc (Nat.le_refl _) _⟩
  simp only [List.map_toArray, List.map_cons, List.map_nil, h]
  go_simp
theorem infoW : (Try.prog.info? 30).map (fun i => (i.zero, i.size, i.bytes)) = some (some (.agg #[.bool false, .slice none 0 0]), 2, 32) := by kernel_rfl
theorem op_appr {B g : Nat} {v : Value} {es : List WE} {ng : Bool} {ao : Option Addr} {n c : Nat} {zs : List Int} (h1 : a.eval (.tmp i) = v) (h2 : a.eval (.tmp j) = .slice (some ⟨g, 0, none⟩) 1 1) (R : RwO B w v es) (O : One w g ng ao n c) (S : Ow B w (.slice ao n c) zs) (hn : es.length ≤ 1000000) (hB : B ≤ w.heap.size) :
    Does Try.prog { dst, op := .call { callee := .builtin .append, args := #[.tmp i, .tmp j], argTypes := #[27, 27] }, type := ty, pos, after, guard } a.eval w fun v' w' => RwO B w' v' (es ++ [⟨ng, ao, n, c, zs⟩]) ∧ Below B w w' := by
  obtain ⟨i0, hi, hz0, hz1, hz2⟩ := info_parts infoW
  have hfl : flat (es ++ [⟨ng, ao, n, c, zs⟩]) = flat es ++ [.bool ng, .slice ao n c] := by rw [flat_append]; rfl
  obtain ⟨v', w', hr, ho, hgr, _⟩ := run_append_own (P := Try.prog) w B 27 ty 30 i0 _ 2 32 Try.underlying27 hi hz0 hz1 hz2 rfl (by decide) v es.length (flat es) R.own ⟨g, 0, none⟩ 1 1 [.bool ng, .slice ao n c] rfl (fun k u hu => by
    have hc : ∀ k, w.cell? ⟨g, k, none⟩ = #[Value.bool ng, .slice ao n c][k]? := fun k => cell_of_row w g k _ _ (0, 0) O
    have ha : (⟨g, 0, none⟩ : Addr).add k = ⟨g, k, none⟩ := by unfold Addr.add; split <;> simp_all
    rw [ha, hc]
    simpa using hu) (by simp [Value.oneCell']) (by simp [maxLen]; omega) (by omega) hB
  have e : (execOp a.eval { dst, op := .call { callee := .builtin .append, args := #[.tmp i, .tmp j], argTypes := #[27, 27] }, type := ty, pos, after, guard }).run Try.prog w = .ok (.value v') w' := by
    simp only [execOp, resolve, invoke, builtin, Sem.run_bind, Sem.run_pure, Result.andThen_ok, List.map_toArray, List.map_cons, List.map_nil, h1, h2, hr]
  refine ⟨?_⟩
  unfold Turns
  rw [e]
  have hrow : ∃ cur : Nat → Array Value, ∀ k, v.ownBlock = some k → w.heap[k]? = some (.cells (cur k) 30 (0, 0)) := by
    rcases R.own.2 with ⟨rfl, _⟩ | ⟨g', cap, cur, rfl, _, hh, _⟩
    · exact ⟨fun _ => #[], fun k hk => by simp [Value.ownBlock] at hk⟩
    · refine ⟨fun _ => cur, fun k hk => ?_⟩
      simp only [Value.ownBlock, Option.some.injEq] at hk
      subst hk
      exact hh
  obtain ⟨cur, hcur⟩ := hrow
  refine ⟨⟨by rw [hfl, List.length_append]; exact ho, fun e he => ?_⟩, ⟨hgr.os, hgr.tape, hgr.output, hgr.size, fun k hk => hgr.block k (by omega) (fun e => ?_)⟩⟩
  · rcases List.mem_append.1 he with he | he
    · exact (R.ow e he).grown hgr hcur
    · obtain rfl := List.mem_singleton.1 he
      exact S.grown hgr hcur
  · have := R.own.lt k e.symm
    omega
end
end Lm
end Go.Proofs.Ytodgiglhconkoaa

namespace Go.Proofs.Ytodgiglhconkoaa
namespace Lm
open Go Go.RowKit
open Dm (WFr)
theorem made_two (n : Nat) : (madeCells #[.bool false, .slice none 0 0] (n * 2)).toList = flat (List.replicate n ⟨false, none, 0, 0, []⟩) := by
  apply List.ext_getElem?
  intro i
  rw [Array.getElem?_toList]
  by_cases hi : i < n * 2
  · have hk : i / 2 < n := by omega
    have h1 : (List.replicate n (⟨false, none, 0, 0, []⟩ : WE))[i / 2]? = some ⟨false, none, 0, 0, []⟩ := by rw [List.getElem?_replicate, if_pos hk]
    obtain ⟨f1, f2⟩ := flat_at h1
    have e0 : (madeCells #[.bool false, .slice none 0 0] (n * 2))[i]? = some ((#[.bool false, .slice none 0 0] : Array Value)[i % 2]!) := by
      simp [madeCells, hi]
    rw [e0]
    rcases Nat.mod_two_eq_zero_or_one i with h | h
    · rw [h, ← show i / 2 * 2 = i from by omega, f1]; rfl
    · rw [h, ← show i / 2 * 2 + 1 = i from by omega, f2]; rfl
  · rw [Array.getElem?_eq_none (by rw [size_madeCells]; omega), List.getElem?_eq_none (by rw [flat_length]; simp; omega)]
theorem made_block {w : World} {B g n size : Nat} {T : TypeId} {xs : List Value} (h : w.ownsRow B T size (.slice (some ⟨g, 0, none⟩) n n) n xs) : B ≤ g ∧ w.heap[g]? = some (.cells xs.toArray T (0, 0)) := by
  obtain ⟨hl, ⟨h', _⟩ | ⟨g', cap', cur, h', hb, hg, _, _, hs, htake⟩⟩ := h
  · simp at h'
  · simp only [Value.slice.injEq, Option.some.injEq, Addr.mk.injEq, and_true, true_and] at h'
    obtain ⟨rfl, rfl⟩ := h'
    refine ⟨hb, ?_⟩
    rw [hg, ← htake, List.take_of_length_le (by simp; omega)]
def IsRow (w : World) (v : Value) (zs : List Int) (L : Nat) : Prop := ∃ es : List WE, Rw w v es ∧ es.map WE.z = zs ∧ ∀ e ∈ es, e.zs.length ≤ L
theorem IsRow.below {w w' : World} {v : Value} {zs : List Int} {L : Nat} (h : IsRow w v zs L) (hb : Below w.heap.size w w') : IsRow w' v zs L := by
  obtain ⟨es, h1, h2, h3⟩ := h
  exact ⟨es, h1.below hb, h2, h3⟩
theorem IsRow.parts {w : World} {v : Value} {zs : List Int} {L : Nat} (h : IsRow w v zs L) : ∃ ao cap, v = .slice ao zs.length cap ∧ zs.length ≤ 9223372036854775807 := by
  obtain ⟨es, h1, h2, h3⟩ := h
  obtain ⟨ao, cap, rfl, c1, c2, _⟩ := h1.cl
  have : zs.length = es.length := by rw [← h2]; simp
  exact ⟨ao, cap, by rw [this], by omega⟩
theorem IsRow.cell {w : World} {ao : Option Addr} {n cap : Nat} {zs : List Int} {L k : Nat} {z : Int} (h : IsRow w (.slice ao n cap) zs L) (hz : zs[k]? = some z) : ∃ b off ng a m c, ao = some ⟨b, off, none⟩ ∧ b < w.heap.size ∧ w.cell? ⟨b, off + k * 2, none⟩ = some (.bool ng) ∧ w.cell? ⟨b, off + k * 2 + 1, none⟩ = some (.slice a m c) ∧ IsW z L (.agg #[.bool ng, .slice a m c]) w := by
  obtain ⟨es, h1, rfl, h3⟩ := h
  rw [List.getElem?_map] at hz
  obtain ⟨e, he, rfl⟩ := Option.map_eq_some_iff.1 hz
  have hk : k < es.length := (List.getElem?_eq_some_iff.1 he).1
  obtain ⟨b, off, rfl, hb, hc⟩ := h1.cells (by omega)
  obtain ⟨f1, f2⟩ := flat_at he
  have hm := List.mem_of_getElem? he
  exact ⟨b, off, e.ng, e.a, e.m, e.c, rfl, hb, hc _ _ f1, hc _ _ f2, ⟨_, _, _, _, _, rfl, h1.ag hm, h3 e hm⟩⟩
def PRow (K : Nat) (w : World) (bv n i : Nat) (zs : List Int) (L : Nat) : Prop :=
  ∃ (es : List WE) (B T : Nat → Nat), es.length = n ∧ w.heap[bv]? = some (.cells (flat es).toArray 30 (0, 0)) ∧ (∀ (k : Nat) (e : WE), i ≤ k → es[k]? = some e → e = ⟨false, none, 0, 0, []⟩) ∧ (∀ (k : Nat) (e : WE) (z : Int), k < i → es[k]? = some e → zs[k]? = some z → WFr (B k) (T k) w e.ng e.a e.c e.zs z ∧ e.m = e.zs.length ∧ e.zs.length ≤ L ∧ K ≤ B k ∧ T k ≤ w.heap.size) ∧ (∀ k k' : Nat, k < k' → k' < i → T k ≤ B k')
theorem PRow.start {K : Nat} {w : World} {bv n : Nat} {zs : List Int} {L : Nat} (h : w.heap[bv]? = some (.cells (flat (List.replicate n ⟨false, none, 0, 0, []⟩)).toArray 30 (0, 0))) : PRow K w bv n 0 zs L := by
  refine ⟨_, fun _ => 0, fun _ => 0, List.length_replicate, h, fun k e _ he => ?_, fun k e z hk => by omega, fun k k' _ hk => by omega⟩
  rw [List.getElem?_replicate] at he
  split at he
  · exact (Option.some.inj he).symm
  · cases he
theorem PRow.ru {K : Nat} {w w' : World} {bv n i : Nat} {zs : List Int} {L : Nat} (h : PRow K w bv n i zs L) (hr : Ru w w') (hb : w'.heap[bv]? = w.heap[bv]?) : PRow K w' bv n i zs L := by
  obtain ⟨es, B, T, h1, h2, h3, h4, h5⟩ := h
  refine ⟨es, B, T, h1, hb.trans h2, h3, fun k e z hk he hz => ?_, h5⟩
  obtain ⟨g1, g2, g3, g4, g5⟩ := h4 k e z hk he hz
  exact ⟨g1.ru hr, g2, g3, g4, Nat.le_trans g5 hr.size⟩
theorem PRow.lt {K : Nat} {w : World} {bv n i : Nat} {zs : List Int} {L : Nat} (h : PRow K w bv n i zs L) : bv < w.heap.size := by
  obtain ⟨es, B, T, h1, h2, _⟩ := h
  exact lt_of_heap h2
theorem PRow.below {K : Nat} {w w' : World} {bv n i : Nat} {zs : List Int} {L : Nat} (h : PRow K w bv n i zs L) (hb : Below w.heap.size w w') : PRow K w' bv n i zs L := h.ru (Ru.of_below hb) (hb.block bv h.lt)
theorem flat_set (es : List WE) (i : Nat) (x : WE) (h : i < es.length) : flat (es.set i x) = ((flat es).set (i * 2) (.bool x.ng)).set (i * 2 + 1) (.slice x.a x.m x.c) := by
  induction es generalizing i with
  | nil => simp at h
  | cons u es ih =>
    cases i with
    | zero => simp [flat]
    | succ i =>
      have := ih i (by simpa using h)
      simp only [List.set_cons_succ, flat, show (i + 1) * 2 = i * 2 + 2 from by omega, this]
theorem flat_no (es : List WE) (i : Nat) (z : Int) : (flat es).toArray[i]? ≠ some (.int .u32 z) := by
  rw [List.getElem?_toArray]
  induction es generalizing i with
  | nil => simp [flat]
  | cons u es ih =>
    match i with
    | 0 => simp [flat]
    | 1 => simp [flat]
    | i + 2 => simpa [flat] using ih i
theorem PRow.cells {K : Nat} {w : World} {bv n i : Nat} {zs : List Int} {L : Nat} (h : PRow K w bv n i zs L) {k : Nat} (hk : k < n) : (∃ ng a m c, w.cell? ⟨bv, k * 2, none⟩ = some (.bool ng) ∧ w.cell? ⟨bv, k * 2 + 1, none⟩ = some (.slice a m c)) ∧ w.frozen? ⟨bv, k * 2, none⟩ = false ∧ w.frozen? ⟨bv, k * 2 + 1, none⟩ = false := by
  obtain ⟨es, B, T, h1, h2, _⟩ := h
  obtain ⟨e, he⟩ : ∃ e, es[k]? = some e := ⟨_, List.getElem?_eq_getElem (by omega)⟩
  obtain ⟨f1, f2⟩ := flat_at he
  exact ⟨⟨e.ng, e.a, e.m, e.c, by rw [cell_of_row _ _ _ _ _ (0, 0) h2, List.getElem?_toArray]; exact f1, by rw [cell_of_row _ _ _ _ _ (0, 0) h2, List.getElem?_toArray]; exact f2⟩, frozen_of_row _ _ _ _ _ h2, frozen_of_row _ _ _ _ _ h2⟩
theorem PRow.put {K S : Nat} {w1 w2 : World} {bv n i : Nat} {zs : List Int} {L : Nat} {z : Int} {ng : Bool} {a : Option Addr} {m c : Nat} (h : PRow K w1 bv n i zs L) (hS : w1.heap.size ≤ S) (hb : Below w1.heap.size w1 w2) (hi : i < n) (hz : zs[i]? = some z) (hK : K ≤ S) (hv : FrW S z L (.agg #[.bool ng, .slice a m c]) w2) :
    PRow K ((w2.setCell ⟨bv, i * 2, none⟩ (.bool ng)).setCell ⟨bv, i * 2 + 1, none⟩ (.slice a m c)) bv n (i + 1) zs L ∧ Rc bv bv w1 ((w2.setCell ⟨bv, i * 2, none⟩ (.bool ng)).setCell ⟨bv, i * 2 + 1, none⟩ (.slice a m c)) := by
  have hlt := h.lt
  obtain ⟨es, B, T, e1, e2, e3, e4, e5⟩ := h
  replace e2 := (hb.block bv hlt).trans e2
  obtain ⟨ng', ao', cap', rs, B', T', hv1, hv2, hv3, hv4, hv5⟩ := hv
  simp only [Value.agg.injEq, Array.mk.injEq, List.cons.injEq, Value.bool.injEq, Value.slice.injEq, and_true] at hv1
  obtain ⟨rfl, rfl, rfl, rfl⟩ := hv1
  generalize hW : ((w2.setCell ⟨bv, i * 2, none⟩ (.bool ng)).setCell ⟨bv, i * 2 + 1, none⟩ (.slice a rs.length c)) = W
  have hbW : W.heap[bv]? = some (.cells (flat (es.set i ⟨ng, a, rs.length, c, rs⟩)).toArray 30 (0, 0)) := by
    rw [← hW, flat_set es i _ (by omega)]
    have s1 := heap_setCell_same w2 bv (i * 2) _ _ (.bool ng) e2
    have s2 := heap_setCell_same _ bv (i * 2 + 1) _ _ (.slice a rs.length c) s1
    rw [s2]
    simp
  have hot : ∀ k, k ≠ bv → W.heap[k]? = w2.heap[k]? := fun k hn => by rw [← hW, heap_setCell_other _ ⟨bv, i * 2 + 1, none⟩ k _ hn, heap_setCell_other _ ⟨bv, i * 2, none⟩ k _ hn]
  have hsz : w2.heap.size ≤ W.heap.size := by rw [← hW]; simp [World.setCell]
  have hru : Ru w2 W := Ru.of_one e2 (by decide) (flat_no es) hsz (fun k _ hn => hot k hn)
  have hrc : Rc bv bv w2 W := ⟨by rw [← hW]; rfl, by rw [← hW]; rfl, by rw [← hW]; rfl, hsz, fun k _ hn _ => hot k hn, hru⟩
  refine ⟨⟨es.set i ⟨ng, a, rs.length, c, rs⟩, fun k => if k = i then B' else B k, fun k => if k = i then T' else T k, by simp [e1], hbW, ?_, ?_, ?_⟩, (Rc.of_below hb).trans hrc⟩
  · intro k e hk he
    rw [List.getElem?_set_ne (by omega)] at he
    exact e3 k e (by omega) he
  · intro k e z' hk he hz'
    by_cases hki : k = i
    · subst hki
      rw [List.getElem?_set_self (by omega)] at he
      obtain rfl := Option.some.inj he
      rw [hz] at hz'
      obtain rfl := Option.some.inj hz'
      simp only [if_true]
      exact ⟨hv2.ru hru, trivial, hv5, by omega, Nat.le_trans hv4 hsz⟩
    · rw [List.getElem?_set_ne (fun h => hki h.symm)] at he
      simp only [if_neg hki]
      obtain ⟨g1, g2, g3, g4, g5⟩ := e4 k e z' (by omega) he hz'
      exact ⟨(g1.ru (Ru.of_below hb)).ru hru, g2, g3, g4, Nat.le_trans g5 (Nat.le_trans hb.size hsz)⟩
  · intro k k' hkk hk'
    by_cases hki : k' = i
    · subst hki
      simp only [if_true, if_neg (show k ≠ k' by omega)]
      obtain ⟨e, he⟩ : ∃ e, es[k]? = some e := ⟨_, List.getElem?_eq_getElem (by omega)⟩
      obtain ⟨z', hz'⟩ : ∃ z', zs[k]? = some z' := ⟨_, List.getElem?_eq_getElem (by have := (List.getElem?_eq_some_iff.1 hz).1; omega)⟩
      have := (e4 k e z' hkk he hz').2.2.2.2
      omega
    · simp only [if_neg hki, if_neg (show k ≠ i by omega)]
      exact e5 k k' hkk (by omega)
def ORow (K : Nat) (w : World) (v : Value) (zs : List Int) (L : Nat) : Prop := ∃ bv, v = .slice (some ⟨bv, 0, none⟩) zs.length zs.length ∧ K ≤ bv ∧ PRow K w bv zs.length zs.length zs L ∧ zs.length ≤ 1000000
theorem PRow.full {K : Nat} {w : World} {bv : Nat} {zs : List Int} {L : Nat} (h : PRow K w bv zs.length zs.length zs L) (hl : zs.length ≤ 1000000) : IsRow w (.slice (some ⟨bv, 0, none⟩) zs.length zs.length) zs L := by
  obtain ⟨es, B, T, e1, e2, e3, e4, e5⟩ := h
  have hz : ∀ (k : Nat) (e : WE), es[k]? = some e → ∃ z, zs[k]? = some z ∧ WFr (B k) (T k) w e.ng e.a e.c e.zs z ∧ e.m = e.zs.length ∧ e.zs.length ≤ L := by
    intro k e he
    have hk := (List.getElem?_eq_some_iff.1 he).1
    obtain ⟨z, hz⟩ : ∃ z, zs[k]? = some z := ⟨_, List.getElem?_eq_getElem (by omega)⟩
    obtain ⟨g1, g2, g3, _⟩ := e4 k e z (by omega) he hz
    exact ⟨z, hz, g1, g2, g3⟩
  refine ⟨es, ⟨⟨_, _, by rw [e1], by omega, by omega, flat_length es, ?_⟩, ?_⟩, ?_, ?_⟩
  · refine .inr ⟨bv, 0, rfl, lt_of_heap e2, fun j u hu => ?_⟩
    rw [Nat.zero_add, cell_of_row _ _ _ _ _ (0, 0) e2, List.getElem?_toArray]
    exact hu
  · intro e he
    obtain ⟨k, hk⟩ := List.mem_iff_getElem?.1 he
    obtain ⟨z, _, g1, g2, _⟩ := hz k e hk
    have := g1.wh.sl
    rwa [← g2] at this
  · apply List.ext_getElem?
    intro k
    rw [List.getElem?_map]
    cases hk : es[k]? with
    | none =>
      rw [List.getElem?_eq_none_iff] at hk
      rw [Option.map_none, eq_comm, List.getElem?_eq_none_iff]
      omega
    | some e =>
      obtain ⟨z, h1, g1, g2, _⟩ := hz k e hk
      rw [h1, Option.map_some]
      congr 1
      exact g1.wh.worth
  · intro e he
    obtain ⟨k, hk⟩ := List.mem_iff_getElem?.1 he
    obtain ⟨z, _, _, _, g3⟩ := hz k e hk
    exact g3
theorem ORow.is {K : Nat} {w : World} {v : Value} {zs : List Int} {L : Nat} (h : ORow K w v zs L) : IsRow w v zs L := by
  obtain ⟨bv, rfl, _, h, hl⟩ := h
  exact h.full hl
theorem ORow.below {K : Nat} {w w' : World} {v : Value} {zs : List Int} {L : Nat} (h : ORow K w v zs L) (hb : Below w.heap.size w w') : ORow K w' v zs L := by
  obtain ⟨bv, e, hK, h, hl⟩ := h
  exact ⟨bv, e, hK, h.below hb, hl⟩
end Lm
end Go.Proofs.Ytodgiglhconkoaa

namespace Go.Proofs.Ytodgiglhconkoaa
namespace Lm
open Go Go.RowKit
theorem foldl_take {α β : Type} (f : β → α → β) (a : β) {l : List α} {k : Nat} {x : α} (h : l[k]? = some x) : (l.take (k + 1)).foldl f a = f ((l.take k).foldl f a) x := by
  rw [List.take_add_one, h, List.foldl_append]
  rfl
def gcdL (zs : List Int) : Int := zs.foldl (fun c z => ((Int.gcd c z : Nat) : Int)) 0
def sgnL (zs : List Int) : Int := zs.foldl (fun s z => if s = 0 then Int.sign z else s) 0
def dvs (zs : List Int) : Int := if sgnL zs < 0 then -(gcdL zs) else gcdL zs
def red (zs : List Int) : List Int := zs.map (· / dvs zs)
theorem isw_lt {z : Int} {L : Nat} {v : Value} {w : World} (h : IsW z L v w) : (z.natAbs : Int) < pw L := by
  obtain ⟨ng, ao, n, cap, xs, _, hA, hl⟩ := h
  obtain ⟨_, _, _, _, _, hb, _⟩ := hA.sl
  have h1 := val_bounds hb
  have h3 := pw_mono hl
  have h4 := hA.worth
  rw [← h4]
  cases ng
  · simp only [sg]
    rw [if_neg (by decide)]
    omega
  · simp only [sg]
    rw [if_pos trivial]
    omega
theorem gcd_lt {a b N : Int} (ha : (a.natAbs : Int) < N) (hb : (b.natAbs : Int) < N) : (((Int.gcd a b : Nat) : Int).natAbs : Int) < N := by
  rw [Int.natAbs_natCast]
  by_cases h : a = 0
  · subst h
    rw [Int.gcd_zero_left]
    exact hb
  · have := Nat.gcd_le_left b.natAbs (show 0 < a.natAbs by omega)
    unfold Int.gcd
    omega
theorem pw_pos' (n : Nat) : 0 < pw n := by
  have := pw_mono (Nat.zero_le n)
  have h : pw 0 = 1 := rfl
  omega
end Lm
end Go.Proofs.Ytodgiglhconkoaa

namespace Go.Proofs.Ytodgiglhconkoaa
namespace Lm
open Go Go.RowKit
theorem infoWz : (Try.prog.info? 30).map (fun i => (i.zero, i.size, i.bytes)) = some (some (.agg #[.bool false, .slice none 0 0]), 2, 32) := by kernel_rfl
theorem info_parts {P : Program} {T : TypeId} {z : Value} {size bytes : Nat} (h : (P.info? T).map (fun i => (i.zero, i.size, i.bytes)) = some (some z, size, bytes)) : ∃ i, P.info? T = some i ∧ i.zero = some z ∧ i.size = size ∧ i.bytes = bytes := by
  obtain ⟨i, hi, hz⟩ := Option.map_eq_some_iff.1 h
  simp only [Prod.mk.injEq] at hz
  exact ⟨i, hi, hz.1, hz.2.1, hz.2.2⟩
theorem div_lt {z d N : Int} (h : (z.natAbs : Int) < N) : ((z / d).natAbs : Int) < N := by
  have := Int.natAbs_ediv_le_natAbs z d
  omega
end Lm
end Go.Proofs.Ytodgiglhconkoaa

namespace Go.Proofs.Ytodgiglhconkoaa
namespace Lm
open Go Go.RowKit
set_option maxRecDepth 20000 in
set_option maxHeartbeats 2000000 in
theorem mexactly_any (w : World) (x y : Int) (vx vy : Value) (L M : Nat) (hx : IsW x L vx w) (hy : IsW y M vy w) (hL : L ≤ 400000) (hM : M ≤ 400000) :
    Calls Try.prog 48 #[vx, vy] w fun e w' => ∃ v, e = .returned v ∧ FrW w.heap.size (x / y) (L + 4) v w' ∧ Below w.heap.size w w' := by
  obtain ⟨n1, a1, m1, c1, xs, rfl, _⟩ := id hx
  obtain ⟨n2, a2, m2, c2, ys, rfl, _⟩ := id hy
  have HX := hide hx
  have HY := hide hy
  have hb0 : Below w.heap.size w (((w.alloc (.cells #[.bool n1, .slice a1 m1 c1] 30)).alloc (.cells #[.bool n2, .slice a2 m2 c2] 30)).alloc (.cells #[.bool false, .slice none 0 0] 30)) := by (repeat' (first | (with_reducible exact Below.refl _ _) | (with_reducible assumption) | (with_reducible refine gdrewN ?_ _) | (with_reducible refine Below.alloc ?_ ?_ _) | (with_reducible refine Below.drew ?_) | (with_reducible refine Below.setCell ?_ ?_ _) | go_size))
  clear hx hy
  go_enter Try.func48, Try.ntmps48
  go_wp2_with fail
  refine (divF _ x y _ _ L M (HX.out.ru (Ru.of_below hb0)) (HY.out.ru (Ru.of_below hb0)) hL hM).mono ?_
  rintro e w1 ⟨v1, v2, b, rfl, h1, h2, _, hb1⟩
  have HB := hide (hb0.trans (hb1.mono hb0.size))
  have hf : w1.heap[w.heap.size + 1 + 1]? = some (.cells #[.bool false, .slice none 0 0] 30 (0, 0)) := by
    refine (hb1.block _ (by simp)).trans ?_
    have := heap_alloc_new ((w.alloc (.cells #[.bool n1, .slice a1 m1 c1] 30)).alloc (.cells #[.bool n2, .slice a2 m2 c2] 30)) (.cells #[.bool false, .slice none 0 0] 30)
    simpa using this
  have H1 := hide (h1.low hb0.size)
  obtain ⟨ng1, ao1, k1, cap1, rfl⟩ := h1.agg
  obtain ⟨ng2, ao2, cap2, rs2, rfl, _⟩ := h2
  have HF := hide hf
  generalize hfz : w.heap.size + 1 + 1 = f at *
  obtain ⟨hfl, c0, c1', fr0, fr1⟩ := two_cells hf
  clear h1 hb1 hb0 hf
  go_wp2
  refine bodyPost_ret (v := .agg #[.bool ng1, .slice ao1 k1 cap1]) (res_c (g := f) rfl rfl (lvw2 (alloc_keep (alloc_keep (set_w2 HF.out _ _))))) rfl ⟨_, rfl, H1.out.ru ((ru_w2 HF.out _ _).trans ((Ru.of_below (hAl _ _)).trans (Ru.of_below (hAl _ _)))), ?_⟩
  have HBx := HB.out
  have hfw : w.heap.size ≤ f := by omega
  (repeat' (first | (with_reducible exact Below.refl _ _) | (with_reducible assumption) | (with_reducible refine gdrewN ?_ _) | (with_reducible refine Below.alloc ?_ ?_ _) | (with_reducible refine Below.drew ?_) | (with_reducible refine Below.setCell ?_ ?_ _) | go_size))
set_option maxRecDepth 20000 in
set_option maxHeartbeats 4000000 in
theorem mdivisor_any (w : World) (v : Value) (zs : List Int) (L : Nat) (h : IsRow w v zs L) (hL : L ≤ 100000) :
    Calls Try.prog 45 #[v] w fun e w' => ∃ r, e = .returned r ∧ OutW (dvs zs) L r w' ∧ Below w.heap.size w w' := by
  obtain ⟨ao, cap, rfl, hn⟩ := h.parts
  have H := hide h
  clear h
  obtain ⟨n, hnn⟩ : ∃ n, zs.length = n := ⟨_, rfl⟩
  rw [hnn] at H hn ⊢
  have HN := hide hnn
  clear hnn
  have hb0 : Below w.heap.size w ((w.alloc (.cells #[.bool false, .slice none 0 0] 30)).alloc (.cells #[.bool false, .slice none 0 0] 30)) := by (repeat' (first | (with_reducible exact Below.refl _ _) | (with_reducible assumption) | (with_reducible refine gdrewN ?_ _) | (with_reducible refine Below.alloc ?_ ?_ _) | (with_reducible refine Below.drew ?_) | (with_reducible refine Below.setCell ?_ ?_ _) | go_size))
  have hf2 : ((w.alloc (.cells #[.bool false, .slice none 0 0] 30)).alloc (.cells #[.bool false, .slice none 0 0] 30)).heap[w.heap.size]? = some (.cells #[.bool false, .slice none 0 0] 30 (0, 0)) := alloc_keep (heap_alloc_new w _)
  have hf3 : ((w.alloc (.cells #[.bool false, .slice none 0 0] 30)).alloc (.cells #[.bool false, .slice none 0 0] 30)).heap[w.heap.size + 1]? = some (.cells #[.bool false, .slice none 0 0] 30 (0, 0)) := by
    have := heap_alloc_new (w.alloc (.cells #[.bool false, .slice none 0 0] 30)) (.cells #[.bool false, .slice none 0 0] 30)
    simpa using this
  have HB0 := hide (And.intro hb0 (And.intro hf2 hf3))
  clear hb0 hf2 hf3
  go_enter Try.func45, Try.ntmps45
  go_wp2
  go_loopw [4, 9] (fun sv iv wr => ∃ (k : Nat), iv = .int .i64 k ∧ k ≤ n ∧ sv = .int .i64 (sgnL (zs.take k)) ∧ Below w.heap.size w wr ∧ wr.heap[w.heap.size]? = some (.cells #[.bool false, .slice none 0 0] 30 (0, 0)) ∧ ∃ ng a m c, wr.heap[w.heap.size + 1]? = some (.cells #[.bool ng, .slice a m c] 30 (0, 0)) ∧ OutW (gcdL (zs.take k)) L (.agg #[.bool ng, .slice a m c]) wr) (fun _ iv _ => n - (intOf iv).toNat)
  case atStart =>
    refine ⟨0, rfl, Nat.zero_le _, rfl, HB0.out.1, HB0.out.2.1, false, none, 0, 0, HB0.out.2.2, ?_⟩
    exact (frw_zero (K := 0) _ (Nat.zero_le _)).out
  case round =>
    obtain ⟨k, rfl, hk, rfl, hbw, hf2, ng, a, m, c, hf3, ho⟩ := hrel
    have HW := hide hbw
    have HF2 := hide hf2
    have HF3 := hide hf3
    have HO := hide ho
    by_cases hlt : k < n
    · obtain ⟨z, hz⟩ : ∃ z, zs[k]? = some z := ⟨_, List.getElem?_eq_getElem (by have := HN.out; omega)⟩
      obtain ⟨b, off, ngx, ax, mx, cx, rfl, hbl, x0, x1, hx⟩ := H.out.cell hz
      replace x0 := (hbw.cell (p := ⟨b, off + k * 2, none⟩) hbl).trans x0
      replace x1 := (hbw.cell (p := ⟨b, off + k * 2 + 1, none⟩) hbl).trans x1
      have HX := hide (hx.ru (Ru.of_below hbw))
      have HZ := hide hz
      have hlt' : (k : Int) < (n : Int) := by omega
      obtain ⟨h3l, y0, y1, yf0, yf1⟩ := two_cells hf3
      have hba : Below wr.heap.size wr (wr.alloc (.cells #[.bool ngx, .slice ax mx cx] 30)) := hAl _ _
      have hsz := hbw.size
      clear hbw hf2 hf3 ho hx hz
      go_wp2_with fail
      refine (gcdF _ _ z _ _ L L (HO.out.is.ru (Ru.of_below hba)) (HX.out.ru (Ru.of_below hba)) (by omega) (by omega)).mono ?_
      rintro e w1 ⟨v1, rfl, h1, hb1⟩
      have HG := hide (h1.out.fit (gcd_lt (isw_lt HO.out.is) (isw_lt HX.out)))
      have hb1' := hba.trans (hb1.mono hba.size)
      have hx1 : w1.heap[wr.heap.size]? = some (.cells #[.bool ngx, .slice ax mx cx] 30 (0, 0)) := (hb1.block _ (by simp)).trans (heap_alloc_new wr _)
      have hg3 := (hb1'.block _ (lt_of_heap HF3.out)).trans HF3.out
      have hg2 := (hb1'.block _ (lt_of_heap HF2.out)).trans HF2.out
      have HG3 := hide hg3
      have HG2 := hide hg2
      have HB1 := hide (HW.out.trans (hb1'.mono HW.out.size))
      have HX1 := hide (HX.out.ru (Ru.of_below hb1'))
      obtain ⟨ng1, ao1, k1, cap1, rfl⟩ := h1.agg
      obtain ⟨_, u0, u1, _, _⟩ := two_cells hx1
      obtain ⟨g3l, v0, v1, vf0, vf1⟩ := two_cells hg3
      generalize wr.heap.size = fx at *
      clear h1 hb1 hb1' hba hx1 hg3 hg2 x0 x1 y0 y1 yf0 yf1
      have HSK : Hid (sgnL (zs.take (k + 1)) = if sgnL (zs.take k) = 0 then Int.sign z else sgnL (zs.take k)) := foldl_take _ _ HZ.out
      have HGK : Hid (gcdL (zs.take (k + 1)) = ((Int.gcd (gcdL (zs.take k)) z : Nat) : Int)) := foldl_take _ _ HZ.out
      generalize hsk : sgnL (zs.take k) = sk at *
      by_cases hs0 : sk = 0
      · have HS0 := hide hs0
        subst hs0
        clear hsk
        have hxf : fx ≠ w.heap.size + 1 := by omega
        go_wp2_with fail
        refine (signF _ z _ L (HX1.out.ru (ru_w2 HG3.out _ _)) (by omega)).mono ?_
        rintro e w2 ⟨rfl, hb2⟩
        have hbs : Below w.heap.size w ((w1.setCell ⟨w.heap.size + 1, 0, none⟩ (.bool ng1)).setCell ⟨w.heap.size + 1, 1, none⟩ (.slice ao1 k1 cap1)) := (HB1.out.setCell (Nat.le_succ _) _).setCell (Nat.le_succ _) _
        have hs2 : ((w1.setCell ⟨w.heap.size + 1, 0, none⟩ (.bool ng1)).setCell ⟨w.heap.size + 1, 1, none⟩ (.slice ao1 k1 cap1)).heap[w.heap.size]? = some (.cells #[.bool false, .slice none 0 0] 30 (0, 0)) := by rw [heap_setCell_other _ ⟨w.heap.size + 1, 1, none⟩ _ _ (by show w.heap.size ≠ w.heap.size + 1; omega), heap_setCell_other _ ⟨w.heap.size + 1, 0, none⟩ _ _ (by show w.heap.size ≠ w.heap.size + 1; omega)]; exact HG2.out
        have K1 := hide (hbs.trans (hb2.mono hbs.size))
        have K2 := hide ((hb2.block _ (lt_of_heap hs2)).trans hs2)
        have K3 := hide ((hb2.block _ (lt_of_heap (set_w2 HG3.out (.bool ng1) (.slice ao1 k1 cap1)))).trans (set_w2 HG3.out _ _))
        have K4 := hide ((HG.out.ru (ru_w2 HG3.out _ _)).ru (Ru.of_below hb2))
        clear hb2 hbs hs2
        go_wp2
        go_roundw
        case rel =>
          refine ⟨k + 1, by go_num, by omega, by rw [HSK.out, if_pos trivial], K1.out, K2.out, _, _, _, _, K3.out, ?_⟩
          rw [HGK.out]
          exact K4.out
        case measure => simp [intOf]; omega
      · have HS0 := hide hs0
        have hs0' : (sk == 0) = false := beq_eq_false_iff_ne.2 hs0
        clear hsk hs0
        go_wp2
        go_roundw
        case rel =>
          refine ⟨k + 1, by go_num, by omega, by rw [HSK.out, if_neg HS0.out], (HB1.out.setCell (Nat.le_succ _) _).setCell (Nat.le_succ _) _, ?_, _, _, _, _, set_w2 HG3.out _ _, ?_⟩
          · rw [heap_setCell_other _ ⟨w.heap.size + 1, 1, none⟩ _ _ (by show w.heap.size ≠ w.heap.size + 1; omega), heap_setCell_other _ ⟨w.heap.size + 1, 0, none⟩ _ _ (by show w.heap.size ≠ w.heap.size + 1; omega)]
            exact HG2.out
          · rw [HGK.out]
            exact HG.out.ru (ru_w2 HG3.out _ _)
        case measure => simp [intOf]; omega
    · have hlt' : decide ((k : Int) < (n : Int)) = false := by simp; omega
      have hkn : zs.take k = zs := List.take_of_length_le (by have := HN.out; omega)
      rw [hkn] at HO ⊢
      obtain ⟨h3l, y0, y1, yf0, yf1⟩ := two_cells hf3
      obtain ⟨h2l, x0, x1, xf0, xf1⟩ := two_cells hf2
      clear hbw hf2 hf3 ho hkn
      by_cases hs : sgnL zs < 0
      · have HD : Hid (dvs zs = -(gcdL zs)) := if_pos hs
        generalize sgnL zs = sk at *
        go_wp2_with fail
        refine (negF _ _ _ L HO.out.is (by omega)).mono ?_
        rintro e w1 ⟨v1, rfl, h1, hb1⟩
        have hg2 := (hb1.block _ (lt_of_heap HF2.out)).trans HF2.out
        have HG2 := hide hg2
        obtain ⟨h2l', z0, z1, zf0, zf1⟩ := two_cells hg2
        have HB1 := hide (HW.out.trans (hb1.mono HW.out.size))
        obtain ⟨ng1, ao1, k1, cap1, rfl⟩ := h1.agg
        have H1 := hide h1.out
        clear h1 hb1 hg2 x0 x1 xf0 xf1 y0 y1 yf0 yf1
        go_wp2
        exact bodyPost_ret (v := .agg #[.bool ng1, .slice ao1 k1 cap1]) (res_c (g := w.heap.size) rfl rfl (lvw2 (set_w2 HG2.out _ _))) rfl ⟨_, rfl, by rw [HD.out]; exact H1.out.ru (ru_w2 HG2.out _ _), (HB1.out.setCell (Nat.le_refl _) _).setCell (Nat.le_refl _) _⟩
      · have HD : Hid (dvs zs = gcdL zs) := if_neg hs
        have hs' : decide (sgnL zs < 0) = false := decide_eq_false hs
        generalize sgnL zs = sk at *
        clear hs
        go_wp2
        exact bodyPost_ret (v := .agg #[.bool ng, .slice a m c]) (res_c (g := w.heap.size) rfl rfl (lvw2 (set_w2 HF2.out _ _))) rfl ⟨_, rfl, by rw [HD.out]; exact HO.out.ru (ru_w2 HF2.out _ _), (HW.out.setCell (Nat.le_refl _) _).setCell (Nat.le_refl _) _⟩
theorem sign_ne (z : Int) : (Int.sign z != 0) = decide (z ≠ 0) := by
  by_cases h : z = 0
  · subst h; rfl
  · rw [decide_eq_true h, bne_iff_ne]
    exact fun e => h (Int.sign_eq_zero_iff_zero.1 e)
set_option maxRecDepth 20000 in
set_option maxHeartbeats 2000000 in
theorem mother_any (w : World) (z : Int) (L : Nat) (v : Value) (h : IsW z L v w) (hL : L ≤ 400000) :
    Calls Try.prog 42 #[v] w fun e w' => e = .returned (.bool (decide (z ≠ 0))) ∧ Below w.heap.size w w' := by
  obtain ⟨ng, ao, n, cap, xs, rfl, _⟩ := id h
  have hb := hAl w (.cells #[.bool ng, .slice ao n cap] 30)
  have hS := sign_ne z
  have K := hide (signF _ z _ L (h.ru (Ru.of_below hb)) hL)
  clear h
  go_enter Try.func42, Try.ntmps42
  go_wp2_with fail
  refine K.out.mono ?_
  rintro e w1 ⟨rfl, hb1⟩
  have HB := hide (hb.trans (hb1.mono hb.size))
  clear hb hb1 K
  generalize Int.sign z = sz at *
  go_wp2
  refine bodyPost_ret (v := _) (by simp [results, Try.results42, go_sem]; try rfl) rfl ⟨by simp, HB.out⟩
theorem has_other : Has Try.prog 42 := by unfold Has; kernel_rfl
end Lm
end Go.Proofs.Ytodgiglhconkoaa

namespace Go.Proofs.Ytodgiglhconkoaa
namespace Lm
open Go Go.RowKit
def Turn (w : World) (f : FuncId) (cap : Array Value) (zs : List Int) (L M : Nat) (g : Nat → Int) : Prop := ∀ (W : World) (c : Nat) (z : Int) (xv : Value), Below w.heap.size w W → zs[c]? = some z → IsW z L xv W → Calls Try.prog f (#[.int .i64 (c : Int), xv] ++ cap) W fun e W' => ∃ v, e = .returned v ∧ FrW W.heap.size (g c) M v W' ∧ Below W.heap.size W W'
theorem Turn.below {w w1 : World} {f : FuncId} {cap : Array Value} {zs : List Int} {L M : Nat} {g : Nat → Int} (h : Turn w f cap zs L M g) (hb : Below w.heap.size w w1) : Turn w1 f cap zs L M g := fun W c z xv h1 h2 h3 => h W c z xv (hb.trans (h1.mono hb.size)) h2 h3
def gRow (g : Nat → Int) (n : Nat) : List Int := (List.range n).map g
theorem gRow_len (g : Nat → Int) (n : Nat) : (gRow g n).length = n := by simp [gRow]
theorem gRow_at {g : Nat → Int} {n k : Nat} (h : k < n) : (gRow g n)[k]? = some (g k) := by simp [gRow, h]
set_option maxRecDepth 20000 in
set_option maxHeartbeats 4000000 in
theorem mturned_any (w : World) (v : Value) (zs : List Int) (L M : Nat) (h : IsRow w v zs L) (hl : zs.length ≤ 1000000) (f : FuncId) (hf : Has Try.prog f) (cap : Array Value) (g : Nat → Int) (hT : Turn w f cap zs L M g) :
    Calls Try.prog 46 #[v, .func (.func f) #[] cap] w fun e w' => ∃ r, e = .returned r ∧ ORow w.heap.size w' r (gRow g zs.length) M ∧ Below w.heap.size w w' := by
  obtain ⟨ao, cp, rfl, _⟩ := h.parts
  have H := hide h
  have HTN := hide hT
  clear h hT
  obtain ⟨n, hnn⟩ : ∃ n, zs.length = n := ⟨_, rfl⟩
  rw [hnn] at H hl ⊢
  have HN := hide hnn
  clear hnn
  obtain ⟨iW, hi, hz0, hz1, hz2⟩ := info_parts infoWz
  go_enter Try.func46, Try.ntmps46
  go_wp2_with (refine wpList_make_full _ rfl (.tmp 9) (.tmp 9) 27 rfl w.heap.size 30 iW (.agg #[.bool false, .slice none 0 0]) 2 Try.underlying27 hi hz0 hz1 .i64 .i64 _ _ n rfl rfl (by omega) (by omega) (by rw [hz2]; omega) (by unfold maxLen; omega) (Nat.le_refl _) ?hK)
  case hK =>
    intro w2 hown hgrow
    have hb2 : Below w.heap.size w w2 := (Below.refl _ _).grown hgrow (Nat.le_refl _) (by simp)
    obtain ⟨_, hmb⟩ := made_block hown
    rw [made_two] at hmb
    have HP0 := hide (PRow.start (K := w.heap.size) (zs := gRow g n) (L := M) hmb)
    have HB := hide hb2
    clear hown hgrow hmb hb2
    go_wp2
    go_loopw [6, 7, 13] (fun _ _ iv wr => ∃ (k : Nat), iv = .int .i64 k ∧ k ≤ n ∧ Below w.heap.size w wr ∧ PRow w.heap.size wr w.heap.size n k (gRow g n) M) (fun _ _ iv _ => n - (intOf iv).toNat)
    case atStart => exact ⟨0, rfl, Nat.zero_le _, HB.out, HP0.out⟩
    case round =>
      obtain ⟨k, rfl, hk, hbw, hp⟩ := hrel
      have HW := hide hbw
      have HP := hide hp
      by_cases hlt : k < n
      · obtain ⟨z, hz⟩ : ∃ z, zs[k]? = some z := ⟨_, List.getElem?_eq_getElem (by have := HN.out; omega)⟩
        obtain ⟨b, off, ngx, ax, mx, cx, rfl, hbl, x0, x1, hx⟩ := H.out.cell hz
        replace x0 := (hbw.cell (p := ⟨b, off + k * 2, none⟩) hbl).trans x0
        replace x1 := (hbw.cell (p := ⟨b, off + k * 2 + 1, none⟩) hbl).trans x1
        have hlt' : (k : Int) < (n : Int) := by omega
        have hba : Below wr.heap.size wr (wr.alloc (.cells #[.bool ngx, .slice ax mx cx] 30)) := hAl _ _
        have KC := hide (HTN.out _ k z (.agg #[.bool ngx, .slice ax mx cx]) (hbw.trans (hba.mono hbw.size)) hz ((hx.ru (Ru.of_below hbw)).ru (Ru.of_below hba)))
        clear hbw hp hx hz
        have hE : ∀ args w, (callFunc f args).run Try.prog w = .ok (.enter f args) w := fun args w => hf.enter args w
        go_wp2_with fail
        refine KC.out.mono ?_
        rintro e w3 ⟨v1, rfl, h1, hb3⟩
        have hb3' := hba.trans (hb3.mono hba.size)
        obtain ⟨ng1, ao1, k1, cap1, rfl⟩ := h1.agg
        have HF := hide (h1.low hba.size)
        obtain ⟨⟨ngp, ap, mp, cp', p0, p1⟩, pf0, pf1⟩ := (HP.out.below hb3').cells hlt
        have hpl := (HP.out.below hb3').lt
        have HB3 := hide hb3'
        clear h1 hb3 hb3' hba x0 x1 KC hE
        go_wp2
        obtain ⟨q1, q2⟩ := HP.out.put (Nat.le_refl _) HB3.out hlt (gRow_at hlt) HW.out.size HF.out
        go_roundw
        case rel => exact ⟨k + 1, by go_num, by omega, HW.out.trans (q2.below HW.out.size (Nat.le_refl _) (Nat.le_refl _)), q1⟩
        case measure => simp [intOf]; omega
      · have hlt' : decide ((k : Int) < (n : Int)) = false := by simp; omega
        have hkn : k = n := by omega
        subst hkn
        clear hbw hp
        go_wp2
        refine bodyPost_ret (v := _) (by simp [results, Try.results46, go_sem]; try rfl) rfl ⟨_, rfl, ⟨_, by rw [gRow_len], Nat.le_refl _, by rw [gRow_len]; exact HP.out, by rw [gRow_len]; exact hl⟩, HW.out⟩
end Lm
end Go.Proofs.Ytodgiglhconkoaa

namespace Go.Proofs.Ytodgiglhconkoaa
namespace Lm
open Go Go.RowKit
def Nums (w : World) (v : Value) (zs : List Int) : Prop := Ce w v 1 zs.length (zs.map (Value.int .i64))
theorem Nums.cell {w : World} {ao : Option Addr} {n cap : Nat} {zs : List Int} {i : Nat} (h : Nums w (.slice ao n cap) zs) (hi : i < zs.length) : ∃ b off, ao = some ⟨b, off, none⟩ ∧ w.cell? ⟨b, off + i, none⟩ = some (.int .i64 zs[i]) := by
  obtain ⟨ao', cap', hv, c1, c2, c3, c4⟩ := h
  obtain ⟨rfl, rfl, rfl⟩ := (Value.slice.injEq .. ▸ hv)
  rcases c4 with c4 | ⟨b, off, rfl, hl, hc⟩
  · omega
  · exact ⟨b, off, rfl, hc _ _ (by simp [hi])⟩
theorem Nums.parts {w : World} {ao : Option Addr} {n cap : Nat} {zs : List Int} (h : Nums w (.slice ao n cap) zs) : n = zs.length ∧ n ≤ 9223372036854775807 := by
  obtain ⟨ao', cap', hv, c1, c2, c3, c4⟩ := h
  obtain ⟨rfl, rfl, rfl⟩ := (Value.slice.injEq .. ▸ hv)
  exact ⟨rfl, by omega⟩
set_option maxRecDepth 20000 in
set_option maxHeartbeats 400000 in
theorem index_any (w : World) (ao : Option Addr) (n cap : Nat) (zs : List Int) (z : Int) (h : Nums w (.slice ao n cap) zs) :
    Calls Try.prog 69 #[.slice ao n cap, .int .i64 z] w fun e w' => (∃ r : Int, e = .returned (.int .i64 r) ∧ decide (0 ≤ r) = decide (z ∈ zs)) ∧ w' = w := by
  obtain ⟨hn, hb⟩ := h.parts
  have H := hide h
  clear h
  go_enter Try.func69, Try.ntmps69
  go_wp2
  go_loopw [5, 8] (fun _ iv wr => ∃ (i : Nat), iv = .int .i64 i ∧ i ≤ n ∧ z ∉ zs.take i ∧ wr = w) (fun _ iv _ => n - (intOf iv).toNat)
  case atStart => exact ⟨0, rfl, Nat.zero_le _, by simp, rfl⟩
  case round =>
    obtain ⟨i, rfl, hi, hz, rfl⟩ := hrel
    have HZ := hide hz
    clear hz
    by_cases hlt : i < n
    · obtain ⟨b, off, rfl, hc⟩ := H.out.cell (i := i) (by omega)
      have hlt' : (i : Int) < (n : Int) := by omega
      have hget : zs[i]? = some (zs[i]'(by omega)) := List.getElem?_eq_getElem _
      generalize zs[i]'(by omega) = y at hc hget
      have HG := hide hget
      clear hget
      by_cases he : z = y
      · subst he
        go_wp2
        go_ret
        exact ⟨⟨i, rfl, by simp [List.mem_of_getElem? HG.out]⟩, rfl⟩
      · have hne : (z == y) = false := beq_eq_false_iff_ne.2 he
        go_wp2
        go_roundw
        case rel => exact ⟨i + 1, by go_num, by omega, by rw [List.take_add_one, HG.out]; simp [HZ.out, he], trivial⟩
        case measure => simp [intOf]; omega
    · have hlt' : decide ((i : Int) < (n : Int)) = false := by simp; omega
      go_wp2
      go_ret
      exact ⟨⟨-1, rfl, by have := HZ.out; rw [List.take_of_length_le (by omega)] at this; simp [this]⟩, rfl⟩
theorem contains_any (w : World) (ao : Option Addr) (n cap : Nat) (zs : List Int) (z : Int) (h : Nums w (.slice ao n cap) zs) :
    Calls Try.prog 56 #[.slice ao n cap, .int .i64 z] w fun e w' => e = .returned (.bool (decide (z ∈ zs))) ∧ w' = w := by
  have H := hide h
  clear h
  go_enter Try.func56, Try.ntmps56
  go_wp2_with fail
  refine (index_any _ _ _ _ zs _ H.out).mono ?_
  rintro e w' ⟨⟨r, rfl, hr⟩, rfl⟩
  go_wp2
  go_ret
  exact ⟨rfl, rfl⟩
end Lm
end Go.Proofs.Ytodgiglhconkoaa

namespace Go.Proofs.Ytodgiglhconkoaa
namespace Lm
open Go Go.RowKit
def IsM (w : World) (v : Value) (rows : List (List Int)) (L : Nat) : Prop := ∃ vs : List Value, Ce w v 1 rows.length vs ∧ ∀ (i : Nat) (u : Value) (z : List Int), vs[i]? = some u → rows[i]? = some z → IsRow w u z L
def IsP (w : World) (v : Value) (P : List Nat) : Prop := Ce w v 1 P.length (P.map (fun p : Nat => Value.int .i64 (p : Int)))
theorem IsM.below {w w' : World} {v : Value} {rows : List (List Int)} {L : Nat} (h : IsM w v rows L) (hb : Below w.heap.size w w') : IsM w' v rows L := by
  obtain ⟨vs, h1, h2⟩ := h
  exact ⟨vs, h1.below hb, fun i u z hu hz => (h2 i u z hu hz).below hb⟩
theorem IsP.below {w w' : World} {v : Value} {P : List Nat} (h : IsP w v P) (hb : Below w.heap.size w w') : IsP w' v P := Ce.below h hb
theorem IsM.parts {w : World} {v : Value} {rows : List (List Int)} {L : Nat} (h : IsM w v rows L) : ∃ ao cap, v = .slice ao rows.length cap ∧ rows.length ≤ 9223372036854775807 := by
  obtain ⟨vs, ⟨ao, cap, rfl, h1, h2, _⟩, _⟩ := h
  exact ⟨ao, cap, rfl, by omega⟩
theorem IsP.parts {w : World} {v : Value} {P : List Nat} (h : IsP w v P) : ∃ ao cap, v = .slice ao P.length cap ∧ P.length ≤ 9223372036854775807 := by
  obtain ⟨ao, cap, rfl, h1, h2, _⟩ := h
  exact ⟨ao, cap, rfl, by omega⟩
theorem IsM.cell {w : World} {ao : Option Addr} {n cap : Nat} {rows : List (List Int)} {L i : Nat} {z : List Int} (h : IsM w (.slice ao n cap) rows L) (hz : rows[i]? = some z) : ∃ b off u, ao = some ⟨b, off, none⟩ ∧ b < w.heap.size ∧ w.cell? ⟨b, off + i, none⟩ = some u ∧ IsRow w u z L := by
  obtain ⟨vs, ⟨ao', cap', hv, h1, h2, h3, h4⟩, h5⟩ := h
  obtain ⟨rfl, rfl, rfl⟩ := (Value.slice.injEq .. ▸ hv)
  have hi : i < rows.length := (List.getElem?_eq_some_iff.1 hz).1
  obtain ⟨u, hu⟩ : ∃ u, vs[i]? = some u := ⟨_, List.getElem?_eq_getElem (by omega)⟩
  rcases h4 with h4 | ⟨b, off, rfl, hl, hc⟩
  · omega
  · exact ⟨b, off, u, rfl, hl, hc i u hu, h5 i u z hu hz⟩
theorem IsP.cell {w : World} {ao : Option Addr} {n cap : Nat} {P : List Nat} {i p : Nat} (h : IsP w (.slice ao n cap) P) (hp : P[i]? = some p) : ∃ b off, ao = some ⟨b, off, none⟩ ∧ b < w.heap.size ∧ w.cell? ⟨b, off + i, none⟩ = some (.int .i64 (p : Int)) := by
  obtain ⟨ao', cap', hv, h1, h2, h3, h4⟩ := h
  obtain ⟨rfl, rfl, rfl⟩ := (Value.slice.injEq .. ▸ hv)
  have hi : i < P.length := (List.getElem?_eq_some_iff.1 hp).1
  rcases h4 with h4 | ⟨b, off, rfl, hl, hc⟩
  · omega
  · exact ⟨b, off, rfl, hl, hc i _ (by rw [List.getElem?_map, hp]; rfl)⟩
theorem IsP.nums {w : World} {v : Value} {P : List Nat} (h : IsP w v P) : Nums w v (P.map (fun p : Nat => (p : Int))) := by
  unfold Nums
  rw [List.length_map, List.map_map]
  exact h
def Bas (w : World) (q : Nat) (P : List Nat) (rows : List (List Int)) (lead : Int) (L : Nat) : Prop := ∃ rv pv ng la lm lc, w.heap[q]? = some (.cells #[rv, pv, .bool ng, .slice la lm lc] 54 (0, 0)) ∧ IsM w rv rows L ∧ IsP w pv P ∧ IsW lead L (.agg #[.bool ng, .slice la lm lc]) w
theorem Bas.below {w w' : World} {q : Nat} {P : List Nat} {rows : List (List Int)} {lead : Int} {L : Nat} (h : Bas w q P rows lead L) (hb : Below w.heap.size w w') : Bas w' q P rows lead L := by
  obtain ⟨rv, pv, ng, la, lm, lc, h1, h2, h3, h4⟩ := h
  exact ⟨rv, pv, ng, la, lm, lc, (hb.block _ (lt_of_heap h1)).trans h1, h2.below hb, h3.below hb, h4.ru (Ru.of_below hb)⟩
section
variable {dst : Option Tmp} {ty : TypeId} {pos : String} {after : Array Edge} {guard : Option (Nat × Bool)} {a : Act} {w : World} {ats : Array TypeId} {i j k g : Nat} {x y : Int} {L M K : Nat}
theorem op_ldbp {p : Addr} {o : Option Addr} (hp : a.eval (.tmp k) = .pointer (some p)) (hc : w.cell? p = some (.pointer o)) :
    Does Try.prog { dst, op := .load 81 (.tmp k), type := ty, pos, after, guard } a.eval w fun v' w' => Below w.heap.size w w' ∧ Eqs (.pointer o) v' w' := by
  refine does_load (v := .pointer o) ?_ ⟨Below.refl _ _, rfl⟩
  rw [hp]
  go_simp
theorem op_ldsR {p : Addr} {ao : Option Addr} {n c : Nat} (hp : a.eval (.tmp k) = .pointer (some p)) (hc : w.cell? p = some (.slice ao n c)) :
    Does Try.prog { dst, op := .load 22 (.tmp k), type := ty, pos, after, guard } a.eval w fun v' w' => Below w.heap.size w w' ∧ Eqs (.slice ao n c) v' w' := by
  refine does_load (v := .slice ao n c) ?_ ⟨Below.refl _ _, rfl⟩
  rw [hp]
  go_simp
theorem op_ldsW {p : Addr} {ao : Option Addr} {n c : Nat} (hp : a.eval (.tmp k) = .pointer (some p)) (hc : w.cell? p = some (.slice ao n c)) :
    Does Try.prog { dst, op := .load 27 (.tmp k), type := ty, pos, after, guard } a.eval w fun v' w' => Below w.heap.size w w' ∧ Eqs (.slice ao n c) v' w' := by
  refine does_load (v := .slice ao n c) ?_ ⟨Below.refl _ _, rfl⟩
  rw [hp]
  go_simp
theorem op_ldsI {p : Addr} {ao : Option Addr} {n c : Nat} (hp : a.eval (.tmp k) = .pointer (some p)) (hc : w.cell? p = some (.slice ao n c)) :
    Does Try.prog { dst, op := .load 23 (.tmp k), type := ty, pos, after, guard } a.eval w fun v' w' => Below w.heap.size w w' ∧ Eqs (.slice ao n c) v' w' := by
  refine does_load (v := .slice ao n c) ?_ ⟨Below.refl _ _, rfl⟩
  rw [hp]
  go_simp
theorem op_nilc {p : Addr} (hp : a.eval (.tmp k) = .pointer (some p)) :
    Does Try.prog { dst, op := .nilCheck (.tmp k), type := ty, pos, after, guard } a.eval w fun v' w' => Below w.heap.size w w' ∧ Eqs (.pointer (some p)) v' w' := by
  have e : (execOp a.eval { dst, op := .nilCheck (.tmp k), type := ty, pos, after, guard }).run Try.prog w = .ok (.value (.pointer (some p))) w := by
    simp only [execOp, hp]
    go_simp
  refine ⟨?_⟩
  unfold Turns
  rw [e]
  exact ⟨Below.refl _ _, rfl⟩
theorem op_faB {f off : Nat} (hf : ∀ w : World, (Instr.fieldAt 54 (.pointer (some ⟨g, 0, none⟩)) f).run Try.prog w = .ok (.pointer (some ⟨g, off, none⟩)) w) (hp : a.eval (.tmp k) = .pointer (some ⟨g, 0, none⟩)) :
    Does Try.prog { dst, op := .fieldAddr 54 (.tmp k) f, type := ty, pos, after, guard } a.eval w fun v' w' => Below w.heap.size w w' ∧ Eqs (.pointer (some ⟨g, off, none⟩)) v' w' := by
  refine ⟨?_⟩
  unfold Turns
  simp only [execOp, hp]
  simp [hf]
  exact ⟨Below.refl _ _, rfl⟩
theorem fab0 (w : World) : (Instr.fieldAt 54 (.pointer (some ⟨g, 0, none⟩)) 0).run Try.prog w = .ok (.pointer (some ⟨g, 0, none⟩)) w := by go_simp
theorem fab1 (w : World) : (Instr.fieldAt 54 (.pointer (some ⟨g, 0, none⟩)) 1).run Try.prog w = .ok (.pointer (some ⟨g, 1, none⟩)) w := by go_simp
theorem fab2 (w : World) : (Instr.fieldAt 54 (.pointer (some ⟨g, 0, none⟩)) 2).run Try.prog w = .ok (.pointer (some ⟨g, 2, none⟩)) w := by go_simp
theorem op_idxM {b off n c m : Nat} {ao : Option Addr} (h : a.eval (.tmp i) = .slice ao n c) (hao : ao = some ⟨b, off, none⟩) (hk : a.eval (.tmp j) = .int .i64 (m : Int)) (hl : m < n) : Does Try.prog { dst, op := .indexAddr 22 (.tmp i) (.tmp j), type := ty, pos, after, guard } a.eval w fun v' w' => Below w.heap.size w w' ∧ Eqs (.pointer (some ⟨b, off + m, none⟩)) v' w' := by
  subst hao
  have hl' : (m : Int) < (n : Int) := by omega
  have e : (execOp a.eval { dst, op := .indexAddr 22 (.tmp i) (.tmp j), type := ty, pos, after, guard }).run Try.prog w = .ok (.value (.pointer (some ⟨b, off + m, none⟩))) w := by
    simp only [execOp, h, hk]
    go_simp
  refine ⟨?_⟩
  unfold Turns
  rw [e]
  exact ⟨Below.refl _ _, rfl⟩
theorem op_mulw (h1 : IsW x L (a.eval (.tmp i)) w) (h2 : IsW y M (a.eval (.tmp j)) w) (hL : L ≤ 400000) (hM : M ≤ 400000) (hK : K ≤ w.heap.size) :
    Does Try.prog { dst, op := .call { callee := .value (.func 8), args := #[.tmp i, .tmp j], argTypes := ats }, type := ty, pos, after, guard } a.eval w fun v w' => Below w.heap.size w w' ∧ FrW K (x * y) (L + M) v w' :=
  does_call has_mul #[_, _] (by simp) ((mulF _ x y _ _ L M h1 h2 hL hM).mono fun e w' ⟨v, h, hf, hb⟩ => ⟨v, h, hb, hf.low hK⟩)
theorem op_subw (h1 : IsW x L (a.eval (.tmp i)) w) (h2 : IsW y M (a.eval (.tmp j)) w) (hL : L ≤ 400000) (hM : M ≤ 400000) (hK : K ≤ w.heap.size) :
    Does Try.prog { dst, op := .call { callee := .value (.func 57), args := #[.tmp i, .tmp j], argTypes := ats }, type := ty, pos, after, guard } a.eval w fun v w' => Below w.heap.size w w' ∧ FrW K (x - y) (L + M + 1) v w' :=
  does_call has_sub #[_, _] (by simp) ((subF _ x y _ _ L M h1 h2 hL hM).mono fun e w' ⟨v, h, hf, hb⟩ => ⟨v, h, hb, hf.low hK⟩)
end
end Lm
end Go.Proofs.Ytodgiglhconkoaa

