/-
  The contracts of Uint, gcdShort and Gcd.
-/
import Derived.Test.YthbomfboohjcfaaLhS
namespace Go.Proofs.Ythbomfboohjcfaa
namespace Lm
open Go.RowKit

theorem two_val' {rs : List Int} (h : ¬ 2 < rs.length) : rs.getD 1 0 * 4294967296 + rs.getD 0 0 = val rs := by
  match rs, h with
  | [], _ => rfl
  | [x], _ => simp [val]
  | [x, y], _ => simp [val]; omega
  | _ :: _ :: _ :: _, h => simp at h

theorem ret2_u64' {a b : Int} (h : a = b) : Ending.returned (.tuple #[.int .u64 a, .bool true]) = .returned (.tuple #[.int .u64 b, .bool true]) := by rw [h]

theorem short_val' {rs : List Int} (h : Limb rs) (h2 : rs.length ≤ 2) : 0 ≤ val rs ∧ val rs < 18446744073709551616 := by
  have h1 := val_bounds h
  have h3 := pw_mono (m := rs.length) (n := 2) (by omega)
  rw [show pw 2 = 18446744073709551616 from by decide] at h3
  omega

set_option maxRecDepth 20000 in
set_option maxHeartbeats 400000 in
theorem uint_short (w : World) (ao : Option Addr) (n cap : Nat) (xs : List Int) (hx : Sl w (.slice ao n cap) xs) (hs : xs.length ≤ 2) :
    Calls Try.prog 57 #[.slice ao n cap] w fun e w' => e = .returned (.tuple #[.int .u64 (val xs), .bool true]) ∧ w' = w := by
  obtain ⟨rfl, h1, h2, h3⟩ := hx.parts
  have t1 := tl_le xs
  have kc := hide (cut_any w ao _ cap xs hx)
  have hcn := canon_trim h3
  have hX : (xs.take (tl xs)).length = tl xs := by simp; omega
  have h2' : ¬ (2 : Int) < ((tl xs : Nat) : Int) := by omega
  have E3 := hide (two_val' (rs := xs.take (tl xs)) (by omega))
  rw [val_take_tl] at E3
  have b1 := limb_getD hcn.1 1
  have b0 := limb_getD hcn.1 0
  have k1 := limb_nat w _ _ hx.cut 1
  have k0 := limb_nat w _ _ hx.cut 0
  generalize (xs.take (tl xs)).getD 1 0 = y1 at E3 b1 k1
  generalize (xs.take (tl xs)).getD 0 0 = y0 at E3 b0 k0
  have K1 := hide k1
  have K0 := hide k0
  have hor : bits .or .u64 (y1 * 4294967296) y0 = y1 * 4294967296 + y0 := or_join y1 y0 b1.1 b1.2 b0.1 b0.2
  clear hcn hX k1 k0
  go_enter Try.func57, Try.ntmps57
  go_wp2_with fail
  refine (kc.out).mono ?_
  rintro e w' ⟨rfl, rfl⟩
  go_wp2_with fail
  refine (K1.out).mono ?_
  rintro e w' ⟨rfl, rfl⟩
  go_wp2_with fail
  refine (K0.out).mono ?_
  rintro e w' ⟨rfl, rfl⟩
  go_wp2
  go_ret2
  exact ⟨ret2_u64' E3.out, rfl⟩

theorem gcd_mod (m n : Int) : Int.gcd n (m % n) = Int.gcd m n := by
  have h1 := gcd_step m n (m / n)
  have h2 := Int.mul_ediv_add_emod m n
  rw [Int.mul_comm] at h2
  rw [show m - m / n * n = m % n by omega] at h1
  exact h1

theorem ret_u64 {a b : Int} (h : a = b) : Ending.returned (.int .u64 a) = .returned (.int .u64 b) := by rw [h]

set_option maxRecDepth 20000 in
set_option maxHeartbeats 400000 in
theorem gcdShort_any (w : World) (m n : Int) (hm : 0 ≤ m ∧ m < 18446744073709551616) (hn : 0 ≤ n ∧ n < 18446744073709551616) :
    Calls Try.prog 58 #[.int .u64 m, .int .u64 n] w fun e w' => e = .returned (.int .u64 (Int.gcd m n)) ∧ Below w.heap.size w w' := by
  go_enter Try.func58, Try.ntmps58
  go_wp2
  go_loopw [0, 1] (fun mv nv wr => ∃ a b : Int, mv = .int .u64 a ∧ nv = .int .u64 b ∧ (0 ≤ a ∧ a < 18446744073709551616) ∧ (0 ≤ b ∧ b < 18446744073709551616) ∧ Int.gcd a b = Int.gcd m n ∧ Below w.heap.size w wr) (fun _ nv _ => (intOf nv).toNat)
  case atStart => exact ⟨m, n, rfl, rfl, hm, hn, rfl, Below.refl _ _⟩
  case round =>
    obtain ⟨a, b, rfl, rfl, ha, hb, hg, HB⟩ := hrel
    have HG := hide hg
    clear hg
    by_cases h0 : b = 0
    · subst h0
      have HF : Hid (a = (Int.gcd m n : Int)) := by
        show _ = _
        rw [← HG.out, Int.gcd_zero_right]
        omega
      go_wp2
      go_ret
      exact ⟨ret_u64 HF.out, HB⟩
    · have hbb : (b != 0) = true := by simp [h0]
      have t1 : a.tmod b = a % b := Int.tmod_eq_emod_of_nonneg ha.1
      have r0 := Int.emod_nonneg a h0
      have r1 := Int.emod_lt_of_pos a (show 0 < b by omega)
      have HG' := hide ((gcd_mod a b).trans HG.out)
      go_wp2
      go_quiet (fail)
      go_wp2
      go_roundw
      case rel => exact ⟨b, a % b, rfl, rfl, hb, by omega, HG'.out, below_drewN HB _⟩
      case measure => simp [intOf]; omega

theorem Is.ow {B : Nat} {w : World} {v : Value} {x : Int} (h : Is B w v x) : ∃ ao cap rs, v = .slice ao rs.length cap ∧ Ow B w (.slice ao rs.length cap) rs ∧ Canon rs ∧ val rs = x := by
  obtain ⟨rs, ho, hc, hv⟩ := h
  obtain ⟨ao, cap, rfl, h1, h2, h3, h4⟩ := ho
  exact ⟨ao, cap, rs, rfl, ⟨ao, cap, rfl, h1, h2, h3, h4⟩, hc, hv⟩

theorem trim_is' (w : World) (ao : Option Addr) (n cap : Nat) (zs : List Int) (h : Sl w (.slice ao n cap) zs) (hz : zs.length ≤ 1000000) :
    Calls Try.prog 11 #[.slice ao n cap] w fun e w' => ∃ ao cap rs, e = .returned (.slice ao rs.length cap) ∧ Ow w.heap.size w' (.slice ao rs.length cap) rs ∧ Canon rs ∧ val rs = val zs ∧ rs.length ≤ zs.length ∧ Below w.heap.size w w' := by
  refine (trim_any w ao n cap zs h hz).mono ?_
  rintro e w' ⟨v, rfl, ho, hb⟩
  obtain ⟨ao', cap', rs, rfl, h1, h2, h3⟩ := Is.ow (B := w.heap.size) ⟨_, ho, canon_trim h.parts.2.2.2, val_take_tl zs⟩
  exact ⟨ao', cap', rs, rfl, h1, h2, h3, le_len h.parts.2.2.2 h2 (by omega), hb⟩

theorem sl_one_list {w : World} {v : Value} {r s : List Int} (h1 : Sl w v r) (h2 : Sl w v s) : r = s := by
  obtain ⟨ao, cap, rfl, _, _, _, h4⟩ := h1
  obtain ⟨ao', cap', hv, _, _, _, g4⟩ := h2
  obtain ⟨rfl, hl, rfl⟩ := (Value.slice.injEq .. ▸ hv)
  apply List.ext_getElem hl
  intro i hi1 hi2
  rcases h4 with rfl | ⟨b, off, rfl, hc⟩
  · simp at hi1
  rcases g4 with rfl | ⟨b', off', e, hc'⟩
  · simp at hi2
  · obtain ⟨rfl, rfl⟩ : b = b' ∧ off = off' := by simpa using e
    have e1 := hc i hi1
    have e2 := hc' i hi2
    rw [e1] at e2
    simp only [Option.some.injEq, Value.int.injEq, true_and, List.getD_eq_getElem?_getD, List.getElem?_eq_getElem hi1, List.getElem?_eq_getElem hi2, Option.getD_some] at e2
    exact e2

open Classical in
/-- What a slice is worth in a world. -/
noncomputable def worth (w : World) (v : Value) : Nat := if h : ∃ r, Sl w v r then (val (Classical.choose h)).toNat else 0

theorem worth_of {w : World} {v : Value} {r : List Int} (h : Sl w v r) : worth w v = (val r).toNat := by
  have hex : ∃ r, Sl w v r := ⟨r, h⟩
  unfold worth
  rw [dif_pos hex, sl_one_list (Classical.choose_spec hex) h]

set_option maxRecDepth 20000 in
set_option maxHeartbeats 2000000 in
theorem gcd_any (w : World) (a1 a2 : Option Addr) (n1 n2 c1 c2 : Nat) (xs ys : List Int) (hx : Sl w (.slice a1 n1 c1) xs) (hy : Sl w (.slice a2 n2 c2) ys) (hm1 : xs.length ≤ 400000) (hm2 : ys.length ≤ 400000) :
    Calls Try.prog 30 #[.slice a1 n1 c1, .slice a2 n2 c2] w fun e w' => ∃ v, e = .returned v ∧ Is w.heap.size w' v (Int.gcd (val xs) (val ys)) ∧ Below w.heap.size w w' := by
  go_enter Try.func30, Try.ntmps30
  go_wp2_with fail
  refine (trim_is' _ _ _ _ xs hx (by omega)).mono ?_
  rintro e w1 ⟨p1, q1, r1, rfl, o1, k1, v1, l1, hb1⟩
  go_wp2_with fail
  refine (trim_is' _ _ _ _ ys (hy.below hb1) (by omega)).mono ?_
  rintro e w2 ⟨p2, q2, r2, rfl, o2, k2, v2, l2, hb2⟩
  replace o1 := o1.below hb2
  replace o2 := o2.mono (B' := w.heap.size) hb1.size
  have HB2 := below_then hb1 hb2
  have C1 := hide k1
  have C2 := hide k2
  have V1 := hide v1
  have V2 := hide v2
  clear k1 k2 v1 v2
  have hle := fun (h : ¬ val r1 < val r2) => show val r2 ≤ val r1 by omega
  have g0 : ∀ {a b c d : Int}, Int.gcd a b = Int.gcd c d → ((Int.gcd a b : Nat) : Int) = ((Int.gcd c d : Nat) : Int) := fun h => by rw [h]
  have G1 : Hid (Int.gcd (val r1) (val r2) = Int.gcd (val xs) (val ys)) := by rw [V1.out, V2.out]; rfl
  have G2 : Hid (Int.gcd (val r2) (val r1) = Int.gcd (val xs) (val ys)) := by show _ = _; rw [Int.gcd_comm]; exact G1.out
  clear g0 hle
  by_cases hlt : val r1 < val r2
  · have k1 := hide (cmpI_lt hlt)
    have HLT := hide hlt
    clear hlt
    go_wp2_with fail
    refine (cmp_any _ _ _ _ _ _ _ r1 r2 o1.sl o2.sl).mono ?_
    rintro e w3 ⟨rfl, hb3⟩
    rw [k1.out]
    replace o1 := o1.below hb3
    replace o2 := o2.below hb3
    have HB3 := below_then HB2 hb3
    go_wp2
    go_loopw [5, 6] (fun xv yv wr => ∃ (p p' : Option Addr) (q q' : Nat) (r r' : List Int), xv = .slice p r.length q ∧ yv = .slice p' r'.length q' ∧ Ow w.heap.size wr (.slice p r.length q) r ∧ Canon r ∧ Ow w.heap.size wr (.slice p' r'.length q') r' ∧ Canon r' ∧ val r' ≤ val r ∧ r.length ≤ 400000 ∧ Int.gcd (val r) (val r') = Int.gcd (val xs) (val ys) ∧ Below w.heap.size w wr) (fun _ yv wr => worth wr yv)
    case atStart => exact ⟨p2, p1, q2, q1, r2, r1, rfl, rfl, o2, C2.out, o1, C1.out, by have := HLT.out; omega, by omega, G2.out, HB3⟩
    case round =>
      obtain ⟨p, p', q, q', r, r', rfl, rfl, hr, hcr, hr', hcr', hle, hlr, hg, HB⟩ := hrel
      obtain ⟨_, z1, z2, z3⟩ := hr.sl.parts
      obtain ⟨_, y1, y2, y3⟩ := hr'.sl.parts
      have HCR := hide hcr
      have HCR' := hide hcr'
      have HLE := hide hle
      have HG := hide hg
      have Z3 := hide z3
      have Y3 := hide y3
      have hrl : r'.length ≤ r.length := le_len z3 hcr' hle
      clear hcr hcr' hle hg z3 y3
      by_cases h2 : 2 < r'.length
      · have h2' : (2 : Int) < (r'.length : Int) := by omega
        have ks := hide (shrink_any wr w.heap.size HB.size p p' q q' r r' hr hr' HCR'.out hlr h2 HLE.out)
        have MW := hide (worth_of hr'.sl)
        have V0 := hide (val_bounds Y3.out).1
        go_wp2_with fail
        refine (ks.out).mono ?_
        rintro e w5 ⟨v5, v6, X', Y', rfl, i5, i6, hle5, hlt5, htop5, hg5, hb5⟩
        obtain ⟨p5, q5, r5, rfl, o5, c5, e5⟩ := i5.ow
        obtain ⟨p6, q6, r6, rfl, o6, c6, e6⟩ := i6.ow
        have MW5 := hide (worth_of o6.sl)
        have L5 : Hid (r5.length ≤ 400000) := by
          have h9 := le_len Z3.out c5 (by rw [e5]; exact htop5)
          show _ ≤ _
          omega
        have R := hide (And.intro e5 (And.intro e6 (And.intro hle5 (And.intro hlt5 hg5))))
        have C5 := hide c5
        have C6 := hide c6
        have Z5 := hide (HB.trans (hb5.mono HB.size))
        clear e5 e6 hle5 hlt5 htop5 hg5 c5 c6
        go_wp2
        go_roundw
        case rel => exact ⟨p5, p6, q5, q6, r5, r6, rfl, rfl, o5, C5.out, o6, C6.out, by rw [R.out.1, R.out.2.1]; exact R.out.2.2.1, L5.out, by rw [R.out.1, R.out.2.1, R.out.2.2.2.2]; exact HG.out, Z5.out⟩
        case measure =>
          rw [MW.out, MW5.out, R.out.2.1]
          have h8 := (val_bounds C6.out.1).1
          rw [R.out.2.1] at h8
          have h7 := R.out.2.2.2.1
          omega
      · have h2' : ¬ (2 : Int) < (r'.length : Int) := by omega
        by_cases h0 : val r' = 0
        · have kd := hide (divmod_none wr _ _ _ _ _ _ r r' hr.sl hr'.sl h0)
          have F : Hid (Is w.heap.size wr (.slice p r.length q) (Int.gcd (val xs) (val ys))) := by
            refine ⟨r, hr, HCR.out, ?_⟩
            rw [← HG.out, h0, Int.gcd_zero_right]
            have := (val_bounds Z3.out).1
            omega
          go_wp2_with fail
          refine (kd.out).mono ?_
          rintro e w5 ⟨rfl, hb5⟩
          have F5 := hide (F.out.below hb5)
          have Z5 := hide (HB.trans (hb5.mono HB.size))
          go_wp2
          go_ret
          exact ⟨_, rfl, F5.out, Z5.out⟩
        · have kd := hide (divmod_g wr _ _ _ _ _ _ r r' hr.sl hr'.sl (by omega) h0)
          have GM := hide ((gcd_mod (val r) (val r')).trans HG.out)
          have sv := short_val' Y3.out (by omega)
          go_wp2_with fail
          refine (kd.out).mono ?_
          rintro e w5 ⟨p5, q5, r5, p6, q6, r6, rfl, G5, G6, l5, l6, hb5⟩
          have hr5 := hr'.below hb5
          have sv6 := short_val' G6.canon.1 (by omega)
          have V6 := hide G6.val
          have Z5 := HB.trans (hb5.mono HB.size)
          go_wp2_with fail
          refine (uint_short _ _ _ _ r' hr5.sl (by omega)).mono ?_
          rintro e w6 ⟨rfl, rfl⟩
          go_wp2_with fail
          refine (uint_short _ _ _ _ r6 G6.sl (by omega)).mono ?_
          rintro e w6 ⟨rfl, rfl⟩
          go_wp2_with fail
          refine (gcdShort_any _ (val r') (val r6) sv sv6).mono ?_
          rintro e w7 ⟨rfl, hb7⟩
          have E7 : Hid (Int.gcd (val r') (val r6) = Int.gcd (val xs) (val ys)) := by rw [V6.out]; exact GM.out
          rw [E7.out]
          have hgl : Hid (((Int.gcd (val xs) (val ys) : Nat) : Int) < 18446744073709551616) := by
            have h9 : Int.gcd (val r') (val r6) ≤ (val r').natAbs := Int.gcd_le_natAbs_left _ (by omega)
            rw [E7.out] at h9
            show _ < _
            omega
          have Z7 := Z5.trans (hb7.mono Z5.size)
          have hs0 : (0 : Int) ≤ ((Int.gcd (val xs) (val ys) : Nat) : Int) := by omega
          obtain ⟨GG, hGG⟩ : ∃ G, ((Int.gcd (val xs) (val ys) : Nat) : Int) = G := ⟨_, rfl⟩
          rw [hGG] at hgl hs0 ⊢
          have HGG := hide hGG
          clear hGG
          go_wp2_with fail
          refine (small_any _ GG hs0 hgl.out).mono ?_
          rintro e w8 ⟨v8, rfl, i8, hb8⟩
          have R8 := hide (i8.mono (B' := w.heap.size) Z7.size)
          have Z8 := hide (Z7.trans (hb8.mono Z7.size))
          go_wp2
          go_ret
          exact ⟨_, rfl, by rw [HGG.out]; exact R8.out, Z8.out⟩
  · have HK : Hid (∃ k, cmpI (val r1) (val r2) = k ∧ ¬ k < 0) := ⟨_, rfl, fun h => hlt (cmpI_neg.1 h)⟩
    obtain ⟨k, hk, hk0⟩ := HK.out
    have k1 := hide hk
    have HLT := hide hlt
    clear hlt hk HK
    go_wp2_with fail
    refine (cmp_any _ _ _ _ _ _ _ r1 r2 o1.sl o2.sl).mono ?_
    rintro e w3 ⟨rfl, hb3⟩
    rw [k1.out]
    replace o1 := o1.below hb3
    replace o2 := o2.below hb3
    have HB3 := below_then HB2 hb3
    go_wp2
    go_loopw [5, 6] (fun xv yv wr => ∃ (p p' : Option Addr) (q q' : Nat) (r r' : List Int), xv = .slice p r.length q ∧ yv = .slice p' r'.length q' ∧ Ow w.heap.size wr (.slice p r.length q) r ∧ Canon r ∧ Ow w.heap.size wr (.slice p' r'.length q') r' ∧ Canon r' ∧ val r' ≤ val r ∧ r.length ≤ 400000 ∧ Int.gcd (val r) (val r') = Int.gcd (val xs) (val ys) ∧ Below w.heap.size w wr) (fun _ yv wr => worth wr yv)
    case atStart => exact ⟨p1, p2, q1, q2, r1, r2, rfl, rfl, o1, C1.out, o2, C2.out, by have := HLT.out; omega, by omega, G1.out, HB3⟩
    case round =>
      obtain ⟨p, p', q, q', r, r', rfl, rfl, hr, hcr, hr', hcr', hle, hlr, hg, HB⟩ := hrel
      obtain ⟨_, z1, z2, z3⟩ := hr.sl.parts
      obtain ⟨_, y1, y2, y3⟩ := hr'.sl.parts
      have HCR := hide hcr
      have HCR' := hide hcr'
      have HLE := hide hle
      have HG := hide hg
      have Z3 := hide z3
      have Y3 := hide y3
      have hrl : r'.length ≤ r.length := le_len z3 hcr' hle
      clear hcr hcr' hle hg z3 y3
      by_cases h2 : 2 < r'.length
      · have h2' : (2 : Int) < (r'.length : Int) := by omega
        have ks := hide (shrink_any wr w.heap.size HB.size p p' q q' r r' hr hr' HCR'.out hlr h2 HLE.out)
        have MW := hide (worth_of hr'.sl)
        have V0 := hide (val_bounds Y3.out).1
        go_wp2_with fail
        refine (ks.out).mono ?_
        rintro e w5 ⟨v5, v6, X', Y', rfl, i5, i6, hle5, hlt5, htop5, hg5, hb5⟩
        obtain ⟨p5, q5, r5, rfl, o5, c5, e5⟩ := i5.ow
        obtain ⟨p6, q6, r6, rfl, o6, c6, e6⟩ := i6.ow
        have MW5 := hide (worth_of o6.sl)
        have L5 : Hid (r5.length ≤ 400000) := by
          have h9 := le_len Z3.out c5 (by rw [e5]; exact htop5)
          show _ ≤ _
          omega
        have R := hide (And.intro e5 (And.intro e6 (And.intro hle5 (And.intro hlt5 hg5))))
        have C5 := hide c5
        have C6 := hide c6
        have Z5 := hide (HB.trans (hb5.mono HB.size))
        clear e5 e6 hle5 hlt5 htop5 hg5 c5 c6
        go_wp2
        go_roundw
        case rel => exact ⟨p5, p6, q5, q6, r5, r6, rfl, rfl, o5, C5.out, o6, C6.out, by rw [R.out.1, R.out.2.1]; exact R.out.2.2.1, L5.out, by rw [R.out.1, R.out.2.1, R.out.2.2.2.2]; exact HG.out, Z5.out⟩
        case measure =>
          rw [MW.out, MW5.out, R.out.2.1]
          have h8 := (val_bounds C6.out.1).1
          rw [R.out.2.1] at h8
          have h7 := R.out.2.2.2.1
          omega
      · have h2' : ¬ (2 : Int) < (r'.length : Int) := by omega
        by_cases h0 : val r' = 0
        · have kd := hide (divmod_none wr _ _ _ _ _ _ r r' hr.sl hr'.sl h0)
          have F : Hid (Is w.heap.size wr (.slice p r.length q) (Int.gcd (val xs) (val ys))) := by
            refine ⟨r, hr, HCR.out, ?_⟩
            rw [← HG.out, h0, Int.gcd_zero_right]
            have := (val_bounds Z3.out).1
            omega
          go_wp2_with fail
          refine (kd.out).mono ?_
          rintro e w5 ⟨rfl, hb5⟩
          have F5 := hide (F.out.below hb5)
          have Z5 := hide (HB.trans (hb5.mono HB.size))
          go_wp2
          go_ret
          exact ⟨_, rfl, F5.out, Z5.out⟩
        · have kd := hide (divmod_g wr _ _ _ _ _ _ r r' hr.sl hr'.sl (by omega) h0)
          have GM := hide ((gcd_mod (val r) (val r')).trans HG.out)
          have sv := short_val' Y3.out (by omega)
          go_wp2_with fail
          refine (kd.out).mono ?_
          rintro e w5 ⟨p5, q5, r5, p6, q6, r6, rfl, G5, G6, l5, l6, hb5⟩
          have hr5 := hr'.below hb5
          have sv6 := short_val' G6.canon.1 (by omega)
          have V6 := hide G6.val
          have Z5 := HB.trans (hb5.mono HB.size)
          go_wp2_with fail
          refine (uint_short _ _ _ _ r' hr5.sl (by omega)).mono ?_
          rintro e w6 ⟨rfl, rfl⟩
          go_wp2_with fail
          refine (uint_short _ _ _ _ r6 G6.sl (by omega)).mono ?_
          rintro e w6 ⟨rfl, rfl⟩
          go_wp2_with fail
          refine (gcdShort_any _ (val r') (val r6) sv sv6).mono ?_
          rintro e w7 ⟨rfl, hb7⟩
          have E7 : Hid (Int.gcd (val r') (val r6) = Int.gcd (val xs) (val ys)) := by rw [V6.out]; exact GM.out
          rw [E7.out]
          have hgl : Hid (((Int.gcd (val xs) (val ys) : Nat) : Int) < 18446744073709551616) := by
            have h9 : Int.gcd (val r') (val r6) ≤ (val r').natAbs := Int.gcd_le_natAbs_left _ (by omega)
            rw [E7.out] at h9
            show _ < _
            omega
          have Z7 := Z5.trans (hb7.mono Z5.size)
          have hs0 : (0 : Int) ≤ ((Int.gcd (val xs) (val ys) : Nat) : Int) := by omega
          obtain ⟨GG, hGG⟩ : ∃ G, ((Int.gcd (val xs) (val ys) : Nat) : Int) = G := ⟨_, rfl⟩
          rw [hGG] at hgl hs0 ⊢
          have HGG := hide hGG
          clear hGG
          go_wp2_with fail
          refine (small_any _ GG hs0 hgl.out).mono ?_
          rintro e w8 ⟨v8, rfl, i8, hb8⟩
          have R8 := hide (i8.mono (B' := w.heap.size) Z7.size)
          have Z8 := hide (Z7.trans (hb8.mono Z7.size))
          go_wp2
          go_ret
          exact ⟨_, rfl, by rw [HGG.out]; exact R8.out, Z8.out⟩

end Lm
end Go.Proofs.Ythbomfboohjcfaa
