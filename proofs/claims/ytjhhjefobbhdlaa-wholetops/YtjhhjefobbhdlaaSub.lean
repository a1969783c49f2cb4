/-
  The contract of Sub.
-/
import Derived.Test.YtjhhjefobbhdlaaAdd
namespace Go.Proofs.Ytjhhjefobbhdlaa
namespace Lm
open Go.RowKit

theorem cmpI_neg {x y : Int} : cmpI x y < 0 ↔ x < y := by
  unfold cmpI
  by_cases h : x < y
  · simp [h]
  · rw [if_neg h]
    by_cases h' : y < x
    · simp [h', h]
    · simp [h', h]

/-- What is borrowed: 1, if the number is below 0. -/
def bor (s : Int) : Int := if s < 0 then 1 else 0
theorem bor_01 (s : Int) : 0 ≤ bor s ∧ bor s ≤ 1 := by unfold bor; split <;> omega

theorem and_bor {s : Int} (h1 : -4294967296 ≤ s) (h2 : s < 4294967296) : bits .and .i64 (s / 4294967296) 1 = bor s := by
  unfold bor
  by_cases h : s < 0
  · have e : s / 4294967296 = -1 := by omega
    rw [e, if_pos h]
    decide
  · have e : s / 4294967296 = 0 := by omega
    rw [e, if_neg h]
    decide

theorem sub_step {s : Int} (h1 : -4294967296 ≤ s) (h2 : s < 4294967296) : s % 4294967296 = s + 4294967296 * bor s := by
  unfold bor
  split <;> omega

theorem sub_val {X Y ps : List Int} {k : Nat} {a b c s : Int} (hk : ps.length = k) (ha : X.getD k 0 = a) (hb : Y.getD k 0 = b) (hs : s = a - b - c) (h1 : -4294967296 ≤ s) (h2 : s < 4294967296) (h : val ps - pw k * c = vf X k - vf Y k) :
    val (ps ++ [s % 4294967296]) - pw (k + 1) * (bor s) = vf X (k + 1) - vf Y (k + 1) := by
  rw [val_snoc, vf, vf, ha, hb, hk, pw, sub_step h1 h2, Int.mul_add]
  have e2 : pw k * (4294967296 * bor s) = 4294967296 * pw k * bor s := by rw [← Int.mul_assoc, Int.mul_comm (pw k)]
  rw [e2, hs, Int.mul_sub, Int.mul_sub]
  omega

set_option maxRecDepth 20000 in
set_option maxHeartbeats 400000 in
theorem sub_no (w : World) (a1 a2 : Option Addr) (n1 n2 c1 c2 : Nat) (xs ys : List Int) (hx : Sl w (.slice a1 n1 c1) xs) (hy : Sl w (.slice a2 n2 c2) ys) (hlt : val xs < val ys) :
    Calls Try.prog 66 #[.slice a1 n1 c1, .slice a2 n2 c2] w fun e w' => e = .returned (.tuple #[.slice none 0 0, .bool false]) ∧ Below w.heap.size w w' := by
  have kc := cmp_any w a1 a2 n1 n2 c1 c2 xs ys hx hy
  have hc : cmpI (val xs) (val ys) < 0 := cmpI_neg.2 hlt
  have KC := hide kc
  generalize cmpI (val xs) (val ys) = c at hc KC
  clear kc hlt hx hy
  go_enter Try.func66, Try.ntmps66
  go_wp2_with fail
  refine (KC.out).mono ?_
  rintro e w1 ⟨rfl, hb⟩
  go_wp2
  go_ret2
  exact ⟨rfl, hb⟩

set_option maxRecDepth 20000 in
set_option maxHeartbeats 1000000 in
theorem sub_yes (w : World) (a1 a2 : Option Addr) (n1 n2 c1 c2 : Nat) (xs ys : List Int) (hx : Sl w (.slice a1 n1 c1) xs) (hy : Sl w (.slice a2 n2 c2) ys) (hm1 : xs.length ≤ 1000000) (hge : val ys ≤ val xs) :
    Calls Try.prog 66 #[.slice a1 n1 c1, .slice a2 n2 c2] w fun e w' => ∃ v, e = .returned (.tuple #[v, .bool true]) ∧ Is w.heap.size w' v (val xs - val ys) ∧ Below w.heap.size w w' := by
  have kc := cmp_any w a1 a2 n1 n2 c1 c2 xs ys hx hy
  have hc : ¬ cmpI (val xs) (val ys) < 0 := fun h => by have := cmpI_neg.1 h; omega
  have KC := hide kc
  generalize cmpI (val xs) (val ys) = c at hc KC
  obtain ⟨rfl, h1, h2, h3⟩ := hx.parts
  obtain ⟨rfl, g1, g2, g3⟩ := hy.parts
  have t1 := tl_le xs
  have t2 := tl_le ys
  have t3 : tl ys ≤ tl xs := by
    apply Classical.byContradiction
    intro hn
    have := trim_lt_len h3 g3 (by omega)
    omega
  have HG := hide hge
  have HX := hide (show (xs.take (tl xs)).length = tl xs by simp; omega)
  have HY := hide (show (ys.take (tl ys)).length = tl ys by simp; omega)
  have VX := hide (val_take_tl xs)
  have VY := hide (val_take_tl ys)
  have LX := hide (limb_take h3 (tl xs))
  have LY := hide (limb_take g3 (tl ys))
  obtain ⟨i0, hi, hz0, hz1, hz2⟩ := info_parts info32
  clear h3 g3 kc hge
  go_enter Try.func66, Try.ntmps66
  go_wp2_with fail
  refine (KC.out).mono ?_
  rintro e wc ⟨rfl, hbc⟩
  replace hx := hx.below hbc
  replace hy := hy.below hbc
  have sx := hx.cut
  have sy := hy.cut
  generalize xs.take (tl xs) = X at sx HX VX LX
  generalize ys.take (tl ys) = Y at sy HY VY LY
  go_wp2_with fail
  refine (cut_any _ a1 _ c1 xs hx).mono ?_
  rintro e w' ⟨rfl, rfl⟩
  go_wp2_with fail
  refine (cut_any _ a2 _ c2 ys hy).mono ?_
  rintro e w' ⟨rfl, rfl⟩
  go_wp2_with (refine wpList_make_full _ rfl (.tmp 19) (.tmp 19) 22 rfl w'.heap.size 51 i0 (.int .u32 0) 1 Try.underlying22 hi hz0 hz1 .i64 .i64 _ _ (tl xs) rfl rfl (by omega) (by omega) (by rw [hz2]; omega) (by unfold maxLen; omega) (Nat.le_refl _) ?hK)
  case hK =>
    intro w1 hown hgrow
    obtain ⟨_, cur, hh, hcs, hat⟩ := block_of_made hown
    have hb1 : Below w'.heap.size w' w1 := (Below.refl w'.heap.size w').grown hgrow (Nat.le_refl _) (by simp)
    have HH := hide hh
    have HS := hide hcs
    have HA := hide hat
    clear hown hgrow hh hcs hat
    go_wp2
    go_loopw [7, 23] (fun c i wr => ∃ (k : Nat) (r : Int) (ps : List Int) (cur' : Array Value), k ≤ tl xs ∧ c = .int .i64 r ∧ i = .int .i64 k ∧ (0 ≤ r ∧ r ≤ 1) ∧ ps.length = k ∧ Limb ps ∧ val ps - pw k * r = vf X k - vf Y k ∧ Wr w1 wr w'.heap.size cur' 51 ∧ cur'.size = tl xs ∧ At cur' .u32 0 (ps ++ (List.replicate (tl xs) 0).drop k)) (fun _ i _ => tl xs - (intOf i).toNat)
    case atStart => exact ⟨0, 0, [], cur, Nat.zero_le _, rfl, rfl, by omega, rfl, limb_nil, by simp [val, vf, pw], Wr.refl HH.out, HS.out, by simpa using HA.out⟩
    case round =>
      obtain ⟨k, r, ps, cur', hk, rfl, rfl, hr, hpl, hpl2, hval, hwr, hcs, hat⟩ := hrel
      have HPL := hide hpl
      have HLP := hide hpl2
      have HV := hide hval
      have HW := hide hwr
      have HC := hide hcs
      have HT := hide hat
      clear hpl hpl2 hval hwr hcs hat
      by_cases hlt : k < tl xs
      · have sx' := HW.out.sl (Nat.le_refl _) hb1 rfl sx
        have sy' := HW.out.sl (Nat.le_refl _) hb1 rfl sy
        have hlen : (ps ++ (List.replicate (tl xs) (0 : Int)).drop k).length = tl xs := by have := HPL.out; simp; omega
        have hcell := HT.out.cell HW.out.here k (by rw [hlen]; omega)
        rw [Nat.zero_add] at hcell
        have hfree := HW.out.free k
        have bx := limb_getD LX.out k
        have by' := limb_getD LY.out k
        obtain ⟨ba, oa, rfl, hca⟩ := sx'.cells (by have := HX.out; omega)
        have hcx := hca k (by have := HX.out; omega)
        obtain ⟨a, ha⟩ : ∃ a, a = X.getD k 0 := ⟨_, rfl⟩
        obtain ⟨b, hb⟩ : ∃ b, b = Y.getD k 0 := ⟨_, rfl⟩
        have ky : Hid (∀ n, Calls Try.prog 70 #[.slice a2 (tl ys) c2, .int .i64 k] (wr.drewN n) fun e w' => e = .returned (.int .u32 b) ∧ w' = wr.drewN n) := by
          intro n; rw [hb]; exact limb_nat _ _ Y (sy'.below (below_drewN (Below.refl _ _) n)) k
        rw [← ha] at bx hcx
        rw [← hb] at by'
        have s1 : -4294967296 ≤ a - b - r := by omega
        have s2 : a - b - r < 4294967296 := by omega
        have hand := and_bor s1 s2
        have hbo := bor_01 (a - b - r)
        have HV' := hide (sub_val HPL.out ha.symm hb.symm rfl s1 s2 HV.out)
        have HT' := hide (HT.out.set k ((a - b - r) % 4294967296))
        have HW' := hide (HW.out.set k (.int .u32 ((a - b - r) % 4294967296)))
        have HL' := hide hlen
        have d1 : (k : Int) < ((tl xs : Nat) : Int) := by omega
        generalize hold : (ps ++ (List.replicate (tl xs) (0 : Int)).drop k).getD k 0 = old at hcell
        clear hlen hold ha hb sx' sy' hca
        go_wp2
        go_quiet ((go_at_call 70; exact Calls.quiet_of_same (ky.out _)))
        go_wp2
        go_roundw
        case rel => exact ⟨k + 1, _, ps ++ [(a - b - r) % 4294967296], _, by omega, rfl, by go_num, hbo, by have := HPL.out; simp; omega, limb_append.2 ⟨HLP.out, limb_cons.2 ⟨by omega, limb_nil⟩⟩, HV'.out, HW'.out.drewN _, by simpa using HC.out, by rw [← set_snoc ps _ k _ HPL.out (by simp; omega)]; simpa using HT'.out⟩
        case measure => simp [intOf]; omega
      · have hkM : k = tl xs := by omega
        subst hkM
        have hat2 := HT.out
        rw [List.drop_of_length_le (by simp), List.append_nil] at hat2
        have how : Ow w'.heap.size wr (.slice (some ⟨w'.heap.size, 0, none⟩) (tl xs) (tl xs)) ps := by
          have := HPL.out
          exact ⟨_, tl xs, by simp [this], by omega, by unfold maxLen; omega, HLP.out, .inr ⟨_, 0, _, rfl, Nat.le_refl _, HW.out.here, by rw [HC.out]; omega, hat2⟩⟩
        have hbel : Below w'.heap.size w' wr := hb1.trans (HW.out.below (Nat.le_refl _))
        have his := how.is_cut (x := val xs - val ys) (by
          have hv := HV.out
          rw [vf_all X _ (by have := HX.out; omega), vf_all Y _ (by have := HY.out; omega), VX.out, VY.out] at hv
          have hb := val_bounds HLP.out
          rw [HPL.out] at hb
          have hg := HG.out
          have h01 : r = 0 ∨ r = 1 := by omega
          rcases h01 with h | h
          · rw [h] at hv; omega
          · rw [h] at hv; omega)
        have hbel' := hbc.trans (hbel.mono hbc.size)
        have his' : Is w.heap.size wr _ _ := his.mono hbc.size
        clear hat2
        go_wp2_with fail
        refine (cut_any _ _ _ _ _ how.sl).mono ?_
        rintro e w2 ⟨rfl, rfl⟩
        go_wp2
        go_ret2
        exact ⟨_, rfl, his', hbel'⟩

end Lm
end Go.Proofs.Ytjhhjefobbhdlaa
