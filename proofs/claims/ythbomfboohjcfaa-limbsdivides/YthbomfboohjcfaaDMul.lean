/-
  The contract of the reference's Mul.
-/
import Derived.Test.YthbomfboohjcfaaDMin
import Derived.BigRegion
namespace Go.Proofs.Ythbomfboohjcfaa
namespace Dm
open Go.RowKit
open Lm (hide lt_of_cell lt_of_heap)

theorem val_set : ∀ (L : List Int) (i : Nat) (x : Int), i < L.length → val (L.set i x) = val L + pw i * (x - L.getD i 0)
  | [], i, x, h => by simp at h
  | z :: zs, 0, x, _ => by simp [val, pw]; omega
  | z :: zs, i + 1, x, h => by
    have ih := val_set zs i x (by simpa using h)
    rw [List.set_cons_succ, val, ih, val, List.getD_cons_succ, pw, Int.mul_add, ← Int.mul_assoc]
    omega

theorem digit_le : ∀ (L : List Int) (i : Nat), (∀ z ∈ L, 0 ≤ z) → pw i * L.getD i 0 ≤ val L
  | [], i, _ => by simp [val]
  | z :: zs, 0, h => by
    have h1 : 0 ≤ val zs := by
      have : ∀ l : List Int, (∀ z ∈ l, 0 ≤ z) → 0 ≤ val l := by
        intro l
        induction l with
        | nil => intro _; simp [val]
        | cons a l ih =>
          intro hl
          have := ih (fun z hz => hl z (List.mem_cons_of_mem _ hz))
          have := hl a (List.mem_cons_self ..)
          rw [val]
          omega
      exact this zs (fun y hy => h y (List.mem_cons_of_mem _ hy))
    simp [val, pw]
    omega
  | z :: zs, i + 1, h => by
    have ih := digit_le zs i (fun y hy => h y (List.mem_cons_of_mem _ hy))
    have := h z (List.mem_cons_self ..)
    rw [List.getD_cons_succ, val, pw, Int.mul_assoc]
    omega

theorem limb_set {L : List Int} (h : Limb L) (i : Nat) (x : Int) (hx : 0 ≤ x ∧ x < 10000) : Limb (L.set i x) := by
  intro z hz
  rcases List.mem_or_eq_of_mem_set hz with h1 | h1
  · exact h z h1
  · rw [h1]; exact hx

theorem nonneg_set {L : List Int} (h : Limb L) (i : Nat) (x : Int) (hx : 0 ≤ x) : ∀ z ∈ L.set i x, 0 ≤ z := by
  intro z hz
  rcases List.mem_or_eq_of_mem_set hz with h1 | h1
  · exact (h z h1).1
  · rw [h1]; exact hx

theorem mul_99 {a b : Int} (ha : 0 ≤ a ∧ a < 10000) (hb : 0 ≤ b ∧ b < 10000) : 0 ≤ a * b ∧ a * b ≤ 99980001 := by
  refine ⟨Int.mul_nonneg ha.1 hb.1, ?_⟩
  have h1 : a * b ≤ 9999 * b := Int.mul_le_mul_of_nonneg_right (by omega) hb.1
  omega

/-- A round of the inner loop. -/
theorem mul_in {B M : List Int} {k j : Nat} {P a b c t s : Int} (hl : k + j < M.length) (ht : M.getD (k + j) 0 = t) (hb : B.getD j 0 = b) (hs : s = c + t + a * b) (h : val M + pw (k + j) * c = P + pw k * (a * vf B j)) :
    val (M.set (k + j) (s % 10000)) + pw (k + (j + 1)) * (s / 10000) = P + pw k * (a * vf B (j + 1)) := by
  rw [val_set M _ _ hl, ht, vf, hb, ← Nat.add_assoc, pw]
  have e : s = s % 10000 + 10000 * (s / 10000) := by omega
  have e2 : pw (k + j) * (s % 10000 - t) + 10000 * pw (k + j) * (s / 10000) = pw (k + j) * (s - t) := by
    rw [Int.mul_comm 10000 (pw (k + j)), Int.mul_assoc, ← Int.mul_add]
    congr 1
    omega
  have e3 : pw (k + j) * (s - t) = pw (k + j) * c + pw (k + j) * (a * b) := by rw [← Int.mul_add]; congr 1; omega
  have e4 : pw k * (a * (vf B j + pw j * b)) = pw k * (a * vf B j) + pw (k + j) * (a * b) := by
    rw [pw_add, Int.mul_add, Int.mul_add, Int.mul_assoc (pw k) (pw j), ← Int.mul_assoc a (pw j), Int.mul_comm a (pw j), Int.mul_assoc (pw j) a]
  rw [Int.add_assoc, e2, e3, e4]
  omega

/-- The end of an outer round: the carry is laid on top. -/
theorem mul_out {A B M : List Int} {k : Nat} {a c t : Int} (hA : Limb A) (hB : Limb B) (hM : Limb M) (hk : k < A.length) (hl : k + B.length < M.length) (ht : M.getD (k + B.length) 0 = t) (ha : A.getD k 0 = a) (hc : 0 ≤ c) (h : val M + pw (k + B.length) * c = vf A k * val B + pw k * (a * vf B B.length)) :
    val (M.set (k + B.length) (t + c)) = vf A (k + 1) * val B ∧ Limb (M.set (k + B.length) (t + c)) := by
  have h0 : 0 ≤ t := by rw [← ht]; exact (limb_getD hM _).1
  have e1 : val (M.set (k + B.length) (t + c)) = vf A (k + 1) * val B := by
    rw [val_set M _ _ hl, ht, vf, ha, Int.add_mul, show t + c - t = c by omega, h, vf_all B _ (Nat.le_refl _), Int.mul_assoc]
  refine ⟨e1, limb_set hM _ _ ⟨by omega, ?_⟩⟩
  have h1 := digit_le _ (k + B.length) (nonneg_set hM (k + B.length) (t + c) (by omega))
  have h2 : (M.set (k + B.length) (t + c)).getD (k + B.length) 0 = t + c := by
    rw [List.getD_eq_getElem?_getD, List.getElem?_set_self hl]; rfl
  rw [h2, e1] at h1
  have h3 := val_bounds hB
  have h4 := val_bounds (limb_take hA (k + 1))
  rw [← vf_take, List.length_take, Nat.min_eq_left (by omega)] at h4
  have h5 : vf A (k + 1) * val B ≤ (pw (k + 1) - 1) * val B := Int.mul_le_mul_of_nonneg_right (by omega) h3.1
  have h6 : (pw (k + 1) - 1) * val B ≤ (pw (k + 1) - 1) * (pw B.length - 1) := Int.mul_le_mul_of_nonneg_left (by omega) (by have := pw_pos (k + 1); omega)
  have h7 : (pw (k + 1) - 1) * (pw B.length - 1) < pw (k + 1) * pw B.length := by
    have := pw_pos (k + 1)
    have := pw_pos B.length
    rw [Int.sub_mul, Int.mul_sub]
    omega
  have h8 : pw (k + 1) * pw B.length = pw (k + B.length) * 10000 := by rw [← pw_add, show k + 1 + B.length = (k + B.length) + 1 by omega, pw, Int.mul_comm]
  apply Classical.byContradiction
  intro hn
  have h9 : pw (k + B.length) * 10000 ≤ pw (k + B.length) * (t + c) := Int.mul_le_mul_of_nonneg_left (by omega) (by have := pw_pos (k + B.length); omega)
  omega

theorem Box.wr {w w' : World} {g g' : Nat} {cur : Array Value} {e : TypeId} {ng : Bool} {v : Value} (h : Box w g ng v) (hw : Wr w w' g' cur e) (hne : g ≠ g') : Box w' g ng v := (hw.other g hne).trans h

set_option maxRecDepth 20000 in
set_option maxHeartbeats 1000000 in
theorem nmul_got (w : World) (n1 : Bool) (a1 : Option Addr) (c1 : Nat) (A : List Int) (x : Int) (hx : Got w a1 c1 A x) (n2 : Bool) (a2 : Option Addr) (c2 : Nat) (B : List Int) (y : Int) (hy : Got w a2 c2 B y) (m1 : A.length ≤ 400000) (m2 : B.length ≤ 400000) :
    Calls Try.prog 48 #[.agg #[.bool n1, .slice a1 A.length c1], .agg #[.bool n2, .slice a2 B.length c2]] w fun e w' => ∃ ng' ao cap rs, e = .returned (.agg #[.bool ng', .slice ao rs.length cap]) ∧ Wh w' ng' ao cap rs (sg (n1 != n2) (x * y)) ∧ rs.length ≤ A.length + B.length + 1 ∧ Below w.heap.size w w' := by
  obtain ⟨w0, e0, bx, by', br, hb0, hs0⟩ := boxed3 w n1 (.slice a1 A.length c1) n2 (.slice a2 B.length c2)
  obtain ⟨i0, hi, hz0, hz1, hz2⟩ := info_parts info64
  have E0 := hide e0
  have hx0 := hx.below hb0
  have hy0 := hy.below hb0
  obtain ⟨_, p1, p2, p3⟩ := hx.sl.parts
  obtain ⟨_, q1, q2, q3⟩ := hy.sl.parts
  have P3 := hide p3
  have Q3 := hide q3
  have HS := hide hs0
  clear p3 q3 e0 hs0
  go_enter Try.func48, Try.ntmps48
  go_wp2_with (refine wpList_make_full _ rfl (.tmp 16) (.tmp 16) 54 rfl w0.heap.size 3 i0 (.int .i64 0) 1 Try.underlying54 hi hz0 hz1 .i64 .i64 _ _ (A.length + B.length + 1) rfl rfl (by omega) (by omega) (by rw [hz2]; omega) (by unfold maxLen; omega) (by rw [E0.out]; exact Nat.le_refl _) ?hK)
  case hK =>
    intro w1 hown hgrow
    rw [E0.out] at hgrow
    generalize hgg : w.heap.size + 1 + 1 + 1 = g at hown ⊢
    obtain ⟨hgB, cur, hh, hcs, hat⟩ := block_of_made hown
    have hb1 : Below w0.heap.size w0 w1 := (Below.refl _ _).grown hgrow (Nat.le_refl _) (by simp)
    have HB1 := hb0.trans (hb1.mono hb0.size)
    have hs0 := HS.out
    replace bx := bx.below hb1
    replace by' := by'.below hb1
    replace br := br.below hb1
    have n1g : w.heap.size ≠ g := by omega
    have n2g : w.heap.size + 1 ≠ g := by omega
    have n3g : w.heap.size + 1 + 1 ≠ g := by omega
    have NG := hide (And.intro n1g (And.intro n2g n3g))
    have HX := hide hx0
    have HY := hide hy0
    have BX := hide bx
    have BY := hide by'
    have BR := hide br
    have HH := hide hh
    have HC := hide hcs
    have HAT := hide hat
    have HG := hide hgB
    clear hown hgrow hh hcs hat hgB hgg bx by' br hx0 hy0 n1g n2g n3g E0 hs0
    go_wp2
    go_loopw [6] (fun iv wr => ∃ (k : Nat) (M : List Int) (cur' : Array Value), k ≤ A.length ∧ iv = .int .i64 k ∧ M.length = A.length + B.length + 1 ∧ Limb M ∧ val M = vf A k * val B ∧ Wr w1 wr g cur' 3 ∧ cur'.size = A.length + B.length + 1 ∧ At cur' .i64 0 M) (fun iv _ => A.length - (intOf iv).toNat)
    case atStart => exact ⟨0, List.replicate (A.length + B.length + 1) 0, cur, Nat.zero_le _, rfl, by simp, limb_zeros _, by rw [val_zeros]; simp [vf], Wr.refl HH.out, HC.out, HAT.out⟩
    case round =>
      obtain ⟨k, M, cur', hk, rfl, hml, hm, hv, hwr, hcs', hat'⟩ := hrel
      obtain ⟨bx1, bx2, bx3, bx4⟩ := (BX.out.wr hwr NG.out.1).facts
      obtain ⟨by1, by2, by3, by4⟩ := (BY.out.wr hwr NG.out.2.1).facts
      by_cases hlt : k < A.length
      · have dA : (k : Int) < (A.length : Int) := by omega
        obtain ⟨a, hak⟩ : ∃ a, A.getD k 0 = a := ⟨_, rfl⟩
        have HI : Hid (M.length = A.length + B.length + 1 ∧ Limb M ∧ val M + pw (k + 0) * 0 = vf A k * val B + pw k * (a * vf B 0) ∧ Wr w1 wr g cur' 3 ∧ cur'.size = A.length + B.length + 1 ∧ At cur' .i64 0 M) := ⟨hml, hm, by rw [hv]; simp [vf], hwr, hcs', hat'⟩
        have HK := hide hak
        clear hml hm hv hwr hcs' hat' hak
        go_wp2
        clear bx1 bx2 bx3 bx4 by1 by2 by3 by4
        go_loopw [7, 8] (fun cv jv wr => ∃ (j : Nat) (c : Int) (M : List Int) (cur' : Array Value), j ≤ B.length ∧ jv = .int .i64 j ∧ cv = .int .i64 c ∧ (0 ≤ c ∧ c < 10000) ∧ M.length = A.length + B.length + 1 ∧ Limb M ∧ val M + pw (k + j) * c = vf A k * val B + pw k * (a * vf B j) ∧ Wr w1 wr g cur' 3 ∧ cur'.size = A.length + B.length + 1 ∧ At cur' .i64 0 M) (fun _ jv _ => B.length - (intOf jv).toNat)
        case atStart => exact ⟨0, 0, M, cur', Nat.zero_le _, rfl, rfl, by omega, HI.out.1, HI.out.2.1, HI.out.2.2.1, HI.out.2.2.2.1, HI.out.2.2.2.2.1, HI.out.2.2.2.2.2⟩
        case round =>
          clear HI
          obtain ⟨j, c, M, cur', hj, rfl, rfl, hc, hml, hm, hv, hwr, hcs', hat'⟩ := hrel
          have bx' := BX.out.wr hwr NG.out.1
          have by'' := BY.out.wr hwr NG.out.2.1
          obtain ⟨bx1, bx2, bx3, bx4⟩ := bx'.facts
          obtain ⟨by1, by2, by3, by4⟩ := by''.facts
          have sA := hwr.sl HG.out hb1 rfl HX.out.sl
          have sB := hwr.sl HG.out hb1 rfl HY.out.sl
          obtain ⟨b1, off1, rfl, hca⟩ := sA.cells (by omega)
          have ca := hca k hlt
          have ba := limb_getD P3.out k
          rw [HK.out] at ca ba
          have hm0 := hide hml
          by_cases hltB : j < B.length
          · have dB : (j : Int) < (B.length : Int) := by omega
            obtain ⟨b2, off2, rfl, hcb⟩ := sB.cells (by omega)
            have cb := hcb j hltB
            have bb := limb_getD Q3.out j
            obtain ⟨b, hbk⟩ : ∃ b, B.getD j 0 = b := ⟨_, rfl⟩
            rw [hbk] at cb bb
            have cm := hat'.cell hwr.here (k + j) (by omega)
            rw [Nat.zero_add] at cm
            have bm := limb_getD hm (k + j)
            obtain ⟨t, htk⟩ : ∃ t, M.getD (k + j) 0 = t := ⟨_, rfl⟩
            rw [htk] at cm bm
            have fm := hwr.free (k + j)
            have hab := mul_99 ba bb
            have dM : (k : Int) + (j : Int) < (A.length : Int) + (B.length : Int) + 1 := by omega
            have HV' := hide (mul_in (a := a) (by omega) htk hbk rfl hv)
            have HL' := hide (limb_set hm (k + j) ((c + t + a * b) % 10000) (by omega))
            have HT' := hide (hat'.set (k + j) ((c + t + a * b) % 10000))
            have HW' := hide hwr
            have HCS := hide hcs'
            clear sA sB hca hcb hbk htk hml hm hv hwr hcs' hat' bx' by''
            go_wp2
            go_quiet (fail)
            replace cm : (wr.drewN nq).cell? ⟨g, k + j, none⟩ = some (.int .i64 t) := cm
            replace fm : (wr.drewN nq).frozen? ⟨g, k + j, none⟩ = false := fm
            have HW2 := hide ((HW'.out.drewN nq).set (k + j) (.int .i64 ((c + t + a * b) % 10000)))
            clear HW' ca cb bx1 bx2 bx3 bx4 by1 by2 by3 by4
            generalize wr.drewN nq = wr2 at cm fm HW2 ⊢
            go_wp2
            go_roundw
            case rel => exact ⟨j + 1, (c + t + a * b) / 10000, M.set (k + j) ((c + t + a * b) % 10000), _, by omega, by go_num, rfl, by omega, by rw [List.length_set]; exact hm0.out, HL'.out, HV'.out, HW2.out, by rw [Array.size_setIfInBounds]; exact HCS.out, by simpa using HT'.out⟩
            case measure => simp [intOf]; omega
          · have hjB : j = B.length := by omega
            subst hjB
            have dB : ¬ (B.length : Int) < (B.length : Int) := by omega
            have cm := hat'.cell hwr.here (k + B.length) (by omega)
            rw [Nat.zero_add] at cm
            have bm := limb_getD hm (k + B.length)
            obtain ⟨t, htk⟩ : ∃ t, M.getD (k + B.length) 0 = t := ⟨_, rfl⟩
            rw [htk] at cm bm
            have fm := hwr.free (k + B.length)
            have dM : (k : Int) + (B.length : Int) < (A.length : Int) + (B.length : Int) + 1 := by omega
            have HO := hide (mul_out P3.out Q3.out hm hlt (by omega) htk HK.out hc.1 hv)
            have HT' := hide (hat'.set (k + B.length) (t + c))
            have HW' := hide (hwr.set (k + B.length) (.int .i64 (t + c)))
            have HCS := hide hcs'
            have wr1 : IntKind.i64.wrap ((k : Int) + (B.length : Int)) = (k : Int) + (B.length : Int) := by rw [IntKind.wrap_i64]; omega
            have wr2 : IntKind.i64.wrap (t + c) = t + c := by rw [IntKind.wrap_i64]; omega
            have wr3 : (0 : Int) ≤ (k : Int) + (B.length : Int) := by omega
            have wr4 : ((k : Int) + (B.length : Int)).toNat = k + B.length := by omega
            clear sA sB hca htk hml hm hv hwr hcs' hat' bx' by'' ca
            go_wp2
            go_region
            have HW2 := hide HW'.out.drew
            clear HW' bx1 bx2 bx3 bx4 by1 by2 by3 by4 cm fm
            generalize (wr.setCell ⟨g, k + B.length, none⟩ (.int .i64 (t + c))).drew = wr9 at HW2 ⊢
            go_wp2
            go_roundw
            case rel => exact ⟨k + 1, M.set (k + B.length) (t + c), _, by omega, by go_num, by rw [List.length_set]; exact hm0.out, HO.out.2, HO.out.1, HW2.out, by rw [Array.size_setIfInBounds]; exact HCS.out, by simpa using HT'.out⟩
            case measure => simp [intOf]; omega
      · have hkA : k = A.length := by omega
        subst hkA
        have dA : ¬ (A.length : Int) < (A.length : Int) := by omega
        have hvv : val M = x * y := by rw [hv, vf_all A _ (Nat.le_refl _), HX.out.val, HY.out.val]
        have sM : Sl wr (.slice (some ⟨g, 0, none⟩) (A.length + B.length + 1) (A.length + B.length + 1)) M := (show Ow g wr _ M from ⟨_, _, by rw [hml], by omega, by unfold maxLen; omega, hm, .inr ⟨g, 0, cur', rfl, Nat.le_refl _, hwr.here, by omega, hat'⟩⟩).sl
        have br := BR.out.wr hwr NG.out.2.2
        have HB := HB1.trans ((hwr.below HG.out).mono hb0.size)
        rw [← hml] at sM
        have SM := hide sM
        have HVV := hide hvv
        have HML := hide hml
        clear hml hm hv hwr hcs' hat' hvv sM
        go_wp2_with fail
        rw [← HML.out]
        refine (made_w _ _ _ _ M _ SM.out HVV.out).mono ?_
        rintro e w2 ⟨ng2, r2, rfl, G2, l2, hb2⟩
        rw [HML.out] at l2
        replace HB := HB.trans (hb2.mono HB.size)
        replace br := br.below hb2
        obtain ⟨br1, br2, br3, br4⟩ := br.facts
        have X := hide (br.set ng2 (.slice (some ⟨g, 0, none⟩) r2.length M.length)).facts
        have Y := hide (br.wh ng2 (.slice (some ⟨g, 0, none⟩) r2.length M.length) G2)
        have Z := hide (below_set2 HB (show w.heap.size ≤ w.heap.size + 1 + 1 by omega) (.bool ng2) (.slice (some ⟨g, 0, none⟩) r2.length M.length))
        clear bx1 bx2 bx3 bx4 by1 by2 by3 by4
        go_wp2
        refine bodyPost_ret (v := .agg #[.bool ng2, .slice (some ⟨g, 0, none⟩) r2.length M.length]) ?_ rfl ⟨ng2, (some ⟨g, 0, none⟩), M.length, r2, rfl, by first | exact Y.out | (rw [bne]; exact Y.out), l2, Z.out⟩
        simp [results, Try.results48, go_sem, X.out.1, X.out.2.1]

theorem nmul_g (w : World) (n1 : Bool) (a1 : Option Addr) (c1 : Nat) (xs : List Int) (x : Int) (hx : Wh w n1 a1 c1 xs x) (n2 : Bool) (a2 : Option Addr) (c2 : Nat) (ys : List Int) (y : Int) (hy : Wh w n2 a2 c2 ys y) (m1 : xs.length ≤ 400000) (m2 : ys.length ≤ 400000) :
    Calls Try.prog 48 #[.agg #[.bool n1, .slice a1 xs.length c1], .agg #[.bool n2, .slice a2 ys.length c2]] w fun e w' => ∃ ng' ao cap rs, e = .returned (.agg #[.bool ng', .slice ao rs.length cap]) ∧ Wh w' ng' ao cap rs (x * y) ∧ rs.length ≤ xs.length + ys.length + 1 ∧ Below w.heap.size w w' := by
  have wx := hx.worth
  have wy := hy.worth
  rw [hx.1.val] at wx
  rw [hy.1.val] at wy
  rw [show x * y = sg (n1 != n2) ((x.natAbs : Int) * (y.natAbs : Int)) by rw [sg_mul, wx, wy]]
  exact nmul_got w n1 a1 c1 xs _ hx.1 n2 a2 c2 ys _ hy.1 m1 m2

end Dm
end Go.Proofs.Ythbomfboohjcfaa
