/-
  The contracts of the reference's plus: two magnitudes together.
-/
import Derived.Test.YthbomfboohjcfaaDSmall
import Derived.Test.YthbomfboohjcfaaWrap
namespace Go.Proofs.Ythbomfboohjcfaa
namespace Dm
open Go.RowKit
open Lm (hide)

/-- A list of digits of the call's own, worth x, of at most n digits. -/
def Dl (B : Nat) (w : World) (v : Value) (x : Int) (n : Nat) : Prop := ∃ ds, Ow B w v ds ∧ val ds = x ∧ ds.length ≤ n

/-- A round of plus. -/
theorem plus_val {A B ds : List Int} {k : Nat} {a b c s : Int} (hk : ds.length = k) (ha : A.getD k 0 = a) (hb : B.getD k 0 = b) (hs : s = c + a + b) (h : val ds + pw k * c = vf A k + vf B k) :
    val (ds ++ [s % 10000]) + pw (k + 1) * (s / 10000) = vf A (k + 1) + vf B (k + 1) := by
  rw [val_snoc, vf, vf, ha, hb, hk, pw]
  have e : s = s % 10000 + 10000 * (s / 10000) := by omega
  have e2 : pw k * (s % 10000) + 10000 * pw k * (s / 10000) = pw k * s := by
    rw [Int.mul_comm 10000 (pw k), Int.mul_assoc, ← Int.mul_add, ← e]
  rw [Int.add_assoc, e2, hs, Int.mul_add, Int.mul_add]
  omega

theorem getD_past (A : List Int) (k : Nat) (h : ¬ k < A.length) : A.getD k 0 = 0 := by
  rw [List.getD_eq_getElem?_getD, List.getElem?_eq_none (by omega)]; rfl

set_option maxRecDepth 20000 in
set_option maxHeartbeats 1000000 in
theorem plus_any (w : World) (a1 : Option Addr) (n1 c1 : Nat) (A : List Int) (hA : Sl w (.slice a1 n1 c1) A) (a2 : Option Addr) (n2 c2 : Nat) (B : List Int) (hB : Sl w (.slice a2 n2 c2) B) (hl1 : A.length ≤ 1000000) (hl2 : B.length ≤ 1000000) :
    Calls Try.prog 69 #[.slice a1 n1 c1, .slice a2 n2 c2] w fun e w' => ∃ v, e = .returned v ∧ Dl w.heap.size w' v (val A + val B) (A.length + B.length + 1) ∧ Below w.heap.size w w' := by
  obtain ⟨rfl, p1, p2, p3⟩ := hA.parts
  obtain ⟨rfl, q1, q2, q3⟩ := hB.parts
  obtain ⟨i0, hi, hz0, hz1, hz2⟩ := info_parts info64
  have P3 := hide p3
  have Q3 := hide q3
  clear p3 q3
  go_enter Try.func69, Try.ntmps69
  go_wp2
  go_loopw [5, 6, 7] (fun dv cv iv wr => ∃ (k : Nat) (c : Int) (ds : List Int), cv = .int .i64 c ∧ iv = .int .i64 k ∧ (0 ≤ c ∧ c ≤ 1) ∧ (k : Int) + c ≤ (A.length : Int) + B.length + 1 ∧ ds.length = k ∧ Limb ds ∧ val ds + pw k * c = vf A k + vf B k ∧ wr.ownsRow w.heap.size 3 1 dv k (ds.map (Value.int .i64)) ∧ Below w.heap.size w wr) (fun _ cv iv _ => (A.length - (intOf iv).toNat) * 2 + (B.length - (intOf iv).toNat) * 2 + (intOf cv).toNat)
  case atStart => exact ⟨0, 0, [], rfl, rfl, by omega, by omega, rfl, limb_nil, by simp [val, vf, pw], World.ownsRow_nil _ _ _ _, Below.refl _ _⟩
  case round =>
    obtain ⟨k, c, ds, rfl, rfl, hc, hkc, hdl, hd, hval, hown, hbel⟩ := hrel
    have HD := hide hd
    have HDL := hide hdl
    have HV := hide hval
    clear hd hdl hval
    have hsz := hbel.size
    by_cases hltA : k < A.length
    · by_cases hltB : k < B.length
      · have sA := hA.below hbel
        obtain ⟨b1, off1, rfl, hca⟩ := sA.cells (by omega)
        have ca := hca k hltA
        have ba := limb_getD P3.out k
        obtain ⟨a, hak⟩ : ∃ a, A.getD k 0 = a := ⟨_, rfl⟩
        rw [hak] at ca ba
        clear sA hca
        have sB := hB.below hbel
        obtain ⟨b2, off2, rfl, hcb⟩ := sB.cells (by omega)
        have cb := hcb k hltB
        have bb := limb_getD Q3.out k
        obtain ⟨b, hbk⟩ : ∃ b, B.getD k 0 = b := ⟨_, rfl⟩
        rw [hbk] at cb bb
        clear sB hcb
        have dA : (k : Int) < (A.length : Int) := by omega
        have dB : (k : Int) < (B.length : Int) := by omega
        have HV' := hide (plus_val (s := c + a + b) HDL.out hak hbk (by omega) HV.out)
        clear hak hbk
        go_wp2_with (at_builtin; refine wpList_append_own _ rfl (.tmp 44) (.tmp 47) 54 rfl w.heap.size 3 i0 (.int .i64 0) 1 8 Try.underlying54 hi hz0 hz1 hz2 rfl (by decide) _ _ _ rfl (hown.alloc _) ⟨wr.heap.size, 0, none⟩ 1 1 [.int .i64 ((c + a + b) % 10000)] rfl rfl (cell_one_new _ _ _) ?c211 ?c311 ?c411 ?c511 ?_)
        case c211 => first | rfl | (intro u hu; simp at hu; subst hu; rfl)
        case c311 => unfold maxLen; omega
        case c411 => omega
        case c511 => first | omega | (simp; omega)
        intro v' w1 hown' hgrow _
        have R := step_own hown' hgrow hbel (hown.lt)
        clear hown' hgrow hown
        go_wp2
        go_roundw
        case rel => exact ⟨k + 1, (c + a + b) / 10000, ds ++ [(c + a + b) % 10000], rfl, by go_num, by omega, by omega, by have := HDL.out; simp; omega, limb_append.2 ⟨HD.out, limb_cons.2 ⟨by omega, limb_nil⟩⟩, HV'.out, R.1, R.2⟩
        case measure => simp [intOf]; omega
      · have hbk := getD_past B k hltB
        have sA := hA.below hbel
        obtain ⟨b1, off1, rfl, hca⟩ := sA.cells (by omega)
        have ca := hca k hltA
        have ba := limb_getD P3.out k
        obtain ⟨a, hak⟩ : ∃ a, A.getD k 0 = a := ⟨_, rfl⟩
        rw [hak] at ca ba
        clear sA hca
        have dA : (k : Int) < (A.length : Int) := by omega
        have dB : ¬ (k : Int) < (B.length : Int) := by omega
        have HV' := hide (plus_val (s := c + a) HDL.out hak hbk (by omega) HV.out)
        clear hak hbk
        go_wp2_with (at_builtin; refine wpList_append_own _ rfl (.tmp 44) (.tmp 47) 54 rfl w.heap.size 3 i0 (.int .i64 0) 1 8 Try.underlying54 hi hz0 hz1 hz2 rfl (by decide) _ _ _ rfl (hown.alloc _) ⟨wr.heap.size, 0, none⟩ 1 1 [.int .i64 ((c + a) % 10000)] rfl rfl (cell_one_new _ _ _) ?c210 ?c310 ?c410 ?c510 ?_)
        case c210 => first | rfl | (intro u hu; simp at hu; subst hu; rfl)
        case c310 => unfold maxLen; omega
        case c410 => omega
        case c510 => first | omega | (simp; omega)
        intro v' w1 hown' hgrow _
        have R := step_own hown' hgrow hbel (hown.lt)
        clear hown' hgrow hown
        go_wp2
        go_roundw
        case rel => exact ⟨k + 1, (c + a) / 10000, ds ++ [(c + a) % 10000], rfl, by go_num, by omega, by omega, by have := HDL.out; simp; omega, limb_append.2 ⟨HD.out, limb_cons.2 ⟨by omega, limb_nil⟩⟩, HV'.out, R.1, R.2⟩
        case measure => simp [intOf]; omega
    · have hak := getD_past A k hltA
      by_cases hltB : k < B.length
      · have sB := hB.below hbel
        obtain ⟨b2, off2, rfl, hcb⟩ := sB.cells (by omega)
        have cb := hcb k hltB
        have bb := limb_getD Q3.out k
        obtain ⟨b, hbk⟩ : ∃ b, B.getD k 0 = b := ⟨_, rfl⟩
        rw [hbk] at cb bb
        clear sB hcb
        have dA : ¬ (k : Int) < (A.length : Int) := by omega
        have dB : (k : Int) < (B.length : Int) := by omega
        have HV' := hide (plus_val (s := c + b) HDL.out hak hbk (by omega) HV.out)
        clear hak hbk
        go_wp2_with (at_builtin; refine wpList_append_own _ rfl (.tmp 44) (.tmp 47) 54 rfl w.heap.size 3 i0 (.int .i64 0) 1 8 Try.underlying54 hi hz0 hz1 hz2 rfl (by decide) _ _ _ rfl (hown.alloc _) ⟨wr.heap.size, 0, none⟩ 1 1 [.int .i64 ((c + b) % 10000)] rfl rfl (cell_one_new _ _ _) ?c201 ?c301 ?c401 ?c501 ?_)
        case c201 => first | rfl | (intro u hu; simp at hu; subst hu; rfl)
        case c301 => unfold maxLen; omega
        case c401 => omega
        case c501 => first | omega | (simp; omega)
        intro v' w1 hown' hgrow _
        have R := step_own hown' hgrow hbel (hown.lt)
        clear hown' hgrow hown
        go_wp2
        go_roundw
        case rel => exact ⟨k + 1, (c + b) / 10000, ds ++ [(c + b) % 10000], rfl, by go_num, by omega, by omega, by have := HDL.out; simp; omega, limb_append.2 ⟨HD.out, limb_cons.2 ⟨by omega, limb_nil⟩⟩, HV'.out, R.1, R.2⟩
        case measure => simp [intOf]; omega
      · have hbk := getD_past B k hltB
        by_cases hc0 : 0 < c
        · have dA : ¬ (k : Int) < (A.length : Int) := by omega
          have dB : ¬ (k : Int) < (B.length : Int) := by omega
          have HV' := hide (plus_val (s := c) HDL.out hak hbk (by omega) HV.out)
          clear hak hbk
          go_wp2_with (at_builtin; refine wpList_append_own _ rfl (.tmp 44) (.tmp 47) 54 rfl w.heap.size 3 i0 (.int .i64 0) 1 8 Try.underlying54 hi hz0 hz1 hz2 rfl (by decide) _ _ _ rfl (hown.alloc _) ⟨wr.heap.size, 0, none⟩ 1 1 [.int .i64 ((c) % 10000)] rfl rfl (cell_one_new _ _ _) ?c200 ?c300 ?c400 ?c500 ?_)
          case c200 => first | rfl | (intro u hu; simp at hu; subst hu; rfl)
          case c300 => unfold maxLen; omega
          case c400 => omega
          case c500 => first | omega | (simp; omega)
          intro v' w1 hown' hgrow _
          have R := step_own hown' hgrow hbel (hown.lt)
          clear hown' hgrow hown
          go_wp2
          go_roundw
          case rel => exact ⟨k + 1, (c) / 10000, ds ++ [(c) % 10000], rfl, by go_num, by omega, by omega, by have := HDL.out; simp; omega, limb_append.2 ⟨HD.out, limb_cons.2 ⟨by omega, limb_nil⟩⟩, HV'.out, R.1, R.2⟩
          case measure => simp [intOf]; omega
        · have hc1 : c = 0 := by omega
          subst hc1
          have dA : ¬ (k : Int) < (A.length : Int) := by omega
          have dB : ¬ (k : Int) < (B.length : Int) := by omega
          have how := ow_of_row hown HD.out
          have hvv : val ds = val A + val B := by
            have := HV.out
            rw [Int.mul_zero, Int.add_zero, vf_all A _ (by omega), vf_all B _ (by omega)] at this
            exact this
          have hdl := HDL.out
          have HVV := hide hvv
          have HDL' : Hid (ds.length ≤ A.length + B.length + 1) := by show _ ≤ _; omega
          clear hvv hak hbk hown hdl
          go_wp2
          go_ret
          exact ⟨_, rfl, ⟨ds, how, HVV.out, HDL'.out⟩, hbel⟩

end Dm
end Go.Proofs.Ythbomfboohjcfaa
