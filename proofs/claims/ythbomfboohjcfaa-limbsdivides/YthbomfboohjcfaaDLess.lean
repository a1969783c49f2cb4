/-
  The contract of the reference's less: a magnitude less one that is not above it.
-/
import Derived.Test.YthbomfboohjcfaaDPlus
import Derived.Test.YthbomfboohjcfaaDLimbs
import Derived.Deep.QuietTactic
import Derived.BigQuiet
namespace Go.Proofs.Ythbomfboohjcfaa
namespace Dm
open Go.RowKit
open Lm (hide lt_of_cell lt_of_heap)

/-- The cells of a list, as a copy asks for them. -/
theorem Sl.copy {w : World} {b off n cap : Nat} {D : List Int} (h : Sl w (.slice (some ⟨b, off, none⟩) n cap) D) : ∀ j u, (D.map (Value.int .i64))[j]? = some u → w.cell? ((⟨b, off, none⟩ : Addr).add j) = some u := by
  intro j u hu
  rw [List.getElem?_map] at hu
  have hj : j < D.length := by
    apply Classical.byContradiction
    intro hn
    rw [List.getElem?_eq_none (by omega)] at hu
    cases hu
  rw [List.getElem?_eq_getElem hj] at hu
  obtain ⟨b', off', e, hc⟩ := h.cells (by omega)
  obtain ⟨rfl, rfl⟩ : b = b' ∧ off = off' := by simpa using e
  have hcj := hc j hj
  rw [List.getD_eq_getElem?_getD, List.getElem?_eq_getElem hj] at hcj
  rw [show ((⟨b, off, none⟩ : Addr).add j) = ⟨b, off + j, none⟩ from by simp [Addr.add], hcj]
  exact hu

theorem one_cells (D : List Int) : ∀ u ∈ D.map (Value.int .i64), u.oneCell' = true := by
  intro u hu
  obtain ⟨z, _, rfl⟩ := List.mem_map.1 hu
  rfl

/-- A first digit less t. -/
def dec (t : Int) : List Int → List Int
  | [] => []
  | x :: xs => (x - t) :: xs

theorem dec_length (t : Int) (xs : List Int) : (dec t xs).length = xs.length := by cases xs <;> simp [dec]
theorem dec_zero (xs : List Int) : dec 0 xs = xs := by cases xs <;> simp [dec]

theorem less_val {A B lo : List Int} {k : Nat} {a b t t' s : Int} (hk : lo.length = k) (ha : A.getD k 0 = a) (hb : B.getD k 0 = b) (hs : s = a - t - b + 10000 * t') (h : val lo + vf B k = vf A k + pw k * t) :
    val (lo ++ [s]) + vf B (k + 1) = vf A (k + 1) + pw (k + 1) * t' := by
  rw [val_snoc, vf, vf, ha, hb, hk, pw, hs]
  have e : 10000 * pw k * t' = pw k * (10000 * t') := by rw [Int.mul_comm 10000 (pw k), Int.mul_assoc]
  rw [e, Int.mul_add, Int.mul_sub, Int.mul_sub]
  omega

theorem set_mid (lo r : List Int) (x y : Int) (k : Nat) (hk : lo.length = k) : (lo ++ x :: r).set k y = lo ++ y :: r := by
  subst hk
  induction lo with
  | nil => rfl
  | cons z zs ih => simp

theorem getD_mid (lo r : List Int) (x : Int) (k : Nat) (hk : lo.length = k) : (lo ++ x :: r).getD k 0 = x := by
  subst hk
  simp [List.getD_eq_getElem?_getD]

theorem dec_drop (A : List Int) (k : Nat) (t : Int) (h : k < A.length) : dec t (A.drop k) = (A.getD k 0 - t) :: A.drop (k + 1) := by
  rw [drop_getD A k h]; rfl

/-- A borrow does not go out over the top. -/
theorem less_top {A B lo : List Int} {k : Nat} {a b t s : Int} (hk : lo.length = k) (hA : A.length = k + 1) (hB : B.length ≤ A.length) (hle : val B ≤ val A) (hlo : Limb lo) (ha : A.getD k 0 = a) (hb : B.getD k 0 = b) (hs : s = a - t - b) (h : val lo + vf B k = vf A k + pw k * t) : 0 ≤ s := by
  have h1 := less_val (t' := 0) (s := s) hk ha hb (by omega) h
  rw [vf_all A _ (by omega), vf_all B _ (by omega), Int.mul_zero, Int.add_zero, val_snoc, hk] at h1
  have h2 := (val_bounds hlo).2
  rw [hk] at h2
  apply Classical.byContradiction
  intro hn
  have h3 : pw k * s ≤ pw k * (-1) := Int.mul_le_mul_of_nonneg_left (by omega) (by have := pw_pos k; omega)
  omega

set_option maxRecDepth 20000 in
set_option maxHeartbeats 1000000 in
theorem less_any (w : World) (a1 : Option Addr) (n1 c1 : Nat) (A : List Int) (hA : Sl w (.slice a1 n1 c1) A) (a2 : Option Addr) (n2 c2 : Nat) (B : List Int) (hB : Sl w (.slice a2 n2 c2) B) (hl1 : A.length ≤ 1000000) (hBA : B.length ≤ A.length) (hle : val B ≤ val A) (h0 : 0 < A.length) :
    Calls Try.prog 70 #[.slice a1 n1 c1, .slice a2 n2 c2] w fun e w' => ∃ v, e = .returned v ∧ Dl w.heap.size w' v (val A - val B) A.length ∧ Below w.heap.size w w' := by
  obtain ⟨rfl, p1, p2, p3⟩ := hA.parts
  obtain ⟨rfl, q1, q2, q3⟩ := hB.parts
  obtain ⟨i0, hi, hz0, hz1, hz2⟩ := info_parts info64
  obtain ⟨b1, off1, rfl, _⟩ := hA.cells h0
  have hcells := hA.copy
  have hone := one_cells A
  have P3 := hide p3
  have Q3 := hide q3
  have HLE := hide hle
  clear p3 q3 hle
  go_enter Try.func70, Try.ntmps70
  go_wp2_with (at_builtin; refine wpList_append_own _ rfl (.const (.slice none 0 0)) (.tmp 7) 54 rfl w.heap.size 3 i0 (.int .i64 0) 1 8 Try.underlying54 hi hz0 hz1 hz2 rfl (by decide) _ _ _ rfl (World.ownsRow_nil _ _ _ _) ⟨b1, off1, none⟩ A.length c1 (A.map (Value.int .i64)) rfl (by simp) hcells hone (by unfold maxLen; omega) (by omega) (by simp) ?_)
  intro v' w1 hown hgrow _
  have hb1 : Below w.heap.size w w1 := (Below.refl w.heap.size w).grown hgrow (by simp) (by intro k hk; simp [Value.ownBlock] at hk)
  obtain ⟨ao, cap, rfl, o1, o2, _, o4⟩ := ow_of_row hown P3.out
  rcases o4 with o4 | ⟨g, off, cur, rfl, hg, hh, hsz, hat⟩
  · omega
  have o2' : cap ≤ 9223372036854775807 := o2
  have HH := hide hh
  have HA := hide hat
  have HSZ := hide hsz
  clear hown hgrow hcells hone hh hat o2 hsz
  go_wp2
  go_loopw [6] (fun iv wr => ∃ (k : Nat) (t : Int) (lo : List Int) (cur' : Array Value), k ≤ A.length ∧ iv = .int .i64 k ∧ (0 ≤ t ∧ t ≤ 1) ∧ (k = A.length → t = 0) ∧ lo.length = k ∧ Limb lo ∧ val lo + vf B k = vf A k + pw k * t ∧ Wr w1 wr g cur' 3 ∧ cur'.size = cur.size ∧ At cur' .i64 off (lo ++ dec t (A.drop k))) (fun iv _ => A.length - (intOf iv).toNat)
  case atStart => exact ⟨0, 0, [], cur, Nat.zero_le _, rfl, by omega, fun _ => rfl, rfl, limb_nil, by simp [val, vf, pw], Wr.refl HH.out, rfl, by simpa [dec_zero] using HA.out⟩
  case round =>
    obtain ⟨k, t, lo, cur', hk, rfl, ht, hkt, hlol, hlo, hval, hwr, hcs, hat⟩ := hrel
    have HLO := hide hlo
    have HLL := hide hlol
    have HV := hide hval
    have HC := hide hcs
    have hww : Wr w1 wr g cur' 3 := hwr
    by_cases hlt : k < A.length
    · rw [dec_drop A k t hlt] at hat
      have ba := limb_getD P3.out k
      obtain ⟨a, hak⟩ : ∃ a, A.getD k 0 = a := ⟨_, rfl⟩
      rw [hak] at hat ba
      have dA : (k : Int) < (A.length : Int) := by omega
      have dC : (k : Int) < (cap : Int) := by omega
      by_cases hltB : k < B.length
      · have sB := hwr.sl hg hb1 rfl hB
        obtain ⟨b2, off2, rfl, hcb⟩ := sB.cells (by omega)
        have cb := hcb k hltB
        have bb := limb_getD Q3.out k
        obtain ⟨b, hbk⟩ : ∃ b, B.getD k 0 = b := ⟨_, rfl⟩
        rw [hbk] at cb bb
        have dB : (k : Int) < (B.length : Int) := by omega
        have cd := hat.cell hwr.here k (by simp; omega)
        rw [getD_mid _ _ _ _ HLL.out] at cd
        have fd := hwr.free (off + k)
        have hat2 := hat.set k (a - t - b)
        rw [set_mid _ _ _ _ _ HLL.out] at hat2
        have hw2 := (hwr.set (off + k) (.int .i64 (a - t - b))).drew
        have HC2 : Hid ((cur'.setIfInBounds (off + k) (.int .i64 (a - t - b))).size = cur.size) := by show _ = _; rw [Array.size_setIfInBounds]; exact HC.out
        generalize hcur2 : cur'.setIfInBounds (off + k) (.int .i64 (a - t - b)) = cur2 at hat2 hw2 HC2
        have X2 := hide hat2
        have W2 := hide hw2
        have KB := hide hbk
        have KA := hide hak
        clear sB hcb hcur2 hat hwr hww hat2 hw2 hbk hak hlol hlo hval hcs
        go_wp2
        go_region
        generalize (wr.setCell ⟨g, off + k, none⟩ (.int .i64 (a - t - b))).drew = W at W2 ⊢
        have hat2 := X2.out
        have hw2 := W2.out
        have hak := KA.out
        have hbk := KB.out
        clear X2 W2 KA KB cd fd
        have hsv : Hid (val (lo ++ [a - t - b]) + vf B (k + 1) = vf A (k + 1) + pw (k + 1) * 0) := less_val (t' := 0) HLL.out hak hbk (by omega) HV.out
        have hsv1 : Hid (val (lo ++ [a - t - b + 10000]) + vf B (k + 1) = vf A (k + 1) + pw (k + 1) * 1) := less_val (t' := 1) HLL.out hak hbk (by omega) HV.out
        have htop : Hid (A.length = k + 1 → 0 ≤ a - t - b) := fun h => less_top HLL.out h hBA HLE.out HLO.out hak hbk (by omega) HV.out
        have cs := hat2.cell hw2.here k (by have := HLL.out; simp; omega)
        rw [getD_mid _ _ _ _ HLL.out] at cs
        have fs := hw2.free (off + k)
        by_cases hneg : a - t - b < 0
        · have hk1 : k + 1 < A.length := by
            apply Classical.byContradiction
            intro hn
            have := htop.out (by omega)
            omega
          have hat3 := hat2.set k (a - t - b + 10000)
          rw [set_mid _ _ _ _ _ HLL.out] at hat3
          have hw3 := (hw2.set (off + k) (.int .i64 (a - t - b + 10000)))
          have dB1 : (k : Int) + 1 < (A.length : Int) := by omega
          have e3 : lo ++ (a - t - b + 10000) :: A.drop (k + 1) = (lo ++ [a - t - b + 10000]) ++ A.getD (k + 1) 0 :: A.drop (k + 1 + 1) := by rw [drop_getD A (k + 1) hk1]; simp
          have HLL3 : (lo ++ [a - t - b + 10000]).length = k + 1 := by simp; exact HLL.out
          rw [e3] at hat3
          obtain ⟨a', hak'⟩ : ∃ a', A.getD (k + 1) 0 = a' := ⟨_, rfl⟩
          have ba' := limb_getD P3.out (k + 1)
          rw [hak'] at hat3 ba'
          have e2 : lo ++ (a - t - b) :: A.drop (k + 1) = (lo ++ [a - t - b]) ++ A.getD (k + 1) 0 :: A.drop (k + 1 + 1) := by rw [drop_getD A (k + 1) hk1]; simp
          have cs3 := hat2.cell hw2.here (k + 1) (by have := HLL.out; simp; omega)
          rw [e2, getD_mid _ _ _ _ (by simp; exact HLL.out), hak'] at cs3
          have fs3 := hw2.free (off + (k + 1))
          have fs4 := hw3.free (off + (k + 1))
          have hat4 := hat3.set (k + 1) (a' - 1)
          rw [set_mid _ _ _ _ _ HLL3] at hat4
          have hw4 := hw3.set (off + (k + 1)) (.int .i64 (a' - 1))
          rw [show (lo ++ [a - t - b + 10000]) ++ (a' - 1) :: A.drop (k + 1 + 1) = (lo ++ [a - t - b + 10000]) ++ dec 1 (A.drop (k + 1)) from by rw [dec_drop A (k + 1) 1 hk1, hak']] at hat4
          have HF := hide hat4
          have HW4 := hide hw4
          clear hat2 hat3 hat4 e3 e2 hw2 hw3 hw4 HLL3 hak hak' hbk hsv htop
          go_wp2
          go_roundw
          case rel => exact ⟨k + 1, 1, lo ++ [a - t - b + 10000], _, by omega, by go_num, by omega, fun h => by omega, by simp; exact HLL.out, limb_append.2 ⟨HLO.out, limb_cons.2 ⟨by omega, limb_nil⟩⟩, hsv1.out, HW4.out, by rw [Array.size_setIfInBounds, Array.size_setIfInBounds]; exact HC2.out, HF.out⟩
          case measure => simp [intOf]; omega
        · have HF : Hid (At cur2 .i64 off ((lo ++ [a - t - b]) ++ dec 0 (A.drop (k + 1)))) := by rw [dec_zero, List.append_assoc]; exact hat2
          have HW2 := hide hw2
          have HK := hide (show k + 1 ≤ A.length by omega)
          have HD := hide hsv.out
          clear hat2 hw2 hak hbk hsv hsv1 htop
          go_wp2
          go_roundw
          case rel => exact ⟨k + 1, 0, lo ++ [a - t - b], cur2, HK.out, by go_num, by omega, fun _ => rfl, by simp; exact HLL.out, limb_append.2 ⟨HLO.out, limb_cons.2 ⟨by omega, limb_nil⟩⟩, HD.out, HW2.out, HC2.out, HF.out⟩
          case measure => simp [intOf]; omega
      · have hbk := getD_past B k hltB
        have dB : ¬ (k : Int) < (B.length : Int) := by omega
        have hat2 : At cur' .i64 off (lo ++ (a - t) :: A.drop (k + 1)) := hat
        have hw2 := hwr
        have HC2 := HC
        generalize cur' = cur2 at hat2 hw2 HC2
        clear hat hww hcs hval hlo hlol
        have hsv : Hid (val (lo ++ [a - t]) + vf B (k + 1) = vf A (k + 1) + pw (k + 1) * 0) := less_val (t' := 0) HLL.out hak hbk (by omega) HV.out
        have hsv1 : Hid (val (lo ++ [a - t + 10000]) + vf B (k + 1) = vf A (k + 1) + pw (k + 1) * 1) := less_val (t' := 1) HLL.out hak hbk (by omega) HV.out
        have htop : Hid (A.length = k + 1 → 0 ≤ a - t) := fun h => less_top HLL.out h hBA HLE.out HLO.out hak hbk (by omega) HV.out
        have cs := hat2.cell hw2.here k (by have := HLL.out; simp; omega)
        rw [getD_mid _ _ _ _ HLL.out] at cs
        have fs := hw2.free (off + k)
        by_cases hneg : a - t < 0
        · have hk1 : k + 1 < A.length := by
            apply Classical.byContradiction
            intro hn
            have := htop.out (by omega)
            omega
          have hat3 := hat2.set k (a - t + 10000)
          rw [set_mid _ _ _ _ _ HLL.out] at hat3
          have hw3 := (hw2.set (off + k) (.int .i64 (a - t + 10000)))
          have dB1 : (k : Int) + 1 < (A.length : Int) := by omega
          have e3 : lo ++ (a - t + 10000) :: A.drop (k + 1) = (lo ++ [a - t + 10000]) ++ A.getD (k + 1) 0 :: A.drop (k + 1 + 1) := by rw [drop_getD A (k + 1) hk1]; simp
          have HLL3 : (lo ++ [a - t + 10000]).length = k + 1 := by simp; exact HLL.out
          rw [e3] at hat3
          obtain ⟨a', hak'⟩ : ∃ a', A.getD (k + 1) 0 = a' := ⟨_, rfl⟩
          have ba' := limb_getD P3.out (k + 1)
          rw [hak'] at hat3 ba'
          have e2 : lo ++ (a - t) :: A.drop (k + 1) = (lo ++ [a - t]) ++ A.getD (k + 1) 0 :: A.drop (k + 1 + 1) := by rw [drop_getD A (k + 1) hk1]; simp
          have cs3 := hat2.cell hw2.here (k + 1) (by have := HLL.out; simp; omega)
          rw [e2, getD_mid _ _ _ _ (by simp; exact HLL.out), hak'] at cs3
          have fs3 := hw2.free (off + (k + 1))
          have fs4 := hw3.free (off + (k + 1))
          have hat4 := hat3.set (k + 1) (a' - 1)
          rw [set_mid _ _ _ _ _ HLL3] at hat4
          have hw4 := hw3.set (off + (k + 1)) (.int .i64 (a' - 1))
          rw [show (lo ++ [a - t + 10000]) ++ (a' - 1) :: A.drop (k + 1 + 1) = (lo ++ [a - t + 10000]) ++ dec 1 (A.drop (k + 1)) from by rw [dec_drop A (k + 1) 1 hk1, hak']] at hat4
          have HF := hide hat4
          have HW4 := hide hw4
          clear hat2 hat3 hat4 e3 e2 hw2 hw3 hw4 HLL3 hak hak' hbk hsv htop
          go_wp2
          go_roundw
          case rel => exact ⟨k + 1, 1, lo ++ [a - t + 10000], _, by omega, by go_num, by omega, fun h => by omega, by simp; exact HLL.out, limb_append.2 ⟨HLO.out, limb_cons.2 ⟨by omega, limb_nil⟩⟩, hsv1.out, HW4.out, by rw [Array.size_setIfInBounds, Array.size_setIfInBounds]; exact HC2.out, HF.out⟩
          case measure => simp [intOf]; omega
        · have HF : Hid (At cur2 .i64 off ((lo ++ [a - t]) ++ dec 0 (A.drop (k + 1)))) := by rw [dec_zero, List.append_assoc]; exact hat2
          have HW2 := hide hw2
          have HK := hide (show k + 1 ≤ A.length by omega)
          have HD := hide hsv.out
          clear hat2 hw2 hak hbk hsv hsv1 htop
          go_wp2
          go_roundw
          case rel => exact ⟨k + 1, 0, lo ++ [a - t], cur2, HK.out, by go_num, by omega, fun _ => rfl, by simp; exact HLL.out, limb_append.2 ⟨HLO.out, limb_cons.2 ⟨by omega, limb_nil⟩⟩, HD.out, HW2.out, HC2.out, HF.out⟩
          case measure => simp [intOf]; omega
    · have hkn : k = A.length := by omega
      have ht0 := hkt hkn
      have hvv : val lo = val A - val B := by
        have h9 := HV.out
        rw [ht0, Int.mul_zero, Int.add_zero, vf_all A _ (by omega), vf_all B _ (by omega)] at h9
        omega
      have how : Ow w.heap.size wr (.slice (some ⟨g, off, none⟩) A.length cap) lo := by
        rw [List.drop_of_length_le (by omega)] at hat
        simp only [dec, List.append_nil] at hat
        exact ⟨_, cap, by rw [hlol, hkn], by omega, o2', hlo, .inr ⟨g, off, cur', rfl, hg, hwr.here, by rw [hcs]; exact HSZ.out, hat⟩⟩
      have D : Hid (Dl w.heap.size wr (.slice (some ⟨g, off, none⟩) A.length cap) (val A - val B) A.length) := ⟨lo, how, hvv, by omega⟩
      have hbel : Below w.heap.size w wr := hb1.trans (hwr.below hg)
      have dA : ¬ (k : Int) < (A.length : Int) := by omega
      clear hvv how hat hwr hww hcs hval hlo hlol ht0 hkt hkn
      go_wp2
      go_ret
      exact ⟨_, rfl, D.out, hbel⟩

end Dm
end Go.Proofs.Ythbomfboohjcfaa
