/-
  The contract of Parse.
-/
import Derived.Test.YtfokkkcegkbomabTimes
import Derived.Lib.OthersKept
import Derived.Laws.RangeAny
namespace Go.Proofs.Ytfokkkcegkbomab
namespace Lm
open Go.RowKit

/-- The bytes of a text, as numbers. -/
def bytesOf (s : ByteArray) : List Int := s.data.toList.map fun c => (c.toNat : Int)

theorem bytesOf_length (s : ByteArray) : (bytesOf s).length = s.size := by simp [bytesOf]
theorem bytesOf_getD (s : ByteArray) (i : Nat) (h : i < s.size) : (bytesOf s).getD i 0 = ((s[i]'h).toNat : Int) := by
  rw [List.getD_eq_getElem?_getD, bytesOf, List.getElem?_map]
  have e : s.data.toList[i]? = some (s[i]'h) := by
    rw [Array.getElem?_toList, Array.getElem?_eq_getElem (by simpa using h)]
    rfl
  rw [e]
  rfl

theorem dval_snoc (ds : List Int) (c : Int) : dval (ds ++ [c]) = dval ds * 10 + (c - 48) := by
  induction ds with
  | nil => simp [dval, p10]
  | cons d ds ih =>
    simp only [List.cons_append, dval, ih, List.length_append, List.length_singleton, p10]
    rw [Int.add_mul, Int.mul_comm 10, ← Int.mul_assoc]
    omega

theorem dig_snoc {ds : List Int} {c : Int} (h : Dig ds) (h1 : 48 ≤ c) (h2 : c ≤ 57) : Dig (ds ++ [c]) := by
  intro y hy
  simp at hy
  rcases hy with hy | rfl
  · exact h y hy
  · exact ⟨h1, h2⟩

theorem parse_step {ds : List Int} {pos j : Nat} {x gr c : Int} (hp : pos < ds.length) (hc : ds.getD pos 0 = c) (h : dval (ds.take pos) = x * p10 j + gr) : dval (ds.take (pos + 1)) = x * p10 (j + 1) + (10 * gr + (c - 48)) := by
  rw [take_succ_getD ds pos hp, dval_snoc, h, hc, p10, Int.add_mul, ← Int.mul_assoc, Int.mul_comm x 10, Int.mul_assoc 10, Int.mul_comm 10]
  omega

/-- What Parse answers, of a text that is not too long. -/
def Reads (w w' : World) (ds : List Int) (e : Ending) : Prop :=
  (Dig ds ∧ ∃ v, e = .returned (.tuple #[v, .int .i64 0]) ∧ Is w.heap.size w' v (dval ds)) ∨ (¬ Dig ds ∧ e = .returned (.tuple #[.slice none 0 0, .int .i64 10]))

theorem has_is {B B' : Nat} {w : World} {v : Value} {x : Int} {n : Nat} (h : Has B w v x n) (hB : B' ≤ B) : Is B' w v x := by
  obtain ⟨zs, h1, h2, h3, _⟩ := h
  exact ⟨zs, (ow_of_row h1 h2.1).mono hB, h2, h3⟩

theorem has_iter {B k : Nat} {w : World} {v : Value} {x : Int} {n : Nat} (h : Has B w v x n) (hk : k < B) (s : ByteArray) (p : Nat) : Has B (w.iterAt k s p) v x n := by
  obtain ⟨zs, h1, r⟩ := h
  exact ⟨zs, ownsRow_iterAt h1 hk s p, r⟩

set_option maxHeartbeats 2000000 in
theorem parse_some (w : World) (s : ByteArray) (h0 : 0 < s.size) (h1 : s.size ≤ 5120) :
    Calls Try.prog 18 #[.string s] w fun e w' => Reads w w' (bytesOf s) e ∧ Below w.heap.size w w' := by
  have hemp : s.toList.isEmpty = false := by
    rw [ByteArray.toList_eq]
    have : s.data.toList.length = s.size := by simp
    cases hl : s.data.toList with
    | nil => rw [hl] at this; simp at this; omega
    | cons _ _ => rfl
  have hsz : ¬ (5120 : Int) < (s.size : Int) := by omega
  have hK : (w.iter s 0).heap[w.heap.size]? = some (.stringIter s 0) := World.iter_heap w s 0
  have hb0 : Below w.heap.size w (w.iter s 0) := (Below.refl w.heap.size w).alloc (Nat.le_refl _) (.stringIter s 0)
  have hz0 : (w.iter s 0).heap.size = w.heap.size + 1 := World.size_alloc w (.stringIter s 0)
  have K := hide (And.intro hK (And.intro hb0 hz0))
  have HBL := hide (bytesOf_length s)
  clear hK hb0 hz0
  go_enter Try.func18, Try.ntmps18
  go_wp2
  generalize w.iter s 0 = w0 at K ⊢
  go_loopw [4, 5, 6] (fun ov gv sv wr => ∃ (pos j n : Nat) (x gr sc : Int), pos ≤ s.size ∧ j ≤ 8 ∧ n ≤ pos ∧ gv = .int .u32 gr ∧ sv = .int .u32 sc ∧ sc = p10 j ∧ (0 ≤ gr ∧ gr < p10 j) ∧ Has (w.heap.size + 1) wr ov x n ∧ Dig ((bytesOf s).take pos) ∧ dval ((bytesOf s).take pos) = x * p10 j + gr ∧ wr.heap[w.heap.size]? = some (.stringIter s pos) ∧ Below w.heap.size w wr) (fun _ _ _ wr => s.size - wr.iterPos w.heap.size)
  case atStart => exact ⟨0, 0, 0, 0, 0, 1, by omega, by omega, by omega, rfl, rfl, rfl, by simp [p10], ⟨[], World.ownsRow_nil _ _ _ _, canon_nil, rfl, rfl⟩, by simp; exact dig_nil, by simp [dval], K.out.1, K.out.2.1⟩
  case round =>
    obtain ⟨pos, j, n, x, gr, sc, hpos, hj, hn, rfl, rfl, hsc, hgr, hhas, hdig, hval, hit, hbel⟩ := hrel
    have HSC := hide hsc
    have HGR := hide hgr
    have HH := hide hhas
    have HD := hide hdig
    have HV := hide hval
    have HI := hide hit
    have hp8 := p10_mono (m := j) (n := 8) hj
    rw [show p10 8 = 100000000 from by decide] at hp8
    have hp1 := p10_pos j
    rw [← hsc] at hp8 hp1
    have hg0 := hgr.1
    have hg1 := hgr.2
    rw [← hsc] at hg1
    have hsz1 : w.heap.size < wr.heap.size := lt_of_heap hit
    clear hsc hgr hhas hdig hval hit
    have IP : Hid (wr.iterPos w.heap.size = pos) := by show _ = _; unfold World.iterPos; rw [HI.out]
    by_cases hlt : pos < s.size
    · have hbd := bytesOf_getD s pos hlt
      by_cases hd : 48 ≤ (bytesOf s).getD pos 0 ∧ (bytesOf s).getD pos 0 ≤ 57
      · have hascii : (s[pos]'hlt).toNat < 128 := by omega
        have hnext := fun ty => Lib.run_next_ascii_at (P := Try.prog) wr w.heap.size s pos ty HI.out hlt hascii
        rw [← hbd] at hnext
        have HD' := hide (show Dig ((bytesOf s).take (pos + 1)) by rw [take_succ_getD _ _ (by rw [HBL.out]; exact hlt)]; exact dig_snoc HD.out hd.1 hd.2)
        have HV' := hide (parse_step (j := j) (by rw [HBL.out]; exact hlt) rfl HV.out)
        generalize (bytesOf s).getD pos 0 = c at hnext hd HV'
        have q1 := Lib.iterAt_heap wr w.heap.size s pos (pos + 1) HI.out
        have q2 := Lib.below_iterAt hbel (Nat.le_refl _) s (pos + 1)
        have q3 := has_iter HH.out (Nat.lt_succ_self _) s (pos + 1)
        have q4 := Lib.iterAt_size wr w.heap.size s (pos + 1)
        have hc1 := hd.1
        have hc2 := hd.2
        have Q := hide (And.intro q1 (And.intro q2 (And.intro q3 (show w.heap.size + 1 ≤ (wr.iterAt w.heap.size s (pos + 1)).heap.size by rw [q4]; omega))))
        clear q1 q2 q3 q4 hbd hascii hd
        generalize wr.iterAt w.heap.size s (pos + 1) = wi at Q hnext
        have d1 : decide (c < 48) = false := by simp; omega
        have d2 : decide (57 < c) = false := by simp; omega
        by_cases hj8 : j = 8
        · have hsc : sc = 100000000 := by rw [HSC.out, hj8]; decide
          have HV9 : Hid (dval ((bytesOf s).take (pos + 1)) = (x * 1000000000 + (10 * gr + (c - 48))) * p10 0 + 0) := by
            show _ = _
            rw [HV'.out, hj8, show p10 (8 + 1) = 1000000000 from by decide, show p10 0 = 1 from rfl]
            omega
          subst hsc
          go_wp2_with fail
          refine (times_any (w.heap.size + 1) wi _ n x 1000000000 (10 * gr + (c - 48)) Q.out.2.2.1 Q.out.2.2.2 (by omega) (by omega) (by omega)).mono ?_
          rintro e w2 ⟨v2, n2, rfl, h2, hn2, hb2⟩
          have H2 := hide h2
          have hit2 : w2.heap[w.heap.size]? = some (.stringIter s (pos + 1)) := by rw [hb2.block w.heap.size (by omega)]; exact Q.out.1
          have IP2 : Hid (w2.iterPos w.heap.size = pos + 1) := by show _ = _; unfold World.iterPos; rw [hit2]
          have R2 := hide (And.intro hit2 (Q.out.2.1.trans (hb2.mono (by omega))))
          clear h2 hb2 hit2
          go_wp2
          go_roundw
          case rel => exact ⟨pos + 1, 0, n2, x * 1000000000 + (10 * gr + (c - 48)), 0, 1, by omega, by omega, by omega, rfl, rfl, rfl, by simp [p10], H2.out, HD'.out, HV9.out, R2.out.1, R2.out.2⟩
          case measure => rw [IP.out, IP2.out]; omega
        · have hp7 := p10_mono (m := j) (n := 7) (by omega)
          rw [← HSC.out, show p10 7 = 10000000 from by decide] at hp7
          have hne : (sc * 10 == 1000000000) = false := beq_eq_false_iff_ne.2 (by omega)
          have HSC' : Hid (sc * 10 = p10 (j + 1)) := by show _ = _; rw [p10, ← HSC.out]; omega
          have IP2 : Hid (wi.iterPos w.heap.size = pos + 1) := by show _ = _; unfold World.iterPos; rw [Q.out.1]
          go_wp2
          go_roundw
          case rel => exact ⟨pos + 1, j + 1, n, x, 10 * gr + (c - 48), sc * 10, by omega, by omega, by omega, rfl, rfl, HSC'.out, by rw [← HSC'.out]; omega, Q.out.2.2.1, HD'.out, HV'.out, Q.out.1, Q.out.2.1⟩
          case measure => rw [IP.out, IP2.out]; omega
      · have hnd : Hid (¬ Dig (bytesOf s)) := by
          intro h9
          exact hd (dig_getD h9 (by rw [HBL.out]; exact hlt))
        have hnext := fun ty => Lib.run_next_any_at (P := Try.prog) wr w.heap.size s pos ty HI.out hlt
        have hru : (Utf8.decode s pos).1 < 48 ∨ 57 < (Utf8.decode s pos).1 := by
          by_cases ha : (s[pos]'hlt).toNat < 128
          · rw [decode_ascii s pos hlt ha]
            simp only
            omega
          · have := (decode_high s pos hlt (by omega)).1
            omega
        have q2 := Lib.below_iterAt hbel (Nat.le_refl _) s (pos + (Utf8.decode s pos).2)
        generalize wr.iterAt w.heap.size s (pos + (Utf8.decode s pos).2) = wi at q2 hnext
        generalize (Utf8.decode s pos).1 = c at hnext hru
        clear hbd hd
        by_cases hlow : (c : Int) < 48
        · have d1 : decide ((c : Int) < 48) = true := by simp; omega
          go_wp2
          go_ret2
          exact ⟨.inr ⟨hnd.out, rfl⟩, q2⟩
        · have d1 : decide ((c : Int) < 48) = false := by simp; omega
          have d2 : decide (57 < (c : Int)) = true := by simp; omega
          have d3 : (57 : Int) < (c : Int) := by omega
          go_wp2
          go_ret2
          exact ⟨.inr ⟨hnd.out, rfl⟩, q2⟩
    · have hpe : pos = s.size := by omega
      have hnext := fun ty => Lib.run_next_end_at (P := Try.prog) wr w.heap.size s pos ty HI.out hlt
      have HDf : Hid (Dig (bytesOf s)) := by have := HD.out; rwa [List.take_of_length_le (by rw [HBL.out]; omega)] at this
      have HVf : Hid (dval (bytesOf s) = x * sc + gr) := by have := HV.out; rw [List.take_of_length_le (by rw [HBL.out]; omega), ← HSC.out] at this; exact this
      go_wp2_with fail
      refine (times_any (w.heap.size + 1) wr _ n x sc gr HH.out (by omega) (by omega) (by omega) (by omega)).mono ?_
      rintro e w2 ⟨v2, n2, rfl, h2, hn2, hb2⟩
      have R : Hid (Is w.heap.size w2 v2 (dval (bytesOf s)) ∧ Below w.heap.size w w2) := ⟨by rw [HVf.out]; exact has_is h2 (by omega), hbel.trans (hb2.mono (by omega))⟩
      clear h2 hb2
      go_wp2
      go_ret2
      exact ⟨.inl ⟨HDf.out, _, rfl, R.out.1⟩, R.out.2⟩

end Lm
end Go.Proofs.Ytfokkkcegkbomab
