/-
  The contract of Parse. Texts and their bytes; what Parse answers of every text. The contracts of the reference's Natural and Parse. The contracts of Lender's Lend and Back. LimbsTexts answers true, whatever text and list of limbs it is handed. The contracts of takeTimes and addBack. The contracts of addBack, moveUp and LeadingZeros32. The contracts of LeadingZeros32 and moveUp. The contract of moveDown. The contract of guessLimb. Plain facts on the long division: what the guess of a limb is worth. No program is named here. What the long division keeps from round to round: facts on memory and lists, without the program. The contract of divideLong. The contract of DivMod, for every divisor. Whole numbers: the contract of DivMod. Whole numbers: the contract of Text. The statements' awake answers true. The contracts of Uint, gcdShort and Gcd. The calls on fractions. What the laws on fractions lean on. The contracts of the reference's Sign, Size and Cmp. The contracts of the reference's plus: two magnitudes together. The reference's numbers with signs: what a sign and digits are worth; the contract of made. The contract of the reference's Minus and Abs. Regions as Inv4 has them, in which calls may also write single blocks that stood already (what is lent). No function is named here. Regions as Inv8 has them; besides it is kept between which two sizes of memory each answer was made, and the last operation may be shown by hand. No function is named here. What is lent, and what lies in memory of its own, in regions that are gone through in stretches. The contracts of the reference's Uint and Small. LimbsNumbers answers true, whatever number and list of limbs it is handed. How many limbs the document's own numbers have. Whole numbers as ints. The document's own numbers as ints.
-/
import Derived.Lib.OthersKept
import Derived.Laws.RangeAny
import Derived.Lib.Strings
import Derived.Laws.CopyOwn
import Derived.Deep.QuietTactic
import Derived.BigQuiet
import Derived.Deep.RegionWith
import Derived.Deep.RegionHeld3
import Derived.Deep.AppendLies
import Derived.OpenShut
import Derived.Deep.LoopGhost
import Derived.Test.YtdiiankcjgoecaaDoorWBkLawZ0
namespace Go.Proofs.YtdiiankcjgoecaaDoor
namespace Lm
open Go.RowKit
def bytesOf (s : ByteArray) : List Int := s.data.toList.map fun c => (c.toNat : Int)
theorem bytesOf_length (s : ByteArray) : (bytesOf s).length = s.size := by simp [bytesOf]
theorem bytesOf_getD (s : ByteArray) (i : Nat) (h : i < s.size) : (bytesOf s).getD i 0 = ((s[i]'h).toNat : Int) := by
  rw [List.getD_eq_getElem?_getD, bytesOf, List.getElem?_map]
  have e : s.data.toList[i]? = some (s[i]'h) := by
    rw [Array.getElem?_toList, Array.getElem?_eq_getElem (by simpa using h)]
    rfl
  rw [e]
  rfl
theorem dval_snoc (ds : List Int) (c : Int) : dval (ds ++ [c]) = dval ds * 10 + (c - 48) := by
  induction ds with
  | nil => simp [dval, p10]
  | cons d ds ih =>
    simp only [List.cons_append, dval, ih, List.length_append, List.length_singleton, p10]
    rw [Int.add_mul, Int.mul_comm 10, ← Int.mul_assoc]
    omega
theorem dig_snoc {ds : List Int} {c : Int} (h : Dig ds) (h1 : 48 ≤ c) (h2 : c ≤ 57) : Dig (ds ++ [c]) := by
  intro y hy
  simp at hy
  rcases hy with hy | rfl
  · exact h y hy
  · exact ⟨h1, h2⟩
theorem parse_step {ds : List Int} {pos j : Nat} {x gr c : Int} (hp : pos < ds.length) (hc : ds.getD pos 0 = c) (h : dval (ds.take pos) = x * p10 j + gr) : dval (ds.take (pos + 1)) = x * p10 (j + 1) + (10 * gr + (c - 48)) := by
  rw [take_succ_getD ds pos hp, dval_snoc, h, hc, p10, Int.add_mul, ← Int.mul_assoc, Int.mul_comm x 10, Int.mul_assoc 10, Int.mul_comm 10]
  omega
def Reads (w w' : World) (ds : List Int) (e : Ending) : Prop :=
  (Dig ds ∧ ∃ v, e = .returned (.tuple #[v, .int .i64 0]) ∧ Is w.heap.size w' v (dval ds)) ∨ (¬ Dig ds ∧ e = .returned (.tuple #[.slice none 0 0, .int .i64 10]))
theorem has_is {B B' : Nat} {w : World} {v : Value} {x : Int} {n : Nat} (h : HasN B w v x n) (hB : B' ≤ B) : Is B' w v x := by
  obtain ⟨zs, h1, h2, h3, _⟩ := h
  exact ⟨zs, (ow_of_row h1 h2.1).mono hB, h2, h3⟩
theorem has_iter {B k : Nat} {w : World} {v : Value} {x : Int} {n : Nat} (h : HasN B w v x n) (hk : k < B) (s : ByteArray) (p : Nat) : HasN B (w.iterAt k s p) v x n := by
  obtain ⟨zs, h1, r⟩ := h
  exact ⟨zs, ownsRow_iterAt h1 hk s p, r⟩
set_option maxRecDepth 20000 in
set_option maxHeartbeats 2000000 in
theorem parse_some (w : World) (s : ByteArray) (h0 : 0 < s.size) (h1 : s.size ≤ 5120) :
    Calls Tryd.prog 43 #[.string s] w fun e w' => Reads w w' (bytesOf s) e ∧ Below w.heap.size w w' := by
  have hemp : s.toList.isEmpty = false := by
    rw [ByteArray.toList_eq]
    have : s.data.toList.length = s.size := by simp
    cases hl : s.data.toList with
    | nil => rw [hl] at this; simp at this; omega
    | cons _ _ => rfl
  have hsz : ¬ (5120 : Int) < (s.size : Int) := by omega
  have hK : (w.iter s 0).heap[w.heap.size]? = some (.stringIter s 0) := World.iter_heap w s 0
  have hb0 : Below w.heap.size w (w.iter s 0) := (Below.refl w.heap.size w).alloc (Nat.le_refl _) (.stringIter s 0)
  have hz0 : (w.iter s 0).heap.size = w.heap.size + 1 := World.size_alloc w (.stringIter s 0)
  have K := hide (And.intro hK (And.intro hb0 hz0))
  have HBL := hide (bytesOf_length s)
  clear hK hb0 hz0
  go_enter Tryd.func43, Tryd.ntmps43
  go_wp2
  generalize w.iter s 0 = w0 at K ⊢
  go_loopw [4, 5, 6] (fun ov gv sv wr => ∃ (pos j n : Nat) (x gr sc : Int), pos ≤ s.size ∧ j ≤ 8 ∧ n ≤ pos ∧ gv = .int .u32 gr ∧ sv = .int .u32 sc ∧ sc = p10 j ∧ (0 ≤ gr ∧ gr < p10 j) ∧ HasN (w.heap.size + 1) wr ov x n ∧ Dig ((bytesOf s).take pos) ∧ dval ((bytesOf s).take pos) = x * p10 j + gr ∧ wr.heap[w.heap.size]? = some (.stringIter s pos) ∧ Below w.heap.size w wr) (fun _ _ _ wr => s.size - wr.iterPos w.heap.size)
  case atStart => exact ⟨0, 0, 0, 0, 0, 1, by omega, by omega, by omega, rfl, rfl, rfl, by simp [p10], ⟨[], World.ownsRow_nil _ _ _ _, canon_nil, rfl, rfl⟩, by simp; exact dig_nil, by simp [dval], K.out.1, K.out.2.1⟩
  case round =>
    obtain ⟨pos, j, n, x, gr, sc, hpos, hj, hn, rfl, rfl, hsc, hgr, hhas, hdig, hval, hit, hbel⟩ := hrel
    have HSC := hide hsc
    have HGR := hide hgr
    have HH := hide hhas
    have HD := hide hdig
    have HV := hide hval
    have HI := hide hit
    have hp8 := p10_mono (m := j) (n := 8) hj
    rw [show p10 8 = 100000000 from by decide] at hp8
    have hp1 := p10_pos j
    rw [← hsc] at hp8 hp1
    have hg0 := hgr.1
    have hg1 := hgr.2
    rw [← hsc] at hg1
    have hsz1 : w.heap.size < wr.heap.size := lt_of_heap hit
    clear hsc hgr hhas hdig hval hit
    have IP : Hid (wr.iterPos w.heap.size = pos) := by show _ = _; unfold World.iterPos; rw [HI.out]
    by_cases hlt : pos < s.size
    · have hbd := bytesOf_getD s pos hlt
      by_cases hd : 48 ≤ (bytesOf s).getD pos 0 ∧ (bytesOf s).getD pos 0 ≤ 57
      · have hascii : (s[pos]'hlt).toNat < 128 := by omega
        have hnext := fun ty => Lib.run_next_ascii_at (P := Tryd.prog) wr w.heap.size s pos ty HI.out hlt hascii
        rw [← hbd] at hnext
        have HD' := hide (show Dig ((bytesOf s).take (pos + 1)) by rw [take_succ_getD _ _ (by rw [HBL.out]; exact hlt)]; exact dig_snoc HD.out hd.1 hd.2)
        have HV' := hide (parse_step (j := j) (by rw [HBL.out]; exact hlt) rfl HV.out)
        generalize (bytesOf s).getD pos 0 = c at hnext hd HV'
        have q1 := Lib.iterAt_heap wr w.heap.size s pos (pos + 1) HI.out
        have q2 := Lib.below_iterAt hbel (Nat.le_refl _) s (pos + 1)
        have q3 := has_iter HH.out (Nat.lt_succ_self _) s (pos + 1)
        have q4 := Lib.iterAt_size wr w.heap.size s (pos + 1)
        have hc1 := hd.1
        have hc2 := hd.2
        have Q := hide (And.intro q1 (And.intro q2 (And.intro q3 (show w.heap.size + 1 ≤ (wr.iterAt w.heap.size s (pos + 1)).heap.size by rw [q4]; omega))))
        clear q1 q2 q3 q4 hbd hascii hd
        generalize wr.iterAt w.heap.size s (pos + 1) = wi at Q hnext
        have d1 : decide (c < 48) = false := by simp; omega
        have d2 : decide (57 < c) = false := by simp; omega
        by_cases hj8 : j = 8
        · have hsc : sc = 100000000 := by rw [HSC.out, hj8]; decide
          have HV9 : Hid (dval ((bytesOf s).take (pos + 1)) = (x * 1000000000 + (10 * gr + (c - 48))) * p10 0 + 0) := by
            show _ = _
            rw [HV'.out, hj8, show p10 (8 + 1) = 1000000000 from by decide, show p10 0 = 1 from rfl]
            omega
          subst hsc
          go_wp2_with fail
          refine (times_any (w.heap.size + 1) wi _ n x 1000000000 (10 * gr + (c - 48)) Q.out.2.2.1 Q.out.2.2.2 (by omega) (by omega) (by omega)).mono ?_
          rintro e w2 ⟨v2, n2, rfl, h2, hn2, hb2⟩
          have H2 := hide h2
          have hit2 : w2.heap[w.heap.size]? = some (.stringIter s (pos + 1)) := by rw [hb2.block w.heap.size (by omega)]; exact Q.out.1
          have IP2 : Hid (w2.iterPos w.heap.size = pos + 1) := by show _ = _; unfold World.iterPos; rw [hit2]
          have R2 := hide (And.intro hit2 (Q.out.2.1.trans (hb2.mono (by omega))))
          clear h2 hb2 hit2
          go_wp2
          go_roundw
          case rel => exact ⟨pos + 1, 0, n2, x * 1000000000 + (10 * gr + (c - 48)), 0, 1, by omega, by omega, by omega, rfl, rfl, rfl, by simp [p10], H2.out, HD'.out, HV9.out, R2.out.1, R2.out.2⟩
          case measure => rw [IP.out, IP2.out]; omega
        · have hp7 := p10_mono (m := j) (n := 7) (by omega)
          rw [← HSC.out, show p10 7 = 10000000 from by decide] at hp7
          have hne : (sc * 10 == 1000000000) = false := beq_eq_false_iff_ne.2 (by omega)
          have HSC' : Hid (sc * 10 = p10 (j + 1)) := by show _ = _; rw [p10, ← HSC.out]; omega
          have IP2 : Hid (wi.iterPos w.heap.size = pos + 1) := by show _ = _; unfold World.iterPos; rw [Q.out.1]
          go_wp2
          go_roundw
          case rel => exact ⟨pos + 1, j + 1, n, x, 10 * gr + (c - 48), sc * 10, by omega, by omega, by omega, rfl, rfl, HSC'.out, by rw [← HSC'.out]; omega, Q.out.2.2.1, HD'.out, HV'.out, Q.out.1, Q.out.2.1⟩
          case measure => rw [IP.out, IP2.out]; omega
      · have hnd : Hid (¬ Dig (bytesOf s)) := by
          intro h9
          exact hd (dig_getD h9 (by rw [HBL.out]; exact hlt))
        have hnext := fun ty => Lib.run_next_any_at (P := Tryd.prog) wr w.heap.size s pos ty HI.out hlt
        have hru : (Utf8.decode s pos).1 < 48 ∨ 57 < (Utf8.decode s pos).1 := by
          by_cases ha : (s[pos]'hlt).toNat < 128
          · rw [decode_ascii s pos hlt ha]
            simp only
            omega
          · have := (decode_high s pos hlt (by omega)).1
            omega
        have q2 := Lib.below_iterAt hbel (Nat.le_refl _) s (pos + (Utf8.decode s pos).2)
        generalize wr.iterAt w.heap.size s (pos + (Utf8.decode s pos).2) = wi at q2 hnext
        generalize (Utf8.decode s pos).1 = c at hnext hru
        clear hbd hd
        by_cases hlow : (c : Int) < 48
        · have d1 : decide ((c : Int) < 48) = true := by simp; omega
          go_wp2
          go_ret2
          exact ⟨.inr ⟨hnd.out, rfl⟩, q2⟩
        · have d1 : decide ((c : Int) < 48) = false := by simp; omega
          have d2 : decide (57 < (c : Int)) = true := by simp; omega
          have d3 : (57 : Int) < (c : Int) := by omega
          go_wp2
          go_ret2
          exact ⟨.inr ⟨hnd.out, rfl⟩, q2⟩
    · have hpe : pos = s.size := by omega
      have hnext := fun ty => Lib.run_next_end_at (P := Tryd.prog) wr w.heap.size s pos ty HI.out hlt
      have HDf : Hid (Dig (bytesOf s)) := by have := HD.out; rwa [List.take_of_length_le (by rw [HBL.out]; omega)] at this
      have HVf : Hid (dval (bytesOf s) = x * sc + gr) := by have := HV.out; rw [List.take_of_length_le (by rw [HBL.out]; omega), ← HSC.out] at this; exact this
      go_wp2_with fail
      refine (times_any (w.heap.size + 1) wr _ n x sc gr HH.out (by omega) (by omega) (by omega) (by omega)).mono ?_
      rintro e w2 ⟨v2, n2, rfl, h2, hn2, hb2⟩
      have R : Hid (Is w.heap.size w2 v2 (dval (bytesOf s)) ∧ Below w.heap.size w w2) := ⟨by rw [HVf.out]; exact has_is h2 (by omega), hbel.trans (hb2.mono (by omega))⟩
      clear h2 hb2
      go_wp2
      go_ret2
      exact ⟨.inl ⟨HDf.out, _, rfl, R.out.1⟩, R.out.2⟩
end Lm
end Go.Proofs.YtdiiankcjgoecaaDoor

namespace Go.Proofs.YtdiiankcjgoecaaDoor
namespace Lm
open Go.RowKit
set_option maxRecDepth 20000 in
set_option maxHeartbeats 400000 in
theorem parse_long (w : World) (s : ByteArray) (h : (5120 : Int) < (s.size : Int)) :
    Calls Tryd.prog 43 #[.string s] w fun e w' => e = .returned (.tuple #[.slice none 0 0, .int .i64 2]) ∧ Below w.heap.size w w' := by
  go_enter Tryd.func43, Tryd.ntmps43
  go_wp2
  go_ret2
  exact ⟨rfl, Below.refl _ _⟩
set_option maxRecDepth 20000 in
set_option maxHeartbeats 400000 in
theorem parse_none (w : World) (s : ByteArray) (h : s.size = 0) :
    Calls Tryd.prog 43 #[.string s] w fun e w' => e = .returned (.tuple #[.slice none 0 0, .int .i64 10]) ∧ Below w.heap.size w w' := by
  have he : s = ByteArray.empty := by
    apply ByteArray.ext
    apply Array.eq_empty_of_size_eq_zero
    simpa using h
  subst he
  go_enter Tryd.func43, Tryd.ntmps43
  go_wp2
  go_ret2
  exact ⟨rfl, Below.refl _ _⟩
end Lm
end Go.Proofs.YtdiiankcjgoecaaDoor

namespace Go.Proofs.YtdiiankcjgoecaaDoor
namespace Dm
open Go.RowKit
open Lm (bytesOf bytesOf_length bytesOf_getD hide lt_of_cell lt_of_heap IsDec Dig dval p10 p10_pos dig_getD dig_drop dig_snoc dig_nil)
def Err (s : ByteArray) (k : Int) : Prop := (k = 2 ∧ 5120 < s.size) ∨ (k = 10 ∧ s.size ≤ 5120 ∧ ¬ (1 ≤ s.size ∧ Dig (bytesOf s)))
def Fine (s : ByteArray) : Prop := 1 ≤ s.size ∧ s.size ≤ 5120 ∧ Dig (bytesOf s)
theorem err_fine {s : ByteArray} {k : Int} (h : Err s k) (h' : Fine s) : False := by
  rcases h with ⟨h1, h2⟩ | ⟨h1, h2, h3⟩
  · have := h'.2.1; omega
  · exact h3 ⟨h'.1, h'.2.2⟩
end Dm
end Go.Proofs.YtdiiankcjgoecaaDoor

namespace Go.Proofs.YtdiiankcjgoecaaDoor
namespace Lm
open Go.RowKit
structure Touch (w w' : World) (L : Nat) : Prop where
  os : w'.os = w.os
  tape : w'.tape = w.tape
  output : w'.output = w.output
  size : w.heap.size ≤ w'.heap.size
  other : ∀ k, k < w.heap.size → k ≠ L → w'.heap[k]? = w.heap[k]?
end Lm
end Go.Proofs.YtdiiankcjgoecaaDoor

namespace Go.Proofs.YtdiiankcjgoecaaDoor
namespace Lm
open Go.RowKit
open Dm (Err Fine err_fine)
theorem parse_e (w : World) (s : ByteArray) :
    Calls Tryd.prog 43 #[.string s] w fun e w' => ((∃ k : Int, Err s k ∧ e = .returned (.tuple #[.slice none 0 0, .int .i64 k])) ∨ (Fine s ∧ ∃ v, e = .returned (.tuple #[v, .int .i64 0]) ∧ Is w.heap.size w' v (dval (bytesOf s)))) ∧ Below w.heap.size w w' := by
  by_cases h1 : (5120 : Int) < (s.size : Int)
  · refine (parse_long w s h1).mono ?_
    rintro e w' ⟨rfl, hb⟩
    exact ⟨.inl ⟨2, .inl ⟨rfl, by omega⟩, rfl⟩, hb⟩
  · by_cases h2 : s.size = 0
    · refine (parse_none w s h2).mono ?_
      rintro e w' ⟨rfl, hb⟩
      exact ⟨.inl ⟨10, .inr ⟨rfl, by omega, fun hx => by omega⟩, rfl⟩, hb⟩
    · refine (parse_some w s (by omega) (by omega)).mono ?_
      rintro e w' ⟨hr, hb⟩
      rcases hr with ⟨hd, v, rfl, hi⟩ | ⟨hn, rfl⟩
      · exact ⟨.inr ⟨⟨by omega, by omega, hd⟩, v, rfl, hi⟩, hb⟩
      · exact ⟨.inl ⟨10, .inr ⟨rfl, by omega, fun hx => hn hx.2⟩, rfl⟩, hb⟩
end Lm
end Go.Proofs.YtdiiankcjgoecaaDoor

namespace Go.Proofs.YtdiiankcjgoecaaDoor
namespace Lm
open Go.RowKit
theorem take_val {ps Y qs : List Int} {k : Nat} {x y a c b t r : Int} (hk : qs.length = k) (hy : Y.getD k 0 = y) (ha : ps.getD k 0 = a) (ht : t = x * y + c) (hr : r = a - t % 4294967296 - b) (h1 : -4294967296 ≤ r) (h2 : r < 4294967296) (h : val qs - pw k * (c + b) = vf ps k - x * vf Y k) :
    val (qs ++ [r % 4294967296]) - pw (k + 1) * (t / 4294967296 + bor r) = vf ps (k + 1) - x * vf Y (k + 1) := by
  rw [val_snoc, vf, vf, ha, hy, hk, pw, sub_step h1 h2]
  have e : t = t % 4294967296 + 4294967296 * (t / 4294967296) := by omega
  have e1 : pw k * (r + 4294967296 * bor r) = pw k * r + 4294967296 * pw k * bor r := by rw [Int.mul_add, Int.mul_comm 4294967296 (pw k), Int.mul_assoc]
  have e2 : 4294967296 * pw k * (t / 4294967296 + bor r) = pw k * (4294967296 * (t / 4294967296)) + 4294967296 * pw k * bor r := by rw [Int.mul_add, Int.mul_comm 4294967296 (pw k), Int.mul_assoc]
  have e3 : pw k * (4294967296 * (t / 4294967296)) = pw k * t - pw k * (t % 4294967296) := by rw [← Int.mul_sub]; congr 1; omega
  have e4 : x * (vf Y k + pw k * y) = x * vf Y k + pw k * (x * y) := by rw [Int.mul_add, ← Int.mul_assoc x, Int.mul_comm x (pw k), Int.mul_assoc]
  have e5 : pw k * t = pw k * (x * y) + pw k * c := by rw [ht, Int.mul_add]
  have e6 : pw k * r = pw k * a - pw k * (t % 4294967296) - pw k * b := by rw [hr, Int.mul_sub, Int.mul_sub]
  have e7 : pw k * (c + b) = pw k * c + pw k * b := Int.mul_add _ _ _
  rw [e1, e2, e3, e4, e5, e6]
  omega
theorem take_carry {Y : List Int} {k : Nat} {x y c t : Int} (hy : Y.getD k 0 = y) (ht : t = x * y + c) (h : pw k * c ≤ x * vf Y k) : pw (k + 1) * (t / 4294967296) ≤ x * vf Y (k + 1) := by
  rw [vf, hy, pw]
  have e1 : 4294967296 * pw k * (t / 4294967296) = pw k * (4294967296 * (t / 4294967296)) := by rw [Int.mul_comm 4294967296 (pw k), Int.mul_assoc]
  have e2 : pw k * (4294967296 * (t / 4294967296)) ≤ pw k * t := Int.mul_le_mul_of_nonneg_left (by omega) (by have := pw_pos k; omega)
  have e3 : pw k * t = pw k * (x * y) + pw k * c := by rw [ht, Int.mul_add]
  have e4 : x * (vf Y k + pw k * y) = x * vf Y k + pw k * (x * y) := by rw [Int.mul_add, ← Int.mul_assoc x, Int.mul_comm x (pw k), Int.mul_assoc]
  omega
theorem carry_zero {Y : List Int} {n : Nat} {x c : Int} (hY : Limb Y) (hl : Y.length = n) (hx : 0 ≤ x ∧ x < 4294967296) (hc : 0 ≤ c) (h : pw (n + 1) * c ≤ x * vf Y (n + 1)) : c = 0 := by
  rw [vf_all Y _ (by omega), pw] at h
  have hb := val_bounds hY
  rw [hl] at hb
  have h1 : x * val Y ≤ 4294967295 * val Y := Int.mul_le_mul_of_nonneg_right (by omega) hb.1
  apply Classical.byContradiction
  intro hn
  have h2 : 4294967296 * pw n * 1 ≤ 4294967296 * pw n * c := Int.mul_le_mul_of_nonneg_left (by omega) (by have := pw_pos n; omega)
  omega
set_option maxRecDepth 20000 in
set_option maxHeartbeats 1000000 in
theorem takeTimes_any (w : World) (g o n cap c2 : Nat) (cur : Array Value) (ps Y : List Int) (a2 : Option Addr) (x : Int) (hx : 0 ≤ x ∧ x < 4294967296)
    (hh : w.heap[g]? = some (.cells cur 124 (0, 0))) (ha : At cur .u32 o ps) (hp : Limb ps) (hpl : ps.length = n + 1) (hm : n ≤ 1000000)
    (hY : ∀ wr cur', Wr w wr g cur' 124 → Sl wr (.slice a2 n c2) Y) :
    Calls Tryd.prog 123 #[.slice (some ⟨g, o, none⟩) (n + 1) cap, .slice a2 n c2, .int .u32 x] w fun e w' => ∃ qs b cur', e = .returned (.bool (b != 0)) ∧ (0 ≤ b ∧ b ≤ 1) ∧ val qs - pw (n + 1) * b = val ps - x * val Y ∧ Limb qs ∧ qs.length = n + 1 ∧ Wr w w' g cur' 124 ∧ cur'.size = cur.size ∧ At cur' .u32 o qs ∧ (∀ i, i < o ∨ o + (n + 1) ≤ i → cur'[i]? = cur[i]?) := by
  obtain ⟨hYl, g1, g2, g3⟩ := (hY _ _ (Wr.refl hh)).parts
  have HP := hide hp
  have HY := hide g3
  have HYL := hide hYl
  have HPL := hide hpl
  have HH := hide hh
  have HA := hide ha
  clear hp g3 hYl hpl hh ha
  go_enter Tryd.func123, Tryd.ntmps123
  go_wp2
  go_loopw [7, 8, 14] (fun cv bv i wr => ∃ (k : Nat) (c b : Int) (qs : List Int) (cur' : Array Value), k ≤ n + 1 ∧ cv = .int .u64 c ∧ bv = .int .i64 b ∧ i = .int .i64 k ∧ (0 ≤ c ∧ c < 4294967296) ∧ (0 ≤ b ∧ b ≤ 1) ∧ qs.length = k ∧ Limb qs ∧ val qs - pw k * (c + b) = vf ps k - x * vf Y k ∧ pw k * c ≤ x * vf Y k ∧ Wr w wr g cur' 124 ∧ cur'.size = cur.size ∧ At cur' .u32 o (qs ++ ps.drop k) ∧ (∀ i, i < o ∨ o + (n + 1) ≤ i → cur'[i]? = cur[i]?)) (fun _ _ i _ => n + 1 - (intOf i).toNat)
  case atStart => exact ⟨0, 0, 0, [], cur, Nat.zero_le _, rfl, rfl, rfl, by omega, by omega, rfl, limb_nil, by simp [val, vf, pw], by simp [vf], Wr.refl HH.out, rfl, by simpa using HA.out, fun _ _ => rfl⟩
  case round =>
    obtain ⟨k, c, b, qs, cur', hk, rfl, rfl, rfl, hc, hbb, hql, hq, hval, hcar, hwr, hcs, hat, hout⟩ := hrel
    have HQL := hide hql
    have HQ := hide hq
    have HV := hide hval
    have HCar := hide hcar
    have HW := hide hwr
    have HC := hide hcs
    have HT := hide hat
    have HO := hide hout
    clear hql hq hval hcar hwr hcs hat hout
    by_cases hlt : k < n + 1
    · have sy := hY _ _ HW.out
      have hlen : (qs ++ ps.drop k).length = n + 1 := by have := HQL.out; have := HPL.out; simp; omega
      have co := HT.out.cell HW.out.here k (by rw [hlen]; omega)
      have e1 : (qs ++ ps.drop k).getD k 0 = ps.getD k 0 := by
        rw [List.getD_eq_getElem?_getD, List.getElem?_append_right (by have := HQL.out; omega), List.getElem?_drop, List.getD_eq_getElem?_getD, HQL.out]
        congr 2
        omega
      rw [e1] at co
      have hfree := HW.out.free (o + k)
      have by' := limb_getD HY.out k
      have ba := limb_getD HP.out k
      obtain ⟨y, hy⟩ : ∃ y, Y.getD k 0 = y := ⟨_, rfl⟩
      obtain ⟨a, hpa⟩ : ∃ a, ps.getD k 0 = a := ⟨_, rfl⟩
      have ky : Hid (Calls Tryd.prog 92 #[.slice a2 n c2, .int .i64 k] wr fun e w' => e = .returned (.int .u32 y) ∧ w' = wr) := by rw [← hy]; exact limb_nat _ _ Y sy k
      rw [hy] at by'
      rw [hpa] at co ba
      have hxy := mul_bound hx by'
      have s0 : 0 ≤ (x * y + c) % 4294967296 ∧ (x * y + c) % 4294967296 < 4294967296 := by omega
      have s1 : -4294967296 ≤ a - (x * y + c) % 4294967296 - b := by omega
      have s2 : a - (x * y + c) % 4294967296 - b < 4294967296 := by omega
      have hand := and_bor s1 s2
      have hbo := bor_01 (a - (x * y + c) % 4294967296 - b)
      have HV' := hide (take_val (x := x) HQL.out hy hpa rfl rfl s1 s2 HV.out)
      have HCar' := hide (take_carry (x := x) hy rfl HCar.out)
      have HT' := hide (HT.out.set k ((a - (x * y + c) % 4294967296 - b) % 4294967296))
      have HW' := hide (HW.out.set (o + k) (.int .u32 ((a - (x * y + c) % 4294967296 - b) % 4294967296)))
      have d1 : (k : Int) < (n : Int) + 1 := by omega
      clear hlen e1 hy hpa sy
      go_wp2_with fail
      refine (ky.out).mono ?_
      rintro e w2 ⟨rfl, rfl⟩
      go_wp2
      go_roundw
      case rel =>
        refine ⟨k + 1, (x * y + c) / 4294967296, _, qs ++ [(a - (x * y + c) % 4294967296 - b) % 4294967296], _, by omega, rfl, rfl, by go_num, by omega, hbo, by have := HQL.out; simp; omega, limb_append.2 ⟨HQ.out, limb_cons.2 ⟨by omega, limb_nil⟩⟩, HV'.out, HCar'.out, HW'.out, by simpa using HC.out, by rw [← set_snoc qs ps k _ HQL.out (by have := HPL.out; omega)]; exact HT'.out, fun i hi => ?_⟩
        rw [Array.getElem?_setIfInBounds, if_neg (by omega)]
        exact HO.out i hi
      case measure => simp [intOf]; omega
    · have hkn : k = n + 1 := by omega
      subst hkn
      have hc0 := carry_zero HY.out HYL.out.symm hx hc.1 HCar.out
      have HVf : Hid (val qs - pw (n + 1) * b = val ps - x * val Y) := by
        have h9 := HV.out
        rw [hc0, Int.zero_add, vf_all ps _ (by have := HPL.out; omega), vf_all Y _ (by have := HYL.out; omega)] at h9
        exact h9
      have HTf : Hid (At cur' .u32 o qs) := by
        have h9 := HT.out
        rwa [List.drop_of_length_le (by have := HPL.out; omega), List.append_nil] at h9
      clear hc0
      go_wp2
      go_ret
      exact ⟨qs, b, cur', rfl, hbb, HVf.out, HQ.out, HQL.out, HW.out, HC.out, HTf.out, HO.out⟩
end Lm
end Go.Proofs.YtdiiankcjgoecaaDoor

namespace Go.Proofs.YtdiiankcjgoecaaDoor
namespace Lm
open Go.RowKit
set_option maxRecDepth 20000 in
set_option maxHeartbeats 1000000 in
theorem addBack_any (w : World) (g o n cap c2 : Nat) (cur : Array Value) (ps Y : List Int) (a2 : Option Addr)
    (hh : w.heap[g]? = some (.cells cur 124 (0, 0))) (ha : At cur .u32 o ps) (hp : Limb ps) (hpl : ps.length = n + 1) (hm : n ≤ 1000000)
    (hY : ∀ wr cur', Wr w wr g cur' 124 → Sl wr (.slice a2 n c2) Y) :
    Calls Tryd.prog 124 #[.slice (some ⟨g, o, none⟩) (n + 1) cap, .slice a2 n c2] w fun e w' => ∃ qs c cur', e = .returned (.tuple #[]) ∧ (0 ≤ c ∧ c ≤ 1) ∧ val qs + pw (n + 1) * c = val ps + val Y ∧ Limb qs ∧ qs.length = n + 1 ∧ Wr w w' g cur' 124 ∧ cur'.size = cur.size ∧ At cur' .u32 o qs ∧ (∀ i, i < o ∨ o + (n + 1) ≤ i → cur'[i]? = cur[i]?) := by
  obtain ⟨hYl, g1, g2, g3⟩ := (hY _ _ (Wr.refl hh)).parts
  have HP := hide hp
  have HY := hide g3
  have HYL := hide hYl
  have HPL := hide hpl
  have HH := hide hh
  have HA := hide ha
  clear hp g3 hYl hpl hh ha
  go_enter Tryd.func124, Tryd.ntmps124
  go_wp2
  go_loopw [4, 9] (fun cv i wr => ∃ (k : Nat) (c : Int) (qs : List Int) (cur' : Array Value), k ≤ n + 1 ∧ cv = .int .u64 c ∧ i = .int .i64 k ∧ (0 ≤ c ∧ c ≤ 1) ∧ qs.length = k ∧ Limb qs ∧ val qs + pw k * c = vf ps k + vf Y k ∧ Wr w wr g cur' 124 ∧ cur'.size = cur.size ∧ At cur' .u32 o (qs ++ ps.drop k) ∧ (∀ i, i < o ∨ o + (n + 1) ≤ i → cur'[i]? = cur[i]?)) (fun _ i _ => n + 1 - (intOf i).toNat)
  case atStart => exact ⟨0, 0, [], cur, Nat.zero_le _, rfl, rfl, by omega, rfl, limb_nil, by simp [val, vf, pw], Wr.refl HH.out, rfl, by simpa using HA.out, fun _ _ => rfl⟩
  case round =>
    obtain ⟨k, c, qs, cur', hk, rfl, rfl, hc, hql, hq, hval, hwr, hcs, hat, hout⟩ := hrel
    have HQL := hide hql
    have HQ := hide hq
    have HV := hide hval
    have HW := hide hwr
    have HC := hide hcs
    have HT := hide hat
    have HO := hide hout
    clear hql hq hval hwr hcs hat hout
    by_cases hlt : k < n + 1
    · have sy := hY _ _ HW.out
      have hlen : (qs ++ ps.drop k).length = n + 1 := by have := HQL.out; have := HPL.out; simp; omega
      have co := HT.out.cell HW.out.here k (by rw [hlen]; omega)
      have e1 : (qs ++ ps.drop k).getD k 0 = ps.getD k 0 := by
        rw [List.getD_eq_getElem?_getD, List.getElem?_append_right (by have := HQL.out; omega), List.getElem?_drop, List.getD_eq_getElem?_getD, HQL.out]
        congr 2
        omega
      rw [e1] at co
      have hfree := HW.out.free (o + k)
      have by' := limb_getD HY.out k
      have ba := limb_getD HP.out k
      obtain ⟨y, hy⟩ : ∃ y, Y.getD k 0 = y := ⟨_, rfl⟩
      obtain ⟨a, hpa⟩ : ∃ a, ps.getD k 0 = a := ⟨_, rfl⟩
      have ky : Hid (∀ q, Calls Tryd.prog 92 #[.slice a2 n c2, .int .i64 k] (wr.drewN q) fun e w' => e = .returned (.int .u32 y) ∧ w' = wr.drewN q) := by
        intro q; rw [← hy]; exact limb_nat _ _ Y (sy.below (below_drewN (Below.refl _ _) q)) k
      rw [hy] at by'
      rw [hpa] at co ba
      have hst := add_step ba by' hc rfl
      have HV' := hide (add_val HQL.out hpa hy rfl HV.out)
      have HT' := hide (HT.out.set k ((a + y + c) % 4294967296))
      have HW' := hide (HW.out.set (o + k) (.int .u32 ((a + y + c) % 4294967296)))
      have d1 : (k : Int) < (n : Int) + 1 := by omega
      clear hlen e1 hy hpa sy
      go_wp2
      go_quiet ((go_at_call 92; exact Calls.quiet_of_same (ky.out _)))
      go_wp2
      go_roundw
      case rel =>
        refine ⟨k + 1, (a + y + c) / 4294967296, qs ++ [(a + y + c) % 4294967296], _, by omega, rfl, by go_num, by omega, by have := HQL.out; simp; omega, limb_append.2 ⟨HQ.out, limb_cons.2 ⟨by omega, limb_nil⟩⟩, HV'.out, HW'.out.drewN _, by simpa using HC.out, by rw [← set_snoc qs ps k _ HQL.out (by have := HPL.out; omega)]; exact HT'.out, fun i hi => ?_⟩
        rw [Array.getElem?_setIfInBounds, if_neg (by omega)]
        exact HO.out i hi
      case measure => simp [intOf]; omega
    · have hkn : k = n + 1 := by omega
      subst hkn
      have HVf : Hid (val qs + pw (n + 1) * c = val ps + val Y) := by
        have h9 := HV.out
        rw [vf_all ps _ (by have := HPL.out; omega), vf_all Y _ (by have := HYL.out; omega)] at h9
        exact h9
      have HTf : Hid (At cur' .u32 o qs) := by
        have h9 := HT.out
        rwa [List.drop_of_length_le (by have := HPL.out; omega), List.append_nil] at h9
      go_wp2
      go_end0
      exact ⟨qs, c, cur', rfl, hc, HVf.out, HQ.out, HQL.out, HW.out, HC.out, HTf.out, HO.out⟩
end Lm
end Go.Proofs.YtdiiankcjgoecaaDoor

namespace Go.Proofs.YtdiiankcjgoecaaDoor
namespace Lm
open Go.RowKit
set_option maxRecDepth 20000 in
set_option maxHeartbeats 400000 in
theorem lead_any (x : Int) (w : World) (h0 : 0 ≤ x) (h1 : x < 4294967296) :
    Calls Tryd.prog 120 #[.int .u32 x] w fun e w' => e = .returned (.int .i64 (32 - (Lib.bitLen x.toNat : Nat))) ∧ w' = w := by
  have hl : Lib.bitLen x.toNat ≤ 32 := Lib.bitLen_le _ 32 (by omega) (by omega)
  have kl := hide (len32_any x w h0 h1)
  generalize Lib.bitLen x.toNat = l at hl kl
  go_enter Tryd.func120, Tryd.ntmps120
  go_wp2_with fail
  refine (kl.out).mono ?_
  rintro e w' ⟨rfl, rfl⟩
  go_wp2
  go_ret
  exact ⟨rfl, rfl⟩
theorem p2_pow (s : Nat) : (2 : Int) ^ s = p2 s := by
  induction s with
  | zero => rfl
  | succ s ih => rw [Int.pow_succ, ih, p2]; omega
theorem nat_p2 (s : Nat) : ((2 ^ s : Nat) : Int) = p2 s := by
  induction s with
  | zero => rfl
  | succ s ih => rw [Nat.pow_succ, p2]; omega
theorem up_bound {x c : Int} {s : Nat} (h1 : 0 ≤ x) (h2 : x < 4294967296) (hs : s ≤ 31) (h3 : 0 ≤ c) (h4 : c < p2 s) : 0 ≤ x * p2 s + c ∧ x * p2 s + c < 4294967296 * p2 s ∧ x * p2 s + c < 9223372036854775808 ∧ 0 ≤ x * p2 s := by
  have hp := p2_pos s
  have hp2 := p2_mono (m := s) (n := 31) hs
  rw [show p2 31 = 2147483648 from by decide] at hp2
  have e1 : 0 ≤ x * p2 s := Int.mul_nonneg h1 (by omega)
  have e2 : (x + 1) * p2 s ≤ 4294967296 * p2 s := Int.mul_le_mul_of_nonneg_right (by omega) (by omega)
  rw [Int.add_mul] at e2
  omega
theorem or_shift {x c : Int} {s : Nat} (h1 : 0 ≤ x) (h2 : x < 4294967296) (hs : s ≤ 31) (h3 : 0 ≤ c) (h4 : c < p2 s) : bits .or .u64 (IntKind.u64.wrap (x * 2 ^ s)) c = x * p2 s + c := by
  have hb := up_bound h1 h2 hs h3 h4
  have hp := p2_pos s
  rw [p2_pow, IntKind.wrap_u64, Int.emod_eq_of_lt hb.2.2.2 (by omega), u64_or _ _ hb.2.2.2 (by omega) h3 (by omega)]
  obtain ⟨a, rfl⟩ := Int.eq_ofNat_of_zero_le h1
  obtain ⟨d, rfl⟩ := Int.eq_ofNat_of_zero_le h3
  have e1 : ((a : Int) * p2 s).toNat = 2 ^ s * a := by
    rw [← nat_p2, Int.mul_comm, ← Int.natCast_mul, Int.toNat_natCast]
  have hd : d < 2 ^ s := by have := nat_p2 s; omega
  rw [e1, Int.toNat_natCast, ← Nat.two_pow_add_eq_or_of_lt hd, Int.natCast_add, Int.natCast_mul, nat_p2, Int.mul_comm]
theorem up_val {zs qs : List Int} {k : Nat} {z c m t : Int} (hk : qs.length = k) (hz : zs.getD k 0 = z) (hs : t = z * m + c) (h : val qs + pw k * c = vf zs k * m) :
    val (qs ++ [t % 4294967296]) + pw (k + 1) * (t / 4294967296) = vf zs (k + 1) * m := by
  rw [val_snoc, vf, hz, hk, pw, Int.add_mul]
  have e : t = t % 4294967296 + 4294967296 * (t / 4294967296) := by omega
  have e2 : pw k * (t % 4294967296) + 4294967296 * pw k * (t / 4294967296) = pw k * t := by
    rw [Int.mul_comm 4294967296 (pw k), Int.mul_assoc, ← Int.mul_add, ← e]
  have e3 : pw k * z * m = pw k * (z * m) := by rw [Int.mul_assoc]
  rw [Int.add_assoc, e2, hs, Int.mul_add, e3]
  omega
set_option maxRecDepth 20000 in
set_option maxHeartbeats 1000000 in
theorem moveUp_any (w : World) (ao : Option Addr) (n cap : Nat) (xs : List Int) (hx : Sl w (.slice ao n cap) xs) (s : Nat) (hs : s ≤ 31) (hm : xs.length ≤ 1000000) :
    Calls Tryd.prog 121 #[.slice ao n cap, .int .u64 s] w fun e w' => ∃ cur qs, e = .returned (.slice (some ⟨w.heap.size, 0, none⟩) (n + 1) (n + 1)) ∧ Limb qs ∧ qs.length = n + 1 ∧ val qs = val xs * p2 s ∧ w'.heap[w.heap.size]? = some (.cells cur 124 (0, 0)) ∧ cur.size = n + 1 ∧ At cur .u32 0 qs ∧ Below w.heap.size w w' := by
  obtain ⟨rfl, h1, h2, h3⟩ := hx.parts
  obtain ⟨i0, hi, hz0, hz1, hz2⟩ := info_parts info32
  have H3 := hide h3
  have hp := p2_pos s
  have hp2 := p2_mono (m := s) (n := 31) hs
  rw [show p2 31 = 2147483648 from by decide] at hp2
  clear h3
  go_enter Tryd.func121, Tryd.ntmps121
  go_wp2_with (refine wpList_make_full _ rfl (.tmp 12) (.tmp 12) 22 rfl w.heap.size 124 i0 (.int .u32 0) 1 Tryd.underlying22 hi hz0 hz1 .i64 .i64 _ _ (xs.length + 1) rfl rfl (by omega) (by omega) (by rw [hz2]; omega) (by unfold maxLen; omega) (Nat.le_refl _) ?hK)
  case hK =>
    intro w1 hown hgrow
    obtain ⟨_, cur, hh, hcs, hat⟩ := block_of_made hown
    have hb1 : Below w.heap.size w w1 := (Below.refl w.heap.size w).grown hgrow (Nat.le_refl _) (by simp)
    have HH := hide hh
    have HS := hide hcs
    have HA := hide hat
    clear hown hgrow hh hcs hat
    go_wp2
    go_loopw [6, 16] (fun cv i wr => ∃ (k : Nat) (c : Int) (qs : List Int) (cur' : Array Value), k ≤ xs.length ∧ cv = .int .u64 c ∧ i = .int .i64 k ∧ (0 ≤ c ∧ c < p2 s) ∧ qs.length = k ∧ Limb qs ∧ val qs + pw k * c = vf xs k * p2 s ∧ Wr w1 wr w.heap.size cur' 124 ∧ cur'.size = xs.length + 1 ∧ At cur' .u32 0 (qs ++ (List.replicate (xs.length + 1) 0).drop k)) (fun _ i _ => xs.length - (intOf i).toNat)
    case atStart => exact ⟨0, 0, [], cur, Nat.zero_le _, rfl, rfl, by omega, rfl, limb_nil, by simp [val, vf, pw], Wr.refl HH.out, HS.out, by simpa using HA.out⟩
    case round =>
      obtain ⟨k, c, qs, cur', hk, rfl, rfl, hcb, hql, hq, hval, hwr, hcs, hat⟩ := hrel
      have HQL := hide hql
      have HQ := hide hq
      have HV := hide hval
      have HW := hide hwr
      have HC := hide hcs
      have HT := hide hat
      clear hql hq hval hwr hcs hat
      by_cases hlt : k < xs.length
      · have sx := HW.out.sl (Nat.le_refl _) hb1 rfl hx
        obtain ⟨b, off, rfl, hcx⟩ := sx.cells (by omega)
        have cx := hcx k (by omega)
        have bx := limb_getD H3.out k
        obtain ⟨x, hxk⟩ : ∃ x, xs.getD k 0 = x := ⟨_, rfl⟩
        rw [hxk] at cx bx
        have hlen : (qs ++ (List.replicate (xs.length + 1) (0 : Int)).drop k).length = xs.length + 1 := by have := HQL.out; simp; omega
        have hcell := HT.out.cell HW.out.here k (by rw [hlen]; omega)
        rw [Nat.zero_add] at hcell
        generalize (qs ++ (List.replicate (xs.length + 1) (0 : Int)).drop k).getD k 0 = old at hcell
        have hfree := HW.out.free k
        obtain ⟨M, hM⟩ : ∃ M, M = x * p2 s + c := ⟨_, rfl⟩
        have hor : bits .or .u64 (IntKind.u64.wrap (x * 2 ^ s)) c = M := by rw [hM]; exact or_shift bx.1 bx.2 hs hcb.1 hcb.2
        have hmb := up_bound bx.1 bx.2 hs hcb.1 hcb.2
        rw [← hM] at hmb
        have m1 := hmb.1
        have m2 := hmb.2.1
        have m3 := hmb.2.2.1
        have HV' := hide (up_val HQL.out hxk hM HV.out)
        have HT' := hide (HT.out.set k (M % 4294967296))
        have HW' := hide (HW.out.set k (.int .u32 (M % 4294967296)))
        clear hlen sx hcx hM hmb hxk
        go_wp2
        go_roundw
        case rel => exact ⟨k + 1, M / 4294967296, qs ++ [M % 4294967296], _, by omega, rfl, by go_num, by omega, by have := HQL.out; simp; omega, limb_append.2 ⟨HQ.out, limb_cons.2 ⟨by omega, limb_nil⟩⟩, HV'.out, HW'.out, by simpa using HC.out, by rw [← set_snoc qs _ k _ HQL.out (by simp; omega)]; simpa using HT'.out⟩
        case measure => simp [intOf]; omega
      · have hkM : k = xs.length := by omega
        subst hkM
        have hlen : (qs ++ (List.replicate (xs.length + 1) (0 : Int)).drop xs.length).length = xs.length + 1 := by have := HQL.out; simp; omega
        have hcell := HT.out.cell HW.out.here xs.length (by rw [hlen]; omega)
        rw [Nat.zero_add] at hcell
        have hfree := HW.out.free xs.length
        generalize hold : (qs ++ (List.replicate (xs.length + 1) (0 : Int)).drop xs.length).getD xs.length 0 = old at hcell
        have hat2 := HT.out.set xs.length c
        rw [set_snoc qs _ xs.length c HQL.out (by simp), List.drop_of_length_le (by simp), List.append_nil, Nat.zero_add] at hat2
        have hw2 := HW.out.set xs.length (.int .u32 c)
        have hlr : Limb (qs ++ [c]) := limb_append.2 ⟨HQ.out, limb_cons.2 ⟨by omega, limb_nil⟩⟩
        have R := hide (And.intro hat2 (And.intro hw2 (And.intro hlr (show val (qs ++ [c]) = val xs * p2 s by
          rw [val_snoc, HQL.out, HV.out, vf_all xs _ (Nat.le_refl _)]))))
        have hbel : Below w.heap.size w (wr.setCell ⟨w.heap.size, xs.length, none⟩ (.int .u32 c)) := hb1.trans (hw2.below (Nat.le_refl _))
        have hc2 : c < 4294967296 := by omega
        clear hat2 hw2 hlr hlen hold
        go_wp2
        go_ret
        exact ⟨_, qs ++ [c], rfl, R.out.2.2.1, by have := HQL.out; simp; omega, R.out.2.2.2, R.out.2.1.here, by simpa using HC.out, R.out.1, hbel⟩
end Lm
end Go.Proofs.YtdiiankcjgoecaaDoor

namespace Go.Proofs.YtdiiankcjgoecaaDoor
namespace Lm
open Go.RowKit
theorem p2_split {s : Nat} (hs : s ≤ 31) : p2 s * p2 (32 - s) = 4294967296 := by
  rw [← p2_add, show s + (32 - s) = 32 by omega]
  decide
theorem down_limb {A C : Int} {s : Nat} (hs : s ≤ 31) (hA : 0 ≤ A ∧ A < 4294967296) (hC : 0 ≤ C) : 0 ≤ (C * 4294967296 + A) / p2 s ∧ p2 s * (((C * 4294967296 + A) / p2 s) % 4294967296) = A - A % p2 s + C % p2 s * 4294967296 := by
  have hP := p2_pos s
  have hR := p2_pos (32 - s)
  have hPR := p2_split hs
  generalize p2 s = P at *
  generalize p2 (32 - s) = R at *
  have e1 : C * 4294967296 + A = A + P * (C * R) := by
    rw [← hPR, ← Int.mul_assoc C, Int.mul_comm C P, Int.mul_assoc]
    omega
  have e2 : (C * 4294967296 + A) / P = A / P + C * R := by rw [e1, Int.add_mul_ediv_left _ _ (by omega)]
  have hq : 0 ≤ A / P := Int.ediv_nonneg hA.1 (by omega)
  have hc0 : 0 ≤ C % P ∧ C % P < P := ⟨Int.emod_nonneg _ (by omega), Int.emod_lt_of_pos _ (by omega)⟩
  have ec := Int.mul_ediv_add_emod C P
  have e3 : C * R = C % P * R + 4294967296 * (C / P) := by
    have : C * R = (P * (C / P) + C % P) * R := by rw [ec]
    rw [this, Int.add_mul, ← hPR, Int.mul_assoc P, Int.mul_comm (C / P) R, ← Int.mul_assoc]
    omega
  have hCR : 0 ≤ C * R := Int.mul_nonneg hC (by omega)
  have h0R : 0 ≤ C % P * R := Int.mul_nonneg hc0.1 (by omega)
  have ea := Int.mul_ediv_add_emod A P
  have ham : 0 ≤ A % P := Int.emod_nonneg _ (by omega)
  have hAR : A / P < R := by
    apply Int.ediv_lt_of_lt_mul (by omega)
    rw [Int.mul_comm, hPR]
    exact hA.2
  have hlt : A / P + C % P * R < 4294967296 := by
    have h1 : (C % P + 1) * R ≤ P * R := Int.mul_le_mul_of_nonneg_right (by omega) (by omega)
    rw [hPR, Int.add_mul] at h1
    omega
  refine ⟨by rw [e2]; omega, ?_⟩
  have e4 : (A / P + C * R) % 4294967296 = A / P + C % P * R := by
    rw [e3, ← Int.add_assoc, Int.add_mul_emod_self_left, Int.emod_eq_of_lt (by omega) hlt]
  rw [e2, e4, Int.mul_add, ← Int.mul_assoc, Int.mul_comm P (C % P), Int.mul_assoc, hPR]
  omega
theorem down_val {xs qs : List Int} {k : Nat} {P o r0 A C : Int} (hk : qs.length = k) (hA : xs.getD k 0 = A) (ho : P * o = A - A % P + C % P * 4294967296) (h : P * val qs + r0 = vf xs k + pw k * (A % P)) : P * val (qs ++ [o]) + r0 = vf xs (k + 1) + pw (k + 1) * (C % P) := by
  rw [val_snoc, vf, hA, hk, pw, Int.mul_add]
  have e1 : P * (pw k * o) = pw k * (P * o) := by rw [← Int.mul_assoc, Int.mul_comm P, Int.mul_assoc]
  have e2 : pw k * (P * o) = pw k * A - pw k * (A % P) + 4294967296 * pw k * (C % P) := by
    rw [ho, Int.mul_add, Int.mul_sub, Int.mul_comm (C % P), ← Int.mul_assoc, Int.mul_comm (pw k) 4294967296]
  omega
set_option maxRecDepth 20000 in
set_option maxHeartbeats 1000000 in
theorem moveDown_any (w : World) (ao : Option Addr) (n cap : Nat) (xs : List Int) (hx : Sl w (.slice ao n cap) xs) (s : Nat) (hs : s ≤ 31) (hm : xs.length ≤ 1000000) :
    Calls Tryd.prog 125 #[.slice ao n cap, .int .u64 s] w fun e w' => ∃ v, e = .returned v ∧ Is w.heap.size w' v (val xs / p2 s) ∧ Below w.heap.size w w' := by
  obtain ⟨rfl, h1, h2, h3⟩ := hx.parts
  obtain ⟨i0, hi, hz0, hz1, hz2⟩ := info_parts info32
  have H3 := hide h3
  clear h3
  go_enter Tryd.func125, Tryd.ntmps125
  go_wp2_with (refine wpList_make_full _ rfl (.tmp 10) (.tmp 10) 22 rfl w.heap.size 124 i0 (.int .u32 0) 1 Tryd.underlying22 hi hz0 hz1 .i64 .i64 _ _ xs.length rfl rfl (by omega) (by omega) (by rw [hz2]; omega) (by unfold maxLen; omega) (Nat.le_refl _) ?hK)
  case hK =>
    intro w1 hown hgrow
    obtain ⟨_, cur, hh, hcs, hat⟩ := block_of_made hown
    have hb1 : Below w.heap.size w w1 := (Below.refl w.heap.size w).grown hgrow (Nat.le_refl _) (by simp)
    have HH := hide hh
    have HS := hide hcs
    have HA := hide hat
    clear hown hgrow hh hcs hat
    go_wp2
    go_loopw [14] (fun i wr => ∃ (k : Nat) (qs : List Int) (cur' : Array Value), k ≤ xs.length ∧ i = .int .i64 k ∧ qs.length = k ∧ Limb qs ∧ p2 s * val qs + xs.getD 0 0 % p2 s = vf xs k + pw k * (xs.getD k 0 % p2 s) ∧ Wr w1 wr w.heap.size cur' 124 ∧ cur'.size = xs.length ∧ At cur' .u32 0 (qs ++ (List.replicate xs.length 0).drop k)) (fun i _ => xs.length - (intOf i).toNat)
    case atStart => exact ⟨0, [], cur, Nat.zero_le _, rfl, rfl, limb_nil, by simp [val, vf, pw], Wr.refl HH.out, HS.out, by simpa using HA.out⟩
    case round =>
      obtain ⟨k, qs, cur', hk, rfl, hql, hq, hval, hwr, hcs, hat⟩ := hrel
      have HQL := hide hql
      have HQ := hide hq
      have HV := hide hval
      have HW := hide hwr
      have HC := hide hcs
      have HT := hide hat
      clear hql hq hval hwr hcs hat
      by_cases hlt : k < xs.length
      · have sx := HW.out.sl (Nat.le_refl _) hb1 rfl hx
        obtain ⟨b, off, rfl, hcx⟩ := sx.cells (by omega)
        have cx := hcx k (by omega)
        have bx := limb_getD H3.out k
        have by' := limb_getD H3.out (k + 1)
        have kl : Hid (Calls Tryd.prog 92 #[.slice (some ⟨b, off, none⟩) xs.length cap, .int .i64 ((k : Int) + 1)] wr fun e w' => e = .returned (.int .u32 (xs.getD (k + 1) 0)) ∧ w' = wr) := by
          have h9 := limb_any wr _ xs sx ((k : Int) + 1) (by omega)
          rwa [show ((k : Int) + 1).toNat = k + 1 by omega] at h9
        have HVn := hide (fun o ho => down_val (o := o) (C := xs.getD (k + 1) 0) HQL.out rfl ho HV.out)
        generalize hCe : xs.getD (k + 1) 0 = C at by' kl HVn
        have HCE := hide hCe
        clear hCe
        generalize xs.getD k 0 = A at cx bx HVn
        have hdl := down_limb hs bx by'.1
        have hor := or_join C A by'.1 by'.2 bx.1 bx.2
        have hlen : (qs ++ (List.replicate xs.length (0 : Int)).drop k).length = xs.length := by have := HQL.out; simp; omega
        have hcell := HT.out.cell HW.out.here k (by rw [hlen]; omega)
        rw [Nat.zero_add] at hcell
        generalize (qs ++ (List.replicate xs.length (0 : Int)).drop k).getD k 0 = old at hcell
        have hfree := HW.out.free k
        obtain ⟨M, hM⟩ : ∃ M, M = C * 4294967296 + A := ⟨_, rfl⟩
        rw [← hM] at hor hdl
        have hM0 : 0 ≤ M := by omega
        have hM1 : M < 18446744073709551616 := by omega
        have hpw := p2_pow s
        have HVf := hide (HVn.out _ hdl.2)
        have hd0 := hdl.1
        have HT' := hide (HT.out.set k (M / p2 s % 4294967296))
        have HW' := hide (HW.out.set k (.int .u32 (M / p2 s % 4294967296)))
        have hp1 := p2_pos s
        clear hlen sx hcx hM hdl HVn
        go_wp2_with fail
        refine (kl.out).mono ?_
        rintro e w2 ⟨rfl, rfl⟩
        go_wp2
        go_roundw
        case rel => exact ⟨k + 1, qs ++ [M / p2 s % 4294967296], _, by omega, by go_num, by have := HQL.out; simp; omega, limb_append.2 ⟨HQ.out, limb_cons.2 ⟨by omega, limb_nil⟩⟩, by rw [HCE.out]; exact HVf.out, HW'.out, by simpa using HC.out, by rw [← set_snoc qs _ k _ HQL.out (by simp; omega)]; simpa using HT'.out⟩
        case measure => simp [intOf]; omega
      · have hkM : k = xs.length := by omega
        subst hkM
        have hat2 := HT.out
        rw [List.drop_of_length_le (by simp), List.append_nil] at hat2
        have how : Ow w.heap.size wr (.slice (some ⟨w.heap.size, 0, none⟩) xs.length xs.length) qs := by
          have := HQL.out
          exact ⟨_, xs.length, by rw [this], by omega, by unfold maxLen; omega, HQ.out, .inr ⟨_, 0, _, rfl, Nat.le_refl _, HW.out.here, by rw [HC.out]; omega, hat2⟩⟩
        have hbel : Below w.heap.size w wr := hb1.trans (HW.out.below (Nat.le_refl _))
        have his := how.is_cut (x := val xs / p2 s) (by
          have hv := HV.out
          have hz : xs.getD xs.length 0 = 0 := by rw [List.getD_eq_getElem?_getD, List.getElem?_eq_none (Nat.le_refl _)]; rfl
          rw [hz, Int.zero_emod, Int.mul_zero, Int.add_zero, vf_all xs _ (Nat.le_refl _)] at hv
          have hp1 := p2_pos s
          have hr := Int.emod_lt_of_pos (xs.getD 0 0) (show 0 < p2 s by omega)
          have hr0 := Int.emod_nonneg (xs.getD 0 0) (show p2 s ≠ 0 by omega)
          have := div_of (a := val xs) (b := p2 s) (q := val qs) (by omega) (by rw [← hv, Int.mul_comm]) hr0 hr
          exact this.1.symm)
        clear hat2
        go_wp2_with fail
        refine (cut_any _ _ _ _ _ how.sl).mono ?_
        rintro e w2 ⟨rfl, rfl⟩
        go_wp2
        go_ret
        exact ⟨_, rfl, his, hbel⟩
end Lm
end Go.Proofs.YtdiiankcjgoecaaDoor

namespace Go.Proofs.YtdiiankcjgoecaaDoor
namespace Lm
open Go.RowKit
theorem guess_start {v1 v2 u2 U g r : Int} (h2 : 0 ≤ v2) (h3 : u2 < 4294967296) (hg : U = g * v1 + r) (hr : r < v1) (hg0 : 0 ≤ g) : U * 4294967296 + u2 < (g + 1) * (v1 * 4294967296 + v2) := by
  have e1 : (g + 1) * (v1 * 4294967296 + v2) = (g * v1 + v1) * 4294967296 + (g + 1) * v2 := by
    rw [Int.mul_add, ← Int.mul_assoc, Int.add_mul, Int.one_mul]
  have e2 : 0 ≤ (g + 1) * v2 := Int.mul_nonneg (by omega) h2
  rw [e1]
  omega
theorem guess_le {v1 v2 u2 U g r : Int} (hg : g * v1 + r = U) (h : g * v2 ≤ r * 4294967296 + u2) : g * (v1 * 4294967296 + v2) ≤ U * 4294967296 + u2 := by
  rw [Int.mul_add, ← Int.mul_assoc, ← hg]
  omega
theorem guess_gt {v1 v2 u2 U g r : Int} (hg : g * v1 + r = U) (h : r * 4294967296 + u2 < g * v2) : U * 4294967296 + u2 < g * (v1 * 4294967296 + v2) := by
  rw [Int.mul_add, ← Int.mul_assoc, ← hg]
  omega
theorem guess_break {v1 v2 u2 U g r : Int} (hv : 0 ≤ v2 ∧ v2 < 4294967296) (hu : 0 ≤ u2) (hg : g * v1 + r = U) (hr : 4294967296 ≤ r) (hg0 : 0 ≤ g) (hg1 : g < 4294967296) : g * (v1 * 4294967296 + v2) ≤ U * 4294967296 + u2 := by
  apply guess_le hg
  have h1 : g * v2 ≤ 4294967295 * v2 := Int.mul_le_mul_of_nonneg_right (by omega) hv.1
  omega
theorem guess_top {v1 U g r : Int} (hv : 2147483648 ≤ v1) (hU : U ≤ v1 * 4294967296 + 4294967295) (hg : g * v1 + r = U) (_hr : 0 ≤ r) (hb : 4294967296 ≤ r + v1) : g ≤ 4294967296 := by
  apply Classical.byContradiction
  intro hn
  have h1 : 4294967297 * v1 ≤ g * v1 := Int.mul_le_mul_of_nonneg_right (by omega) (by omega)
  omega
theorem guess_max {v1 U g r : Int} (hv : 2147483648 ≤ v1) (hU : U ≤ v1 * 4294967296 + 4294967295) (hg : g * v1 + r = U) (hr : 0 ≤ r) : g ≤ 4294967297 := by
  apply Classical.byContradiction
  intro hn
  have h1 : 4294967298 * v1 ≤ g * v1 := Int.mul_le_mul_of_nonneg_right (by omega) (by omega)
  omega
set_option maxRecDepth 20000 in
set_option maxHeartbeats 2000000 in
theorem guess_any (w : World) (a1 a2 : Option Addr) (n c1 c2 : Nat) (ps Y : List Int) (hp : Sl w (.slice a1 (n + 2 + 1) c1) ps) (hy : Sl w (.slice a2 (n + 2) c2) Y)
    (htop : 2147483648 ≤ Y.getD (n + 1) 0) (hu : ps.getD (n + 2) 0 ≤ Y.getD (n + 1) 0) :
    Calls Tryd.prog 122 #[.slice a1 (n + 2 + 1) c1, .slice a2 (n + 2) c2] w fun e w' => ∃ g : Int, e = .returned (.int .u32 g) ∧ (0 ≤ g ∧ g < 4294967296) ∧ g * (Y.getD (n + 1) 0 * 4294967296 + Y.getD n 0) ≤ (ps.getD (n + 2) 0 * 4294967296 + ps.getD (n + 1) 0) * 4294967296 + ps.getD n 0 ∧ (4294967296 ≤ g + 1 ∨ (ps.getD (n + 2) 0 * 4294967296 + ps.getD (n + 1) 0) * 4294967296 + ps.getD n 0 < (g + 1) * (Y.getD (n + 1) 0 * 4294967296 + Y.getD n 0)) ∧ ∃ q, w' = w.drewN q := by
  obtain ⟨hpl, p1, p2, p3⟩ := hp.parts
  obtain ⟨hyl, y1, y2, y3⟩ := hy.parts
  obtain ⟨b, off, rfl, hc⟩ := hp.cells (by omega)
  obtain ⟨b', off', rfl, hc'⟩ := hy.cells (by omega)
  have f0 := hc (n + 2) (by omega)
  have f1 := hc (n + 1) (by omega)
  have f2 := hc n (by omega)
  have e1 := hc' (n + 1) (by omega)
  have e2 := hc' n (by omega)
  have bu0 := limb_getD p3 (n + 2)
  have bu1 := limb_getD p3 (n + 1)
  have bu2 := limb_getD p3 n
  have bv1 := limb_getD y3 (n + 1)
  have bv2 := limb_getD y3 n
  generalize ps.getD (n + 2) 0 = u0 at *
  generalize ps.getD (n + 1) 0 = u1 at *
  generalize ps.getD n 0 = u2 at *
  generalize Y.getD (n + 1) 0 = v1 at *
  generalize Y.getD n 0 = v2 at *
  have hN : n + 3 ≤ 9223372036854775807 := by omega
  have hor1 := or_join u0 u1 bu0.1 bu0.2 bu1.1 bu1.2
  obtain ⟨U, hU⟩ : ∃ U, U = u0 * 4294967296 + u1 := ⟨_, rfl⟩
  rw [← hU] at hor1 ⊢
  have hU0 : 0 ≤ U := by omega
  have hUb : U < 18446744073709551616 := by omega
  have hUm : U ≤ v1 * 4294967296 + 4294967295 := by omega
  have HU := hide hU
  clear hc hc' p3 y3 hpl hyl hU
  go_enter Tryd.func122, Tryd.ntmps122
  go_wp2
  go_quiet (fail)
  go_wp2
  replace f0 : (w.drewN nq).cell? _ = _ := f0
  replace f1 : (w.drewN nq).cell? _ = _ := f1
  replace f2 : (w.drewN nq).cell? _ = _ := f2
  replace e1 : (w.drewN nq).cell? _ = _ := e1
  replace e2 : (w.drewN nq).cell? _ = _ := e2
  generalize hwq : w.drewN nq = wq at f0 f1 f2 e1 e2 ⊢
  have HQ : Hid (∃ q, wq = w.drewN q) := ⟨_, hwq.symm⟩
  clear hwq
  go_quiet (fail)
  go_wp2
  replace f2 : (wq.drewN nq).cell? _ = _ := f2
  replace HQ : Hid (∃ q, wq.drewN nq = w.drewN q) := by
    obtain ⟨q, hq⟩ := HQ.out
    exact ⟨q + nq, by rw [hq]; simp [World.drewN]; omega⟩
  generalize wq.drewN nq = wz at f2 HQ ⊢
  have hv0 : 0 < v1 := by omega
  have hq0 : 0 ≤ U / v1 := Int.ediv_nonneg hU0 (by omega)
  have hqm := Int.mul_ediv_add_emod U v1
  have hr0 := Int.emod_nonneg U (show v1 ≠ 0 by omega)
  have hr1 := Int.emod_lt_of_pos U hv0
  have hq1 : U / v1 ≤ 4294967297 := guess_max htop hUm (by rw [Int.mul_comm]; exact hqm) hr0
  have t1 : U.tdiv v1 = U / v1 := Int.tdiv_eq_ediv_of_nonneg hU0
  have t2 : IntKind.u64.wrap (U / v1) = U / v1 := by rw [IntKind.wrap_u64]; exact Int.emod_eq_of_lt hq0 (by omega)
  have t3 : U.tmod v1 = U % v1 := Int.tmod_eq_emod_of_nonneg hU0
  have HQM := hide hqm
  clear hqm
  go_quiet (fail)
  go_wp2
  replace f2 : (wz.drewN nq).cell? _ = _ := f2
  replace HQ : Hid (∃ q, wz.drewN nq = w.drewN q) := by
    obtain ⟨q, hq⟩ := HQ.out
    exact ⟨q + nq, by rw [hq]; simp [World.drewN]; omega⟩
  generalize wz.drewN nq = wl at f2 HQ ⊢
  go_loop [9, 10] (fun gv rv => ∃ gu rs : Int, gv = .int .u64 gu ∧ rv = .int .u64 rs ∧ 0 ≤ gu ∧ gu ≤ 4294967297 ∧ 0 ≤ rs ∧ rs < 4294967296 ∧ gu * v1 + rs = U ∧ (4294967296 ≤ gu + 1 ∨ U * 4294967296 + u2 < (gu + 1) * (v1 * 4294967296 + v2))) (fun gv _ => (intOf gv).toNat)
  case atStart => exact ⟨U / v1, U % v1, rfl, rfl, hq0, hq1, hr0, by omega, by rw [Int.mul_comm]; exact HQM.out, .inr (guess_start bv2.1 bu2.2 (by rw [Int.mul_comm]; exact HQM.out.symm) hr1 hq0)⟩
  case round =>
    obtain ⟨gu, rs, rfl, rfl, hg0, hg1, hs0, hs1, hgs, hgb⟩ := hrel
    have HGS := hide hgs
    have HGB := hide hgb
    have hor2 := or_join rs u2 hs0 hs1 bu2.1 bu2.2
    clear hgs hgb t1 t2 t3 hor1
    by_cases hbig : 4294967296 ≤ gu
    · have hne : (gu / 4294967296 != 0) = true := by rw [bne_iff_ne]; omega
      have HN : Hid ((gu - 1) * v1 + (rs + v1) = U) := by have h9 := HGS.out; show _ = _; rw [Int.sub_mul]; omega
      by_cases hbr : 4294967296 ≤ rs + v1
      · have hne2 : ((rs + v1) / 4294967296 != 0) = true := by rw [bne_iff_ne]; omega
        have hgl := guess_top htop hUm HGS.out hs0 hbr
        have HF := hide (guess_break bv2 bu2.1 HN.out hbr (by omega) (by omega))
        go_wp2
        go_ret
        exact ⟨gu - 1, rfl, by omega, HF.out, .inl (by omega), HQ.out⟩
      · have hne2 : ((rs + v1) / 4294967296 != 0) = false := by rw [bne_eq_false_iff_eq]; omega
        go_wp2
        go_round
        case rel => exact ⟨gu - 1, rs + v1, rfl, rfl, by omega, by omega, by omega, by omega, HN.out, .inl (by omega)⟩
        case measure => simp [intOf]; omega
    · have hne : (gu / 4294967296 != 0) = false := by rw [bne_eq_false_iff_eq]; omega
      have hmb := mul_bound (show 0 ≤ gu ∧ gu < 4294967296 by omega) bv2
      by_cases hgt : rs * 4294967296 + u2 < gu * v2
      · have hd : decide (rs * 4294967296 + u2 < gu * v2) = true := decide_eq_true hgt
        have hgu1 : 1 ≤ gu := by
          apply Classical.byContradiction
          intro hn
          have h0 : gu = 0 := by omega
          rw [h0, Int.zero_mul] at hgt
          omega
        have HN : Hid ((gu - 1) * v1 + (rs + v1) = U) := by have h9 := HGS.out; show _ = _; rw [Int.sub_mul]; omega
        have HB2 := hide (guess_gt HGS.out hgt)
        by_cases hbr : 4294967296 ≤ rs + v1
        · have hne2 : ((rs + v1) / 4294967296 != 0) = true := by rw [bne_iff_ne]; omega
          have HF := hide (guess_break bv2 bu2.1 HN.out hbr (by omega) (by omega))
          go_wp2
          go_ret
          exact ⟨gu - 1, rfl, by omega, HF.out, .inr (by rw [Int.sub_add_cancel]; exact HB2.out), HQ.out⟩
        · have hne2 : ((rs + v1) / 4294967296 != 0) = false := by rw [bne_eq_false_iff_eq]; omega
          go_wp2
          go_round
          case rel => exact ⟨gu - 1, rs + v1, rfl, rfl, by omega, by omega, by omega, by omega, HN.out, .inr (by rw [Int.sub_add_cancel]; exact HB2.out)⟩
          case measure => simp [intOf]; omega
      · have hd : decide (rs * 4294967296 + u2 < gu * v2) = false := decide_eq_false hgt
        have HF := hide (guess_le HGS.out (show gu * v2 ≤ rs * 4294967296 + u2 by omega))
        go_wp2
        go_ret
        exact ⟨gu, rfl, by omega, HF.out, HGB.out, HQ.out⟩
end Lm
end Go.Proofs.YtdiiankcjgoecaaDoor

namespace Go.Proofs.YtdiiankcjgoecaaDoor
namespace Lm
theorem val_top {zs : List Int} {n : Nat} (hl : zs.length = n + 1) : val zs = val (zs.take n) + pw n * zs.getD n 0 := by
  have e1 : zs = zs.take n ++ [zs.getD n 0] := by
    rw [← take_succ_getD zs n (by omega), List.take_of_length_le (by omega)]
  have e2 := val_append (zs.take n) [zs.getD n 0]
  rw [← e1, List.length_take, Nat.min_eq_left (by omega)] at e2
  rw [e2]
  simp [val]
theorem val_top2 {zs : List Int} {n : Nat} (hl : zs.length = n + 2) : val zs = val (zs.take n) + pw n * (zs.getD (n + 1) 0 * 4294967296 + zs.getD n 0) := by
  rw [val_top (n := n + 1) hl, val_top (zs := zs.take (n + 1)) (n := n) (by rw [List.length_take]; omega), List.take_take, Nat.min_eq_left (by omega)]
  have e : (zs.take (n + 1)).getD n 0 = zs.getD n 0 := by
    rw [List.getD_eq_getElem?_getD, List.getD_eq_getElem?_getD, List.getElem?_take, if_pos (by omega)]
  rw [e, pw, Int.mul_add, Int.mul_comm (zs.getD (n + 1) 0) 4294967296, ← Int.mul_assoc, Int.mul_comm (pw n) 4294967296]
  omega
theorem val_top3 {zs : List Int} {n : Nat} (hl : zs.length = n + 3) : val zs = val (zs.take n) + pw n * ((zs.getD (n + 2) 0 * 4294967296 + zs.getD (n + 1) 0) * 4294967296 + zs.getD n 0) := by
  rw [val_top (n := n + 2) hl, val_top2 (zs := zs.take (n + 2)) (n := n) (by rw [List.length_take]; omega), List.take_take, Nat.min_eq_left (by omega)]
  have e : ∀ i, i < n + 2 → (zs.take (n + 2)).getD i 0 = zs.getD i 0 := by
    intro i hi
    rw [List.getD_eq_getElem?_getD, List.getD_eq_getElem?_getD, List.getElem?_take, if_pos hi]
  rw [e (n + 1) (by omega), e n (by omega)]
  have e2 : pw (n + 2) = pw n * (4294967296 * 4294967296) := by
    simp only [pw]
    rw [Int.mul_comm (pw n), Int.mul_assoc]
  have e3 : pw n * ((zs.getD (n + 2) 0 * 4294967296 + zs.getD (n + 1) 0) * 4294967296 + zs.getD n 0) = pw n * (4294967296 * 4294967296) * zs.getD (n + 2) 0 + pw n * (zs.getD (n + 1) 0 * 4294967296 + zs.getD n 0) := by
    rw [Int.mul_assoc, ← Int.mul_add]
    congr 1
    omega
  rw [e2, e3]
  omega
theorem top_le {W Y : List Int} {n : Nat} (hW : Limb W) (hY : Limb Y) (h1 : W.length = n + 1) (h2 : Y.length = n + 1) (h : val W < val Y) : W.getD n 0 ≤ Y.getD n 0 := by
  apply Classical.byContradiction
  intro hn
  rw [val_top h1, val_top h2] at h
  have b1 := val_bounds (limb_take hW n)
  have b2 := val_bounds (limb_take hY n)
  rw [List.length_take, Nat.min_eq_left (by omega)] at b1 b2
  have hp := pw_pos n
  have e : pw n * (Y.getD n 0 + 1) ≤ pw n * W.getD n 0 := Int.mul_le_mul_of_nonneg_left (by omega) (by omega)
  rw [Int.mul_add] at e
  omega
theorem guess_near {ps Y : List Int} {n : Nat} {g P U : Int} (hp : Limb ps) (hy : Limb Y) (h1 : ps.length = n + 3) (h2 : Y.length = n + 2) (hP : val ps = P) (hU : val Y = U) (htop : 1 ≤ Y.getD (n + 1) 0) (hlt : P < 4294967296 * U) (hg : 0 ≤ g ∧ g < 4294967296)
    (hA : g * (Y.getD (n + 1) 0 * 4294967296 + Y.getD n 0) ≤ (ps.getD (n + 2) 0 * 4294967296 + ps.getD (n + 1) 0) * 4294967296 + ps.getD n 0)
    (hB : 4294967296 ≤ g + 1 ∨ (ps.getD (n + 2) 0 * 4294967296 + ps.getD (n + 1) 0) * 4294967296 + ps.getD n 0 < (g + 1) * (Y.getD (n + 1) 0 * 4294967296 + Y.getD n 0)) :
    P < (g + 1) * U ∧ (g - 1) * U ≤ P := by
  have eP := val_top3 h1
  have eU := val_top2 h2
  have bP := val_bounds (limb_take hp n)
  have bU := val_bounds (limb_take hy n)
  rw [List.length_take, Nat.min_eq_left (by omega)] at bP bU
  rw [hP] at eP
  rw [hU] at eU
  have hv2 := (limb_getD hy n).1
  generalize (ps.getD (n + 2) 0 * 4294967296 + ps.getD (n + 1) 0) * 4294967296 + ps.getD n 0 = P3 at *
  have hU2 : 4294967296 ≤ Y.getD (n + 1) 0 * 4294967296 + Y.getD n 0 := by omega
  generalize Y.getD (n + 1) 0 * 4294967296 + Y.getD n 0 = U2 at *
  generalize val (ps.take n) = Pl at *
  generalize val (Y.take n) = Ul at *
  have hp1 := pw_pos n
  have hUp : 4294967296 * pw n ≤ pw n * U2 := by
    have : pw n * 4294967296 ≤ pw n * U2 := Int.mul_le_mul_of_nonneg_left hU2 (by omega)
    omega
  constructor
  · rcases hB with hB | hB
    · have : 4294967296 * U ≤ (g + 1) * U := Int.mul_le_mul_of_nonneg_right (by omega) (by omega)
      omega
    · have e1 : pw n * (P3 + 1) ≤ pw n * ((g + 1) * U2) := Int.mul_le_mul_of_nonneg_left (by omega) (by omega)
      have e2 : (g + 1) * U = (g + 1) * Ul + pw n * ((g + 1) * U2) := by
        rw [eU, Int.mul_add, ← Int.mul_assoc (g + 1) (pw n), Int.mul_comm (g + 1) (pw n), Int.mul_assoc]
      have e3 : 0 ≤ (g + 1) * Ul := Int.mul_nonneg (by omega) bU.1
      rw [Int.mul_add] at e1
      omega
  · have e1 : pw n * (g * U2) ≤ pw n * P3 := Int.mul_le_mul_of_nonneg_left hA (by omega)
    have e2 : g * U = g * Ul + pw n * (g * U2) := by
      rw [eU, Int.mul_add, ← Int.mul_assoc g (pw n), Int.mul_comm g (pw n), Int.mul_assoc]
    have e3 : g * Ul ≤ 4294967295 * Ul := Int.mul_le_mul_of_nonneg_right (by omega) bU.1
    rw [Int.sub_mul]
    omega
theorem rest_near {P U g A b p A2 c : Int} (_hU : 0 < U) (_hp : U < p) (hlow : P < (g + 1) * U) (hhigh : (g - 1) * U ≤ P) (hA : 0 ≤ A ∧ A < p) (_hb : 0 ≤ b ∧ b ≤ 1) (h : A - p * b = P - g * U) :
    (b = 0 → 0 ≤ A ∧ A < U ∧ P = g * U + A) ∧ (b = 1 → 0 ≤ A2 ∧ A2 < p → 0 ≤ c ∧ c ≤ 1 → A2 + p * c = A + U → 0 ≤ A2 ∧ A2 < U ∧ P = (g - 1) * U + A2) := by
  rw [Int.add_mul] at hlow
  rw [Int.sub_mul] at hhigh ⊢
  constructor
  · intro hb0
    rw [hb0, Int.mul_zero] at h
    omega
  · intro hb1 hA2 hc hs
    rw [hb1, Int.mul_one] at h
    have hc01 : c = 0 ∨ c = 1 := by omega
    rcases hc01 with hc0 | hc0
    · rw [hc0, Int.mul_zero] at hs; omega
    · rw [hc0, Int.mul_one] at hs; omega
theorem part_lt {W : List Int} {x U : Int} (hx : x < 4294967296) (h : val W < U) : val (x :: W) < 4294967296 * U := by
  rw [val]
  omega
theorem long_step {lo W W' Q : List Int} {x q U T : Int} (hinv : val (lo ++ [x]) + pw (lo.length + 1) * val W + U * (pw (lo.length + 1) * val Q) = T) (hp : val (x :: W) = q * U + val W') :
    val lo + pw lo.length * val W' + U * (pw lo.length * val (q :: Q)) = T := by
  rw [val_append] at hinv
  have e1 : val [x] = x := by simp [val]
  rw [e1] at hinv
  rw [val] at hp ⊢
  rw [pw] at hinv
  generalize pw lo.length = p at *
  have e2 : p * (x + 4294967296 * val W) = p * (q * U + val W') := by rw [hp]
  have e3 : 4294967296 * p * val W = p * (4294967296 * val W) := by rw [Int.mul_comm 4294967296 p, Int.mul_assoc]
  have e4 : U * (p * (q + 4294967296 * val Q)) = p * (q * U) + U * (4294967296 * p * val Q) := by
    rw [Int.mul_add, Int.mul_add, Int.mul_comm 4294967296 p, Int.mul_assoc p 4294967296, ← Int.mul_assoc U p q, Int.mul_comm U p, Int.mul_assoc p U q, Int.mul_comm U q]
  rw [Int.mul_add, Int.mul_add] at e2
  omega
theorem top_zero {W : List Int} {n : Nat} (hW : Limb W) (hl : W.length = n + 1) (h : val W < pw n) : val (W.take n) = val W ∧ W.getD n 0 = 0 := by
  have e := val_top hl
  have b := val_bounds (limb_take hW n)
  have h0 := (limb_getD hW n).1
  have hp := pw_pos n
  have hz : W.getD n 0 = 0 := by
    apply Classical.byContradiction
    intro hn
    have : pw n * 1 ≤ pw n * W.getD n 0 := Int.mul_le_mul_of_nonneg_left (by omega) (by omega)
    omega
  rw [hz, Int.mul_zero] at e
  exact ⟨by omega, hz⟩
end Lm
end Go.Proofs.YtdiiankcjgoecaaDoor

namespace Go.Proofs.YtdiiankcjgoecaaDoor
namespace Lm
open Go.RowKit
structure Wr2 (w w' : World) (g h : Nat) (c d : Array Value) (e : TypeId) : Prop where
  os : w'.os = w.os
  tape : w'.tape = w.tape
  output : w'.output = w.output
  size : w'.heap.size = w.heap.size
  here : w'.heap[g]? = some (.cells c e (0, 0))
  there : w'.heap[h]? = some (.cells d e (0, 0))
  other : ∀ k, k ≠ g → k ≠ h → w'.heap[k]? = w.heap[k]?
theorem Wr2.left {w w' w'' : World} {g h : Nat} {c d c' : Array Value} {e : TypeId} (H : Wr2 w w' g h c d e) (hn : h ≠ g) (K : Wr w' w'' g c' e) : Wr2 w w'' g h c' d e :=
  ⟨K.os.trans H.os, K.tape.trans H.tape, K.output.trans H.output, K.size.trans H.size, K.here, (K.other h hn).trans H.there, fun k h1 h2 => (K.other k h1).trans (H.other k h1 h2)⟩
theorem Wr2.right {w w' w'' : World} {g h : Nat} {c d d' : Array Value} {e : TypeId} (H : Wr2 w w' g h c d e) (hn : g ≠ h) (K : Wr w' w'' h d' e) : Wr2 w w'' g h c d' e :=
  ⟨K.os.trans H.os, K.tape.trans H.tape, K.output.trans H.output, K.size.trans H.size, (K.other g hn).trans H.here, K.here, fun k h1 h2 => (K.other k h2).trans (H.other k h1 h2)⟩
theorem Wr2.drewN {w w' : World} {g h : Nat} {c d : Array Value} {e : TypeId} (H : Wr2 w w' g h c d e) (n : Nat) : Wr2 w (w'.drewN n) g h c d e := ⟨H.os, H.tape, H.output, H.size, H.here, H.there, H.other⟩
theorem Wr2.below {w w' : World} {g h : Nat} {c d : Array Value} {e : TypeId} (H : Wr2 w w' g h c d e) {B : Nat} (h1 : B ≤ g) (h2 : B ≤ h) : Below B w w' :=
  ⟨H.os, H.tape, H.output, by rw [H.size]; exact Nat.le_refl _, fun k hk => H.other k (by omega) (by omega)⟩
theorem sl_of_at {w : World} {g o n cap : Nat} {cur : Array Value} {zs : List Int} (hh : w.heap[g]? = some (.cells cur 124 (0, 0))) (ha : At cur .u32 o zs) (hz : Limb zs) (hl : zs.length = n) (h1 : n ≤ cap) (h2 : cap ≤ maxLen) : Sl w (.slice (some ⟨g, o, none⟩) n cap) zs :=
  ⟨_, cap, by rw [hl], by omega, h2, hz, .inr ⟨g, o, rfl, fun i hi => ha.cell hh i hi⟩⟩
theorem At.take {cur : Array Value} {k : IntKind} {o : Nat} {zs : List Int} (h : At cur k o zs) (n : Nat) : At cur k o (zs.take n) := by
  intro i hi
  rw [List.length_take] at hi
  rw [h i (by omega), List.getD_eq_getElem?_getD, List.getD_eq_getElem?_getD, List.getElem?_take, if_pos (by omega)]
structure Dv (w3 wr : World) (A q N m n : Nat) (U T : Int) (k : Nat) (lo W rest Q : List Int) (cur d : Array Value) : Prop where
  two : Wr2 w3 wr A q cur d 124
  csz : cur.size = N + 1
  dsz : d.size = m
  atc : At cur .u32 0 (lo ++ W ++ rest)
  atd : At d .u32 0 (List.replicate k 0 ++ Q)
  lol : lo.length = k
  wl : W.length = n + 2
  ql : k + Q.length = m
  lil : Limb lo
  liW : Limb W
  liQ : Limb Q
  low : val W < U
  inv : val lo + pw k * val W + U * (pw k * val Q) = T
theorem split_last {lo : List Int} {k : Nat} (h : lo.length = k + 1) : ∃ lo' x, lo = lo' ++ [x] ∧ lo'.length = k :=
  ⟨lo.take k, lo.getD k 0, by rw [← take_succ_getD lo k (by omega), List.take_of_length_le (by omega)], by rw [List.length_take]; omega⟩
theorem Dv.mid {w3 wr : World} {A q N m n : Nat} {U T : Int} {k : Nat} {lo W rest Q : List Int} {x : Int} {cur d : Array Value} (D : Dv w3 wr A q N m n U T (k + 1) (lo ++ [x]) W rest Q cur d) (hl : lo.length = k) : At cur .u32 k (x :: W) ∧ Limb (x :: W) := by
  have h1 := D.atc
  rw [show lo ++ [x] ++ W ++ rest = lo ++ (x :: W) ++ rest by simp] at h1
  have h2 := at_mid h1
  rw [hl] at h2
  have h3 := D.lil
  rw [limb_append] at h3
  exact ⟨h2, limb_cons.2 ⟨(limb_cons.1 h3.2).1, D.liW⟩⟩
theorem set_zeros (k : Nat) (Q : List Int) (g : Int) : (List.replicate (k + 1) (0 : Int) ++ Q).set k g = List.replicate k 0 ++ g :: Q := by
  have h := set_cons (List.replicate (k + 1) (0 : Int)) Q k g (by simp)
  rw [List.take_of_length_le (by simp), List.take_replicate, Nat.min_eq_left (by omega)] at h
  exact h
theorem Dv.step {w3 wr w5 : World} {A q N m n : Nat} {U T : Int} {k : Nat} {lo W rest Q qs : List Int} {x g : Int} {cur d cur' : Array Value} (D : Dv w3 wr A q N m n U T (k + 1) (lo ++ [x]) W rest Q cur d) (hl : lo.length = k) (hn : A ≠ q)
    (two : Wr2 w3 w5 A q cur' d 124) (hcs : cur'.size = cur.size) (hat : At cur' .u32 k qs) (hout : ∀ i, i < k ∨ k + (n + 2 + 1) ≤ i → cur'[i]? = cur[i]?) (hq : Limb qs) (hql : qs.length = n + 2 + 1) (hU : U ≤ pw (n + 2)) (hlt : val qs < U) (hv : val (x :: W) = g * U + val qs) (hg : 0 ≤ g ∧ g < 4294967296) :
    Dv w3 (w5.setCell ⟨q, k, none⟩ (.int .u32 g)) A q N m n U T k lo (qs.take (n + 2)) (qs.drop (n + 2) ++ rest) (g :: Q) cur' (d.setIfInBounds k (.int .u32 g)) := by
  have htz := top_zero hq hql (by omega)
  have h3 := D.lil
  rw [limb_append] at h3
  have hinv := D.inv
  rw [← hl] at hinv
  have hat1 : At cur .u32 0 (lo ++ (x :: W) ++ rest) := by
    have := D.atc
    rwa [show lo ++ [x] ++ W ++ rest = lo ++ (x :: W) ++ rest by simp] at this
  have hat2 := at_window hat1 (by rw [hl]; exact hat) (by have := D.wl; simp; omega) (by
    have e : (x :: W).length = n + 2 + 1 := by have := D.wl; simp; omega
    rw [hl, e]; exact hout)
  refine ⟨two.right hn ((Wr.refl two.there).set k _), by rw [hcs]; exact D.csz, by simpa using D.dsz, ?_, ?_, hl, by rw [List.length_take]; omega, by have := D.ql; simp; omega, h3.1, limb_take hq _, limb_cons.2 ⟨hg, D.liQ⟩, by rw [htz.1]; exact hlt, ?_⟩
  · rw [List.append_assoc, ← List.append_assoc (qs.take (n + 2)), List.take_append_drop, ← List.append_assoc]
    exact hat2
  · rw [← set_zeros]
    have := D.atd.set k g
    rwa [Nat.zero_add] at this
  · rw [htz.1]
    have := long_step (W' := qs) (q := g) hinv hv
    rwa [hl] at this
theorem long_start {O : List Int} {m n : Nat} {P : Int} (hO : Limb O) (hm : m ≤ O.length) (hv : val O < pw m * (pw (n + 1) * P)) : val (O.drop m) < pw (n + 1) * P := by
  have h1 := val_append (O.take m) (O.drop m)
  rw [List.take_append_drop, List.length_take, Nat.min_eq_left hm] at h1
  have h2 := (val_bounds (limb_take hO m)).1
  apply Classical.byContradiction
  intro hn
  have h3 : pw m * (pw (n + 1) * P) ≤ pw m * val (O.drop m) := Int.mul_le_mul_of_nonneg_left (by omega) (by have := pw_pos m; omega)
  omega
theorem long_end {X Y Q W P : Int} (hP : 0 < P) (hY : 0 < Y) (h : W + Y * P * Q = X * P) (h0 : 0 ≤ W) (h1 : W < Y * P) : X / Y = Q ∧ X % Y = W / P := by
  have e1 : W = (X - Q * Y) * P := by
    have : Y * P * Q = Q * Y * P := by rw [Int.mul_comm (Y * P), Int.mul_assoc]
    rw [Int.sub_mul]
    omega
  have e2 : W / P = X - Q * Y := by rw [e1]; exact Int.mul_ediv_cancel _ (by omega)
  rw [e2]
  obtain ⟨R, hR⟩ : ∃ R, R = X - Q * Y := ⟨_, rfl⟩
  rw [← hR] at e1 ⊢
  have hR0 : 0 ≤ R := by
    apply Classical.byContradiction
    intro hn
    have : R * P ≤ -1 * P := Int.mul_le_mul_of_nonneg_right (by omega) (by omega)
    omega
  have hR1 : R < Y := by
    apply Classical.byContradiction
    intro hn
    have : Y * P ≤ R * P := Int.mul_le_mul_of_nonneg_right (by omega) (by omega)
    omega
  exact div_of hY (by omega) hR0 hR1
theorem norm_val {v : Int} {n l s : Nat} (hb : IsBits v (32 * (n + 1) + l)) (hl : 0 < l) (hs : s + l = 32) : v * p2 s < pw (n + 2) ∧ pw (n + 1) * 2147483648 ≤ v * p2 s := by
  have hp := p2_pos s
  obtain ⟨h1, h2⟩ := hb
  have h3 : p2 (32 * (n + 1) + l - 1) ≤ v := by rcases h2 with h0 | h0 <;> omega
  constructor
  · have : v * p2 s < p2 (32 * (n + 1) + l) * p2 s := Int.mul_lt_mul_of_pos_right h1 (by omega)
    rw [← p2_add, show 32 * (n + 1) + l + s = 32 * (n + 2) by omega, ← pw_p2] at this
    exact this
  · have : p2 (32 * (n + 1) + l - 1) * p2 s ≤ v * p2 s := Int.mul_le_mul_of_nonneg_right h3 (by omega)
    rw [← p2_add, show 32 * (n + 1) + l - 1 + s = 32 * (n + 1) + 31 by omega, p2_add, ← pw_p2, show p2 31 = 2147483648 from by decide] at this
    exact this
theorem norm_top {Y : List Int} {n : Nat} (hY : Limb Y) (hl : Y.length = n + 2) (h : pw (n + 1) * 2147483648 ≤ val Y) : 2147483648 ≤ Y.getD (n + 1) 0 := by
  have e := val_top (n := n + 1) hl
  have b := val_bounds (limb_take hY (n + 1))
  rw [List.length_take, Nat.min_eq_left (by omega)] at b
  apply Classical.byContradiction
  intro hn
  have : pw (n + 1) * (Y.getD (n + 1) 0 + 1) ≤ pw (n + 1) * 2147483648 := Int.mul_le_mul_of_nonneg_left (by omega) (by have := pw_pos (n + 1); omega)
  rw [Int.mul_add] at this
  omega
end Lm
end Go.Proofs.YtdiiankcjgoecaaDoor

namespace Go.Proofs.YtdiiankcjgoecaaDoor
namespace Lm
open Go.RowKit
set_option maxRecDepth 20000 in
set_option maxHeartbeats 2000000 in
theorem divideLong_any (w : World) (a1 a2 : Option Addr) (n1 n2 c1 c2 : Nat) (xs ys : List Int) (hx : Sl w (.slice a1 n1 c1) xs) (hy : Sl w (.slice a2 n2 c2) ys) (hm1 : xs.length ≤ 500000) (h2 : 2 ≤ ys.length) (hle : ys.length ≤ xs.length) (hcan : Canon ys) :
    Calls Tryd.prog 106 #[.slice a1 n1 c1, .slice a2 n2 c2] w fun e w' => ∃ v1 v2, e = .returned (.tuple #[v1, v2]) ∧ Is w.heap.size w' v1 (val xs / val ys) ∧ Is w.heap.size w' v2 (val xs % val ys) ∧ Sep v1 v2 ∧ Below w.heap.size w w' := by
  obtain ⟨rfl, x1, x2, x3⟩ := hx.parts
  obtain ⟨hyl, y1, y2, y3⟩ := hy.parts
  obtain ⟨n, hn⟩ : ∃ n, ys.length = n + 2 := ⟨ys.length - 2, by omega⟩
  have e2 : n2 = n + 2 := by omega
  subst e2
  obtain ⟨b, off, rfl, hc⟩ := hy.cells (by omega)
  have hcell := hc (n + 1) (by omega)
  have hlb := limb_getD y3 (n + 1)
  have hpos : 0 < ys.getD (n + 1) 0 := by
    have : ys.getD (n + 1) 0 ≠ 0 := fun h0 => by
      have := tl_le_of_zero (zs := ys) (n := n + 1) (by have := tl_le ys; omega) h0
      have := hcan.2
      omega
    omega
  have hbits := bitLen_bits (ys.getD (n + 1) 0).toNat (by omega)
  rw [Int.toNat_of_nonneg hlb.1] at hbits
  have hl32 : Lib.bitLen (ys.getD (n + 1) 0).toNat ≤ 32 := Lib.bitLen_le _ 32 (by omega) (by omega)
  have hl0 := isBits_pos hbits hpos
  obtain ⟨s, hs⟩ : ∃ s : Nat, s + Lib.bitLen (ys.getD (n + 1) 0).toNat = 32 := ⟨32 - Lib.bitLen (ys.getD (n + 1) 0).toNat, by omega⟩
  have NV := hide (norm_val (bits_top hcan hn hbits hpos) hl0 hs)
  have kl : Hid (∀ w : World, Calls Tryd.prog 120 #[.int .u32 (ys.getD (n + 1) 0)] w fun e w' => e = .returned (.int .i64 (s : Nat)) ∧ w' = w) := by
    intro w
    have h9 := lead_any (ys.getD (n + 1) 0) w hlb.1 hlb.2
    rwa [show (32 - ((Lib.bitLen (ys.getD (n + 1) 0).toNat : Nat) : Int)) = (s : Nat) by omega] at h9
  have hs31 : s ≤ 31 := by omega
  have YL := hide (show pw (n + 1) ≤ val ys by
    have h9 := canon_low hcan (by intro e; subst e; simp at h2)
    rwa [hn] at h9)
  have HN := hide hn
  have X3 := hide x3
  have hxn : n + 2 ≤ xs.length := by omega
  obtain ⟨m, hm2, hm3⟩ : ∃ m, m + n + 1 ≤ xs.length ∧ xs.length ≤ m + n + 1 := ⟨xs.length - (n + 1), by omega, by omega⟩
  generalize ys.getD (n + 1) 0 = top at hcell hlb hpos kl
  obtain ⟨i0, hi, hz0, hz1, hz2⟩ := info_parts info32
  clear hs hl0 hl32 hbits hc y3 hyl hcan h2 hle hn x3
  go_enter Tryd.func106, Tryd.ntmps106
  go_wp2_with fail
  refine (kl.out _).mono ?_
  rintro e w' ⟨rfl, rfl⟩
  go_wp2_with fail
  refine (moveUp_any _ _ _ _ xs hx s hs31 (by omega)).mono ?_
  rintro e w1 ⟨cur0, O, rfl, hO, hOl, hOv, hOh, hOs, hOa, hb1⟩
  have hy1 := hy.below hb1
  have O1 := hide hO
  have O2 := hide hOl
  have O3 := hide hOv
  have O4 := hide hOh
  have O5 := hide hOs
  have O6 := hide hOa
  clear hO hOl hOv hOh hOs hOa
  go_wp2_with fail
  refine (moveUp_any _ _ _ _ ys hy1 s hs31 (by have := HN.out; omega)).mono ?_
  rintro e w2 ⟨curY, Y1, rfl, hY, hYl, hYv, hYh, hYs, hYa, hb2⟩
  have Q1 := hide hY
  have Q2 := hide hYl
  have Q3 := hide hYv
  have Q4 := hide hYh
  have Q5 := hide hYs
  have Q6 := hide hYa
  clear hY hYl hYv hYh hYs hYa
  go_wp2_with (refine wpList_make_full _ rfl (.tmp 34) (.tmp 34) 22 rfl w2.heap.size 124 i0 (.int .u32 0) 1 Tryd.underlying22 hi hz0 hz1 .i64 .i64 _ _ m rfl rfl (by omega) (by omega) (by rw [hz2]; omega) (by unfold maxLen; omega) (Nat.le_refl _) ?hK)
  case hK =>
    intro w3 hown hgrow
    obtain ⟨_, d0, hh, hds, hat⟩ := block_of_made hown
    have hb3 : Below w2.heap.size w2 w3 := (Below.refl w2.heap.size w2).grown hgrow (Nat.le_refl _) (by simp)
    have s1 := lt_of_heap O4.out
    have s2 := lt_of_heap Q4.out
    have s3 := lt_of_heap hh
    have hU : Hid (val (Y1.take (n + 2)) = val ys * p2 s ∧ (Y1.take (n + 2)).length = n + 2 ∧ Limb (Y1.take (n + 2)) ∧ At curY .u32 0 (Y1.take (n + 2))) := by
      have h9 := top_zero Q1.out Q2.out (by rw [Q3.out]; exact NV.out.1)
      exact ⟨by rw [h9.1, Q3.out], by rw [List.length_take, Q2.out]; omega, limb_take Q1.out _, Q6.out.take _⟩
    generalize Y1.take (n + 2) = Y at hU
    have htop : Hid (2147483648 ≤ Y.getD (n + 1) 0) := norm_top hU.out.2.2.1 hU.out.2.1 (by rw [hU.out.1]; exact NV.out.2)
    have U3 : Hid (w3.heap[w1.heap.size]? = some (.cells curY 124 (0, 0))) := (hb3.block _ s2).trans Q4.out
    have hne : w'.heap.size ≠ w2.heap.size := by omega
    have hne2 : w1.heap.size ≠ w2.heap.size := by omega
    have hne3 : w1.heap.size ≠ w'.heap.size := by omega
    have hstart : Hid (Dv w3 w3 w'.heap.size w2.heap.size xs.length m n (val ys * p2 s) (val xs * p2 s) m (O.take m) (O.drop m) [] [] cur0 d0) := by
      have hp := p2_pos s
      have e9 : w3.heap[w'.heap.size]? = some (.cells cur0 124 (0, 0)) := (hb3.block _ (by omega)).trans ((hb2.block _ s1).trans O4.out)
      refine ⟨⟨rfl, rfl, rfl, rfl, e9, hh, fun _ _ _ => rfl⟩, O5.out, hds, ?_, ?_, ?_, ?_, by simp, limb_take O1.out _, limb_drop O1.out _, limb_nil, ?_, ?_⟩
      · rw [List.take_append_drop, List.append_nil]; exact O6.out
      · rw [List.append_nil]; exact hat
      · have := O2.out; rw [List.length_take]; omega
      · have := O2.out; rw [List.length_drop]; omega
      · have h8 : val xs * p2 s < pw xs.length * p2 s := Int.mul_lt_mul_of_pos_right (val_bounds X3.out).2 (by omega)
        rw [show xs.length = m + (n + 1) by omega, pw_add, Int.mul_assoc] at h8
        have h9 := long_start (m := m) (n := n) (P := p2 s) O1.out (by have := O2.out; omega) (by rw [O3.out]; exact h8)
        have h10 : pw (n + 1) * p2 s ≤ val ys * p2 s := Int.mul_le_mul_of_nonneg_right YL.out (by omega)
        omega
      · have h9 := val_append (O.take m) (O.drop m)
        rw [List.take_append_drop, List.length_take, Nat.min_eq_left (by have := O2.out; omega), O3.out] at h9
        rw [h9]
        simp [val]
    clear hown hgrow hh hds hat
    go_wp2
    go_loopw [10] (fun i wr => ∃ (k : Nat) (lo W rest Q : List Int) (cur d : Array Value), k ≤ m ∧ i = .int .i64 ((k : Int) - 1) ∧ Dv w3 wr w'.heap.size w2.heap.size xs.length m n (val ys * p2 s) (val xs * p2 s) k lo W rest Q cur d) (fun i _ => (intOf i + 1).toNat)
    case atStart => exact ⟨m, _, _, _, _, _, _, Nat.le_refl _, by first | rfl | (congr 1; omega), hstart.out⟩
    case round =>
      obtain ⟨k, lo, W, rest, Q, cur, d, hk, rfl, hD⟩ := hrel
      have D := hide hD
      clear hD
      cases k with
      | zero =>
        have hlo : lo = [] := List.eq_nil_of_length_eq_zero D.out.lol
        subst hlo
        have hatQ : At d .u32 0 Q := by simpa using D.out.atd
        have hatW : At cur .u32 0 W := at_mid (A := []) D.out.atc
        have hQm : Q.length = m := by have := D.out.ql; omega
        have hp := p2_pos s
        have hend : val xs / val ys = val Q ∧ val xs % val ys = val W / p2 s := by
          have h9 := D.out.inv
          simp only [val, pw, Int.one_mul, Int.zero_add] at h9
          have h8 := pw_pos (n + 1)
          exact long_end (by omega) (by have := YL.out; omega) h9 (val_bounds D.out.liW).1 D.out.low
        have hbel : Below w'.heap.size w' wr := hb1.trans ((hb2.mono hb1.size).trans ((hb3.mono (by omega)).trans (D.out.two.below (by omega) (by omega))))
        have how : Ow w'.heap.size wr (.slice (some ⟨w2.heap.size, 0, none⟩) m m) Q :=
          ⟨_, m, by rw [hQm], by omega, by unfold maxLen; omega, D.out.liQ, .inr ⟨_, 0, _, rfl, by omega, D.out.two.there, by rw [D.out.dsz]; omega, hatQ⟩⟩
        have his := hide (how.is_cut (x := val xs / val ys) hend.1.symm)
        have hWs : Sl wr (.slice (some ⟨w'.heap.size, 0, none⟩) (n + 2) (xs.length + 1)) W := sl_of_at D.out.two.here hatW D.out.liW D.out.wl (by omega) (by unfold maxLen; omega)
        have HE := hide hend.2
        have hWl : W.length ≤ 1000000 := by have := D.out.wl; omega
        have ht := tl_le Q
        have htm : tl Q ≤ m := by omega
        have HO := hide how
        clear hend hatQ hatW hQm how ht
        go_wp2
        go_region_with (first
          | (go_at_call 88; refine (cut_any _ _ _ _ Q (HO.out.sl.below (by repeat (first | exact Below.refl _ _ | refine Below.drew ?_)))).mono ?_; rintro e wc ⟨rfl, rfl⟩)
          | (go_at_call 125; refine (moveDown_any _ _ _ _ W (hWs.below (by repeat (first | exact Below.refl _ _ | refine Below.drew ?_))) s hs31 hWl).mono ?_; rintro e wd ⟨vd, rfl, hi, hbd⟩))
        all_goals
          have hbd' := (show Below wr.heap.size wr _ by repeat (first | exact Below.refl _ _ | refine Below.drew ?_)).trans hbd
          have his' := his.out.below hbd'
          have hi' := hi.mono (B' := wr.heap.size) (by first | exact Nat.le_refl _ | simp)
          clear hbd hi
          go_wp2
          go_ret2
          obtain ⟨q1, q2, q3, q4⟩ := his.out
          obtain ⟨s1, s2, s3, s4⟩ := hi'
          exact ⟨_, _, rfl, his', ⟨s1, s2.mono hbel.size, s3, by rw [s4, HE.out]⟩, sep_of q2 s2 (Nat.le_refl _), hbel.trans (hbd'.mono hbel.size)⟩
      | succ k =>
        obtain ⟨lo', x, hlo, hll⟩ := split_last D.out.lol
        subst hlo
        have LL := hide hll
        have MD := hide (D.out.mid hll)
        clear hll
        have hxW : (x :: W).length = n + 2 + 1 := by have := D.out.wl; simp; omega
        have hPU : val (x :: W) < 4294967296 * (val ys * p2 s) := part_lt ((limb_cons.1 MD.out.2).1.2) D.out.low
        have e0 : k + (n + 2) + 1 - k = n + 2 + 1 := by omega
        have hYsl : ∀ wq cq, Wr wr wq w'.heap.size cq 124 → Sl wq (.slice (some ⟨w1.heap.size, 0, none⟩) (n + 2) (n + 2 + 1)) Y := by
          intro wq cq hq
          refine sl_of_at (cur := curY) ?_ hU.out.2.2.2 hU.out.2.2.1 hU.out.2.1 (by omega) (by unfold maxLen; omega)
          rw [hq.other _ hne3, D.out.two.other _ hne3 hne2]
          exact U3.out
        have hup : (x :: W).getD (n + 2) 0 ≤ Y.getD (n + 1) 0 := by
          have h9 := top_le (n := n + 1) D.out.liW hU.out.2.2.1 D.out.wl hU.out.2.1 (by rw [hU.out.1]; exact D.out.low)
          simpa using h9
        have kg : Hid (Calls Tryd.prog 122 #[.slice (some ⟨w'.heap.size, k, none⟩) (k + (n + 2) + 1 - k) (xs.length + 1 - k), .slice (some ⟨w1.heap.size, 0, none⟩) (n + 2) (n + 2 + 1)] wr fun e wz => ∃ g : Int, e = .returned (.int .u32 g) ∧ (0 ≤ g ∧ g < 4294967296) ∧ (val (x :: W) < (g + 1) * (val ys * p2 s) ∧ (g - 1) * (val ys * p2 s) ≤ val (x :: W)) ∧ ∃ q, wz = wr.drewN q) := by
          rw [e0]
          refine (guess_any wr _ _ n _ _ (x :: W) Y (sl_of_at D.out.two.here MD.out.1 MD.out.2 hxW (by omega) (by unfold maxLen; omega)) (hYsl _ _ (Wr.refl D.out.two.here)) htop.out hup).mono ?_
          rintro e wq ⟨g, rfl, hg, hA, hB, hq⟩
          exact ⟨g, rfl, hg, guess_near MD.out.2 hU.out.2.2.1 hxW hU.out.2.1 rfl hU.out.1 (by have := htop.out; omega) hPU hg hA hB, hq⟩
        have kt : Hid (∀ q g, 0 ≤ g ∧ g < 4294967296 → Calls Tryd.prog 123 #[.slice (some ⟨w'.heap.size, k, none⟩) (k + (n + 2) + 1 - k) (xs.length + 1 - k), .slice (some ⟨w1.heap.size, 0, none⟩) (n + 2) (n + 2 + 1), .int .u32 g] (wr.drewN q) fun e wz => ∃ qs b cur', e = .returned (.bool (b != 0)) ∧ (0 ≤ b ∧ b ≤ 1) ∧ val qs - pw (n + 2 + 1) * b = val (x :: W) - g * val Y ∧ Limb qs ∧ qs.length = n + 2 + 1 ∧ Wr (wr.drewN q) wz w'.heap.size cur' 124 ∧ cur'.size = cur.size ∧ At cur' .u32 k qs ∧ (∀ i, i < k ∨ k + (n + 2 + 1) ≤ i → cur'[i]? = cur[i]?)) := by
          intro q g hg
          rw [e0]
          exact takeTimes_any (wr.drewN q) _ k (n + 2) _ _ cur (x :: W) Y _ g hg (D.out.two.drewN q).here MD.out.1 MD.out.2 hxW (by omega) (fun wq cq hq => hYsl wq cq ⟨hq.os, hq.tape, hq.output, hq.size, hq.here, hq.other⟩)
        have kb : Hid (∀ (wq : World) (cq : Array Value) (ps : List Int), Wr wr wq w'.heap.size cq 124 → At cq .u32 k ps → Limb ps → ps.length = n + 2 + 1 → Calls Tryd.prog 124 #[.slice (some ⟨w'.heap.size, k, none⟩) (k + (n + 2) + 1 - k) (xs.length + 1 - k), .slice (some ⟨w1.heap.size, 0, none⟩) (n + 2) (n + 2 + 1)] wq fun e wz => ∃ qs c cur', e = .returned (.tuple #[]) ∧ (0 ≤ c ∧ c ≤ 1) ∧ val qs + pw (n + 2 + 1) * c = val ps + val Y ∧ Limb qs ∧ qs.length = n + 2 + 1 ∧ Wr wq wz w'.heap.size cur' 124 ∧ cur'.size = cq.size ∧ At cur' .u32 k qs ∧ (∀ i, i < k ∨ k + (n + 2 + 1) ≤ i → cur'[i]? = cq[i]?)) := by
          intro wq cq ps hq ha hp hl
          rw [e0]
          exact addBack_any wq _ k (n + 2) _ _ cq ps Y _ hq.here ha hp hl (by omega) (fun wz cz hz => hYsl wz cz (hq.trans hz))
        clear hxW hPU e0 hYsl hup
        go_wp2_with fail
        refine (kg.out).mono ?_
        rintro e w4 ⟨g, rfl, hg, hnear, q1, rfl⟩
        have NR := hide hnear
        clear hnear
        go_wp2_with fail
        refine (kt.out q1 g hg).mono ?_
        rintro e w5 ⟨qs, bo, cur', rfl, hbo, hv, hq, hql, hwr, hcs, hat, hout⟩
        have V1 := hide hv
        have V2 := hide hq
        have V3 := hide hql
        have V4 := hide hwr
        have V5 := hide hcs
        have V6 := hide hat
        have V7 := hide hout
        clear hv hq hql hwr hcs hat hout
        have hqb : Hid (0 ≤ val qs ∧ val qs < pw (n + 2 + 1)) := by
          have h9 := val_bounds V2.out
          rwa [V3.out] at h9
        have hU0 : Hid (0 < val ys * p2 s ∧ val ys * p2 s < pw (n + 2 + 1) ∧ val ys * p2 s ≤ pw (n + 2)) := by
          have h9 := NV.out
          have h8 := pw_mono (m := n + 2) (n := n + 2 + 1) (by omega)
          have h7 := pw_pos (n + 1)
          exact ⟨by omega, by omega, by omega⟩
        have V8 : Hid (val qs - pw (n + 2 + 1) * bo = val (x :: W) - g * (val ys * p2 s)) := by rw [← hU.out.1]; exact V1.out
        by_cases hb0 : bo = 0
        · have two := hide ((D.out.two.drewN q1).left hne.symm V4.out)
          have near := (rest_near (A2 := 0) (c := 0) hU0.out.1 hU0.out.2.1 NR.out.1 NR.out.2 hqb.out hbo V8.out).1 hb0
          have ST := hide (D.out.step LL.out hne two.out V5.out V6.out V7.out V2.out V3.out hU0.out.2.2 near.2.1 near.2.2 hg)
          have hcq := D.out.atd.cell two.out.there k (by have := D.out.ql; simp; omega)
          rw [Nat.zero_add] at hcq
          generalize (List.replicate (k + 1) (0 : Int) ++ Q).getD k 0 = old at hcq
          have hfree := (Wr.refl two.out.there).free k
          clear near
          subst hb0
          go_wp2
          go_roundw
          case rel => exact ⟨k, _, _, _, _, _, _, by omega, by first | rfl | go_num, ST.out⟩
          case measure => simp [intOf]
        · have hb1' : bo = 1 := by omega
          subst hb1'
          have hg1 : 1 ≤ g := by
            apply Classical.byContradiction
            intro hn
            have h9 := V8.out
            have h8 := hqb.out
            have h7 := (val_bounds MD.out.2).1
            rw [show g = 0 by omega, Int.zero_mul, Int.mul_one] at h9
            omega
          have KB := hide (kb.out w5 cur' qs ⟨V4.out.os, V4.out.tape, V4.out.output, V4.out.size, V4.out.here, V4.out.other⟩ V6.out V2.out V3.out)
          go_wp2_with fail
          refine (KB.out).mono ?_
          rintro e w6 ⟨q2, c, cur2, rfl, hc, hv, hq, hql, hwr, hcs, hat, hout⟩
          have hq2 : 0 ≤ val q2 ∧ val q2 < pw (n + 2 + 1) := by
            have h9 := val_bounds hq
            rwa [hql] at h9
          have two := hide (((D.out.two.drewN q1).left hne.symm V4.out).left hne.symm hwr)
          have near := (rest_near (A2 := val q2) (c := c) hU0.out.1 hU0.out.2.1 NR.out.1 NR.out.2 hqb.out hbo V8.out).2 rfl hq2 hc (by rw [← hU.out.1]; exact hv)
          have ST := hide (D.out.step LL.out hne two.out (hcs.trans V5.out) hat (fun i hi => (hout i hi).trans (V7.out i hi)) hq hql hU0.out.2.2 near.2.1 near.2.2 (by omega))
          have hcq := D.out.atd.cell two.out.there k (by have := D.out.ql; simp; omega)
          rw [Nat.zero_add] at hcq
          generalize (List.replicate (k + 1) (0 : Int) ++ Q).getD k 0 = old at hcq
          have hfree := (Wr.refl two.out.there).free k
          clear near hq2 hv hq hql hwr hcs hat hout
          go_wp2
          go_roundw
          case rel => exact ⟨k, _, _, _, _, _, _, by omega, by first | rfl | go_num, ST.out⟩
          case measure => simp [intOf]
end Lm
end Go.Proofs.YtdiiankcjgoecaaDoor

namespace Go.Proofs.YtdiiankcjgoecaaDoor
namespace Lm
open Go.RowKit
set_option maxRecDepth 20000 in
set_option maxHeartbeats 1000000 in
theorem divmod_long (w : World) (a1 a2 : Option Addr) (n1 n2 c1 c2 : Nat) (xs ys : List Int) (hx : Sl w (.slice a1 n1 c1) xs) (hy : Sl w (.slice a2 n2 c2) ys) (hm1 : xs.length ≤ 500000) (hle : tl ys ≤ tl xs) (h2 : 2 ≤ tl ys) :
    Calls Tryd.prog 80 #[.slice a1 n1 c1, .slice a2 n2 c2] w fun e w' => ∃ v1 v2, e = .returned (.tuple #[v1, v2, .bool true]) ∧ Is w.heap.size w' v1 (val xs / val ys) ∧ Is w.heap.size w' v2 (val xs % val ys) ∧ Sep v1 v2 ∧ Below w.heap.size w w' := by
  obtain ⟨rfl, h1, _, h3⟩ := hx.parts
  obtain ⟨rfl, g1, _, g3⟩ := hy.parts
  have t1 := tl_le xs
  have t2 := tl_le ys
  have kd := divideLong_any w a1 a2 (tl xs) (tl ys) c1 c2 _ _ hx.cut hy.cut (by rw [List.length_take]; omega) (by rw [List.length_take]; omega) (by rw [List.length_take, List.length_take]; omega) (canon_trim g3)
  rw [val_take_tl, val_take_tl] at kd
  have KD := hide kd
  clear kd h3 g3
  have hne : (((tl ys : Nat) : Int) == 0) = false := by simp; omega
  have hne1 : (((tl ys : Nat) : Int) == 1) = false := by simp; omega
  go_enter Tryd.func80, Tryd.ntmps80
  go_wp2_with fail
  refine (cut_any w a1 _ c1 xs hx).mono ?_
  rintro e w' ⟨rfl, rfl⟩
  go_wp2_with fail
  refine (cut_any _ a2 _ c2 ys hy).mono ?_
  rintro e w' ⟨rfl, rfl⟩
  go_wp2_with fail
  refine (KD.out).mono ?_
  rintro e w1 ⟨v1, v2, rfl, hi1, hi2, hsep, hb⟩
  go_wp2
  go_ret3
  exact ⟨_, _, rfl, hi1, hi2, hsep, hb⟩
theorem divmod_any (w : World) (a1 a2 : Option Addr) (n1 n2 c1 c2 : Nat) (xs ys : List Int) (hx : Sl w (.slice a1 n1 c1) xs) (hy : Sl w (.slice a2 n2 c2) ys) (hm1 : xs.length ≤ 500000) (h0 : val ys ≠ 0) :
    Calls Tryd.prog 80 #[.slice a1 n1 c1, .slice a2 n2 c2] w fun e w' => ∃ v1 v2, e = .returned (.tuple #[v1, v2, .bool true]) ∧ Is w.heap.size w' v1 (val xs / val ys) ∧ Is w.heap.size w' v2 (val xs % val ys) ∧ Sep v1 v2 ∧ Below w.heap.size w w' := by
  have hz : 0 < tl ys := by
    apply Classical.byContradiction
    intro hn
    exact h0 (tl_zero (by omega))
  by_cases h1 : tl xs < tl ys
  · exact divmod_less w a1 a2 n1 n2 c1 c2 xs ys hx hy (by omega) h1
  · by_cases h2 : tl ys = 1
    · exact divmod_short w a1 a2 n1 n2 c1 c2 xs ys hx hy (by omega) (by omega) h2
    · exact divmod_long w a1 a2 n1 n2 c1 c2 xs ys hx hy hm1 (by omega) (by omega)
theorem divmod_none (w : World) (a1 a2 : Option Addr) (n1 n2 c1 c2 : Nat) (xs ys : List Int) (hx : Sl w (.slice a1 n1 c1) xs) (hy : Sl w (.slice a2 n2 c2) ys) (h0 : val ys = 0) :
    Calls Tryd.prog 80 #[.slice a1 n1 c1, .slice a2 n2 c2] w fun e w' => e = .returned (.tuple #[.slice none 0 0, .slice none 0 0, .bool false]) ∧ Below w.heap.size w w' := by
  refine divmod_zero w a1 a2 n1 n2 c1 c2 xs ys hx hy ?_
  apply Classical.byContradiction
  intro hn
  have := val_pos_tl hy.parts.2.2.2 (by omega)
  omega
theorem divmod_g (w : World) (a1 a2 : Option Addr) (n1 n2 c1 c2 : Nat) (xs ys : List Int) (hx : Sl w (.slice a1 n1 c1) xs) (hy : Sl w (.slice a2 n2 c2) ys) (hm1 : xs.length ≤ 500000) (h0 : val ys ≠ 0) :
    Calls Tryd.prog 80 #[.slice a1 n1 c1, .slice a2 n2 c2] w fun e w' => ∃ ao cap rs bo dap ss, e = .returned (.tuple #[.slice ao rs.length cap, .slice bo ss.length dap, .bool true]) ∧ Got w' ao cap rs (val xs / val ys) ∧ Got w' bo dap ss (val xs % val ys) ∧ rs.length ≤ xs.length ∧ ss.length ≤ ys.length ∧ Below w.heap.size w w' := by
  refine (divmod_any w a1 a2 n1 n2 c1 c2 xs ys hx hy hm1 h0).mono ?_
  rintro e w' ⟨v1, v2, rfl, hi1, hi2, _, hb⟩
  obtain ⟨ao, cap, rs, rfl, hg1⟩ := hi1.got
  obtain ⟨bo, dap, ss, rfl, hg2⟩ := hi2.got
  have bx := val_bounds hx.parts.2.2.2
  have by' := val_bounds hy.parts.2.2.2
  refine ⟨ao, cap, rs, bo, dap, ss, rfl, hg1, hg2, le_len hx.parts.2.2.2 hg1.canon ?_, le_len hy.parts.2.2.2 hg2.canon ?_, hb⟩
  · rw [hg1.val]
    exact Int.ediv_le_self _ bx.1
  · rw [hg2.val]
    have := Int.emod_lt_of_pos (val xs) (show 0 < val ys by omega)
    omega
end Lm
end Go.Proofs.YtdiiankcjgoecaaDoor

namespace Go.Proofs.YtdiiankcjgoecaaDoor
namespace Lm
open Go.RowKit
theorem boxed4 (w : World) (nx : Bool) (vx : Value) (ny : Bool) (vy : Value) : ∃ w0 : World, (((w.alloc (.cells #[.bool nx, vx] 24)).alloc (.cells #[.bool ny, vy] 24)).alloc (.cells #[.bool false, .slice none 0 0] 24)).alloc (.cells #[.bool false, .slice none 0 0] 24) = w0 ∧ Box w0 w.heap.size nx vx ∧ Box w0 (w.heap.size + 1) ny vy ∧ Box w0 (w.heap.size + 1 + 1) false (.slice none 0 0) ∧ Box w0 (w.heap.size + 1 + 1 + 1) false (.slice none 0 0) ∧ Below w.heap.size w w0 ∧ w0.heap.size = w.heap.size + 4 := by
  obtain ⟨w2, e2, b1, b2, b3, hb, hs⟩ := boxed3 w nx vx ny vy
  have h2 := boxed w2 false (.slice none 0 0)
  rw [e2]
  refine ⟨_, rfl, b1.below h2.2.1, b2.below h2.2.1, b3.below h2.2.1, ?_, hb.trans (h2.2.1.mono (by omega)), by rw [h2.2.2, hs]⟩
  have h3 := h2.1
  rw [hs] at h3
  exact h3
theorem ediv_sg (ny : Bool) (X Y : Int) : X / sg ny Y = sg ny (X / Y) ∧ X % sg ny Y = X % Y := by
  cases ny <;> simp [sg, Int.ediv_neg, Int.emod_neg]
theorem euclid_neg {X Y : Int} (hY : 0 < Y) : (X % Y = 0 → -X / Y = -(X / Y) ∧ -X % Y = 0) ∧ (X % Y ≠ 0 → -X / Y = -(X / Y + 1) ∧ -X % Y = Y - X % Y) := by
  have h1 := Int.mul_ediv_add_emod X Y
  have h2 := Int.emod_nonneg X (show Y ≠ 0 by omega)
  have h3 := Int.emod_lt_of_pos X hY
  constructor
  · intro h0
    refine div_of hY ?_ (Int.le_refl 0) hY
    rw [Int.neg_mul, Int.mul_comm (X / Y)]
    omega
  · intro h0
    refine div_of hY ?_ (by omega) (by omega)
    rw [Int.neg_mul, Int.add_mul, Int.mul_comm (X / Y)]
    omega
theorem Box.other {w : World} {g h : Nat} {ng : Bool} {v : Value} (H : Box w g ng v) (hn : g ≠ h) (b u : Value) : Box ((w.setCell ⟨h, 0, none⟩ b).setCell ⟨h, 1, none⟩ u) g ng v :=
  (heap_setCell_other _ ⟨h, 1, none⟩ g u hn).trans ((heap_setCell_other w ⟨h, 0, none⟩ g b hn).trans H)
theorem box_two {w : World} {g h : Nat} {n1 n2 nq nr : Bool} {v1 v2 vq vr : Value} (H1 : Box w g n1 v1) (H2 : Box w h n2 v2) (hn : g ≠ h) : Box ((((w.setCell ⟨g, 0, none⟩ (.bool nq)).setCell ⟨g, 1, none⟩ vq).setCell ⟨h, 0, none⟩ (.bool nr)).setCell ⟨h, 1, none⟩ vr) g nq vq ∧ Box ((((w.setCell ⟨g, 0, none⟩ (.bool nq)).setCell ⟨g, 1, none⟩ vq).setCell ⟨h, 0, none⟩ (.bool nr)).setCell ⟨h, 1, none⟩ vr) h nr vr :=
  ⟨(H1.set nq vq).other hn _ _, (H2.other (Ne.symm hn) _ _).set nr vr⟩
theorem wdiv_pos (ny : Bool) (X Y : Int) : sg (false != ny) (X / Y) = sg false X / sg ny Y ∧ sg false (X % Y) = sg false X % sg ny Y := by
  have h := ediv_sg ny (sg false X) Y
  rw [h.1, h.2]
  cases ny <;> simp [sg]
theorem wdiv_even (nx ny : Bool) {X Y : Int} (hY : 0 < Y) (h0 : X % Y = 0) : sg (nx != ny) (X / Y) = sg nx X / sg ny Y ∧ sg false (X % Y) = sg nx X % sg ny Y := by
  cases nx with
  | false => exact wdiv_pos ny X Y
  | true =>
    have h := ediv_sg ny (sg true X) Y
    have h2 := (euclid_neg (X := X) hY).1 h0
    rw [h.1, h.2, h0]
    cases ny <;> simp [sg, h2]
theorem wdiv_odd (ny : Bool) {X Y : Int} (hY : 0 < Y) (h0 : X % Y ≠ 0) : sg (true != ny) (X / Y + 1) = sg true X / sg ny Y ∧ sg false (Y - X % Y) = sg true X % sg ny Y := by
  have h := ediv_sg ny (sg true X) Y
  have h2 := (euclid_neg (X := X) hY).2 h0
  rw [h.1, h.2]
  cases ny <;> simp [sg, h2]
set_option maxRecDepth 20000 in
set_option maxHeartbeats 1000000 in
theorem wdivmod_none (w : World) (nx : Bool) (a1 : Option Addr) (n1 c1 : Nat) (xs : List Int) (hx : Sl w (.slice a1 n1 c1) xs) (ny : Bool) (a2 : Option Addr) (n2 c2 : Nat) (ys : List Int) (hy : Sl w (.slice a2 n2 c2) ys) (h0 : val ys = 0) :
    Calls Tryd.prog 40 #[.agg #[.bool nx, .slice a1 n1 c1], .agg #[.bool ny, .slice a2 n2 c2]] w fun e w' => e = .returned (.tuple #[.agg #[.bool false, .slice none 0 0], .agg #[.bool false, .slice none 0 0], .bool false]) ∧ Below w.heap.size w w' := by
  obtain ⟨w0, e0, bx, by', bq, br, hb0, hs0⟩ := boxed4 w nx (.slice a1 n1 c1) ny (.slice a2 n2 c2)
  have E0 := hide e0
  have hx0 := hx.below hb0
  have hy0 := hy.below hb0
  clear e0 hs0
  have H0 := hide h0
  clear h0
  go_enter Tryd.func40, Tryd.ntmps40
  go_wp2_with fail
  rw [E0.out]
  obtain ⟨ca, cb, cc, cd⟩ := bx.facts
  obtain ⟨ea, eb, ec, ed⟩ := by'.facts
  refine (divmod_none _ _ _ _ _ _ _ xs ys hx0 hy0 H0.out).mono ?_
  rintro e w1 ⟨rfl, hb1⟩
  have Z := hide (hb0.trans (hb1.mono hb0.size))
  obtain ⟨qa, qb, qc, qd⟩ := (bq.below hb1).facts
  obtain ⟨ra, rb, rc, rd⟩ := (br.below hb1).facts
  have F := hide (box_two (nq := false) (vq := .slice none 0 0) (nr := false) (vr := .slice none 0 0) (bq.below hb1) (br.below hb1) (by omega))
  have Z2 := hide (below_set2 (below_set2 Z.out (show w.heap.size ≤ w.heap.size + 1 + 1 by omega) (.bool false) (.slice none 0 0)) (show w.heap.size ≤ w.heap.size + 1 + 1 + 1 by omega) (.bool false) (.slice none 0 0))
  go_wp2
  refine bodyPost_ret (v := .tuple #[.agg #[.bool false, .slice none 0 0], .agg #[.bool false, .slice none 0 0], .bool false]) ?_ rfl ⟨rfl, Z2.out⟩
  simp [results, Tryd.results40, go_sem, F.out.1.facts.1, F.out.1.facts.2.1, F.out.2.facts.1, F.out.2.facts.2.1]
set_option maxRecDepth 20000 in
set_option maxHeartbeats 1000000 in
theorem wdivmod_pos (w : World) (a1 : Option Addr) (n1 c1 : Nat) (xs : List Int) (hx : Sl w (.slice a1 n1 c1) xs) (ny : Bool) (a2 : Option Addr) (n2 c2 : Nat) (ys : List Int) (hy : Sl w (.slice a2 n2 c2) ys) (hm1 : xs.length ≤ 400000) (hm2 : ys.length ≤ 400000) (h0 : val ys ≠ 0) :
    Calls Tryd.prog 40 #[.agg #[.bool false, .slice a1 n1 c1], .agg #[.bool ny, .slice a2 n2 c2]] w fun e w' => ∃ nq aq cq qs nr ar cr rs, e = .returned (.tuple #[.agg #[.bool nq, .slice aq qs.length cq], .agg #[.bool nr, .slice ar rs.length cr], .bool true]) ∧ Wh w' nq aq cq qs (sg false (val xs) / sg ny (val ys)) ∧ Wh w' nr ar cr rs (sg false (val xs) % sg ny (val ys)) ∧ qs.length ≤ xs.length + 4 ∧ rs.length ≤ ys.length ∧ Below w.heap.size w w' := by
  obtain ⟨w0, e0, bx, by', bq, br, hb0, hs0⟩ := boxed4 w false (.slice a1 n1 c1) ny (.slice a2 n2 c2)
  have E0 := hide e0
  have hx0 := hx.below hb0
  have hy0 := hy.below hb0
  clear e0 hs0
  have PY : Hid (0 < val ys) := by have := (val_bounds hy.parts.2.2.2).1; show _ < _; omega
  have LY := hide hy.parts.2.2.2
  have H0 := hide h0
  clear h0
  go_enter Tryd.func40, Tryd.ntmps40
  go_wp2_with fail
  rw [E0.out]
  refine (divmod_g _ _ _ _ _ _ _ xs ys hx0 hy0 (by omega) H0.out).mono ?_
  rintro e w1 ⟨p1, q1, r1, p2, q2, r2, rfl, G1, G2, l1, l2, hb1⟩
  have HB : Below w0.heap.size w0 w1 := hb1
  obtain ⟨xa, xb, xc, xd⟩ := (bx.below HB).facts
  obtain ⟨ya, yb, yc, yd⟩ := (by'.below HB).facts
  go_wp2_with fail
  refine (signed_g _ _ _ _ r1 _ G1 (by omega)).mono ?_
  rintro e w7 ⟨ng7, rfl, G7, hb7⟩
  replace HB := HB.trans (hb7.mono HB.size)
  have G2' := G2.below hb7
  clear xa xb xc xd ya yb yc yd
  obtain ⟨xa, xb, xc, xd⟩ := (bx.below HB).facts
  obtain ⟨ya, yb, yc, yd⟩ := (by'.below HB).facts
  go_wp2_with fail
  refine (signed_g _ _ _ _ r2 _ G2' (by omega)).mono ?_
  rintro e w8 ⟨ng8, rfl, G8, hb8⟩
  replace HB := HB.trans (hb8.mono HB.size)
  replace G7 := G7.below hb8
  clear xa xb xc xd ya yb yc yd
  have bq8 := bq.below HB
  have br8 := br.below HB
  obtain ⟨qa, qb, qc, qd⟩ := bq8.facts
  obtain ⟨ra, rb, rc, rd⟩ := br8.facts
  have VQ : Hid (sg ny (val xs / val ys) = sg false (val xs) / sg ny (val ys) ∧ sg false (val xs % val ys) = sg false (val xs) % sg ny (val ys)) := by have h := wdiv_pos ny (val xs) (val ys); rwa [show (false != ny) = ny by cases ny <;> rfl] at h
  have Y1 := hide ((br8.other (show w.heap.size + 1 + 1 + 1 ≠ w.heap.size + 1 + 1 by omega) (.bool ng7) (.slice p1 r1.length q1)).wh ng8 (.slice p2 r2.length q2) (bq8.wh ng7 (.slice p1 r1.length q1) G7))
  have Y2 := hide ((br8.other (show w.heap.size + 1 + 1 + 1 ≠ w.heap.size + 1 + 1 by omega) (.bool ng7) (.slice p1 r1.length q1)).wh ng8 (.slice p2 r2.length q2) (bq8.wh ng7 (.slice p1 r1.length q1) G8))
  have F := hide (box_two (nq := ng7) (vq := .slice p1 r1.length q1) (nr := ng8) (vr := .slice p2 r2.length q2) bq8 br8 (by omega))
  have Z := hide (hb0.trans (HB.mono hb0.size))
  have Z2 := hide (below_set2 (below_set2 Z.out (show w.heap.size ≤ w.heap.size + 1 + 1 by omega) (.bool ng7) (.slice p1 r1.length q1)) (show w.heap.size ≤ w.heap.size + 1 + 1 + 1 by omega) (.bool ng8) (.slice p2 r2.length q2))
  go_wp2
  refine bodyPost_ret (v := .tuple #[.agg #[.bool ng7, .slice p1 r1.length q1], .agg #[.bool ng8, .slice p2 r2.length q2], .bool true]) ?_ rfl ⟨ng7, p1, q1, r1, ng8, p2, q2, r2, rfl, by rw [← VQ.out.1]; exact Y1.out, by rw [← VQ.out.2]; exact Y2.out, by omega, by omega, Z2.out⟩
  simp [results, Tryd.results40, go_sem, F.out.1.facts.1, F.out.1.facts.2.1, F.out.2.facts.1, F.out.2.facts.2.1]
set_option maxRecDepth 20000 in
set_option maxHeartbeats 1000000 in
theorem wdivmod_even (w : World) (a1 : Option Addr) (n1 c1 : Nat) (xs : List Int) (hx : Sl w (.slice a1 n1 c1) xs) (ny : Bool) (a2 : Option Addr) (n2 c2 : Nat) (ys : List Int) (hy : Sl w (.slice a2 n2 c2) ys) (hm1 : xs.length ≤ 400000) (_hm2 : ys.length ≤ 400000) (h0 : val ys ≠ 0) (hev : val xs % val ys = 0) :
    Calls Tryd.prog 40 #[.agg #[.bool true, .slice a1 n1 c1], .agg #[.bool ny, .slice a2 n2 c2]] w fun e w' => ∃ nq aq cq qs nr ar cr rs, e = .returned (.tuple #[.agg #[.bool nq, .slice aq qs.length cq], .agg #[.bool nr, .slice ar rs.length cr], .bool true]) ∧ Wh w' nq aq cq qs (sg true (val xs) / sg ny (val ys)) ∧ Wh w' nr ar cr rs (sg true (val xs) % sg ny (val ys)) ∧ qs.length ≤ xs.length + 4 ∧ rs.length ≤ ys.length ∧ Below w.heap.size w w' := by
  obtain ⟨w0, e0, bx, by', bq, br, hb0, hs0⟩ := boxed4 w true (.slice a1 n1 c1) ny (.slice a2 n2 c2)
  have E0 := hide e0
  have hx0 := hx.below hb0
  have hy0 := hy.below hb0
  clear e0 hs0
  have PY : Hid (0 < val ys) := by have := (val_bounds hy.parts.2.2.2).1; show _ < _; omega
  have LY := hide hy.parts.2.2.2
  have H0 := hide h0
  have HE := hide hev
  clear hev
  clear h0
  go_enter Tryd.func40, Tryd.ntmps40
  go_wp2_with fail
  rw [E0.out]
  refine (divmod_g _ _ _ _ _ _ _ xs ys hx0 hy0 (by omega) H0.out).mono ?_
  rintro e w1 ⟨p1, q1, r1, p2, q2, r2, rfl, G1, G2, l1, l2, hb1⟩
  have HB : Below w0.heap.size w0 w1 := hb1
  have hr2 : ¬ 0 < (r2.length : Int) := by
    have h9 : r2 = [] := (canon_zero G2.canon).1 (by rw [G2.val]; exact HE.out)
    rw [h9]; simp
  obtain ⟨xa, xb, xc, xd⟩ := (bx.below HB).facts
  obtain ⟨ya, yb, yc, yd⟩ := (by'.below HB).facts
  go_wp2_with fail
  refine (signed_g _ _ _ _ r1 _ G1 (by omega)).mono ?_
  rintro e w7 ⟨ng7, rfl, G7, hb7⟩
  replace HB := HB.trans (hb7.mono HB.size)
  have G2' := G2.below hb7
  clear xa xb xc xd ya yb yc yd
  obtain ⟨xa, xb, xc, xd⟩ := (bx.below HB).facts
  obtain ⟨ya, yb, yc, yd⟩ := (by'.below HB).facts
  go_wp2_with fail
  refine (signed_g _ _ _ _ r2 _ G2' (by omega)).mono ?_
  rintro e w8 ⟨ng8, rfl, G8, hb8⟩
  replace HB := HB.trans (hb8.mono HB.size)
  replace G7 := G7.below hb8
  clear xa xb xc xd ya yb yc yd
  have bq8 := bq.below HB
  have br8 := br.below HB
  obtain ⟨qa, qb, qc, qd⟩ := bq8.facts
  obtain ⟨ra, rb, rc, rd⟩ := br8.facts
  have VQ : Hid (sg (!ny) (val xs / val ys) = sg true (val xs) / sg ny (val ys) ∧ sg false (val xs % val ys) = sg true (val xs) % sg ny (val ys)) := by have h := wdiv_even true ny PY.out HE.out; rwa [show (true != ny) = !ny by cases ny <;> rfl] at h
  have Y1 := hide ((br8.other (show w.heap.size + 1 + 1 + 1 ≠ w.heap.size + 1 + 1 by omega) (.bool ng7) (.slice p1 r1.length q1)).wh ng8 (.slice p2 r2.length q2) (bq8.wh ng7 (.slice p1 r1.length q1) G7))
  have Y2 := hide ((br8.other (show w.heap.size + 1 + 1 + 1 ≠ w.heap.size + 1 + 1 by omega) (.bool ng7) (.slice p1 r1.length q1)).wh ng8 (.slice p2 r2.length q2) (bq8.wh ng7 (.slice p1 r1.length q1) G8))
  have F := hide (box_two (nq := ng7) (vq := .slice p1 r1.length q1) (nr := ng8) (vr := .slice p2 r2.length q2) bq8 br8 (by omega))
  have Z := hide (hb0.trans (HB.mono hb0.size))
  have Z2 := hide (below_set2 (below_set2 Z.out (show w.heap.size ≤ w.heap.size + 1 + 1 by omega) (.bool ng7) (.slice p1 r1.length q1)) (show w.heap.size ≤ w.heap.size + 1 + 1 + 1 by omega) (.bool ng8) (.slice p2 r2.length q2))
  go_wp2
  refine bodyPost_ret (v := .tuple #[.agg #[.bool ng7, .slice p1 r1.length q1], .agg #[.bool ng8, .slice p2 r2.length q2], .bool true]) ?_ rfl ⟨ng7, p1, q1, r1, ng8, p2, q2, r2, rfl, by rw [← VQ.out.1]; exact Y1.out, by rw [← VQ.out.2]; exact Y2.out, by omega, by omega, Z2.out⟩
  simp [results, Tryd.results40, go_sem, F.out.1.facts.1, F.out.1.facts.2.1, F.out.2.facts.1, F.out.2.facts.2.1]
set_option maxRecDepth 20000 in
set_option maxHeartbeats 1000000 in
theorem wdivmod_odd (w : World) (a1 : Option Addr) (n1 c1 : Nat) (xs : List Int) (hx : Sl w (.slice a1 n1 c1) xs) (ny : Bool) (a2 : Option Addr) (n2 c2 : Nat) (ys : List Int) (hy : Sl w (.slice a2 n2 c2) ys) (hm1 : xs.length ≤ 400000) (hm2 : ys.length ≤ 400000) (h0 : val ys ≠ 0) (hod : val xs % val ys ≠ 0) :
    Calls Tryd.prog 40 #[.agg #[.bool true, .slice a1 n1 c1], .agg #[.bool ny, .slice a2 n2 c2]] w fun e w' => ∃ nq aq cq qs nr ar cr rs, e = .returned (.tuple #[.agg #[.bool nq, .slice aq qs.length cq], .agg #[.bool nr, .slice ar rs.length cr], .bool true]) ∧ Wh w' nq aq cq qs (sg true (val xs) / sg ny (val ys)) ∧ Wh w' nr ar cr rs (sg true (val xs) % sg ny (val ys)) ∧ qs.length ≤ xs.length + 4 ∧ rs.length ≤ ys.length ∧ Below w.heap.size w w' := by
  obtain ⟨w0, e0, bx, by', bq, br, hb0, hs0⟩ := boxed4 w true (.slice a1 n1 c1) ny (.slice a2 n2 c2)
  have E0 := hide e0
  have hx0 := hx.below hb0
  have hy0 := hy.below hb0
  clear e0 hs0
  have PY : Hid (0 < val ys) := by have := (val_bounds hy.parts.2.2.2).1; show _ < _; omega
  have LY := hide hy.parts.2.2.2
  have H0 := hide h0
  have HE := hide hod
  clear hod
  clear h0
  go_enter Tryd.func40, Tryd.ntmps40
  go_wp2_with fail
  rw [E0.out]
  refine (divmod_g _ _ _ _ _ _ _ xs ys hx0 hy0 (by omega) H0.out).mono ?_
  rintro e w1 ⟨p1, q1, r1, p2, q2, r2, rfl, G1, G2, l1, l2, hb1⟩
  have HB : Below w0.heap.size w0 w1 := hb1
  have hr2 : 0 < (r2.length : Int) := by
    have h9 : r2 ≠ [] := fun e => HE.out (by rw [← G2.val]; exact (canon_zero G2.canon).2 e)
    have h8 : r2.length ≠ 0 := fun e => h9 (List.eq_nil_of_length_eq_zero e)
    omega
  obtain ⟨xa, xb, xc, xd⟩ := (bx.below HB).facts
  go_wp2_with fail
  refine (small_any _ 1 (by omega) (by omega)).mono ?_
  rintro e w3 ⟨v3, rfl, hi3, hb3⟩
  obtain ⟨p3, q3, r3, rfl, G3, l3⟩ := got_small hi3 (by omega)
  clear hi3
  replace HB := HB.trans (hb3.mono HB.size)
  replace G1 := G1.below hb3
  replace G2 := G2.below hb3
  go_wp2_with fail
  refine (add_g _ _ _ _ _ _ _ r1 r3 G1.sl G3.sl (by omega) (by omega)).mono ?_
  rintro e w4 ⟨p4, q4, r4, rfl, G4, l4, hb4⟩
  replace HB := HB.trans (hb4.mono HB.size)
  replace G2 := G2.below hb4
  rw [G1.val, G3.val] at G4
  have hy4 := hy0.below HB
  obtain ⟨ya, yb, yc, yd⟩ := (by'.below HB).facts
  go_wp2_with fail
  refine (sub_g _ _ _ _ _ _ _ ys r2 hy4 G2.sl (by omega) (by rw [G2.val]; exact Int.le_of_lt (Int.emod_lt_of_pos _ PY.out))).mono ?_
  rintro e w5 ⟨p5, q5, r5, rfl, G5, l5, hb5⟩
  replace HB := HB.trans (hb5.mono HB.size)
  replace G4 := G4.below hb5
  rw [G2.val] at G5
  clear xa xb xc xd ya yb yc yd G1 G2 G3 hy4
  obtain ⟨xa, xb, xc, xd⟩ := (bx.below HB).facts
  obtain ⟨ya, yb, yc, yd⟩ := (by'.below HB).facts
  go_wp2_with fail
  refine (signed_g _ _ _ _ r4 _ G4 (by omega)).mono ?_
  rintro e w7 ⟨ng7, rfl, G7, hb7⟩
  replace HB := HB.trans (hb7.mono HB.size)
  have G2' := G5.below hb7
  clear xa xb xc xd ya yb yc yd
  obtain ⟨xa, xb, xc, xd⟩ := (bx.below HB).facts
  obtain ⟨ya, yb, yc, yd⟩ := (by'.below HB).facts
  go_wp2_with fail
  refine (signed_g _ _ _ _ r5 _ G2' (by omega)).mono ?_
  rintro e w8 ⟨ng8, rfl, G8, hb8⟩
  replace HB := HB.trans (hb8.mono HB.size)
  replace G7 := G7.below hb8
  clear xa xb xc xd ya yb yc yd
  have bq8 := bq.below HB
  have br8 := br.below HB
  obtain ⟨qa, qb, qc, qd⟩ := bq8.facts
  obtain ⟨ra, rb, rc, rd⟩ := br8.facts
  have VQ : Hid (sg (!ny) (val xs / val ys + 1) = sg true (val xs) / sg ny (val ys) ∧ sg false (val ys - val xs % val ys) = sg true (val xs) % sg ny (val ys)) := by have h := wdiv_odd ny PY.out HE.out; rwa [show (true != ny) = !ny by cases ny <;> rfl] at h
  have Y1 := hide ((br8.other (show w.heap.size + 1 + 1 + 1 ≠ w.heap.size + 1 + 1 by omega) (.bool ng7) (.slice p4 r4.length q4)).wh ng8 (.slice p5 r5.length q5) (bq8.wh ng7 (.slice p4 r4.length q4) G7))
  have Y2 := hide ((br8.other (show w.heap.size + 1 + 1 + 1 ≠ w.heap.size + 1 + 1 by omega) (.bool ng7) (.slice p4 r4.length q4)).wh ng8 (.slice p5 r5.length q5) (bq8.wh ng7 (.slice p4 r4.length q4) G8))
  have F := hide (box_two (nq := ng7) (vq := .slice p4 r4.length q4) (nr := ng8) (vr := .slice p5 r5.length q5) bq8 br8 (by omega))
  have Z := hide (hb0.trans (HB.mono hb0.size))
  have Z2 := hide (below_set2 (below_set2 Z.out (show w.heap.size ≤ w.heap.size + 1 + 1 by omega) (.bool ng7) (.slice p4 r4.length q4)) (show w.heap.size ≤ w.heap.size + 1 + 1 + 1 by omega) (.bool ng8) (.slice p5 r5.length q5))
  go_wp2
  refine bodyPost_ret (v := .tuple #[.agg #[.bool ng7, .slice p4 r4.length q4], .agg #[.bool ng8, .slice p5 r5.length q5], .bool true]) ?_ rfl ⟨ng7, p4, q4, r4, ng8, p5, q5, r5, rfl, by rw [← VQ.out.1]; exact Y1.out, by rw [← VQ.out.2]; exact Y2.out, by omega, by omega, Z2.out⟩
  simp [results, Tryd.results40, go_sem, F.out.1.facts.1, F.out.1.facts.2.1, F.out.2.facts.1, F.out.2.facts.2.1]
theorem wdivmod_g (w : World) (nx : Bool) (a1 : Option Addr) (n1 c1 : Nat) (xs : List Int) (hx : Sl w (.slice a1 n1 c1) xs) (ny : Bool) (a2 : Option Addr) (n2 c2 : Nat) (ys : List Int) (hy : Sl w (.slice a2 n2 c2) ys) (hm1 : xs.length ≤ 400000) (hm2 : ys.length ≤ 400000) (h0 : val ys ≠ 0) :
    Calls Tryd.prog 40 #[.agg #[.bool nx, .slice a1 n1 c1], .agg #[.bool ny, .slice a2 n2 c2]] w fun e w' => ∃ nq aq cq qs nr ar cr rs, e = .returned (.tuple #[.agg #[.bool nq, .slice aq qs.length cq], .agg #[.bool nr, .slice ar rs.length cr], .bool true]) ∧ Wh w' nq aq cq qs (sg nx (val xs) / sg ny (val ys)) ∧ Wh w' nr ar cr rs (sg nx (val xs) % sg ny (val ys)) ∧ qs.length ≤ xs.length + 4 ∧ rs.length ≤ ys.length ∧ Below w.heap.size w w' := by
  cases nx with
  | false => exact wdivmod_pos w a1 n1 c1 xs hx ny a2 n2 c2 ys hy hm1 hm2 h0
  | true =>
    by_cases he : val xs % val ys = 0
    · exact wdivmod_even w a1 n1 c1 xs hx ny a2 n2 c2 ys hy hm1 hm2 h0 he
    · exact wdivmod_odd w a1 n1 c1 xs hx ny a2 n2 c2 ys hy hm1 hm2 h0 he
end Lm
end Go.Proofs.YtdiiankcjgoecaaDoor

namespace Go.Proofs.YtdiiankcjgoecaaDoor
namespace Lm
open Go.RowKit
theorem wdec_len {ds : List Int} {x : Int} (h : IsDec ds x) {m : Nat} (hm : 1 ≤ m) (hx : x < p10 m) : ds.length ≤ m := by
  obtain ⟨h1, h2, h3⟩ := h
  rcases h3 with ⟨_, rfl⟩ | ⟨c, cs, rfl, hc⟩
  · simp; omega
  · have := dval_low h1 hc
    simp only [List.length_cons]
    apply Classical.byContradiction
    intro hn
    have := p10_mono (m := m) (n := cs.length) (by omega)
    omega
theorem minus_ahead (ds : List Int) : (⟨#[45]⟩ : ByteArray) ++ strOfNums ds = strOfNums (45 :: ds) := by
  apply ByteArray.ext
  rw [ByteArray.data_append]
  apply Array.toList_inj.1
  simp [strOfNums]
theorem sign_three' (z : Int) : -1 ≤ Int.sign z ∧ Int.sign z ≤ 1 := by
  rcases Int.lt_trichotomy z 0 with h | h | h
  · rw [Int.sign_eq_neg_one_of_neg h]; omega
  · rw [h]; simp
  · rw [Int.sign_eq_one_of_pos h]; omega
set_option maxRecDepth 20000 in
set_option maxHeartbeats 400000 in
theorem wtext_neg (w : World) (ng : Bool) (ao : Option Addr) (n cap : Nat) (zs : List Int) (h : Sl w (.slice ao n cap) zs) (hz : zs.length ≤ 1000000) (hneg : sg ng (val zs) < 0) :
    Calls Tryd.prog 13 #[.agg #[.bool ng, .slice ao n cap]] w fun e w' => ∃ ds, e = .returned (.string (strOfNums (45 :: ds))) ∧ IsDec ds (val zs) ∧ Below w.heap.size w w' := by
  obtain ⟨w0, e0, bx, hb0, hs0⟩ := boxed0 w ng (.slice ao n cap)
  have E0 := hide e0
  have h0 := h.below hb0
  have HN := hide hneg
  have ks := wsign_any w0 ng ao n cap zs h0 hz
  rw [Int.sign_eq_neg_one_of_neg hneg] at ks
  have KS := hide ks
  clear e0 hs0 ks hneg
  go_enter Tryd.func13, Tryd.ntmps13
  go_wp2_with fail
  rw [E0.out]
  refine (KS.out).mono ?_
  rintro e w1 ⟨rfl, hb1⟩
  obtain ⟨xa, xb, xc, xd⟩ := (bx.below hb1).facts
  have h1 := h0.below hb1
  go_wp2_with fail
  refine (text_any _ _ _ _ zs h1 hz).mono ?_
  rintro e w2 ⟨ds, rfl, hd, hb2⟩
  have Z := hide (hb0.trans ((hb1.trans (hb2.mono hb1.size)).mono hb0.size))
  have HD := hide hd
  have hcs : ¬ 9223372036854775807 < 1 + (strOfNums ds).size := by
    have h8 := (val_bounds h.parts.2.2.2).2
    have h7 := pw_le_p10 zs.length
    have h6 := p10_mono (m := 10 * zs.length) (n := 10 * zs.length + 1) (by omega)
    have h9 := wdec_len hd (m := 10 * zs.length + 1) (by omega) (by omega)
    rw [strOfNums_size]
    omega
  have MA := hide (minus_ahead ds)
  clear hd
  go_wp2
  refine bodyPost_ret (v := .string (strOfNums (45 :: ds))) ?_ rfl ⟨ds, rfl, HD.out, Z.out⟩
  simp [results, Tryd.results13, go_sem, MA.out]
set_option maxRecDepth 20000 in
set_option maxHeartbeats 400000 in
theorem wtext_pos (w : World) (ng : Bool) (ao : Option Addr) (n cap : Nat) (zs : List Int) (h : Sl w (.slice ao n cap) zs) (hz : zs.length ≤ 1000000) (hpos : ¬ sg ng (val zs) < 0) :
    Calls Tryd.prog 13 #[.agg #[.bool ng, .slice ao n cap]] w fun e w' => ∃ ds, e = .returned (.string (strOfNums ds)) ∧ IsDec ds (val zs) ∧ Below w.heap.size w w' := by
  obtain ⟨w0, e0, bx, hb0, hs0⟩ := boxed0 w ng (.slice ao n cap)
  have E0 := hide e0
  have h0 := h.below hb0
  obtain ⟨s, hs, hs1⟩ : ∃ s, Int.sign (sg ng (val zs)) = s ∧ ¬ s < 0 := ⟨_, rfl, by
    intro h9
    have h8 := Int.sign_eq_neg_one_iff_neg.1 (show Int.sign (sg ng (val zs)) = -1 by have := sign_three' (sg ng (val zs)); omega)
    omega⟩
  have ks := wsign_any w0 ng ao n cap zs h0 hz
  rw [hs] at ks
  have KS := hide ks
  clear e0 hs0 ks hpos hs
  go_enter Tryd.func13, Tryd.ntmps13
  go_wp2_with fail
  rw [E0.out]
  refine (KS.out).mono ?_
  rintro e w1 ⟨rfl, hb1⟩
  obtain ⟨xa, xb, xc, xd⟩ := (bx.below hb1).facts
  have h1 := h0.below hb1
  go_wp2_with fail
  refine (text_any _ _ _ _ zs h1 hz).mono ?_
  rintro e w2 ⟨ds, rfl, hd, hb2⟩
  have Z := hide (hb0.trans ((hb1.trans (hb2.mono hb1.size)).mono hb0.size))
  have HD := hide hd
  clear hd
  go_wp2
  go_ret
  exact ⟨ds, rfl, HD.out, Z.out⟩
end Lm
end Go.Proofs.YtdiiankcjgoecaaDoor

namespace Go.Proofs.YtdiiankcjgoecaaDoor
namespace Lm
open Go.RowKit
theorem divmod_z (w : World) (nx : Bool) (a1 : Option Addr) (n1 c1 : Nat) (xs : List Int) (x : Int) (hx : Ag w nx a1 n1 c1 xs x) (ny : Bool) (a2 : Option Addr) (n2 c2 : Nat) (ys : List Int) (y : Int) (hy : Ag w ny a2 n2 c2 ys y) (hm1 : xs.length ≤ 400000) (hm2 : ys.length ≤ 400000) (h0 : y ≠ 0) :
    Calls Tryd.prog 40 #[.agg #[.bool nx, .slice a1 n1 c1], .agg #[.bool ny, .slice a2 n2 c2]] w fun e w' => ∃ nq aq cq qs nr ar cr rs, e = .returned (.tuple #[.agg #[.bool nq, .slice aq qs.length cq], .agg #[.bool nr, .slice ar rs.length cr], .bool true]) ∧ Wh w' nq aq cq qs (x / y) ∧ Wh w' nr ar cr rs (x % y) ∧ qs.length ≤ xs.length + 4 ∧ rs.length ≤ ys.length ∧ Below w.heap.size w w' := by
  have h := wdivmod_g w nx a1 n1 c1 xs hx.sl ny a2 n2 c2 ys hy.sl hm1 hm2 (fun e => h0 (by rw [← hy.worth, e]; cases ny <;> simp [sg]))
  rw [hx.worth, hy.worth] at h
  exact h
theorem dec12 : IsDec [49, 50] 12 := by
  refine ⟨?_, by decide, .inr ⟨49, _, rfl, by decide⟩⟩
  intro c hc
  simp at hc
  omega
theorem text12 (w : World) (ng : Bool) (ao : Option Addr) (cap : Nat) (rs : List Int) (h : Wh w ng ao cap rs (-12)) (hl : rs.length ≤ 2) :
    Calls Tryd.prog 13 #[.agg #[.bool ng, .slice ao rs.length cap]] w fun e w' => e = .returned (.string ⟨#[45, 49, 50]⟩) ∧ Below w.heap.size w w' := by
  refine (wtext_neg w ng ao _ cap rs h.sl (by omega) (by rw [h.worth]; decide)).mono ?_
  rintro e w' ⟨ds, rfl, hd, hb⟩
  have e2 := isDec_one hd (show IsDec [49, 50] (val rs) by rw [h.1.val]; exact dec12)
  subst e2
  exact ⟨rfl, hb⟩
set_option maxRecDepth 20000 in
set_option maxHeartbeats 1000000 in
theorem wawake_any (w : World) : Calls Tryd.prog 9 #[] w fun e w' => e = .returned (.bool true) ∧ Below w.heap.size w w' := by
  have HB := Below.refl w.heap.size w
  go_enter Tryd.func9, Tryd.ntmps9
  go_wp2_with fail
  refine (lsmall_g _ (-7) (by omega) (by omega)).mono ?_
  rintro e w1 ⟨s1, p1, q1, r1, rfl, G1, l1, hb1⟩
  replace HB := HB.trans (hb1.mono HB.size)
  go_wp2_with fail
  refine (lsmall_g _ 2 (by omega) (by omega)).mono ?_
  rintro e w2 ⟨s2, p2, q2, r2, rfl, G2, l2, hb2⟩
  replace HB := HB.trans (hb2.mono HB.size)
  replace G1 := G1.below hb2
  go_wp2_with fail
  refine (divmod_z _ _ _ _ _ _ _ G1.ag _ _ _ _ _ _ G2.ag (by omega) (by omega) (by decide)).mono ?_
  rintro e w3 ⟨s3, p3, q3, r3, s4, p4, q4, r4, rfl, G3, G4, l3, l4, hb3⟩
  replace HB := HB.trans (hb3.mono HB.size)
  rw [show (-7 : Int) / 2 = -4 by decide] at G3
  rw [show (-7 : Int) % 2 = 1 by decide] at G4
  obtain ⟨w4, e4, bq, br, hb4, hs4⟩ := boxed2 w3 s3 (.slice p3 r3.length q3) s4 (.slice p4 r4.length q4)
  have E4 := hide e4
  replace HB := HB.trans (hb4.mono HB.size)
  replace G3 := G3.below hb4
  replace G4 := G4.below hb4
  clear e4 hs4 hb1 hb2 hb3 G1 G2
  go_wp2
  rw [E4.out]
  clear E4
  obtain ⟨bq1, bq2, bq3, bq4⟩ := bq.facts
  obtain ⟨br1, br2, br3, br4⟩ := br.facts
  go_region_held3 (fun w' => w'.cell? ⟨w3.heap.size, 0, none⟩ = some (.bool s3) ∧ w'.cell? ⟨w3.heap.size, 1, none⟩ = some (.slice p3 r3.length q3) ∧ w'.cell? ⟨w3.heap.size + 1, 0, none⟩ = some (.bool s4) ∧ w'.cell? ⟨w3.heap.size + 1, 1, none⟩ = some (.slice p4 r4.length q4)) (go_keep) (first
    | (go_at_call 13; have _hq := hb9'; refine (text12 _ _ _ _ _ (G9.below (by repeat (first | exact Below.refl _ _ | refine Below.drew ?_))) (by omega)).mono ?_; rintro e w10 ⟨rfl, hb10⟩; have hb10' : Below w9.heap.size w9 w10 := (show Below w9.heap.size w9 _ by repeat (first | exact Below.refl _ _ | refine Below.drew ?_)).trans hb10; have HB := HB.trans (hb10'.mono HB.size); replace bq := bq.below hb10'; clear bq1 bq2 bq3 bq4; obtain ⟨bq1, bq2, bq3, bq4⟩ := bq.facts; replace br := br.below hb10'; clear br1 br2 br3 br4; obtain ⟨br1, br2, br3, br4⟩ := br.facts)
    | (go_at_call 41; have _hq := hb8'; refine (lsmall_g _ (-12) (by omega) (by omega)).mono ?_; rintro e w9 ⟨s9, p9, q9, r9, rfl, G9, l9, hb9⟩; have hb9' : Below w8.heap.size w8 w9 := (show Below w8.heap.size w8 _ by repeat (first | exact Below.refl _ _ | refine Below.drew ?_)).trans hb9; have HB := HB.trans (hb9'.mono HB.size); replace bq := bq.below hb9'; clear bq1 bq2 bq3 bq4; obtain ⟨bq1, bq2, bq3, bq4⟩ := bq.facts; replace br := br.below hb9'; clear br1 br2 br3 br4; obtain ⟨br1, br2, br3, br4⟩ := br.facts)
    | (go_at_call 17; have _hq := hb7'; refine (same_z _ _ _ _ _ _ _ _ _ _ _ (G4.below (by repeat (first | exact Below.refl _ _ | refine Below.drew ?_))) (G7.below (by repeat (first | exact Below.refl _ _ | refine Below.drew ?_))) true (by decide)).mono ?_; rintro e w8 ⟨rfl, hb8⟩; have hb8' : Below w7.heap.size w7 w8 := (show Below w7.heap.size w7 _ by repeat (first | exact Below.refl _ _ | refine Below.drew ?_)).trans hb8; have HB := HB.trans (hb8'.mono HB.size); replace bq := bq.below hb8'; clear bq1 bq2 bq3 bq4; obtain ⟨bq1, bq2, bq3, bq4⟩ := bq.facts; replace br := br.below hb8'; clear br1 br2 br3 br4; obtain ⟨br1, br2, br3, br4⟩ := br.facts)
    | (go_at_call 41; have _hq := hb6'; refine (lsmall_g _ 1 (by omega) (by omega)).mono ?_; rintro e w7 ⟨s7, p7, q7, r7, rfl, G7, l7, hb7⟩; have hb7' : Below w6.heap.size w6 w7 := (show Below w6.heap.size w6 _ by repeat (first | exact Below.refl _ _ | refine Below.drew ?_)).trans hb7; have HB := HB.trans (hb7'.mono HB.size); replace G4 := G4.below hb7'; replace bq := bq.below hb7'; clear bq1 bq2 bq3 bq4; obtain ⟨bq1, bq2, bq3, bq4⟩ := bq.facts; replace br := br.below hb7'; clear br1 br2 br3 br4; obtain ⟨br1, br2, br3, br4⟩ := br.facts)
    | (go_at_call 17; have _hq := hb5'; refine (same_z _ _ _ _ _ _ _ _ _ _ _ (G3.below (by repeat (first | exact Below.refl _ _ | refine Below.drew ?_))) (G5.below (by repeat (first | exact Below.refl _ _ | refine Below.drew ?_))) true (by decide)).mono ?_; rintro e w6 ⟨rfl, hb6⟩; have hb6' : Below w5.heap.size w5 w6 := (show Below w5.heap.size w5 _ by repeat (first | exact Below.refl _ _ | refine Below.drew ?_)).trans hb6; have HB := HB.trans (hb6'.mono HB.size); replace G4 := G4.below hb6'; replace bq := bq.below hb6'; clear bq1 bq2 bq3 bq4; obtain ⟨bq1, bq2, bq3, bq4⟩ := bq.facts; replace br := br.below hb6'; clear br1 br2 br3 br4; obtain ⟨br1, br2, br3, br4⟩ := br.facts)
    | (go_at_call 41; refine (lsmall_g _ (-4) (by omega) (by omega)).mono ?_; rintro e w5 ⟨s5, p5, q5, r5, rfl, G5, l5, hb5⟩; have hb5' : Below w4.heap.size w4 w5 := (show Below w4.heap.size w4 _ by repeat (first | exact Below.refl _ _ | refine Below.drew ?_)).trans hb5; have HB := HB.trans (hb5'.mono HB.size); replace G3 := G3.below hb5'; replace G4 := G4.below hb5'; replace bq := bq.below hb5'; clear bq1 bq2 bq3 bq4; obtain ⟨bq1, bq2, bq3, bq4⟩ := bq.facts; replace br := br.below hb5'; clear br1 br2 br3 br4; obtain ⟨br1, br2, br3, br4⟩ := br.facts))
  all_goals
    clear bq1 bq2 bq3 bq4 br1 br2 br3 br4
    go_wp2
    go_ret
    exact ⟨rfl, HB⟩
end Lm
end Go.Proofs.YtdiiankcjgoecaaDoor

namespace Go.Proofs.YtdiiankcjgoecaaDoor
namespace Lm
open Go.RowKit
open Classical in
noncomputable def worth (w : World) (v : Value) : Nat := if h : ∃ r, Sl w v r then (val (Classical.choose h)).toNat else 0
end Lm
end Go.Proofs.YtdiiankcjgoecaaDoor

namespace Go.Proofs.YtdiiankcjgoecaaDoor
namespace Lm
open Go Go.RowKit
section
variable {dst : Option Tmp} {ty : TypeId} {pos : String} {after : Array Edge} {guard : Option (Nat × Bool)} {a : Act} {w : World} {ats : Array TypeId} {i j : Nat} {x y : Int} {L L1 L2 : Nat}
theorem has_wtrim : Has Tryd.prog 18 := by unfold Has; kernel_rfl
theorem op_wtrim (hx : IsW x L1 (a.eval (.tmp i)) w) (h1 : L1 ≤ 400000) :
    Does Tryd.prog { dst, op := .call { callee := .value (.func 18), args := #[.tmp i], argTypes := ats }, type := ty, pos, after, guard } a.eval w fun v w' => Below w.heap.size w w' ∧ OutW x L1 v w' := by
  obtain ⟨n1, a1, m1, c1, xs, e1, A1, l1⟩ := hx
  refine does_call has_wtrim _ (by simp only [List.map_toArray, List.map_cons, List.map_nil, e1]) ((trim_z _ _ _ _ _ _ _ A1 (by omega)).mono ?_)
  rintro e w' ⟨ng, ao, cap, rs, rfl, G, l, hb⟩
  exact ⟨_, rfl, hb, _, _, _, _, rfl, G, by omega⟩
end
end Lm
end Go.Proofs.YtdiiankcjgoecaaDoor

namespace Go.Proofs.YtdiiankcjgoecaaDoor
namespace Lm
open Go Go.RowKit
section
variable {dst : Option Tmp} {ty : TypeId} {pos : String} {after : Array Edge} {guard : Option (Nat × Bool)} {a : Act} {w : World} {ats : Array TypeId} {i j : Nat} {x y : Int} {L L1 L2 : Nat}
theorem has_lenw : Has Tryd.prog 10 := by unfold Has; kernel_rfl
theorem op_lenw {ng : Bool} {ao : Option Addr} {n c : Nat} (h : a.eval (.tmp i) = .agg #[.bool ng, .slice ao n c]) (hn : n ≤ 35184372088832) :
    Does Tryd.prog { dst, op := .call { callee := .value (.func 10), args := #[.tmp i], argTypes := ats }, type := ty, pos, after, guard } a.eval w fun v w' => Below w.heap.size w w' ∧ Eqs (.int .i64 (1 + (n : Int))) v w' := by
  refine does_call has_lenw _ (by simp only [List.map_toArray, List.map_cons, List.map_nil, h]) ((wlen_any w ng ao n c hn).mono ?_)
  rintro e w' ⟨rfl, hb⟩
  exact ⟨_, rfl, hb, rfl⟩
end
end Lm
end Go.Proofs.YtdiiankcjgoecaaDoor

namespace Go.Proofs.YtdiiankcjgoecaaDoor
namespace Dm
open Go.RowKit
open Lm (hide lt_of_cell lt_of_heap div_of info32 cmpI cmpI_lt cmpI_gt cmpI_eq ret_i64)
theorem getD_take (zs : List Int) (i k : Nat) (h : i < k) : (zs.take k).getD i 0 = zs.getD i 0 := by
  rw [List.getD_eq_getElem?_getD, List.getD_eq_getElem?_getD, List.getElem?_take, if_pos h]
end Dm
end Go.Proofs.YtdiiankcjgoecaaDoor

namespace Go.Proofs.YtdiiankcjgoecaaDoor
namespace Dm
open Go.RowKit
open Lm (hide)
def Dl (B : Nat) (w : World) (v : Value) (x : Int) (n : Nat) : Prop := ∃ ds, Ow B w v ds ∧ val ds = x ∧ ds.length ≤ n
end Dm
end Go.Proofs.YtdiiankcjgoecaaDoor

namespace Go.Proofs.YtdiiankcjgoecaaDoor
namespace Dm
open Go.RowKit
open Lm (hide lt_of_cell lt_of_heap)
def sg (ng : Bool) (x : Int) : Int := if ng then -x else x
def Box (w : World) (g : Nat) (ng : Bool) (v : Value) : Prop := w.heap[g]? = some (.cells #[.bool ng, v] 77 (0, 0))
theorem boxed (w : World) (ng : Bool) (v : Value) : Box (w.alloc (.cells #[.bool ng, v] 77)) w.heap.size ng v ∧ Below w.heap.size w (w.alloc (.cells #[.bool ng, v] 77)) ∧ (w.alloc (.cells #[.bool ng, v] 77)).heap.size = w.heap.size + 1 :=
  ⟨heap_alloc_new w _, (Below.refl _ _).alloc (Nat.le_refl _) _, by simp⟩
theorem boxed0 (w : World) (ng : Bool) (v : Value) : ∃ w0 : World, w.alloc (.cells #[.bool ng, v] 77) = w0 ∧ Box w0 w.heap.size ng v ∧ Below w.heap.size w w0 ∧ w0.heap.size = w.heap.size + 1 :=
  ⟨_, rfl, (boxed w ng v).1, (boxed w ng v).2.1, (boxed w ng v).2.2⟩
end Dm
end Go.Proofs.YtdiiankcjgoecaaDoor

namespace Go.Proofs.YtdiiankcjgoecaaDoor
namespace Dm
open Go.RowKit
open Lm (hide lt_of_cell lt_of_heap cmpI cmpI_lt cmpI_gt)
theorem sl_nil (w : World) : Sl w (.slice none ([] : List Int).length 0) [] := ⟨none, 0, rfl, Nat.le_refl _, by simp [maxLen], limb_nil, .inl rfl⟩
end Dm
end Go.Proofs.YtdiiankcjgoecaaDoor

namespace Go.Proofs.YtdiiankcjgoecaaDoor
namespace Lm
open Go Go.RowKit
structure Ru (w w' : World) : Prop where
  size : w.heap.size ≤ w'.heap.size
  ints : ∀ (p : Addr) (z : Int), w.cell? p = some (.int .u32 z) → w'.cell? p = some (.int .u32 z)
  rows : ∀ (g : Nat) (cs : Array Value), w.heap[g]? = some (.cells cs 124 (0, 0)) → w'.heap[g]? = some (.cells cs 124 (0, 0))
theorem Ru.of_rl {w w' : World} (h : Rl w w') : Ru w w' := ⟨h.size, fun p z => h.ints p .u32 z, fun g cs => h.rows g cs _ (.inl rfl)⟩
theorem Ru.of_below {w w' : World} (h : Below w.heap.size w w') : Ru w w' := Ru.of_rl (Rl.of_below h)
theorem Ru.refl (w : World) : Ru w w := ⟨Nat.le_refl _, fun _ _ h => h, fun _ _ h => h⟩
theorem Ru.trans {w w' w'' : World} (h : Ru w w') (h' : Ru w' w'') : Ru w w'' := ⟨Nat.le_trans h.size h'.size, fun p z e => h'.ints p z (h.ints p z e), fun g cs e => h'.rows g cs (h.rows g cs e)⟩
theorem Sl.ru {w w' : World} {v : Value} {zs : List Int} (h : Sl w v zs) (hr : Ru w w') : Sl w' v zs := by
  obtain ⟨ao, cap, rfl, h1, h2, h3, h4⟩ := h
  refine ⟨ao, cap, rfl, h1, h2, h3, ?_⟩
  rcases h4 with h4 | ⟨b, off, rfl, hc⟩
  · exact .inl h4
  · exact .inr ⟨b, off, rfl, fun i hi => hr.ints _ _ (hc i hi)⟩
def Mono5 (p : Says) : Prop := ∀ v w w', Ru w w' → p v w → p v w'
def Mono5s : List Says → Prop
  | [] => True
  | p :: ps => Mono5 p ∧ Mono5s ps
theorem Mono5s.at {ps : List Says} (h : Mono5s ps) (j : Nat) : Mono5 (ps.getD j (fun _ _ => True)) := by
  induction ps generalizing j with
  | nil => intro v w w' _ _; simp
  | cons p ps ih =>
    cases j with
    | zero => simpa using h.1
    | succ j => simpa using ih h.2 j
structure Xb where
  i : Nat
  m : Nat
  S : Says
structure XOk (bx : List Bx) (Xt : List Xb) (w0 : World) : Prop where
  old : ∀ q ∈ Xt, q.m < w0.heap.size
  box : ∀ q ∈ Xt, ∀ b ∈ bx, b.ia = none → b.g0 ≠ q.m
  one : ∀ q ∈ Xt, ∀ q' ∈ Xt, q.i = q'.i → q = q'
  far : ∀ q ∈ Xt, ∀ q' ∈ Xt, q.m = q'.m → q = q'
  pres : ∀ q ∈ Xt, ∀ v w w', w'.heap[q.m]? = w.heap[q.m]? → Ru w w' → q.S v w → q.S v w'
structure But5 (bx : List Bx) (Xt : List Xb) (w0 w : World) : Prop where
  os : w.os = w0.os
  tape : w.tape = w0.tape
  output : w.output = w0.output
  size : w0.heap.size ≤ w.heap.size
  keep : ∀ m, m < w0.heap.size → (∀ b ∈ bx, b.ia = none → b.g0 ≠ m) → (∀ q ∈ Xt, q.m ≠ m) → w.heap[m]? = w0.heap[m]?
theorem But5.below {bx : List Bx} {Xt : List Xb} {w0 w : World} (h : But5 bx Xt w0 w) {B : Nat} (hB : B ≤ w0.heap.size) (ho : ∀ b ∈ bx, b.ia = none → B ≤ b.g0) (hx : ∀ q ∈ Xt, B ≤ q.m) : Below B w0 w :=
  ⟨h.os, h.tape, h.output, h.size, fun k hk => h.keep k (by omega) (fun b hb hn => by have := ho b hb hn; omega) (fun q hq => by have := hx q hq; omega)⟩
def Xs (Ds : List (Option Nat)) (Xt : List Xb) (w0 : World) (l : Array Bool) (a : Act) (w : World) : Prop := ∀ q ∈ Xt, (flag l q.i = false → w.heap[q.m]? = w0.heap[q.m]?) ∧ (flag l q.i = true → q.S (rd Ds a q.i) w)
def Mid5 (n : Nat) (Ds : List (Option Nat)) (Ps : List Says) (bx : List Bx) (Xt : List Xb) (a0 : Act) (w0 : World) (l : Array Bool) (a : Act) (w : World) : Prop :=
  l.size = Ds.length ∧ a.tmps.size = n ∧ a.defers = a0.defers ∧ But5 bx Xt w0 w ∧ Ru w0 w ∧ Rest4 Ds a0 a ∧ Slots Ds a0 l a ∧ Xs Ds Xt w0 l a w ∧ (∀ j, flag l j = true → Ps.getD j (fun _ _ => True) (rd Ds a j) w) ∧ ∃ gs, Boxes bx w0 l a w gs
section
variable {P : Program} {n : Nat} {Ds : List (Option Nat)} {Ps : List Says} {bx : List Bx} {Xt : List Xb} {a0 : Act} {w0 : World} {l : Array Bool} {a : Act} {w w' : World} {i d : Nat} {v : Value}
theorem BoxV.touch {τ : BoxTy} {w w' : World} {g m : Nat} {v : Value} (h : BoxV τ w g v) (ht : Touch w w' m) (hn : g ≠ m) : BoxV τ w' g v := by
  obtain ⟨cs, hc, h⟩ := h
  exact ⟨cs, hc, (ht.other g (lt_of_heap h) hn).trans h⟩
theorem Xs.next (h : Xs Ds Xt w0 l a w) (hX : XOk bx Xt w0) (_hs : w0.heap.size ≤ w.heap.size) (hI : Inj Ds) (hi : Ds.getD i none = some d) (v : Value) (hx : ∀ q ∈ Xt, q.i ≠ i) (hk : ∀ m, m < w0.heap.size → w'.heap[m]? = w.heap[m]?) (hu : Ru w w') : Xs Ds Xt w0 (l.setIfInBounds i true) (a.put (some d) v) w' := by
  intro q hq
  have hm := hk q.m (hX.old q hq)
  refine ⟨fun hf => ?_, fun hf => ?_⟩
  · rw [flag_set_ne (hx q hq)] at hf
    rw [hm, (h q hq).1 hf]
  · rw [flag_set_ne (hx q hq)] at hf
    rw [rd_put_ne hI hi (hx q hq)]
    exact hX.pres q hq _ _ _ hm hu ((h q hq).2 hf)
theorem Xs.touch {q : Xb} (h : Xs Ds Xt w0 l a w) (hX : XOk bx Xt w0) (hl : l.size = Ds.length) (hn : a.tmps.size = n) (hs0 : w0.heap.size ≤ w.heap.size) (hI : Inj Ds) (hi : Ds.getD i none = some d) (hdn : d < n) (v : Value) (hq : q ∈ Xt) (hqi : q.i = i) (ht : Touch w w' q.m) (hu : Ru w w') (hs : q.S v w') : Xs Ds Xt w0 (l.setIfInBounds i true) (a.put (some d) v) w' := by
  intro r hr
  by_cases e : r = q
  · subst e
    rw [hqi]
    refine ⟨fun hf => ?_, fun _ => ?_⟩
    · rw [flag_set_same (by rw [hl]; exact lt_of_getD hi)] at hf
      cases hf
    · have : rd Ds (a.put (some d) v) i = v := by
        unfold rd
        rw [hi]
        exact eval_put_same (by omega)
      rw [this]
      exact hs
  · have hri : r.i ≠ i := fun e' => e (hX.one r hr q hq (e'.trans hqi.symm))
    have hrm : r.m ≠ q.m := fun e' => e (hX.far r hr q hq e')
    have hm := ht.other r.m (Nat.lt_of_lt_of_le (hX.old r hr) hs0) hrm
    refine ⟨fun hf => ?_, fun hf => ?_⟩
    · rw [flag_set_ne hri] at hf
      rw [hm, (h r hr).1 hf]
    · rw [flag_set_ne hri] at hf
      rw [rd_put_ne hI hi hri]
      exact hX.pres r hr _ _ _ hm hu ((h r hr).2 hf)
theorem Mid5.norm (h : Mid5 n Ds Ps bx Xt a0 w0 l a w) (hF : Fits n Ds bx) (hI : Inj Ds) (hM : Mono5s Ps) (hnd : flag l i = false) (hX : XOk bx Xt w0) (hx : ∀ q ∈ Xt, q.i ≠ i) (hi : Ds.getD i none = some d) (hb : (bx.all fun b => b.ia != some i && b.st.all fun q => q.1 != i) = true) (hw : Below w.heap.size w w') (hp : Ps.getD i (fun _ _ => True) v w') :
    Mid5 n Ds Ps bx Xt a0 w0 (l.setIfInBounds i true) (a.put (some d) v) w' := by
  obtain ⟨h1, h2, h3, h4, hr, h5, hS, hXs, h6, gs, h7, h8⟩ := h
  have hdn : d < n := hF.1 i d hi
  have hmade : ∀ b ∈ bx, made (l.setIfInBounds i true) b = made l b := by
    intro b hm
    have hbb := List.all_eq_true.1 hb b hm
    simp only [Bool.and_eq_true, bne_iff_ne] at hbb
    unfold made
    cases hia : b.ia with
    | none => rfl
    | some ia => exact flag_set_ne (fun e => hbb.1 (by rw [hia, e]))
  refine ⟨by simp [h1], by rw [put_tmps]; simp [h2], h3, ⟨hw.os.trans h4.os, hw.tape.trans h4.tape, hw.output.trans h4.output, Nat.le_trans h4.size hw.size, fun m hm ho hx => (hw.block m (Nat.lt_of_lt_of_le hm h4.size)).trans (h4.keep m hm ho hx)⟩, hr.trans (Ru.of_below hw), rest_put h5 hi, hS.put h1 hI hi v, hXs.next hX h4.size hI hi v hx (fun m hm => hw.block m (Nat.lt_of_lt_of_le hm h4.size)) (Ru.of_below hw), fun j hj => ?_, gs, fun k b hk hf => ?_, fun k k' b b' hk hk' hne hf hf' => ?_⟩
  · rcases flag_set hj with rfl | ⟨hne, hj⟩
    · have : rd Ds (a.put (some d) v) j = v := by
        unfold rd
        rw [hi]
        exact eval_put_same (by omega)
      rw [this]
      exact hp
    · rw [rd_put_ne hI hi hne]
      exact hM.at j _ _ _ (Ru.of_below hw) (h6 j hj)
  · have hm := List.mem_of_getElem? hk
    have hbb := List.all_eq_true.1 hb b hm
    simp only [Bool.and_eq_true, bne_iff_ne] at hbb
    obtain ⟨hb1, hb2⟩ := hbb
    obtain ⟨f1, f2, f3⟩ := hF.2 b hm
    rw [hmade b hm] at hf
    obtain ⟨e1, e2, e2', u, e3, e4, e5⟩ := h7 k b hk hf
    refine ⟨?_, e2, e2', u, e3.below hw, fun hs => e4 ?_, fun q hq hs => ?_⟩
    · rw [eval_put_ne, e1]
      rintro rfl
      cases hia : b.ia with
      | none =>
        have := f2 hia
        rw [contains_of hi] at this
        cases this
      | some ia => exact hb1 (by rw [hia, hI _ _ _ (f1 ia hia).1 hi])
    · unfold filled at hs ⊢
      cases hst : b.st with
      | none => rfl
      | some q =>
        rw [hst] at hs hb2
        simp only [Option.all_some, bne_iff_ne] at hb2
        simp only at hs ⊢
        rwa [flag_set_ne hb2] at hs
    · rw [hq] at hb2
      simp only [Option.all_some, bne_iff_ne] at hb2
      rw [flag_set_ne hb2] at hs
      obtain ⟨e6, e7⟩ := e5 q hq hs
      have hne : q.2.2 ≠ i := by
        rintro rfl
        rw [hnd] at e6
        cases e6
      refine ⟨by rw [flag_set_ne hne]; exact e6, ?_⟩
      rw [eval_put_ne, e7]
      intro ee
      have := (f3 q hq).2.1
      rw [← ee] at this
      exact hne (hI _ _ _ this hi)
  · rw [hmade b (List.mem_of_getElem? hk)] at hf
    rw [hmade b' (List.mem_of_getElem? hk')] at hf'
    exact h8 k k' b b' hk hk' hne hf hf'
theorem Mid5.touch {q : Xb} (h : Mid5 n Ds Ps bx Xt a0 w0 l a w) (hF : Fits n Ds bx) (hI : Inj Ds) (hM : Mono5s Ps) (hnd : flag l i = false) (hX : XOk bx Xt w0) (hq : q ∈ Xt) (hqi : q.i = i) (hi : Ds.getD i none = some d) (hb : (bx.all fun b => b.ia != some i && b.st.all fun q => q.1 != i) = true) (ht : Touch w w' q.m) (hu : Ru w w') (hp : Ps.getD i (fun _ _ => True) v w') (hs : q.S v w') :
    Mid5 n Ds Ps bx Xt a0 w0 (l.setIfInBounds i true) (a.put (some d) v) w' := by
  obtain ⟨h1, h2, h3, h4, hr, h5, hS, hXs, h6, gs, h7, h8⟩ := h
  have hdn : d < n := hF.1 i d hi
  have hmade : ∀ b ∈ bx, made (l.setIfInBounds i true) b = made l b := by
    intro b hm
    have hbb := List.all_eq_true.1 hb b hm
    simp only [Bool.and_eq_true, bne_iff_ne] at hbb
    unfold made
    cases hia : b.ia with
    | none => rfl
    | some ia => exact flag_set_ne (fun e => hbb.1 (by rw [hia, e]))
  refine ⟨by simp [h1], by rw [put_tmps]; simp [h2], h3, ⟨ht.os.trans h4.os, ht.tape.trans h4.tape, ht.output.trans h4.output, Nat.le_trans h4.size ht.size, fun m hm ho hx => (ht.other m (Nat.lt_of_lt_of_le hm h4.size) (fun e => hx q hq e.symm)).trans (h4.keep m hm ho hx)⟩, hr.trans hu, rest_put h5 hi, hS.put h1 hI hi v, hXs.touch hX h1 h2 h4.size hI hi (hF.1 i d hi) v hq hqi ht hu hs, fun j hj => ?_, gs, fun k b hk hf => ?_, fun k k' b b' hk hk' hne hf hf' => ?_⟩
  · rcases flag_set hj with rfl | ⟨hne, hj⟩
    · have : rd Ds (a.put (some d) v) j = v := by
        unfold rd
        rw [hi]
        exact eval_put_same (by omega)
      rw [this]
      exact hp
    · rw [rd_put_ne hI hi hne]
      exact hM.at j _ _ _ hu (h6 j hj)
  · have hm := List.mem_of_getElem? hk
    have hbb := List.all_eq_true.1 hb b hm
    simp only [Bool.and_eq_true, bne_iff_ne] at hbb
    obtain ⟨hb1, hb2⟩ := hbb
    obtain ⟨f1, f2, f3⟩ := hF.2 b hm
    rw [hmade b hm] at hf
    obtain ⟨e1, e2, e2', u, e3, e4, e5⟩ := h7 k b hk hf
    have hgm : gs k ≠ q.m := by
      intro e
      cases hia' : b.ia with
      | none => exact hX.box q hq b hm hia' ((e2 hia').symm.trans e)
      | some ia =>
        have h1 := e2' (by rw [hia']; simp)
        have h2 := hX.old q hq
        omega
    refine ⟨?_, e2, e2', u, e3.touch ht hgm, fun hs => e4 ?_, fun q hq hs => ?_⟩
    · rw [eval_put_ne, e1]
      rintro rfl
      cases hia : b.ia with
      | none =>
        have := f2 hia
        rw [contains_of hi] at this
        cases this
      | some ia => exact hb1 (by rw [hia, hI _ _ _ (f1 ia hia).1 hi])
    · unfold filled at hs ⊢
      cases hst : b.st with
      | none => rfl
      | some q =>
        rw [hst] at hs hb2
        simp only [Option.all_some, bne_iff_ne] at hb2
        simp only at hs ⊢
        rwa [flag_set_ne hb2] at hs
    · rw [hq] at hb2
      simp only [Option.all_some, bne_iff_ne] at hb2
      rw [flag_set_ne hb2] at hs
      obtain ⟨e6, e7⟩ := e5 q hq hs
      have hne : q.2.2 ≠ i := by
        rintro rfl
        rw [hnd] at e6
        cases e6
      refine ⟨by rw [flag_set_ne hne]; exact e6, ?_⟩
      rw [eval_put_ne, e7]
      intro ee
      have := (f3 q hq).2.1
      rw [← ee] at this
      exact hne (hI _ _ _ this hi)
  · rw [hmade b (List.mem_of_getElem? hk)] at hf
    rw [hmade b' (List.mem_of_getElem? hk')] at hf'
    exact h8 k k' b b' hk hk' hne hf hf'
theorem Mid5.alloc {k : Nat} {b : Bx} {cs : Array Value} (h : Mid5 n Ds Ps bx Xt a0 w0 l a w) (hF : Fits n Ds bx) (hI : Inj Ds) (hM : Mono5s Ps) (_hnd : flag l i = false) (hX : XOk bx Xt w0) (hx : ∀ q ∈ Xt, q.i ≠ i) (hk : bx[k]? = some b) (hia : b.ia = some i) (hu : (bx.zipIdx.all fun q => q.2 == k || (q.1.ia != some i)) = true) (hs : (bx.all fun b => b.st.all fun q => q.1 != i && q.2.2 != i) = true) (hp : ∀ v w, Ps.getD i (fun _ _ => True) v w) (hc : b.τ.Cs b.v0 cs) (hns : ∀ q, b.st = some q → flag l q.1 = false) :
    Mid5 n Ds Ps bx Xt a0 w0 (l.setIfInBounds i true) (a.put (some b.d) (.pointer (some ⟨w.heap.size, 0, none⟩))) (w.alloc (.cells cs b.τ.T)) := by
  obtain ⟨h1, h2, h3, h4, hr, h5, hS, hXs, h6, gs, h7, h8⟩ := h
  have hm := List.mem_of_getElem? hk
  obtain ⟨f1, f3⟩ := (hF.2 b hm).1 i hia
  have hdn : b.d < n := hF.1 i b.d f1
  have hw : Below w.heap.size w (w.alloc (.cells cs b.τ.T)) := (Below.refl _ _).alloc (Nat.le_refl _) _
  have hs' : ∀ c ∈ bx, (c.st.all fun q => q.1 != i) = true ∧ ∀ q, c.st = some q → q.2.2 ≠ i := by
    intro c hc'
    have := List.all_eq_true.1 hs c hc'
    cases hst : c.st with
    | none => exact ⟨rfl, fun q hq => by cases hq⟩
    | some q =>
      rw [hst] at this
      simp only [Option.all_some, Bool.and_eq_true, bne_iff_ne] at this
      exact ⟨by simpa using this.1, fun q' hq => by obtain rfl := Option.some.inj hq; exact this.2⟩
  have hmade : ∀ q c, q ≠ k → bx[q]? = some c → made (l.setIfInBounds i true) c = made l c := by
    intro q c hq hc'
    have := ne_of_uniq (f := fun c => c.ia != some i) hu hc' hq
    simp only [bne_iff_ne] at this
    unfold made
    cases hia' : c.ia with
    | none => rfl
    | some ia => exact flag_set_ne (fun e => this (by rw [hia', e]))
  refine ⟨by simp [h1], by rw [put_tmps]; simp [h2], h3, ⟨hw.os.trans h4.os, hw.tape.trans h4.tape, hw.output.trans h4.output, Nat.le_trans h4.size hw.size, fun m hm ho hx => (hw.block m (Nat.lt_of_lt_of_le hm h4.size)).trans (h4.keep m hm ho hx)⟩, hr.trans (Ru.of_below hw), rest_put h5 f1, hS.put h1 hI f1 _, hXs.next hX h4.size hI f1 _ hx (fun m hm => hw.block m (Nat.lt_of_lt_of_le hm h4.size)) (Ru.of_below hw), fun j hj => ?_, fun q => if q = k then w.heap.size else gs q, fun q c hq hf => ?_, fun q q' c c' hq hq' hne hf hf' => ?_⟩
  · rcases flag_set hj with rfl | ⟨hne, hj⟩
    · exact hp _ _
    · rw [rd_put_ne hI f1 hne]
      exact hM.at j _ _ _ (Ru.of_below hw) (h6 j hj)
  · by_cases e : q = k
    · subst e
      rw [hk] at hq
      obtain rfl := Option.some.inj hq
      simp only [if_true]
      refine ⟨eval_put_same (by omega), fun e => (by rw [hia] at e; cases e), fun _ => h4.size, b.v0, ⟨cs, hc, heap_alloc_new _ _⟩, fun _ => rfl, fun q hq hst => ?_⟩
      have hne := (hs' b hm).1
      rw [hq] at hne
      simp only [Option.all_some, bne_iff_ne] at hne
      rw [flag_set_ne hne, hns q hq] at hst
      cases hst
    · simp only [if_neg e]
      have hcm := List.mem_of_getElem? hq
      rw [hmade q c e hq] at hf
      obtain ⟨e1, e2, e2', u, e3, e4, e5⟩ := h7 q c hq hf
      obtain ⟨g1, g2, g3⟩ := hF.2 c hcm
      have hcne := ne_of_uniq (f := fun c => c.ia != some i) hu hq e
      simp only [bne_iff_ne] at hcne
      refine ⟨?_, e2, e2', u, e3.below hw, fun hst => e4 (by rwa [filled_set (hs' c hcm).1] at hst), fun r hr' hst => ?_⟩
      · rw [eval_put_ne, e1]
        intro e'
        cases hia' : c.ia with
        | none =>
          have := g2 hia'
          rw [← e', contains_of f1] at this
          cases this
        | some ia =>
          have := (g1 ia hia').1
          rw [← e'] at this
          exact hcne (by rw [hia', hI _ _ _ this f1])
      · have hne := (hs' c hcm).1
        rw [hr'] at hne
        simp only [Option.all_some, bne_iff_ne] at hne
        rw [flag_set_ne hne] at hst
        obtain ⟨e6, e7⟩ := e5 r hr' hst
        have hne2 := (hs' c hcm).2 r hr'
        refine ⟨by rw [flag_set_ne hne2]; exact e6, ?_⟩
        rw [eval_put_ne, e7]
        intro e'
        have := (g3 r hr').2.1
        rw [← e'] at this
        exact hne2 (hI _ _ _ this f1)
  · have lt : ∀ r c, r ≠ k → bx[r]? = some c → made (l.setIfInBounds i true) c = true → gs r < w.heap.size := by
      intro r c hr hc' hf
      rw [hmade r c hr hc'] at hf
      obtain ⟨_, _, _, u, e3, _⟩ := h7 r c hc' hf
      exact e3.lt
    by_cases e : q = k
    · have e' : q' ≠ k := fun x => hne (e.trans x.symm)
      simp only [if_pos e, if_neg e']
      have := lt q' c' e' hq' hf'
      omega
    · by_cases e' : q' = k
      · simp only [if_neg e, if_pos e']
        have := lt q c e hq hf
        omega
      · simp only [if_neg e, if_neg e']
        rw [hmade q c e hq] at hf
        rw [hmade q' c' e' hq'] at hf'
        exact h8 q q' c c' hq hq' hne hf hf'
theorem Mid5.store {k src isrc : Nat} {b : Bx} {gs : Nat → Nat} (hτ : BoxOk P b.τ) (h1 : l.size = Ds.length) (h2 : a.tmps.size = n) (h3 : a.defers = a0.defers) (h4 : But5 bx Xt w0 w) (hr0 : Ru w0 w) (h5 : Rest4 Ds a0 a) (hS : Slots Ds a0 l a) (hDi : Ds.getD i none = none) (hX : XOk bx Xt w0) (hx : ∀ q ∈ Xt, q.i ≠ i) (hXs : Xs Ds Xt w0 l a w) (h6 : ∀ j, flag l j = true → Ps.getD j (fun _ _ => True) (rd Ds a j) w) (h7 : Boxes bx w0 l a w gs) (hM : Mono5s Ps) (hil : i < l.size) (hk : bx[k]? = some b) (his : b.st = some (i, src, isrc)) (hu : (bx.zipIdx.all fun q => q.2 == k || (q.1.st.all fun q => q.1 != i)) = true) (hn : (bx.all fun b => b.ia != some i && b.st.all fun q => q.2.2 != i) = true) (hp : ∀ v w, Ps.getD i (fun _ _ => True) v w) (hia : made l b = true) (hisrc : flag l isrc = true) (ho : Only w w' (gs k)) (hbv : BoxV b.τ w' (gs k) (a.eval (.tmp src))) :
    Mid5 n Ds Ps bx Xt a0 w0 (l.setIfInBounds i true) a w' := by
  obtain ⟨h7, h8⟩ := h7
  have hm := List.mem_of_getElem? hk
  obtain ⟨e1, e2, e2', u, e3, e4⟩ := h7 k b hk hia
  have hr : Ru w w' := Ru.of_rl (Rl.of_only hτ e3 ho)
  have hn' : ∀ c ∈ bx, made (l.setIfInBounds i true) c = made l c ∧ ∀ q, c.st = some q → q.2.2 ≠ i := by
    intro c hc
    have := List.all_eq_true.1 hn c hc
    simp only [Bool.and_eq_true, bne_iff_ne] at this
    refine ⟨?_, fun q hq => ?_⟩
    · unfold made
      cases hia' : c.ia with
      | none => rfl
      | some ia => exact flag_set_ne (fun e => this.1 (by rw [hia', e]))
    · have h2 := this.2
      rw [hq] at h2
      simpa using h2
  refine ⟨by simp [h1], h2, h3, ⟨ho.os.trans h4.os, ho.tape.trans h4.tape, ho.output.trans h4.output, by rw [ho.size]; exact h4.size, fun m hm' hol hxl => ?_⟩, hr0.trans hr, h5, fun j e hj hf => hS j e hj (by rwa [flag_set_ne (fun e' => by rw [e', hDi] at hj; cases hj)] at hf), fun q hq => ⟨fun hf => ?_, fun hf => ?_⟩, fun j hj => ?_, gs, fun q c hq hf => ?_, fun q q' c c' hq hq' hne hf hf' => ?_⟩
  · rw [ho.other m, h4.keep m hm' hol hxl]
    intro e
    subst e
    cases hia' : b.ia with
    | none => exact hol b hm hia' (e2 hia').symm
    | some ia =>
      have := e2' (by rw [hia']; simp)
      omega
  · rw [flag_set_ne (hx q hq)] at hf
    rw [ho.other q.m, (hXs q hq).1 hf]
    intro e
    cases hia' : b.ia with
    | none => exact hX.box q hq b hm hia' ((e2 hia').symm.trans e.symm)
    | some ia =>
      have h1 := e2' (by rw [hia']; simp)
      have h2 := hX.old q hq
      omega
  · rw [flag_set_ne (hx q hq)] at hf
    refine hX.pres q hq _ _ _ (ho.other q.m ?_) hr ((hXs q hq).2 hf)
    intro e
    cases hia' : b.ia with
    | none => exact hX.box q hq b hm hia' ((e2 hia').symm.trans e.symm)
    | some ia =>
      have h1 := e2' (by rw [hia']; simp)
      have h2 := hX.old q hq
      omega
  · rcases flag_set hj with rfl | ⟨hne, hj⟩
    · exact hp _ _
    · exact hM.at j _ _ _ hr (h6 j hj)
  · have hcm := List.mem_of_getElem? hq
    rw [(hn' c hcm).1] at hf
    obtain ⟨d1, d2, d2', u', d3, d4, d5⟩ := h7 q c hq hf
    by_cases e : q = k
    · subst e
      rw [hk] at hq
      obtain rfl := Option.some.inj hq
      refine ⟨d1, d2, d2', _, hbv, fun hfl => ?_, fun r hr' _ => ?_⟩
      · unfold filled at hfl
        rw [his] at hfl
        simp only [flag_set_same hil] at hfl
        cases hfl
      · rw [his] at hr'
        obtain rfl := Option.some.inj hr'
        exact ⟨by rw [flag_set_ne ((hn' b hm).2 _ his)]; exact hisrc, rfl⟩
    · have hne := ne_of_uniq (f := fun c => c.st.all fun q => q.1 != i) hu hq e
      refine ⟨d1, d2, d2', u', d3.only ho (h8 q k c b hq hk e hf hia), fun hfl => d4 (by rwa [filled_set hne] at hfl), fun r hr' hst => ?_⟩
      rw [hr'] at hne
      simp only [Option.all_some, bne_iff_ne] at hne
      rw [flag_set_ne hne] at hst
      obtain ⟨d6, d7⟩ := d5 r hr' hst
      exact ⟨by rw [flag_set_ne ((hn' c hcm).2 r hr')]; exact d6, d7⟩
  · rw [(hn' c (List.mem_of_getElem? hq)).1] at hf
    rw [(hn' c' (List.mem_of_getElem? hq')).1] at hf'
    exact h8 q q' c c' hq hq' hne hf hf'
end
end Lm
end Go.Proofs.YtdiiankcjgoecaaDoor

namespace Go.Proofs.YtdiiankcjgoecaaDoor
namespace Lm
open Go Go.RowKit
abbrev SaysI := Nat → Nat → Value → World → Prop
def TrI : SaysI := fun _ _ _ _ => True
def Mono6 (p : SaysI) : Prop := ∀ B T v w w', Ru w w' → p B T v w → p B T v w'
def Mono6s : List SaysI → Prop
  | [] => True
  | p :: ps => Mono6 p ∧ Mono6s ps
theorem Mono6s.at {ps : List SaysI} (h : Mono6s ps) (j : Nat) : Mono6 (ps.getD j TrI) := by
  induction ps generalizing j with
  | nil => intro B T v w w' _ _; simp [TrI]
  | cons p ps ih =>
    cases j with
    | zero => simpa using h.1
    | succ j => simpa using ih h.2 j
def Rel (Ds : List (Option Nat)) (Rs : List (Nat × Nat × (Value → Value → Prop))) (i : Nat) (a : Act) (v : Value) : Prop := ∀ r ∈ Rs, r.1 = i → r.2.2 (rd Ds a r.2.1) v
theorem Rel.none {Ds : List (Option Nat)} {Rs : List (Nat × Nat × (Value → Value → Prop))} {i : Nat} (h : (Rs.all fun r => r.1 != i) = true) (a : Act) (v : Value) : Rel Ds Rs i a v := fun r hr e => by
  have := List.all_eq_true.1 h r hr
  simp [e] at this
def Rels (k0 : Nat) (Ds : List (Option Nat)) (Rs : List (Nat × Nat × (Value → Value → Prop))) (l : Array Bool) (a : Act) : Prop := ∀ r ∈ Rs, k0 ≤ r.1 → flag l r.1 = true → flag l r.2.1 = true ∧ r.2.2 (rd Ds a r.2.1) (rd Ds a r.1)
def Ivl (k0 : Nat) (Ds : List (Option Nat)) (Gs : List SaysI) (Rs : List (Nat × Nat × (Value → Value → Prop))) (w0 : World) (l : Array Bool) (a : Act) (w : World) (B T : Nat → Nat) : Prop :=
  Rels k0 Ds Rs l a ∧ ∀ i, k0 ≤ i → flag l i = true → w0.heap.size ≤ B i ∧ B i ≤ T i ∧ T i ≤ w.heap.size ∧ Gs.getD i TrI (B i) (T i) (rd Ds a i) w ∧ ∀ j, k0 ≤ j → flag l j = true → i ≠ j → T i ≤ B j ∨ T j ≤ B i
theorem Ivl.step {k0 : Nat} {Ds : List (Option Nat)} {Gs : List SaysI} {Rs : List (Nat × Nat × (Value → Value → Prop))} {w0 : World} {l : Array Bool} {a a' : Act} {w w' : World} {B T : Nat → Nat} {i : Nat} (h : Ivl k0 Ds Gs Rs w0 l a w B T) (hM : Mono6s Gs) (_hil : i < l.size) (hs0 : w0.heap.size ≤ w.heap.size) (hs : w.heap.size ≤ w'.heap.size) (hu : Ru w w') (hrd : ∀ j, j ≠ i → flag l j = true → rd Ds a' j = rd Ds a j) (hp : Gs.getD i TrI w.heap.size w'.heap.size (rd Ds a' i) w') (hnd : flag l i = false) (hrel : Rel Ds Rs i a (rd Ds a' i)) (hwr : ∀ r ∈ Rs, r.1 = i → flag l r.2.1 = true) :
    Ivl k0 Ds Gs Rs w0 (l.setIfInBounds i true) a' w' (fun j => if j = i then w.heap.size else B j) (fun j => if j = i then w'.heap.size else T j) := by
  obtain ⟨hR, h⟩ := h
  refine ⟨fun r hr h0 hf => ?_, ?_⟩
  · by_cases e : r.1 = i
    · have h2 := hwr r hr e
      have hne : r.2.1 ≠ i := fun e' => by rw [e', hnd] at h2; cases h2
      refine ⟨by rw [flag_set_ne hne]; exact h2, ?_⟩
      rw [hrd _ hne h2, e]
      exact hrel r hr e
    · rw [flag_set_ne e] at hf
      obtain ⟨h2, h3⟩ := hR r hr h0 hf
      have hne : r.2.1 ≠ i := fun e' => by rw [e', hnd] at h2; cases h2
      exact ⟨by rw [flag_set_ne hne]; exact h2, by rw [hrd _ hne h2, hrd _ e hf]; exact h3⟩
  intro k hk0 hk
  rcases flag_set hk with rfl | ⟨hne, hk⟩
  · simp only [if_true]
    refine ⟨hs0, hs, Nat.le_refl _, hp, fun j hj0 hj hne => ?_⟩
    rcases flag_set hj with rfl | ⟨hne', hj⟩
    · exact absurd rfl hne
    · simp only [if_neg hne']
      exact .inr (h j hj0 hj).2.2.1
  · simp only [if_neg hne]
    obtain ⟨h1, h2, h3, h4, h5⟩ := h k hk0 hk
    refine ⟨h1, h2, Nat.le_trans h3 hs, by rw [hrd k hne hk]; exact hM.at k _ _ _ _ _ hu h4, fun j hj0 hj hne' => ?_⟩
    rcases flag_set hj with rfl | ⟨hne'', hj⟩
    · simp only [if_true]
      exact .inl h3
    · simp only [if_neg hne'']
      exact h5 j hj0 hj hne'
theorem rd_put_same {Ds : List (Option Nat)} {a : Act} {i d n : Nat} {v : Value} (hi : Ds.getD i none = some d) (hd : d < n) (hn : a.tmps.size = n) : rd Ds (a.put (some d) v) i = v := by
  unfold rd
  rw [hi]
  exact eval_put_same (by omega)
inductive Duty6 (P : Program) (n : Nat) (Ds : List (Option Nat)) (Ps : List Says) (Rs : List (Nat × Nat × (Value → Value → Prop))) (bx : List Bx) (Xt : List Xb) (Wt : List (Nat × Nat)) (a0 : Act) (w0 : World) (i : Nat) (o : Oper) (p : Says) (q : SaysI) : Prop
  | norm (d : Nat) (hd : o.dst = some d) (hD : Ds.getD i none = some d) (hx : ∀ q ∈ Xt, q.i ≠ i) (hb : (bx.all fun b => b.ia != some i && b.st.all fun q => q.1 != i) = true)
      (h : ∀ a w, a.tmps.size = n → But5 bx Xt w0 w → Ru w0 w → Rest4 Ds a0 a → Deps4 Ds Ps o a w → Olds bx i w → (∀ j d, Wt.contains (j, i) = true → Ds.getD j none = some d → a.eval (.tmp d) = a0.eval (.tmp d)) →
        match o.guard with
        | none => Does P o a.eval w fun v w' => Below w.heap.size w w' ∧ p v w' ∧ q w.heap.size w'.heap.size v w' ∧ Rel Ds Rs i a v
        | some (g, b) => (∃ dg, Ds.getD g none = some dg) ∧ (rd Ds a g = .bool b → Does P o a.eval w fun v w' => Below w.heap.size w w' ∧ p v w' ∧ q w.heap.size w'.heap.size v w' ∧ Rel Ds Rs i a v) ∧ (rd Ds a g ≠ .bool b → p undef w ∧ q w.heap.size w.heap.size undef w ∧ Rel Ds Rs i a undef))
  | touch (t : Xb) (hq : t ∈ Xt) (hi : t.i = i) (d : Nat) (hd : o.dst = some d) (hD : Ds.getD i none = some d) (hg : o.guard = none) (hb : (bx.all fun b => b.ia != some i && b.st.all fun q => q.1 != i) = true)
      (h : ∀ a w, a.tmps.size = n → But5 bx Xt w0 w → Ru w0 w → Rest4 Ds a0 a → Deps4 Ds Ps o a w → Olds bx i w → (∀ j d, Wt.contains (j, i) = true → Ds.getD j none = some d → a.eval (.tmp d) = a0.eval (.tmp d)) → w.heap[t.m]? = w0.heap[t.m]? →
        Does P o a.eval w fun v w' => Touch w w' t.m ∧ Ru w w' ∧ p v w' ∧ q w.heap.size w'.heap.size v w' ∧ Rel Ds Rs i a v ∧ t.S v w')
  | alloc (k : Nat) (b : Bx) (hk : bx[k]? = some b) (hi : b.ia = some i) (ho : (o.op = .alloc b.τ.T ∧ b.v0 = b.τ.zero) ∨ ∃ x, o.op = .box b.τ.T x ∧ (∃ cs, b.τ.Cs b.v0 cs) ∧ ∀ a, Rest4 Ds a0 a → a.eval x = b.v0) (hd : o.dst = some b.d) (hg : o.guard = none) (hp : p = fun _ _ => True) (hq : q = TrI) (hrl : (Rs.all fun r => r.1 != i) = true) (hx : ∀ q ∈ Xt, q.i ≠ i) (hu : (bx.zipIdx.all fun q => q.2 == k || (q.1.ia != some i)) = true) (hs : (bx.all fun b => b.st.all fun q => q.1 != i && q.2.2 != i) = true)
  | store (k : Nat) (b : Bx) (src isrc : Nat) (hk : bx[k]? = some b) (hi : b.st = some (i, src, isrc)) (ho : o.op = .store b.τ.T (.tmp b.d) (.tmp src)) (hd : o.dst = none) (hD : Ds.getD i none = none) (hg : o.guard = none) (hp : p = fun _ _ => True) (hq : q = TrI) (hrl : (Rs.all fun r => r.1 != i) = true) (hx : ∀ q ∈ Xt, q.i ≠ i) (ha : ∀ ia, b.ia = some ia → (o.after.toList.any fun e => e.on == ia && Region.binds .any e) = true) (hs : (o.after.toList.any fun e => e.on == isrc && Region.binds .any e) = true) (hu : (bx.zipIdx.all fun q => q.2 == k || (q.1.st.all fun q => q.1 != i)) = true) (hn : (bx.all fun b => b.ia != some i && b.st.all fun q => q.2.2 != i) = true)
      (hv : ∀ v w, Ps.getD isrc (fun _ _ => True) v w → ∃ cs, b.τ.Cs v cs)
def skipOp (k0 : Nat) (ls : Option Nat) (i : Nat) : Bool := decide (i < k0) || ls.any fun t => decide (t ≤ i)
def Duties6 (P : Program) (n : Nat) (Ds : List (Option Nat)) (Ps : List Says) (Gs : List SaysI) (Rs : List (Nat × Nat × (Value → Value → Prop))) (bx : List Bx) (Xt : List Xb) (Wt : List (Nat × Nat)) (a0 : Act) (w0 : World) (k0 : Nat) (ls : Option Nat) : Nat → List Oper → Prop
  | _, [] => True
  | i, o :: os => (skipOp k0 ls i = true ∨ Duty6 P n Ds Ps Rs bx Xt Wt a0 w0 i o (Ps.getD i fun _ _ => True) (Gs.getD i TrI)) ∧ Duties6 P n Ds Ps Gs Rs bx Xt Wt a0 w0 k0 ls (i + 1) os
theorem Duties6.at {P : Program} {n : Nat} {Ds : List (Option Nat)} {Ps : List Says} {Gs : List SaysI} {Rs : List (Nat × Nat × (Value → Value → Prop))} {bx : List Bx} {Xt : List Xb} {Wt : List (Nat × Nat)} {a0 : Act} {w0 : World} {k0 : Nat} {ls : Option Nat} : ∀ {os : List Oper} {m : Nat}, Duties6 P n Ds Ps Gs Rs bx Xt Wt a0 w0 k0 ls m os → ∀ i o, os[i]? = some o → skipOp k0 ls (m + i) = true ∨ Duty6 P n Ds Ps Rs bx Xt Wt a0 w0 (m + i) o (Ps.getD (m + i) fun _ _ => True) (Gs.getD (m + i) TrI)
  | [], _, _ => fun i o h => by simp at h
  | o :: os, m, h => fun i o' ho => by
    obtain ⟨h1, h2⟩ := h
    cases i with
    | zero =>
      simp only [List.getElem?_cons_zero, Option.some.injEq] at ho
      subst ho
      simpa using h1
    | succ i =>
      have := Duties6.at h2 i o' (by simpa using ho)
      have e : m + 1 + i = m + (i + 1) := by omega
      rw [e] at this
      exact this
theorem duty6_step {P : Program} {ops : Array Oper} {Q : Exit → Act → World → Prop} {n : Nat} {Ds : List (Option Nat)} {Ps : List Says} {Gs : List SaysI} {Rs : List (Nat × Nat × (Value → Value → Prop))} {k0 : Nat} {B T : Nat → Nat} {bx : List Bx} {Xt : List Xb} {Wt : List (Nat × Nat)} {a0 : Act} {w0 : World} {l : Array Bool} {a : Act} {w : World} {i : Nat} {o : Oper} (hlen : Ds.length = ops.size) (hduty : Duty6 P n Ds Ps Rs bx Xt Wt a0 w0 i o (Ps.getD i fun _ _ => True) (Gs.getD i TrI)) (hdst : ∀ j o, ops[j]? = some o → o.dst = Ds.getD j none) (hF : Fits n Ds bx) (hI : Inj Ds) (hM : Mono5s Ps) (hMG : Mono6s Gs) (hX : XOk bx Xt w0) (hτ : ∀ b ∈ bx, BoxOk P b.τ) (ho : ops[i]? = some o) (hnd : flag l i = false) (hearly : ∀ b ∈ bx, ∀ q ia, b.st = some q → b.ia = some ia → flag l q.1 = true → flag l ia = true) (hlateS : ∀ j, Wt.contains (j, i) = true → flag l j = false) (hlate : ∀ b ∈ bx, ∀ q, b.st = some q → b.wt.contains i = true → flag l q.1 = false) (h : Mid5 n Ds Ps bx Xt a0 w0 l a w) (_hk0 : k0 ≤ i) (hwr : ∀ r ∈ Rs, r.1 = i → flag l r.2.1 = true) (hJ : Ivl k0 Ds Gs Rs w0 l a w B T) (hdeps : ∀ e ∈ o.after, Region.binds .any e = true → flag l e.on = true) :
    wpOp P ops Q i (fun a' w' => Mid5 n Ds Ps bx Xt a0 w0 (l.setIfInBounds i true) a' w' ∧ ∃ B T, Ivl k0 Ds Gs Rs w0 (l.setIfInBounds i true) a' w' B T) a w := by
  have h' := h
  obtain ⟨h1, h2, h3, h4, hr, h5, hS, hXs, h6, gs, h7⟩ := h
  have hany : ∀ j, (o.after.toList.any fun e => e.on == j && Region.binds .any e) = true → flag l j = true := by
    intro j hj
    obtain ⟨e, he, hj⟩ := List.any_eq_true.1 hj
    simp only [Bool.and_eq_true, beq_iff_eq] at hj
    obtain ⟨rfl, hb⟩ := hj
    exact hdeps e (by simpa using he) hb
  have hil : i < l.size := by
    rw [h1, hlen]
    exact (Array.getElem?_eq_some_iff.1 ho).1
  refine wpOp_step ho (fun K' hK => ?_)
  cases hduty with
  | norm d hd hDi hx hb hduty =>
    have holds : Olds bx i w := by
      intro k b hk hia hwt
      have hmd : made l b = true := by unfold made; rw [hia]
      obtain ⟨_, e2, _, v, e3, e4, _⟩ := h7.1 k b hk hmd
      rw [e2 hia] at e3
      have : filled l b = false := by
        unfold filled
        cases hst : b.st with
        | none => rfl
        | some q => exact hlate b (List.mem_of_getElem? hk) q hst hwt
      rw [e4 this] at e3
      exact e3
    have hduty := hduty a w h2 h4 hr h5 (fun j hj => h6 j (hany j hj)) holds (fun j d hj hd => hS j d hd (hlateS j hj))
    cases hg : o.guard with
    | none =>
      rw [hg] at hduty
      simp only [Region.wanted, hg, if_true]
      exact Does.wp hduty (fun v w' ⟨hw, hp, hp2, hrel⟩ => by rw [hd]; exact hK _ _ ⟨h'.norm hF hI hM hnd hX hx hDi hb hw hp, _, _, hJ.step hMG hil h4.size hw.size (Ru.of_below hw) (fun j hj _ => rd_put_ne hI hDi hj) (by rw [rd_put_same hDi (hF.1 i d hDi) h2]; exact hp2) hnd (by rw [rd_put_same hDi (hF.1 i d hDi) h2]; exact hrel) hwr⟩)
    | some gb =>
      obtain ⟨g, b⟩ := gb
      rw [hg] at hduty
      simp only at hduty
      obtain ⟨⟨dg, hdg⟩, hyes, hno⟩ := hduty
      have hgo : ∃ og, ops[g]? = some og := by
        have : g < ops.size := by
          rw [← hlen]
          apply Classical.byContradiction
          intro hn
          rw [List.getD_eq_getElem?_getD, List.getElem?_eq_none (by omega)] at hdg
          simp at hdg
        exact ⟨_, Array.getElem?_eq_getElem this⟩
      obtain ⟨og, hog⟩ := hgo
      have hgn : dg < n := hF.1 g dg hdg
      have hrd : rd Ds a g = a.eval (.tmp dg) := by unfold rd; rw [hdg]
      have hy : yielded ops a.tmps g = (match a.eval (.tmp dg) with | .bool b => some b | _ => none) := by
        unfold yielded
        rw [hog]
        simp only [Option.bind_some, hdst g og hog, hdg]
        have : a.tmps[dg]? = some (a.eval (.tmp dg)) := by
          rw [Array.getElem?_eq_getElem (by omega)]
          simp only [Act.eval, Array.getD, h2, hgn, dif_pos]
          rfl
        rw [this]
        generalize a.eval (.tmp dg) = v
        cases v <;> rfl
      rw [hrd] at hyes hno
      by_cases hv : a.eval (.tmp dg) = .bool b
      · have hw : Region.wanted o (yielded ops a.tmps) = true := by
          simp only [Region.wanted, hg]
          rw [hy, hv]
          simp
        rw [if_pos hw]
        exact Does.wp (hyes hv) (fun v w' ⟨hw, hp, hp2, hrel⟩ => by rw [hd]; exact hK _ _ ⟨h'.norm hF hI hM hnd hX hx hDi hb hw hp, _, _, hJ.step hMG hil h4.size hw.size (Ru.of_below hw) (fun j hj _ => rd_put_ne hI hDi hj) (by rw [rd_put_same hDi (hF.1 i d hDi) h2]; exact hp2) hnd (by rw [rd_put_same hDi (hF.1 i d hDi) h2]; exact hrel) hwr⟩)
      · have hw : ¬ Region.wanted o (yielded ops a.tmps) = true := by
          simp only [Region.wanted, hg]
          rw [hy]
          intro hc
          apply hv
          generalize a.eval (.tmp dg) = v at *
          cases v <;> simp at hc
          rw [hc]
        rw [if_neg hw, hd]
        exact hK _ _ ⟨h'.norm hF hI hM hnd hX hx hDi hb (Below.refl _ _) (hno hv).1, _, _, hJ.step hMG hil h4.size (Nat.le_refl _) (Ru.refl _) (fun j hj _ => rd_put_ne hI hDi hj) (by rw [rd_put_same hDi (hF.1 i d hDi) h2]; exact (hno hv).2.1) hnd (by rw [rd_put_same hDi (hF.1 i d hDi) h2]; exact (hno hv).2.2) hwr⟩
  | touch q hq hqi d hd hDi hg hb hduty =>
    have holds : Olds bx i w := by
      intro k b hk hia hwt
      have hmd : made l b = true := by unfold made; rw [hia]
      obtain ⟨_, e2, _, v, e3, e4, _⟩ := h7.1 k b hk hmd
      rw [e2 hia] at e3
      have : filled l b = false := by
        unfold filled
        cases hst : b.st with
        | none => rfl
        | some q => exact hlate b (List.mem_of_getElem? hk) q hst hwt
      rw [e4 this] at e3
      exact e3
    have hsame := (hXs q hq).1 (by rw [hqi]; exact hnd)
    have hduty := hduty a w h2 h4 hr h5 (fun j hj => h6 j (hany j hj)) holds (fun j d hj hd => hS j d hd (hlateS j hj)) hsame
    simp only [Region.wanted, hg, if_true]
    exact Does.wp hduty (fun v w' ⟨ht, hu, hp, hp2, hrel, hs⟩ => by rw [hd]; exact hK _ _ ⟨h'.touch hF hI hM hnd hX hq hqi hDi hb ht hu hp hs, _, _, hJ.step hMG hil h4.size ht.size hu (fun j hj _ => rd_put_ne hI hDi hj) (by rw [rd_put_same hDi (hF.1 i d hDi) h2]; exact hp2) hnd (by rw [rd_put_same hDi (hF.1 i d hDi) h2]; exact hrel) hwr⟩)
  | alloc k b hk hia hop hd hg hp hq hrl hx hu hs =>
    have hm := List.mem_of_getElem? hk
    have hrun : ∃ cs, b.τ.Cs b.v0 cs ∧ Does P o a.eval w fun v w' => v = .pointer (some ⟨w.heap.size, 0, none⟩) ∧ w' = w.alloc (.cells cs b.τ.T) := by
      rcases hop with ⟨hop, hz⟩ | ⟨x, hop, hcs, hx⟩
      · obtain ⟨cs, hc, hrun⟩ := (hτ b hm).alloc w
        refine ⟨cs, by rw [hz]; exact hc, ⟨?_⟩⟩
        unfold Turns
        simp only [execOp, hop]
        simp [hrun]
      · obtain ⟨cs, hc, hrun⟩ := (hτ b hm).box w b.v0 hcs
        refine ⟨cs, hc, ⟨?_⟩⟩
        unfold Turns
        simp only [execOp, hop, hx a h5]
        simp [hrun]
    obtain ⟨cs, hc, hdoes⟩ := hrun
    simp only [Region.wanted, hg, if_true]
    have hns : ∀ q, b.st = some q → flag l q.1 = false := by
      intro q hq
      cases hf : flag l q.1 with
      | false => rfl
      | true =>
        have := hearly b hm q i hq hia hf
        rw [hnd] at this
        cases this
    refine Does.wp hdoes (fun v w' ⟨hv, hw⟩ => ?_)
    subst hv hw
    rw [hd]
    have hDi := ((hF.2 b hm).1 i hia).1
    exact hK _ _ ⟨h'.alloc hF hI hM hnd hX hx hk hia hu hs (fun v w => by rw [hp]; trivial) hc hns, _, _, hJ.step hMG hil h4.size ((Below.refl w.heap.size w).alloc (Nat.le_refl _) _).size (Ru.of_below ((Below.refl _ _).alloc (Nat.le_refl _) _)) (fun j hj _ => rd_put_ne hI hDi hj) (by rw [hq]; trivial) hnd (Rel.none hrl _ _) hwr⟩
  | store k b src isrc hk his hop hd hDi hg hp hq hrl hx ha hs hu hn hv =>
    have hm := List.mem_of_getElem? hk
    have hia : made l b = true := by
      unfold made
      cases hia : b.ia with
      | none => rfl
      | some ia => exact hany _ (ha ia hia)
    have hisrc := hany _ hs
    obtain ⟨e1, e2, e2', u, e3, e4⟩ := h7.1 k b hk hia
    have f2 := ((hF.2 b hm).2.2 _ his).2.1
    have hsrc := h6 _ hisrc
    have hrd : rd Ds a isrc = a.eval (.tmp src) := by unfold rd; rw [f2]
    rw [hrd] at hsrc
    obtain ⟨w', hrun, hbv, honly⟩ := (hτ b hm).store w (gs k) u _ e3 (hv _ _ hsrc)
    simp only [Region.wanted, hg, if_true]
    have hdoes : Does P o a.eval w fun v w'' => w'' = w' := by
      refine ⟨?_⟩
      unfold Turns
      simp only [execOp, hop, e1]
      simp [hrun]
    refine Does.wp hdoes (fun v w'' hw => ?_)
    subst hw
    rw [hd]
    have hru := Ru.of_rl (Rl.of_only (hτ b hm) e3 honly)
    exact hK _ _ ⟨Mid5.store (hτ b hm) h1 h2 h3 h4 hr h5 hS hDi hX hx hXs h6 h7 hM hil hk his hu hn (fun v w => by rw [hp]; trivial) hia hisrc honly hbv, _, _, hJ.step hMG hil h4.size hru.size hru (fun j hj _ => rfl) (by rw [hq]; trivial) hnd (Rel.none hrl _ _) hwr⟩
def Good (P : Program) (dr : Bool) (ops : Array Oper) (Q : Exit → Act → World → Prop) (l : Array Bool) (a : Act) (w : World) : Prop :=
  ∃ Inv : Array Bool → Act → World → Prop, Inv l a w ∧ (∀ l a w, Inv l a w → l.size = ops.size ∧ ((∀ j, j < ops.size → flag l j = true) → Q .normal a w)) ∧
    ∀ l a w, Inv l a w → ∀ i o, ops[i]? = some o → flag l i = false → (∀ e ∈ o.after, Region.binds .any e = true → flag l e.on = true) → (dr = false → ∀ j, j < i → flag l j = true) → wpOp P ops Q i (fun a' w' => Inv (l.setIfInBounds i true) a' w') a w
theorem Good.step {P : Program} {dr : Bool} {ops : Array Oper} {Q : Exit → Act → World → Prop} {l : Array Bool} {a : Act} {w : World} (h : Good P dr ops Q l a w) {i : Nat} {o : Oper} (ho : ops[i]? = some o) (hnd : flag l i = false) (hdeps : ∀ e ∈ o.after, Region.binds .any e = true → flag l e.on = true) (hseq : dr = false → ∀ j, j < i → flag l j = true) : wpOp P ops Q i (fun a' w' => Good P dr ops Q (l.setIfInBounds i true) a' w') a w := by
  obtain ⟨Inv, h1, h2, h3⟩ := h
  exact wpOp_mono (fun a' w' h => ⟨Inv, h, h2, h3⟩) (h3 l a w h1 i o ho hnd hdeps hseq)
theorem Good.size {P : Program} {dr : Bool} {ops : Array Oper} {Q : Exit → Act → World → Prop} {l : Array Bool} {a : Act} {w : World} (h : Good P dr ops Q l a w) : l.size = ops.size := by
  obtain ⟨Inv, h1, h2, _⟩ := h
  exact (h2 _ _ _ h1).1
theorem Good.done {P : Program} {dr : Bool} {ops : Array Oper} {Q : Exit → Act → World → Prop} {l : Array Bool} {a : Act} {w : World} (h : Good P dr ops Q l a w) (hall : ∀ j, j < ops.size → flag l j = true) : Q .normal a w := by
  obtain ⟨Inv, h1, h2, _⟩ := h
  exact (h2 _ _ _ h1).2 hall
def flags (n k : Nat) : Array Bool := ((List.range n).map fun j => decide (j < k)).toArray
theorem flags_size (n k : Nat) : (flags n k).size = n := by simp [flags]
theorem flag_flags {n k j : Nat} : flag (flags n k) j = decide (j < n ∧ j < k) := by
  by_cases h : j < n
  · simp [flag, flags, h]
  · simp [flag, flags, h]
theorem flags_of {n k : Nat} {l : Array Bool} (hs : l.size = n) (h : ∀ j, j < n → flag l j = decide (j < k)) : l = flags n k := by
  apply Array.ext
  · rw [hs, flags_size]
  · intro j h1 h2
    have e := h j (by omega)
    have e1 : flag l j = l[j] := by simp [flag, h1]
    have e2 : flag (flags n k) j = (flags n k)[j] := by simp [flag, h2]
    rw [← e1, ← e2, e, flag_flags]
    simp
    omega
theorem flags_zero (n : Nat) : flags n 0 = Array.replicate n false := by
  refine (flags_of (by simp) (fun j hj => ?_)).symm
  simp [flag, hj]
theorem wp_of_good {P : Program} {ops : Array Oper} {Q : Exit → Act → World → Prop} {id : Nat} {a : Act} {w : World} {dr : Bool} (hm : P.follows .mixedOrders = true) (hdep : (ops.toList.zipIdx.all fun p => p.1.after.all fun e => !Region.binds .any e || decide (e.on < p.2)) = true)
    (h : ∀ w', Below w.heap.size w w' → Good P dr ops Q (flags ops.size 0) a w') : (Code.region id ops dr).wp P Q a w := by
  rw [flags_zero] at h
  cases dr with
  | false =>
    refine wp_region_seq (Good P false ops Q) (h w (Below.refl _ _)) (fun l a w hg hall => hg.done hall) (fun l a' w' hI i hi hnd hlow => ?_)
    have ho : ops[i]? = some ops[i] := Array.getElem?_eq_getElem hi
    refine hI.step ho hnd (fun e he hb => hlow e.on ?_) (fun _ => hlow)
    have h1 := List.all_eq_true.1 hdep (ops[i], i) (by
      rw [List.mem_zipIdx_iff_getElem?]
      simp [hi])
    have := Array.all_eq_true_iff_forall_mem.1 h1 e he
    rw [hb] at this
    simpa using this
  | true =>
    refine wp_region_inv hm (Good P true ops Q) (h _ (Below.drew (Below.refl _ _))) (fun l a' w' hI hr => hI.done (fun j hj => all_listed4 hdep hI.size hr j hj)) (fun l a' w' hI i hi => ?_)
    obtain ⟨h1, o, ho, hdeps⟩ := mem_ready.1 hi
    have hnd : flag l i = false := by
      have hs : i < l.size := by rw [hI.size]; exact (Array.getElem?_eq_some_iff.1 ho).1
      rw [Array.getD_eq_getD_getElem?, Array.getElem?_eq_getElem hs] at h1
      simp only [flag, Array.getD_eq_getD_getElem?, Array.getElem?_eq_getElem hs]
      simpa using h1
    exact hI.step ho hnd hdeps (fun h => by cases h)
def reachF (ops : Array Oper) (t : Nat) : Nat → Nat → Bool
  | 0, _ => false
  | f + 1, i => ((ops[i]?).map fun o => o.after.toList.any fun e => Region.binds .any e && (e.on == t || (decide (t < e.on) && reachF ops t f e.on))).getD false
theorem reach_flag {ops : Array Oper} {t : Nat} {l : Array Bool} (hcl : ∀ j o, ops[j]? = some o → flag l j = true → ∀ e ∈ o.after, Region.binds .any e = true → flag l e.on = true) : ∀ (f i : Nat) (o : Oper), ops[i]? = some o → (∀ e ∈ o.after, Region.binds .any e = true → flag l e.on = true) → reachF ops t f i = true → flag l t = true
  | 0, _, _, _, _, h => by simp [reachF] at h
  | f + 1, i, o, ho, hd, h => by
    rw [reachF, ho] at h
    simp only [Option.map_some, Option.getD_some] at h
    obtain ⟨e, he, h⟩ := List.any_eq_true.1 h
    simp only [Bool.and_eq_true, Bool.or_eq_true, beq_iff_eq] at h
    obtain ⟨hb, h⟩ := h
    have hf := hd e (by simpa using he) hb
    rcases h with h | ⟨_, h⟩
    · rw [← h]; exact hf
    · cases ho' : ops[e.on]? with
      | none =>
        cases f with
        | zero => simp [reachF] at h
        | succ f => rw [reachF, ho'] at h; simp at h
      | some o' => exact reach_flag hcl f e.on o' ho' (hcl e.on o' ho' hf) h
def waitsAll (dr : Bool) (ops : Array Oper) (k0 : Nat) (ls : Option Nat) : Bool := match ls with
  | none => true
  | some t => decide (t < ops.size) && decide (k0 ≤ t) && (!dr || (List.range ops.size).all fun j => if j < k0 then true else if j < t then reachF ops j ops.size t else if j = t then true else reachF ops t ops.size j)
def AllB (f : Nat → Prop) : Nat → Prop
  | 0 => True
  | k + 1 => AllB f k ∧ f k
theorem AllB.at {f : Nat → Prop} : ∀ {k : Nat}, AllB f k → ∀ j, j < k → f j
  | 0, _, j, h => by omega
  | k + 1, h, j, hj => by
    by_cases e : j = k
    · rw [e]; exact h.2
    · exact h.1.at j (by omega)
structure Fin6 (n : Nat) (Ds : List (Option Nat)) (Ps : List Says) (Gs : List SaysI) (Rs : List (Nat × Nat × (Value → Value → Prop))) (k0 k1 : Nat) (bx : List Bx) (Xt : List Xb) (a : Act) (w : World) (a' : Act) (w' : World) (gs B T : Nat → Nat) : Prop where
  hn : a'.tmps.size = n
  hd : a'.defers = a.defers
  but : But5 bx Xt w w'
  ru : Ru w w'
  rest : Rest4 Ds a a'
  says : ∀ j, j < k1 → Ps.getD j (fun _ _ => True) (rd Ds a' j) w'
  touched : ∀ q ∈ Xt, q.i < k1 → q.S (rd Ds a' q.i) w'
  lies : ∀ i, k0 ≤ i → i < k1 → w.heap.size ≤ B i ∧ B i ≤ T i ∧ T i ≤ w'.heap.size ∧ Gs.getD i TrI (B i) (T i) (rd Ds a' i) w' ∧ ∀ j, k0 ≤ j → j < k1 → i ≠ j → T i ≤ B j ∨ T j ≤ B i
  boxes : ∀ (k : Nat) (b : Bx), bx[k]? = some b → a'.eval (.tmp b.d) = .pointer (some ⟨gs k, 0, none⟩) ∧ (b.ia = none → gs k = b.g0) ∧ (b.ia ≠ none → w.heap.size ≤ gs k) ∧ BoxV b.τ w' (gs k) (match b.st with | some q => a'.eval (.tmp q.2.1) | none => b.v0)
  apart : ∀ (k k' : Nat), k < bx.length → k' < bx.length → k ≠ k' → gs k ≠ gs k'
  rels : ∀ r ∈ Rs, k0 ≤ r.1 → r.1 < k1 → r.2.2 (rd Ds a' r.2.1) (rd Ds a' r.1)
  slots : ∀ j d, k1 ≤ j → Ds.getD j none = some d → a'.eval (.tmp d) = a.eval (.tmp d)
def inStretch (bx : List Bx) (Xt : List Nat) (k0 k1 : Nat) : Bool := (bx.all fun b => (b.ia.all fun i => decide (k0 ≤ i) && decide (i < k1)) && b.st.all fun q => decide (k0 ≤ q.1) && decide (q.1 < k1)) && Xt.all fun i => decide (k0 ≤ i) && decide (i < k1)
theorem good6 {P : Program} {dr : Bool} {ops : Array Oper} {Q : Exit → Act → World → Prop} {n : Nat} {a : Act} {w : World} (k0 k1 : Nat) (ls : Option Nat) (Ds : List (Option Nat)) (Ps : List Says) (Gs : List SaysI) (Rs : List (Nat × Nat × (Value → Value → Prop))) (bx : List Bx) (Xt : List Xb) (Wt : List (Nat × Nat)) (hk1 : (match ls with | none => ops.size | some t => t) = k1) (hn : a.tmps.size = n) (hDs : ops.toList.map (·.dst) = Ds)
    (hinj : (Ds.zipIdx.all fun p => p.1.isNone || Ds.zipIdx.all fun q => p.1 != q.1 || p.2 == q.2) = true) (hf1 : (Ds.all fun d => d.all fun d => decide (d < n)) = true) (hf2 : (bx.all (fitOne Ds)) = true)
    (hdep : (ops.toList.zipIdx.all fun p => p.1.after.all fun e => !Region.binds .any e || decide (e.on < p.2)) = true)
    (hst : (bx.all (waitOne ops)) = true) (hwt : (Wt.all fun p => ((ops[p.1]?).map fun o => o.after.toList.any fun e => e.on == p.2 && Region.binds .any e).getD false) = true)
    (hwr : (Rs.all fun r => ((ops[r.1]?).map fun o => o.after.toList.any fun e => e.on == r.2.1 && Region.binds .any e).getD false) = true) (hwl : waitsAll dr ops k0 ls = true) (hin : inStretch bx (Xt.map (·.i)) k0 k1 = true) (hk0 : k0 ≤ ops.size)
    (hM : Mono5s Ps) (hMG : Mono6s Gs) (hX : XOk bx Xt w) (hτ : ∀ b ∈ bx, BoxOk P b.τ) (hold : ∀ b ∈ bx, b.ia = none → a.eval (.tmp b.d) = .pointer (some ⟨b.g0, 0, none⟩) ∧ BoxV b.τ w b.g0 b.v0) (hdis : ∀ (k k' : Nat) (b b' : Bx), bx[k]? = some b → bx[k']? = some b' → k ≠ k' → b.ia = none → b'.ia = none → b.g0 ≠ b'.g0)
    (hP0 : AllB (fun j => Ps.getD j (fun _ _ => True) (rd Ds a j) w) k0) (hD : Duties6 P n Ds Ps Gs Rs bx Xt Wt a w k0 ls 0 ops.toList)
    (hlast : ∀ t o, ls = some t → ops[t]? = some o → ∀ (a' : Act) (w' : World) (gs B T : Nat → Nat), Fin6 n Ds Ps Gs Rs k0 k1 bx Xt a w a' w' gs B T → (match o.guard with | none => True | some (g, b) => (∃ dg, Ds.getD g none = some dg) ∧ rd Ds a' g = .bool b) ∧ Does P o a'.eval w' fun v w'' => Good P dr ops Q (flags ops.size (t + 1)) (a'.put o.dst v) w'')
    (hend : ls = none → ∀ (a' : Act) (w' : World) (gs B T : Nat → Nat), Fin6 n Ds Ps Gs Rs k0 k1 bx Xt a w a' w' gs B T → Q .normal a' w') : Good P dr ops Q (flags ops.size k0) a w := by
  have hlen : Ds.length = ops.size := by rw [← hDs]; simp
  have hdst : ∀ j o, ops[j]? = some o → o.dst = Ds.getD j none := by
    intro j o ho
    rw [← hDs, List.getD_eq_getElem?_getD, List.getElem?_map, Array.getElem?_toList, ho]
    rfl
  have hF := fits_of hf1 hf2
  have hI := inj_of hinj
  simp only [inStretch, Bool.and_eq_true] at hin
  have hbi : ∀ b ∈ bx, (∀ ia, b.ia = some ia → k0 ≤ ia ∧ ia < k1) ∧ ∀ q, b.st = some q → k0 ≤ q.1 ∧ q.1 < k1 := by
    intro b hb
    have := List.all_eq_true.1 hin.1 b hb
    simp only [Bool.and_eq_true] at this
    refine ⟨fun ia hia => ?_, fun q hq => ?_⟩
    · have h1 := this.1
      rw [hia] at h1
      simpa using h1
    · have h2 := this.2
      rw [hq] at h2
      simpa using h2
  have hxi : ∀ q ∈ Xt, k0 ≤ q.i ∧ q.i < k1 := by
    intro q hq
    have := List.all_eq_true.1 hin.2 q.i (List.mem_map.2 ⟨q, hq, rfl⟩)
    simpa using this
  have hk1s : k1 ≤ ops.size := by
    rw [← hk1]
    cases hls : ls with
    | none => exact Nat.le_refl _
    | some t =>
      rw [hls] at hwl
      simp only [waitsAll, Bool.and_eq_true, decide_eq_true_eq] at hwl
      exact Nat.le_of_lt hwl.1.1
  have hk01 : k0 ≤ k1 := by
    rw [← hk1]
    cases hls : ls with
    | none => exact hk0
    | some t =>
      rw [hls] at hwl
      simp only [waitsAll, Bool.and_eq_true, decide_eq_true_eq] at hwl
      exact hwl.1.2
  have hmd : ∀ l b, b ∈ bx → (∀ j, j < k1 → flag l j = true) → made l b = true := by
    intro l b hb hall
    unfold made
    cases hia : b.ia with
    | none => rfl
    | some ia => exact hall _ ((hbi b hb).1 ia hia).2
  have hall6 : ∀ l a' w', Mid5 n Ds Ps bx Xt a w l a' w' → (∃ B T, Ivl k0 Ds Gs Rs w l a' w' B T) → (∀ j, j < k1 → flag l j = true) → (∀ j, k1 ≤ j → flag l j = false) → ∃ gs B T, Fin6 n Ds Ps Gs Rs k0 k1 bx Xt a w a' w' gs B T := by
    rintro l a' w' ⟨h1, h2, h3, h4, hr, h5, hS, hXs, h6, gs, h7, h8⟩ ⟨B, T, hJ⟩ hall hno
    refine ⟨gs, B, T, h2, h3, h4, hr, h5, fun j hj => h6 j (hall j hj), fun q hq hl => (hXs q hq).2 (hall q.i hl), fun i hi0 hi => ?_, fun k b hk => ?_, fun k k' hk hk' hne => ?_, fun r hr h0 h1 => (hJ.1 r hr h0 (hall _ h1)).2, fun j d hj hd => hS j d hd (hno j hj)⟩
    · obtain ⟨j1, j2, j3, j4, j5⟩ := hJ.2 i hi0 (hall i hi)
      exact ⟨j1, j2, j3, j4, fun j hj0 hj hij => j5 j hj0 (hall j hj) hij⟩
    · have hmem := List.mem_of_getElem? hk
      obtain ⟨e1, e2, e2', v, e3, e4, e5⟩ := h7 k b hk (hmd l b hmem hall)
      refine ⟨e1, e2, e2', ?_⟩
      cases hs : b.st with
      | none =>
        have : filled l b = false := by unfold filled; rw [hs]
        rw [e4 this] at e3
        exact e3
      | some q =>
        obtain ⟨_, e6⟩ := e5 q hs (hall _ ((hbi b hmem).2 q hs).2)
        simp only
        rw [e6]
        exact e3
    · exact h8 k k' bx[k] bx[k'] (List.getElem?_eq_getElem hk) (List.getElem?_eq_getElem hk') hne (hmd l _ (List.getElem_mem hk) hall) (hmd l _ (List.getElem_mem hk') hall)
  let Inv : Array Bool → Act → World → Prop := fun l a' w' => (ls ≠ none ∧ Good P dr ops Q l a' w') ∨ (Mid5 n Ds Ps bx Xt a w l a' w' ∧ (∃ B T, Ivl k0 Ds Gs Rs w l a' w' B T) ∧ (∀ j, j < k0 → flag l j = true) ∧ (∀ j, k1 ≤ j → flag l j = false) ∧ ∀ j o, ops[j]? = some o → flag l j = true → ∀ e ∈ o.after, Region.binds .any e = true → flag l e.on = true)
  have hwait : ∀ l, (∀ j o, ops[j]? = some o → flag l j = true → ∀ e ∈ o.after, Region.binds .any e = true → flag l e.on = true) → ∀ b ∈ bx, ∀ q, b.st = some q → flag l q.1 = true → (∀ ia, b.ia = some ia → flag l ia = true) ∧ ∀ i, b.wt.contains i = true → flag l i = true := by
    intro l hcl b hb q hq hfl
    have := List.all_eq_true.1 hst b hb
    unfold waitOne at this
    rw [hq] at this
    simp only [Option.all_some] at this
    cases ho' : ops[q.1]? with
    | none => rw [ho'] at this; simp at this
    | some o' =>
      rw [ho'] at this
      simp only [Option.map_some, Option.getD_some, Bool.and_eq_true] at this
      have key : ∀ j, (o'.after.toList.any fun e => e.on == j && Region.binds .any e) = true → flag l j = true := by
        intro j hj
        obtain ⟨e, he, hj⟩ := List.any_eq_true.1 hj
        simp only [Bool.and_eq_true, beq_iff_eq] at hj
        obtain ⟨hj1, hj2⟩ := hj
        have := hcl q.1 o' ho' hfl e (by simpa using he) hj2
        rwa [hj1] at this
      refine ⟨fun ia hia => ?_, fun i hi => ?_⟩
      · have h1 := this.1
        rw [hia] at h1
        exact key ia (by simpa using h1)
      · have h2 := List.all_eq_true.1 this.2 i (by simpa using hi)
        exact key i h2
  refine ⟨Inv, .inr ⟨⟨by rw [flags_size, hlen], hn, rfl, ⟨rfl, rfl, rfl, Nat.le_refl _, fun m _ _ _ => rfl⟩, Ru.refl _, fun _ _ => rfl, fun _ _ _ _ => rfl, fun q hq => ⟨fun _ => rfl, fun hf => ?_⟩, fun j hj => ?_, fun k => (bx[k]?.map (·.g0)).getD 0, fun k b hk hf => ?_, fun k k' b b' hk hk' hne hf hf' => ?_⟩, ⟨fun _ => 0, fun _ => 0, fun r hr hi hf => absurd hf (by rw [flag_flags]; simp; omega), fun i hi hf => ?_⟩, fun j hj => ?_, fun j hj => ?_, fun j o ho hj e he hb => ?_⟩, ?_, ?_⟩
  · rw [flag_flags] at hf
    have := hxi q hq
    simp at hf
    omega
  · rw [flag_flags] at hj
    simp at hj
    exact hP0.at j hj.2
  · have hia : b.ia = none := by
      unfold made at hf
      cases hia : b.ia with
      | none => rfl
      | some ia =>
        rw [hia] at hf
        simp only [flag_flags] at hf
        have := ((hbi b (List.mem_of_getElem? hk)).1 ia hia)
        simp at hf
        omega
    obtain ⟨o1, o2⟩ := hold b (List.mem_of_getElem? hk) hia
    simp only [hk, Option.map_some, Option.getD_some]
    refine ⟨o1, fun _ => trivial, fun h => absurd hia h, b.v0, o2, fun _ => rfl, fun q hq hfl => ?_⟩
    rw [flag_flags] at hfl
    have := (hbi b (List.mem_of_getElem? hk)).2 q hq
    simp at hfl
    omega
  · have hia0 : ∀ b, b ∈ bx → made (flags ops.size k0) b = true → b.ia = none := by
      intro b hb hf
      unfold made at hf
      cases hia : b.ia with
      | none => rfl
      | some ia =>
        rw [hia] at hf
        simp only [flag_flags] at hf
        have := ((hbi b hb).1 ia hia)
        simp at hf
        omega
    simp only [hk, hk', Option.map_some, Option.getD_some]
    exact hdis k k' b b' hk hk' hne (hia0 b (List.mem_of_getElem? hk) hf) (hia0 b' (List.mem_of_getElem? hk') hf')
  · rw [flag_flags] at hf
    simp at hf
    omega
  · rw [flag_flags]
    simp
    omega
  · rw [flag_flags]
    simp
    omega
  · rw [flag_flags] at hj ⊢
    simp at hj ⊢
    have h1 := List.all_eq_true.1 hdep (o, j) (by
      rw [List.mem_zipIdx_iff_getElem?]
      simpa using ho)
    have := Array.all_eq_true_iff_forall_mem.1 h1 e he
    rw [hb] at this
    simp at this
    omega
  · rintro l a' w' (⟨hne, hg⟩ | ⟨h, hJ, hlo, hhi, _⟩)
    · exact ⟨hg.size, fun hall => hg.done hall⟩
    · refine ⟨by rw [h.1, hlen], fun hall => ?_⟩
      cases hls : ls with
      | none =>
        obtain ⟨gs, B, T, hf⟩ := hall6 l a' w' h hJ (fun j hj => hall j (by omega)) hhi
        exact hend hls a' w' gs B T hf
      | some t =>
        rw [hls] at hwl hk1
        simp only [waitsAll, Bool.and_eq_true, decide_eq_true_eq] at hwl
        simp only at hk1
        have e1 := hall t hwl.1.1
        have e2 := hhi t (by omega)
        rw [e1] at e2
        cases e2
  · rintro l a' w' (⟨hne, hg⟩ | ⟨hmid, ⟨B, T, hJ⟩, hlo, hhi, hcl⟩) i o ho hnd hdeps hseq
    · exact wpOp_mono (fun _ _ h => .inl ⟨hne, h⟩) (hg.step ho hnd hdeps hseq)
    have hio : i < ops.size := (Array.getElem?_eq_some_iff.1 ho).1
    have hi0 : k0 ≤ i := by
      apply Classical.byContradiction
      intro hh
      have := hlo i (by omega)
      rw [hnd] at this
      cases this
    by_cases hlt : i < k1
    · have hduty : Duty6 P n Ds Ps Rs bx Xt Wt a w i o (Ps.getD i fun _ _ => True) (Gs.getD i TrI) := by
        have := hD.at i o (by rw [Array.getElem?_toList]; exact ho)
        rw [Nat.zero_add] at this
        refine this.resolve_left (fun hs => ?_)
        simp only [skipOp, Bool.or_eq_true, decide_eq_true_eq] at hs
        rcases hs with hs | hs
        · omega
        · cases hls : ls with
          | none => rw [hls] at hs; simp at hs
          | some t =>
            rw [hls] at hs hk1
            simp at hs hk1
            omega
      refine wpOp_mono (fun a'' w'' h => .inr ⟨h.1, h.2, fun j hj => ?_, fun j hj => ?_, fun j oj hoj hj e he hb => ?_⟩) (duty6_step hlen hduty hdst hF hI hM hMG hX hτ ho hnd (fun b hb q ia hq hia hfl => (hwait l hcl b hb q hq hfl).1 ia hia) (fun j hj => ?_) (fun b hb q hq hwt => ?_) hmid hi0 (fun r hr e => ?_) hJ hdeps)
      · rw [flag_set_ne (by omega)]
        exact hlo j hj
      · rw [flag_set_ne (by omega)]
        exact hhi j hj
      · have keep : ∀ m, flag l m = true → flag (l.setIfInBounds i true) m = true := by
          intro m hm'
          by_cases e' : m = i
          · subst e'
            rw [hnd] at hm'
            cases hm'
          · rw [flag_set_ne e']
            exact hm'
        rcases flag_set hj with rfl | ⟨_, hj⟩
        · rw [ho] at hoj
          obtain rfl := Option.some.inj hoj
          exact keep _ (hdeps e he hb)
        · exact keep _ (hcl j oj hoj hj e he hb)
      · cases hfl : flag l j with
        | false => rfl
        | true =>
          have h1 := List.all_eq_true.1 hwt (j, i) (by simpa using hj)
          cases ho' : ops[j]? with
          | none => rw [ho'] at h1; simp at h1
          | some o' =>
            rw [ho'] at h1
            simp only [Option.map_some, Option.getD_some] at h1
            obtain ⟨e, he, h2⟩ := List.any_eq_true.1 h1
            simp only [Bool.and_eq_true, beq_iff_eq] at h2
            have := hcl j o' ho' hfl e (by simpa using he) h2.2
            rw [h2.1, hnd] at this
            cases this
      · cases hfl : flag l q.1 with
        | false => rfl
        | true =>
          have := (hwait l hcl b hb q hq hfl).2 i hwt
          rw [hnd] at this
          cases this
      · have h1 := List.all_eq_true.1 hwr r hr
        rw [e, ho] at h1
        simp only [Option.map_some, Option.getD_some] at h1
        obtain ⟨e', he', h2⟩ := List.any_eq_true.1 h1
        simp only [Bool.and_eq_true, beq_iff_eq] at h2
        rw [← h2.1]
        exact hdeps e' (by simpa using he') h2.2
    · cases hls : ls with
      | none =>
        rw [hls] at hk1
        simp only at hk1
        omega
      | some t =>
        have hk1' := hk1
        have hwl' := hwl
        rw [hls] at hk1' hwl'
        simp only [waitsAll, Bool.and_eq_true, decide_eq_true_eq] at hwl'
        simp only at hk1'
        obtain ⟨⟨ht, hkt⟩, hwl'⟩ := hwl'
        by_cases hit : i = t
        · subst hit
          have hfl : ∀ j, j < i → flag l j = true := by
            intro j hj
            by_cases hjk : j < k0
            · exact hlo j hjk
            · cases dr with
              | false => exact hseq rfl j hj
              | true =>
                have := List.all_eq_true.1 (show (List.range ops.size).all _ = true by simpa only [Bool.not_true, Bool.false_or] using hwl') j (by simp; omega)
                rw [if_neg hjk, if_pos hj] at this
                exact reach_flag hcl _ i o ho hdeps this
          obtain ⟨gs, B', T', hf⟩ := hall6 l a' w' hmid ⟨B, T, hJ⟩ (fun j hj => hfl j (by omega)) hhi
          obtain ⟨hgd, hdo⟩ := hlast i o hls ho a' w' gs B' T' hf
          have hset : l.setIfInBounds i true = flags ops.size (i + 1) := by
            refine flags_of (by simp [hmid.1, hlen]) (fun j hj => ?_)
            by_cases e : j = i
            · subst e
              rw [flag_set_same (by rw [hmid.1, hlen]; exact hj)]
              simp
            · rw [flag_set_ne e]
              by_cases hji : j < i
              · rw [hfl j hji]
                simp
                omega
              · rw [hhi j (by omega)]
                simp
                omega
          refine wpOp_step ho (fun K' hK => ?_)
          have hwant : Region.wanted o (yielded ops a'.tmps) = true := by
            cases hg : o.guard with
            | none => simp only [Region.wanted, hg]
            | some gb =>
              obtain ⟨g, b⟩ := gb
              rw [hg] at hgd
              simp only at hgd
              obtain ⟨⟨dg, hdg⟩, hv⟩ := hgd
              have hgo : ∃ og, ops[g]? = some og := by
                have : g < ops.size := by
                  rw [← hlen]
                  apply Classical.byContradiction
                  intro hn
                  rw [List.getD_eq_getElem?_getD, List.getElem?_eq_none (by omega)] at hdg
                  simp at hdg
                exact ⟨_, Array.getElem?_eq_getElem this⟩
              obtain ⟨og, hog⟩ := hgo
              have hgn : dg < n := hF.1 g dg hdg
              have hrd : rd Ds a' g = a'.eval (.tmp dg) := by unfold rd; rw [hdg]
              rw [hrd] at hv
              have h2 := hmid.2.1
              have : a'.tmps[dg]? = some (a'.eval (.tmp dg)) := by
                rw [Array.getElem?_eq_getElem (by omega)]
                simp only [Act.eval, Array.getD, h2, hgn, dif_pos]
                rfl
              simp only [Region.wanted, hg, yielded, hog, Option.bind_some, hdst g og hog, hdg, this, hv]
              simp
          rw [if_pos hwant]
          exact Does.wp hdo (fun v w'' hq => hK _ _ (.inl ⟨by rw [hls]; simp, by rw [hset]; exact hq⟩))
        · exfalso
          have e1 : flag l t = true := by
            cases dr with
            | false => exact hseq rfl t (by omega)
            | true =>
              have := List.all_eq_true.1 (show (List.range ops.size).all _ = true by simpa only [Bool.not_true, Bool.false_or] using hwl') i (by simpa using hio)
              rw [if_neg (by omega), if_neg (by omega), if_neg hit] at this
              exact reach_flag hcl _ i o ho hdeps this
          rw [hhi t (by omega)] at e1
          cases e1
end Lm
end Go.Proofs.YtdiiankcjgoecaaDoor

namespace Go.Proofs.YtdiiankcjgoecaaDoor
namespace Lm
open Go Go.RowKit
theorem Ag.ru {w w' : World} {ng : Bool} {ao : Option Addr} {n cap : Nat} {xs : List Int} {z : Int} (h : Ag w ng ao n cap xs z) (hr : Ru w w') : Ag w' ng ao n cap xs z := ⟨h.sl.ru hr, h.worth⟩
theorem Eqs.mono5 (x : Value) : Mono5 (Eqs x) := fun _ _ _ _ h => h
theorem True.mono5 : Mono5 (fun _ _ => True) := fun _ _ _ _ h => h
section
variable {P : Program} {o : Oper} {a : Act} {w : World} {Ds : List (Option Nat)} {Rs : List (Nat × Nat × (Value → Value → Prop))} {i : Nat}
theorem d6 {p : Says} (h : (Rs.all fun r => r.1 != i) = true) (hd : Does P o a.eval w fun v w' => Below w.heap.size w w' ∧ p v w') : Does P o a.eval w fun v w' => Below w.heap.size w w' ∧ p v w' ∧ TrI w.heap.size w'.heap.size v w' ∧ Rel Ds Rs i a v :=
  hd.mono fun v _ ⟨hb, hp⟩ => ⟨hb, hp, trivial, Rel.none h a v⟩
end
theorem nxt {Xt : List Xb} {i : Nat} (h : ((Xt.map (·.i)).all fun j => j != i) = true) : ∀ q ∈ Xt, q.i ≠ i := fun q hq e => by
  have := List.all_eq_true.1 h q.i (List.mem_map.2 ⟨q, hq, rfl⟩)
  simp [e] at this
theorem xok_nil {bx : List Bx} {w0 : World} : XOk bx [] w0 := by
  constructor <;> (intro q hq; cases hq)
def NeX : List Xb → Nat → Prop
  | [], _ => True
  | b :: bx, g => b.m ≠ g ∧ NeX bx g
theorem NeX.all : ∀ {bx : List Xb} {g : Nat}, NeX bx g → ∀ b ∈ bx, b.m ≠ g
  | [], _, _ => fun c hc => by cases hc
  | b :: bx, g, h => fun c hc => by
    rcases List.mem_cons.1 hc with rfl | hc
    · exact h.1
    · exact NeX.all h.2 c hc
def UpX (B : Nat) : List Xb → Prop
  | [] => True
  | b :: bx => B ≤ b.m ∧ UpX B bx
theorem UpX.all {B : Nat} : ∀ {bx : List Xb}, UpX B bx → ∀ b ∈ bx, B ≤ b.m
  | [], _ => fun c hc => by cases hc
  | b :: bx, h => fun c hc => by
    rcases List.mem_cons.1 hc with rfl | hc
    · exact h.1
    · exact UpX.all h.2 c hc
theorem BoxV.keep5 {τ : BoxTy} {bx : List Bx} {Xt : List Xb} {w w' : World} {g : Nat} {v : Value} (h : BoxV τ w g v) (hb : But5 bx Xt w w') (hn : NeOld bx g) (hx : NeX Xt g) : BoxV τ w' g v := by
  obtain ⟨cs, hc, h⟩ := h
  exact ⟨cs, hc, (hb.keep g (lt_of_heap h) hn.all hx.all).trans h⟩
section
variable {dst : Option Tmp} {ty : TypeId} {pos : String} {after : Array Edge} {guard : Option (Nat × Bool)} {a : Act} {w : World} {ats : Array TypeId} {i j : Nat} {x y z u : Int} {L L1 L2 : Nat}
theorem op_oft {v : Int} (h : a.eval (.tmp i) = .int .i64 v) (h1 : -9223372036854775808 ≤ v) (h2 : v ≤ 9223372036854775807) :
    Does Tryd.prog { dst, op := .call { callee := .value (.func 21), args := #[.tmp i], argTypes := ats }, type := ty, pos, after, guard } a.eval w fun v' w' => Below w.heap.size w w' ∧ OutW v 2 v' w' := by
  refine does_call has_of _ (by simp only [List.map_toArray, List.map_cons, List.map_nil, h]) ((wof_g _ v h1 h2).mono ?_)
  rintro e w' ⟨ng, ao, cap, rs, rfl, G, l, hb⟩
  exact ⟨_, rfl, hb, _, _, _, _, rfl, G, by omega⟩
end
section
variable {dst : Option Tmp} {ty : TypeId} {pos : String} {after : Array Edge} {guard : Option (Nat × Bool)} {a : Act} {w : World} {ats : Array TypeId} {i j : Nat} {x y : Int} {L1 L2 : Nat}
end
end Lm
end Go.Proofs.YtdiiankcjgoecaaDoor

namespace Go.Proofs.YtdiiankcjgoecaaDoor
namespace Dm
open Go.RowKit
open Lm (hide lt_of_cell lt_of_heap div_of info32)
def u64 (x : Int) : Int := if x < 18446744073709551616 then x else 0
def u64ok (x : Int) : Bool := decide (x < 18446744073709551616)
theorem long_val {rs : List Int} (h : Lm.Canon rs) (h2 : 2 < rs.length) : ¬ Lm.val rs < 18446744073709551616 := by
  have h1 := Lm.canon_low h (by intro e; subst e; simp at h2)
  have h3 := Lm.pw_mono (m := 2) (n := rs.length - 1) (by omega)
  rw [show Lm.pw 2 = 18446744073709551616 from by decide] at h3
  omega
theorem short_val {rs : List Int} (h : Lm.Limb rs) (h2 : ¬ 2 < rs.length) : Lm.val rs < 18446744073709551616 := by
  have h1 := (Lm.val_bounds h).2
  have h3 := Lm.pw_mono (m := rs.length) (n := 2) (by omega)
  rw [show Lm.pw 2 = 18446744073709551616 from by decide] at h3
  omega
theorem ret2_u64 {a b : Int} {c d : Bool} (h : a = b) (h' : c = d) : Ending.returned (.tuple #[.int .u64 a, .bool c]) = .returned (.tuple #[.int .u64 b, .bool d]) := by rw [h, h']
end Dm
end Go.Proofs.YtdiiankcjgoecaaDoor

namespace Go.Proofs.YtdiiankcjgoecaaDoor
namespace Lm
open Go.RowKit
open Dm (u64 u64ok long_val short_val ret2_u64)
theorem two_val {rs : List Int} (h : ¬ 2 < rs.length) : rs.getD 1 0 * 4294967296 + rs.getD 0 0 = val rs := by
  match rs, h with
  | [], _ => rfl
  | [x], _ => simp [val]
  | [x, y], _ => simp [val]; omega
  | _ :: _ :: _ :: _, h => simp at h
set_option maxRecDepth 20000 in
set_option maxHeartbeats 400000 in
theorem uint_any (w : World) (ao : Option Addr) (n cap : Nat) (xs : List Int) (hx : Sl w (.slice ao n cap) xs) :
    Calls Tryd.prog 54 #[.slice ao n cap] w fun e w' => e = .returned (.tuple #[.int .u64 (u64 (val xs)), .bool (u64ok (val xs))]) ∧ Below w.heap.size w w' := by
  obtain ⟨rfl, h1, h2, h3⟩ := hx.parts
  have t1 := tl_le xs
  have kc := hide (cut_any w ao _ cap xs hx)
  have hcn := canon_trim h3
  have hX : (xs.take (tl xs)).length = tl xs := by simp; omega
  by_cases hh : 2 < tl xs
  · have HL := long_val hcn (by omega)
    rw [val_take_tl] at HL
    have E1 : Hid (u64 (val xs) = 0) := by simp [Hid, u64, HL]
    have E2 : Hid (u64ok (val xs) = false) := by simp [Hid, u64ok]; omega
    have h2' : (2 : Int) < ((tl xs : Nat) : Int) := by omega
    clear HL hcn hX
    go_enter Tryd.func54, Tryd.ntmps54
    go_wp2_with fail
    refine (kc.out).mono ?_
    rintro e w' ⟨rfl, rfl⟩
    go_wp2
    go_ret2
    exact ⟨by rw [E1.out, E2.out]; rfl, Below.refl _ _⟩
  · have HL := short_val hcn.1 (by omega)
    rw [val_take_tl] at HL
    have E1 : Hid (u64 (val xs) = val (xs.take (tl xs))) := by rw [val_take_tl]; simp [Hid, u64, HL]
    have E2 : Hid (u64ok (val xs) = true) := by simp [Hid, u64ok]; omega
    have h2' : ¬ (2 : Int) < ((tl xs : Nat) : Int) := by omega
    have E3 := hide (two_val (rs := xs.take (tl xs)) (by omega))
    have b1 := limb_getD hcn.1 1
    have b0 := limb_getD hcn.1 0
    have k1 := limb_nat w _ _ hx.cut 1
    have k0 := limb_nat w _ _ hx.cut 0
    generalize (xs.take (tl xs)).getD 1 0 = y1 at E3 b1 k1
    generalize (xs.take (tl xs)).getD 0 0 = y0 at E3 b0 k0
    have K1 := hide k1
    have K0 := hide k0
    have hor : bits .or .u64 (y1 * 4294967296) y0 = y1 * 4294967296 + y0 := or_join y1 y0 b1.1 b1.2 b0.1 b0.2
    clear HL hcn hX k1 k0
    go_enter Tryd.func54, Tryd.ntmps54
    go_wp2_with fail
    refine (kc.out).mono ?_
    rintro e w' ⟨rfl, rfl⟩
    go_wp2_with fail
    refine (K1.out).mono ?_
    rintro e w' ⟨rfl, rfl⟩
    go_wp2_with fail
    refine (K0.out).mono ?_
    rintro e w' ⟨rfl, rfl⟩
    go_wp2
    go_ret2
    exact ⟨ret2_u64 (by rw [E1.out, E3.out]) E2.out.symm, Below.refl _ _⟩
end Lm
end Go.Proofs.YtdiiankcjgoecaaDoor

namespace Go.Proofs.YtdiiankcjgoecaaDoor
namespace Lm
open Go Go.RowKit
section
variable {dst : Option Tmp} {ty : TypeId} {pos : String} {after : Array Edge} {guard : Option (Nat × Bool)} {a : Act} {w : World} {ats : Array TypeId} {i k g : Nat} {x z u v : Int} {L : Nat}
theorem op_lssk (h1 : a.eval (.tmp i) = .int .i64 u) :
    Does Tryd.prog { dst, op := .binOp .lss 3 (.tmp i) (.const (.int .i64 v)) 3, type := ty, pos, after, guard } a.eval w fun v' w' => Below w.heap.size w w' ∧ Eqs (.bool (decide (u < v))) v' w' := by
  refine does_bin (v := .bool (decide (u < v))) ?_ ?_ ⟨Below.refl _ _, rfl⟩
  · rw [h1]; simp [go_sem, Act.eval]
  · rw [h1]; simp [go_sem, Act.eval]
end
end Lm
end Go.Proofs.YtdiiankcjgoecaaDoor

namespace Go.Proofs.YtdiiankcjgoecaaDoor
namespace Lm
open Go.RowKit
open Dm (u64 u64ok)
def inI (z : Int) : Bool := decide (-9223372036854775808 ≤ z ∧ z ≤ 9223372036854775807)
def intI (z : Int) : Int := if -9223372036854775808 ≤ z ∧ z ≤ 9223372036854775807 then z else 0
theorem neg_u64 {V : Int} (h0 : 0 ≤ V) (h1 : V ≤ 9223372036854775808) : IntKind.i64.wrap (IntKind.u64.wrap (-V)) = -V := by
  simp only [IntKind.wrap, IntKind.signed, IntKind.bits]
  simp
  omega
set_option maxRecDepth 20000 in
set_option maxHeartbeats 1000000 in
theorem wint_any (w : World) (ng : Bool) (ao : Option Addr) (n cap : Nat) (zs : List Int) (h : Sl w (.slice ao n cap) zs) :
    Calls Tryd.prog 20 #[.agg #[.bool ng, .slice ao n cap]] w fun e w' => e = .returned (.tuple #[.int .i64 (intI (sg ng (val zs))), .bool (inI (sg ng (val zs)))]) ∧ Below w.heap.size w w' := by
  obtain ⟨w0, e0, bx, hb0, hs0⟩ := boxed0 w ng (.slice ao n cap)
  have E0 := hide e0
  have h0 := h.below hb0
  have hu := (val_bounds h.parts.2.2.2).1
  have KU := hide (uint_any w0 ao n cap zs h0)
  clear e0 hs0 h h0
  generalize val zs = V at hu KU
  by_cases hA : V < 18446744073709551616
  · have e1 : u64 V = V := by simp [u64, hA]
    have e2 : u64ok V = true := by simp [u64ok, hA]
    rw [e1, e2] at KU
    clear e1 e2
    cases ng with
    | true =>
      by_cases hc : V ≤ 9223372036854775808
      · have hw := neg_u64 hu hc
        have R1 : Hid (intI (sg true V) = -V) := by show _ = _; simp [intI, sg]; omega
        have R2 : Hid (inI (sg true V) = true) := by show _ = _; simp [inI, sg]; omega
        go_enter Tryd.func20, Tryd.ntmps20
        go_wp2_with fail
        rw [E0.out]
        obtain ⟨c0, c1, f0, f1⟩ := bx.facts
        refine (KU.out).mono ?_
        rintro e w1 ⟨rfl, hb1⟩
        have bx1 := bx.below hb1
        clear c0 c1 f0 f1
        obtain ⟨c0, c1, f0, f1⟩ := bx1.facts
        go_wp2
        go_ret2
        rw [R1.out, R2.out]
        exact ⟨rfl, hb0.trans (hb1.mono hb0.size)⟩
      · have R1 : Hid (intI (sg true V) = 0) := by show _ = _; simp [intI, sg]; omega
        have R2 : Hid (inI (sg true V) = false) := by show _ = _; simp [inI, sg]; omega
        go_enter Tryd.func20, Tryd.ntmps20
        go_wp2_with fail
        rw [E0.out]
        obtain ⟨c0, c1, f0, f1⟩ := bx.facts
        refine (KU.out).mono ?_
        rintro e w1 ⟨rfl, hb1⟩
        have bx1 := bx.below hb1
        clear c0 c1 f0 f1
        obtain ⟨c0, c1, f0, f1⟩ := bx1.facts
        go_wp2
        go_ret2
        rw [R1.out, R2.out]
        exact ⟨rfl, hb0.trans (hb1.mono hb0.size)⟩
    | false =>
      by_cases hc : V ≤ 9223372036854775807
      · have hw : IntKind.i64.wrap V = V := by
          simp [IntKind.wrap, IntKind.bits, IntKind.signed]
          omega
        have R1 : Hid (intI (sg false V) = V) := by show _ = _; simp [intI, sg]; omega
        have R2 : Hid (inI (sg false V) = true) := by show _ = _; simp [inI, sg]; omega
        go_enter Tryd.func20, Tryd.ntmps20
        go_wp2_with fail
        rw [E0.out]
        obtain ⟨c0, c1, f0, f1⟩ := bx.facts
        refine (KU.out).mono ?_
        rintro e w1 ⟨rfl, hb1⟩
        have bx1 := bx.below hb1
        clear c0 c1 f0 f1
        obtain ⟨c0, c1, f0, f1⟩ := bx1.facts
        go_wp2
        go_ret2
        rw [R1.out, R2.out]
        exact ⟨rfl, hb0.trans (hb1.mono hb0.size)⟩
      · have R1 : Hid (intI (sg false V) = 0) := by show _ = _; simp [intI, sg]; omega
        have R2 : Hid (inI (sg false V) = false) := by show _ = _; simp [inI, sg]; omega
        go_enter Tryd.func20, Tryd.ntmps20
        go_wp2_with fail
        rw [E0.out]
        obtain ⟨c0, c1, f0, f1⟩ := bx.facts
        refine (KU.out).mono ?_
        rintro e w1 ⟨rfl, hb1⟩
        have bx1 := bx.below hb1
        clear c0 c1 f0 f1
        obtain ⟨c0, c1, f0, f1⟩ := bx1.facts
        go_wp2
        go_ret2
        rw [R1.out, R2.out]
        exact ⟨rfl, hb0.trans (hb1.mono hb0.size)⟩
  · have e1 : u64 V = 0 := by simp [u64, hA]
    have e2 : u64ok V = false := by simp [u64ok]; omega
    rw [e1, e2] at KU
    clear e1 e2
    have R1 : Hid (intI (sg ng V) = 0) := by show _ = _; cases ng <;> simp [intI, sg] <;> omega
    have R2 : Hid (inI (sg ng V) = false) := by show _ = _; cases ng <;> simp [inI, sg] <;> omega
    go_enter Tryd.func20, Tryd.ntmps20
    go_wp2_with fail
    rw [E0.out]
    obtain ⟨c0, c1, f0, f1⟩ := bx.facts
    refine (KU.out).mono ?_
    rintro e w1 ⟨rfl, hb1⟩
    have bx1 := bx.below hb1
    clear c0 c1 f0 f1
    obtain ⟨c0, c1, f0, f1⟩ := bx1.facts
    go_wp2
    go_ret2
    rw [R1.out, R2.out]
    exact ⟨rfl, hb0.trans (hb1.mono hb0.size)⟩
end Lm
end Go.Proofs.YtdiiankcjgoecaaDoor

namespace Go.Proofs.YtdiiankcjgoecaaDoor
namespace Lm
open Go Go.RowKit
section
variable {dst : Option Tmp} {ty : TypeId} {pos : String} {after : Array Edge} {guard : Option (Nat × Bool)} {a : Act} {w : World} {ats : Array TypeId} {i k g : Nat} {x z u v : Int} {L : Nat}
theorem has_wint : Has Tryd.prog 20 := by unfold Has; kernel_rfl
theorem op_wint {L1 : Nat} (hx : IsW z L1 (a.eval (.tmp i)) w) :
    Does Tryd.prog { dst, op := .call { callee := .value (.func 20), args := #[.tmp i], argTypes := ats }, type := ty, pos, after, guard } a.eval w fun v w' => Below w.heap.size w w' ∧ Tup2 (Eqs (.int .i64 (intI z))) (Eqs (.bool (inI z))) v w' := by
  obtain ⟨n1, a1, m1, c1, xs, e1, A1, l1⟩ := hx
  have h := wint_any w n1 a1 m1 c1 xs A1.sl
  rw [A1.worth] at h
  refine does_call has_wint _ (by simp only [List.map_toArray, List.map_cons, List.map_nil, e1]) (h.mono ?_)
  rintro e w' ⟨rfl, hb⟩
  exact ⟨_, rfl, hb, _, _, rfl, rfl, rfl⟩
end
end Lm
end Go.Proofs.YtdiiankcjgoecaaDoor

