/-
  Whole numbers: the contract of Text.
-/
import Derived.Test.YtjhhjefobbhdlaaWB
namespace Go.Proofs.Ytjhhjefobbhdlaa
namespace Lm
open Go.RowKit

theorem wdec_len {ds : List Int} {x : Int} (h : IsDec ds x) {m : Nat} (hm : 1 ≤ m) (hx : x < p10 m) : ds.length ≤ m := by
  obtain ⟨h1, h2, h3⟩ := h
  rcases h3 with ⟨_, rfl⟩ | ⟨c, cs, rfl, hc⟩
  · simp; omega
  · have := dval_low h1 hc
    simp only [List.length_cons]
    apply Classical.byContradiction
    intro hn
    have := p10_mono (m := m) (n := cs.length) (by omega)
    omega

theorem minus_ahead (ds : List Int) : (⟨#[45]⟩ : ByteArray) ++ strOfNums ds = strOfNums (45 :: ds) := by
  apply ByteArray.ext
  rw [ByteArray.data_append]
  apply Array.toList_inj.1
  simp [strOfNums]

theorem sign_three' (z : Int) : -1 ≤ Int.sign z ∧ Int.sign z ≤ 1 := by
  rcases Int.lt_trichotomy z 0 with h | h | h
  · rw [Int.sign_eq_neg_one_of_neg h]; omega
  · rw [h]; simp
  · rw [Int.sign_eq_one_of_pos h]; omega

set_option maxRecDepth 20000 in
set_option maxHeartbeats 400000 in
theorem wtext_neg (w : World) (ng : Bool) (ao : Option Addr) (n cap : Nat) (zs : List Int) (h : Sl w (.slice ao n cap) zs) (hz : zs.length ≤ 1000000) (hneg : sg ng (val zs) < 0) :
    Calls Try.prog 41 #[.agg #[.bool ng, .slice ao n cap]] w fun e w' => ∃ ds, e = .returned (.string (strOfNums (45 :: ds))) ∧ IsDec ds (val zs) ∧ Below w.heap.size w w' := by
  obtain ⟨w0, e0, bx, hb0, hs0⟩ := boxed0 w ng (.slice ao n cap)
  have E0 := hide e0
  have h0 := h.below hb0
  have HN := hide hneg
  have ks := wsign_any w0 ng ao n cap zs h0 hz
  rw [Int.sign_eq_neg_one_of_neg hneg] at ks
  have KS := hide ks
  clear e0 hs0 ks hneg
  go_enter Try.func41, Try.ntmps41
  go_wp2_with fail
  rw [E0.out]
  refine (KS.out).mono ?_
  rintro e w1 ⟨rfl, hb1⟩
  obtain ⟨xa, xb, xc, xd⟩ := (bx.below hb1).facts
  have h1 := h0.below hb1
  go_wp2_with fail
  refine (text_any _ _ _ _ zs h1 hz).mono ?_
  rintro e w2 ⟨ds, rfl, hd, hb2⟩
  have Z := hide (hb0.trans ((hb1.trans (hb2.mono hb1.size)).mono hb0.size))
  have HD := hide hd
  have hcs : ¬ 9223372036854775807 < 1 + (strOfNums ds).size := by
    have h8 := (val_bounds h.parts.2.2.2).2
    have h7 := pw_le_p10 zs.length
    have h6 := p10_mono (m := 10 * zs.length) (n := 10 * zs.length + 1) (by omega)
    have h9 := wdec_len hd (m := 10 * zs.length + 1) (by omega) (by omega)
    rw [strOfNums_size]
    omega
  have MA := hide (minus_ahead ds)
  clear hd
  go_wp2
  refine bodyPost_ret (v := .string (strOfNums (45 :: ds))) ?_ rfl ⟨ds, rfl, HD.out, Z.out⟩
  simp [results, Try.results41, go_sem, MA.out]

set_option maxRecDepth 20000 in
set_option maxHeartbeats 400000 in
theorem wtext_pos (w : World) (ng : Bool) (ao : Option Addr) (n cap : Nat) (zs : List Int) (h : Sl w (.slice ao n cap) zs) (hz : zs.length ≤ 1000000) (hpos : ¬ sg ng (val zs) < 0) :
    Calls Try.prog 41 #[.agg #[.bool ng, .slice ao n cap]] w fun e w' => ∃ ds, e = .returned (.string (strOfNums ds)) ∧ IsDec ds (val zs) ∧ Below w.heap.size w w' := by
  obtain ⟨w0, e0, bx, hb0, hs0⟩ := boxed0 w ng (.slice ao n cap)
  have E0 := hide e0
  have h0 := h.below hb0
  obtain ⟨s, hs, hs1⟩ : ∃ s, Int.sign (sg ng (val zs)) = s ∧ ¬ s < 0 := ⟨_, rfl, by
    intro h9
    have h8 := Int.sign_eq_neg_one_iff_neg.1 (show Int.sign (sg ng (val zs)) = -1 by have := sign_three' (sg ng (val zs)); omega)
    omega⟩
  have ks := wsign_any w0 ng ao n cap zs h0 hz
  rw [hs] at ks
  have KS := hide ks
  clear e0 hs0 ks hpos hs
  go_enter Try.func41, Try.ntmps41
  go_wp2_with fail
  rw [E0.out]
  refine (KS.out).mono ?_
  rintro e w1 ⟨rfl, hb1⟩
  obtain ⟨xa, xb, xc, xd⟩ := (bx.below hb1).facts
  have h1 := h0.below hb1
  go_wp2_with fail
  refine (text_any _ _ _ _ zs h1 hz).mono ?_
  rintro e w2 ⟨ds, rfl, hd, hb2⟩
  have Z := hide (hb0.trans ((hb1.trans (hb2.mono hb1.size)).mono hb0.size))
  have HD := hide hd
  clear hd
  go_wp2
  go_ret
  exact ⟨ds, rfl, HD.out, Z.out⟩

end Lm
end Go.Proofs.Ytjhhjefobbhdlaa
