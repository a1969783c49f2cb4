/-
  The contracts of the reference's Natural and Parse.
-/
import Derived.Test.YtfokkkcegkbomabRDig
namespace Go.Proofs.Ytfokkkcegkbomab
namespace Dm
open Go.RowKit
open Lm (bytesOf bytesOf_length bytesOf_getD hide lt_of_cell lt_of_heap IsDec Dig dval p10 p10_pos dig_getD dig_drop dig_snoc dig_nil)

/-- The number of the error with which a text is refused. -/
def Err (s : ByteArray) (k : Int) : Prop := (k = 2 ∧ 5120 < s.size) ∨ (k = 10 ∧ s.size ≤ 5120 ∧ ¬ (1 ≤ s.size ∧ Dig (bytesOf s)))
def Fine (s : ByteArray) : Prop := 1 ≤ s.size ∧ s.size ≤ 5120 ∧ Dig (bytesOf s)

theorem err_one {s : ByteArray} {k l : Int} (h : Err s k) (h' : Err s l) : k = l := by
  rcases h with ⟨h1, h2⟩ | ⟨h1, h2, _⟩ <;> rcases h' with ⟨g1, g2⟩ | ⟨g1, g2, _⟩ <;> omega

theorem err_fine {s : ByteArray} {k : Int} (h : Err s k) (h' : Fine s) : False := by
  rcases h with ⟨h1, h2⟩ | ⟨h1, h2, h3⟩
  · have := h'.2.1; omega
  · exact h3 ⟨h'.1, h'.2.2⟩

theorem err_ne {s : ByteArray} {k : Int} (h : Err s k) : (k == 0) = false ∧ (k != 0) = true := by
  have : k ≠ 0 := by rcases h with ⟨h1, _⟩ | ⟨h1, _⟩ <;> omega
  exact ⟨beq_eq_false_iff_ne.2 this, by rw [bne_iff_ne]; exact this⟩

theorem got_none (w : World) : Got w none 0 [] 0 := ⟨⟨none, 0, rfl, Nat.le_refl _, by simp [maxLen], limb_nil, .inl rfl⟩, canon_nil, rfl⟩

/-- What Natural answers. -/
def NatAns (w w' : World) (s : ByteArray) (e : Ending) : Prop :=
  ∃ k ao cap D x, e = .returned (.tuple #[.agg #[.bool false, .slice ao D.length cap], .int .i64 k]) ∧ Got w' ao cap D x ∧ D.length ≤ 6000 ∧ ((Err s k ∧ x = 0) ∨ (Fine s ∧ k = 0 ∧ x = dval (bytesOf s))) ∧ Below w.heap.size w w'

set_option maxHeartbeats 400000 in
theorem natural_long (w : World) (s : ByteArray) (h : (5120 : Int) < (s.size : Int)) : Calls Try.prog 36 #[.string s] w fun e w' => NatAns w w' s e := by
  have HE : Hid (Err s 2) := .inl ⟨rfl, by omega⟩
  go_enter Try.func36, Try.ntmps36
  go_wp2
  refine bodyPost_ret (v := .tuple #[.agg #[.bool false, .slice none 0 0], .int .i64 2]) (by simp [results, Try.results36, go_sem]) rfl ⟨2, none, 0, [], 0, rfl, got_none _, by simp, .inl ⟨HE.out, rfl⟩, (Below.refl _ _).alloc (Nat.le_refl _) _⟩

set_option maxHeartbeats 1000000 in
theorem natural_short (w : World) (s : ByteArray) (h : ¬ (5120 : Int) < (s.size : Int)) : Calls Try.prog 36 #[.string s] w fun e w' => NatAns w w' s e := by
  have HBL := hide (bytesOf_length s)
  go_enter Try.func36, Try.ntmps36
  go_wp2
  go_loop [4] (fun iv => ∃ k : Nat, k ≤ s.size ∧ iv = .int .i64 k ∧ Dig ((bytesOf s).take k)) (fun iv => s.size - (intOf iv).toNat)
  case atStart => exact ⟨0, Nat.zero_le _, rfl, by simp; exact dig_nil⟩
  case round =>
    obtain ⟨k, hk, rfl, hd⟩ := hrel
    have HD := hide hd
    clear hd
    by_cases hlt : k < s.size
    · have hbd := bytesOf_getD s k hlt
      have hki : (k : Int) < (s.size : Int) := by omega
      by_cases hdg : 48 ≤ ((s[k]'hlt).toNat : Int) ∧ ((s[k]'hlt).toNat : Int) ≤ 57
      · have HD' := hide (show Dig ((bytesOf s).take (k + 1)) by rw [Lm.take_succ_getD _ _ (by rw [HBL.out]; exact hlt), hbd]; exact dig_snoc HD.out hdg.1 hdg.2)
        have d1 : decide (((s[k]'hlt).toNat : Int) < 48) = false := by simp; omega
        have d2 : decide (57 < ((s[k]'hlt).toNat : Int)) = false := by simp; omega
        have d3 := hdg.1
        have d4 := hdg.2
        clear hdg hbd
        go_wp2
        go_round
        case rel => exact ⟨k + 1, by omega, by go_num, HD'.out⟩
        case measure => simp [intOf]; omega
      · have HE : Hid (Err s 10) := by
          refine .inr ⟨rfl, by omega, fun hx => hdg ?_⟩
          have := dig_getD hx.2 (i := k) (by rw [HBL.out]; exact hlt)
          rwa [hbd] at this
        by_cases hlow : ((s[k]'hlt).toNat : Int) < 48
        · have d1 : decide (((s[k]'hlt).toNat : Int) < 48) = true := by simp; omega
          clear hdg hbd
          go_wp2
          refine bodyPost_ret (v := .tuple #[.agg #[.bool false, .slice none 0 0], .int .i64 10]) (by simp [results, Try.results36, go_sem]) rfl ⟨10, none, 0, [], 0, rfl, got_none _, by simp, .inl ⟨HE.out, rfl⟩, (Below.refl _ _).alloc (Nat.le_refl _) _⟩
        · have d1 : decide (((s[k]'hlt).toNat : Int) < 48) = false := by simp; omega
          have d2 : decide (57 < ((s[k]'hlt).toNat : Int)) = true := by simp; omega
          have d3 : 57 < ((s[k]'hlt).toNat : Int) := by omega
          clear hdg hbd
          go_wp2
          refine bodyPost_ret (v := .tuple #[.agg #[.bool false, .slice none 0 0], .int .i64 10]) (by simp [results, Try.results36, go_sem]) rfl ⟨10, none, 0, [], 0, rfl, got_none _, by simp, .inl ⟨HE.out, rfl⟩, (Below.refl _ _).alloc (Nat.le_refl _) _⟩
    · have hdd : Dig (bytesOf s) := by have := HD.out; rwa [List.take_of_length_le (by rw [HBL.out]; omega)] at this
      have hki : ¬ (k : Int) < (s.size : Int) := by omega
      by_cases h0 : s.size = 0
      · have HE : Hid (Err s 10) := .inr ⟨rfl, by omega, fun hx => by omega⟩
        have hz : (((s.size : Nat) : Int) == 0) = true := by simp [h0]
        clear hdd h0
        go_wp2
        refine bodyPost_ret (v := .tuple #[.agg #[.bool false, .slice none 0 0], .int .i64 10]) (by simp [results, Try.results36, go_sem]) rfl ⟨10, none, 0, [], 0, rfl, got_none _, by simp, .inl ⟨HE.out, rfl⟩, (Below.refl _ _).alloc (Nat.le_refl _) _⟩
      · have HF : Hid (Fine s) := ⟨by omega, by omega, hdd⟩
        have hz : (((s.size : Nat) : Int) == 0) = false := beq_eq_false_iff_ne.2 (by omega)
        have c0 : (w.alloc (.cells #[.bool false, .slice none 0 0] 59)).cell? ⟨w.heap.size, 0, none⟩ = some (.bool false) := by
          rw [cell_of_row _ _ _ _ _ (0, 0) (heap_alloc_new w _)]; rfl
        have c1 : (w.alloc (.cells #[.bool false, .slice none 0 0] 59)).cell? ⟨w.heap.size, 1, none⟩ = some (.slice none 0 0) := by
          rw [cell_of_row _ _ _ _ _ (0, 0) (heap_alloc_new w _)]; rfl
        have f0 : (w.alloc (.cells #[.bool false, .slice none 0 0] 59)).frozen? ⟨w.heap.size, 0, none⟩ = false := frozen_of_row _ _ _ _ _ (heap_alloc_new w _)
        have f1 : (w.alloc (.cells #[.bool false, .slice none 0 0] 59)).frozen? ⟨w.heap.size, 1, none⟩ = false := frozen_of_row _ _ _ _ _ (heap_alloc_new w _)
        have hb0 : Below w.heap.size w (w.alloc (.cells #[.bool false, .slice none 0 0] 59)) := (Below.refl _ _).alloc (Nat.le_refl _) _
        have hs0 : w.heap.size < (w.alloc (.cells #[.bool false, .slice none 0 0] 59)).heap.size := by simp
        have C := hide (And.intro c0 (And.intro c1 (And.intro f0 (And.intro f1 (And.intro hb0 hs0)))))
        have kd := hide (digits_any (w.alloc (.cells #[.bool false, .slice none 0 0] 59)) s hdd (by omega))
        clear c0 c1 f0 f1 hb0 hs0 hdd h0
        go_wp2_with fail
        refine (kd.out).mono ?_
        rintro e w2 ⟨aq, cq, D, rfl, hg, hDb, hB⟩
        have d0 := (hB.cell (p := ⟨w.heap.size, 0, none⟩) C.out.2.2.2.2.2).trans C.out.1
        have d1 := (hB.cell (p := ⟨w.heap.size, 1, none⟩) C.out.2.2.2.2.2).trans C.out.2.1
        have g0 := (hB.frozen (p := ⟨w.heap.size, 0, none⟩) C.out.2.2.2.2.2).trans C.out.2.2.1
        have g1 := (hB.frozen (p := ⟨w.heap.size, 1, none⟩) C.out.2.2.2.2.2).trans C.out.2.2.2.1
        have hBw : Below w.heap.size w w2 := C.out.2.2.2.2.1.trans (hB.mono (by have := C.out.2.2.2.2.2; omega))
        have e0 : Below w.heap.size w ((w2.setCell ⟨w.heap.size, 0, none⟩ (.bool false)).setCell ⟨w.heap.size, 1, none⟩ (.slice aq D.length cq)) := (hBw.setCell (Nat.le_refl _) _).setCell (Nat.le_refl _) _
        have e1 : (w2.setCell ⟨w.heap.size, 0, none⟩ (.bool false)).cell? ⟨w.heap.size, 1, none⟩ = some (.slice none 0 0) := by
          rw [World.cell?_setCell_other _ _ _ _ (by simp)]; exact d1
        have e2 := hide ((hg.sl.setCell d0 (fun z => by simp) (.bool false)).setCell e1 (fun z => by simp) (.slice aq D.length cq))
        have e3 := hide hg.2
        have y0 := World.cell?_setCell_same _ _ (.bool false) d0
        have x1 := World.cell?_setCell_same _ _ (.slice aq D.length cq) e1
        have X := hide (And.intro y0 x1)
        clear e1 y0 x1 hg kd
        go_wp2
        refine bodyPost_ret (v := .tuple #[.agg #[.bool false, .slice aq D.length cq], .int .i64 0]) ?_ rfl ⟨0, aq, cq, D, _, rfl, ⟨e2.out, e3.out⟩, hDb, .inr ⟨HF.out, rfl, rfl⟩, e0⟩
        simp [results, Try.results36, go_sem, X.out.1, X.out.2]

theorem natural_any (w : World) (s : ByteArray) : Calls Try.prog 36 #[.string s] w fun e w' => NatAns w w' s e := by
  by_cases h : (5120 : Int) < (s.size : Int)
  · exact natural_long w s h
  · exact natural_short w s h

theorem p10_pw (n : Nat) : p10 n ≤ Lm.pw n := by
  induction n with
  | zero => simp [p10, Lm.pw]
  | succ n ih => simp only [p10, Lm.pw]; have := Lm.pw_pos n; omega

theorem fine_lt {s : ByteArray} (h : Fine s) : dval (bytesOf s) < Lm.pw 5120 := by
  have h1 := (Lm.dval_bounds h.2.2).2
  rw [bytesOf_length] at h1
  have h2 := Lm.p10_mono h.2.1
  have h3 := p10_pw 5120
  omega

set_option maxRecDepth 100000 in
set_option maxHeartbeats 400000 in
theorem rparse_any (w : World) (s : ByteArray) : Calls Try.prog 19 #[.string s] w fun e w' => ∃ k v x, e = .returned (.tuple #[v, .int .i64 k]) ∧ Lm.Is w.heap.size w' v x ∧ ((Err s k ∧ x = 0) ∨ (Fine s ∧ k = 0 ∧ x = dval (bytesOf s))) ∧ Below w.heap.size w w' := by
  go_enter Try.func19, Try.ntmps19
  go_wp2_with fail
  refine (natural_any w s).mono ?_
  rintro e w1 ⟨k, ao, cap, D, x, rfl, hg, hl, hc, hb1⟩
  have hxl : Hid (x < Lm.pw 5120) := by
    show _ < _
    rcases hc with ⟨_, rfl⟩ | ⟨hf, _, rfl⟩
    · have := Lm.pw_pos 5120; omega
    · exact fine_lt hf
  have HC := hide hc
  have hb2 : Below w1.heap.size w1 (w1.alloc (.cells #[.bool false, .slice ao D.length cap] 59)) := (Below.refl _ _).alloc (Nat.le_refl _) _
  have kl := hide (limbs_any _ false ao cap D x (hg.below hb2) 5120 hxl.out (by omega) (by omega))
  clear hc hg hxl
  go_wp2_with fail
  refine (kl.out).mono ?_
  rintro e w2 ⟨v, rfl, hi, hb3⟩
  have hgr : Lm.Is w.heap.size w2 v x := hi.mono (by have := hb1.size; simp; omega)
  have HB := hb1.trans ((hb2.mono hb1.size).trans (hb3.mono (by have := hb1.size; simp; omega)))
  clear hb1 hb2 hb3 hi kl
  go_wp2
  go_ret2
  exact ⟨k, v, x, rfl, hgr, HC.out, HB⟩

end Dm
end Go.Proofs.Ytfokkkcegkbomab
