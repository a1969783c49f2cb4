/-
  The contracts of the reference's Sign, Size and Cmp.
-/
import Derived.Test.YthbomfboohjcfaaDTrim
import Derived.Deep.QuietTactic
import Derived.BigQuiet
import Derived.Deep.RegionWith
namespace Go.Proofs.Ythbomfboohjcfaa
namespace Dm
open Go.RowKit
open Lm (hide lt_of_cell lt_of_heap div_of info32 cmpI cmpI_lt cmpI_gt cmpI_eq ret_i64)

theorem getD_take (zs : List Int) (i k : Nat) (h : i < k) : (zs.take k).getD i 0 = zs.getD i 0 := by
  rw [List.getD_eq_getElem?_getD, List.getD_eq_getElem?_getD, List.getElem?_take, if_pos h]

theorem cmp_len {xs ys : List Int} (hx : Canon xs) (hy : Canon ys) (h : xs.length ≠ ys.length) : cmpI (val xs) (val ys) = if xs.length < ys.length then -1 else 1 := by
  by_cases h' : xs.length < ys.length
  · rw [if_pos h', cmpI_lt (canon_lt hx hy h')]
  · rw [if_neg h', cmpI_gt (canon_lt hy hx (by omega))]

theorem cmp_low {xs ys : List Int} {k : Nat} (hx : Limb xs) (hy : Limb ys) (hl : xs.length = ys.length) (hk : k < xs.length) (hd : xs.drop (k + 1) = ys.drop (k + 1)) (h : xs.getD k 0 < ys.getD k 0) : cmpI (val xs) (val ys) = -1 := cmpI_lt (val_lt_at hx hy hl hk hd h)
theorem cmp_high {xs ys : List Int} {k : Nat} (hx : Limb xs) (hy : Limb ys) (hl : xs.length = ys.length) (hk : k < xs.length) (hd : xs.drop (k + 1) = ys.drop (k + 1)) (h : ys.getD k 0 < xs.getD k 0) : cmpI (val xs) (val ys) = 1 := cmpI_gt (val_lt_at hy hx hl.symm (by omega) hd.symm h)

theorem drop_down {xs ys : List Int} {k : Nat} (hl : xs.length = ys.length) (hk : k < xs.length) (hd : xs.drop (k + 1) = ys.drop (k + 1)) (h : xs.getD k 0 = ys.getD k 0) : xs.drop k = ys.drop k := by
  rw [drop_getD xs k hk, drop_getD ys k (by omega), hd, h]

set_option maxRecDepth 20000 in
set_option maxHeartbeats 1000000 in
theorem size_any (w : World) (g1 g2 : Bool) (a1 a2 : Option Addr) (c1 c2 : Nat) (xs ys : List Int) (x y : Int) (hx : Got w a1 c1 xs x) (hy : Got w a2 c2 ys y) :
    Calls Try.prog 67 #[.agg #[.bool g1, .slice a1 xs.length c1], .agg #[.bool g2, .slice a2 ys.length c2]] w fun e w' => e = .returned (.int .i64 (cmpI x y)) ∧ Below w.heap.size w w' := by
  have e1 : (w.alloc (.cells #[.bool g1, .slice a1 xs.length c1] 56)).heap.size = w.heap.size + 1 := by simp
  have hb1 : Below w.heap.size w (w.alloc (.cells #[.bool g1, .slice a1 xs.length c1] 56)) := (Below.refl _ _).alloc (Nat.le_refl _) _
  have hb2 := ((Below.refl (w.heap.size + 1) (w.alloc (.cells #[.bool g1, .slice a1 xs.length c1] 56))).alloc (by simp) (.cells #[.bool g2, .slice a2 ys.length c2] 56))
  have k1 : ((w.alloc (.cells #[.bool g1, .slice a1 xs.length c1] 56)).alloc (.cells #[.bool g2, .slice a2 ys.length c2] 56)).cell? ⟨w.heap.size, 1, none⟩ = some (.slice a1 xs.length c1) := by
    rw [hb2.cell (p := ⟨w.heap.size, 1, none⟩) (by simp), cell_of_row _ _ _ _ _ (0, 0) (heap_alloc_new w _)]; rfl
  have k2 : ((w.alloc (.cells #[.bool g1, .slice a1 xs.length c1] 56)).alloc (.cells #[.bool g2, .slice a2 ys.length c2] 56)).cell? ⟨w.heap.size + 1, 1, none⟩ = some (.slice a2 ys.length c2) := by
    rw [← e1, cell_of_row _ _ _ _ _ (0, 0) (heap_alloc_new _ _)]; rfl
  have hbw := hb1.trans (hb2.mono (by omega))
  have K := hide (And.intro k1 (And.intro k2 (And.intro hbw (show w.heap.size + 1 < ((w.alloc (.cells #[.bool g1, .slice a1 xs.length c1] 56)).alloc (.cells #[.bool g2, .slice a2 ys.length c2] 56)).heap.size by simp))))
  obtain ⟨_, p1, p2, p3⟩ := hx.sl.parts
  obtain ⟨_, s1, s2, s3⟩ := hy.sl.parts
  have VX := hide hx.val
  have VY := hide hy.val
  have CX := hide hx.canon
  have CY := hide hy.canon
  have hsx := hide hx.sl
  have hsy := hide hy.sl
  clear e1 hb1 hb2 k1 k2 hbw hx hy p3 s3
  by_cases hl : xs.length = ys.length
  · have hne : (((xs.length : Nat) : Int) != ((ys.length : Nat) : Int)) = false := by simp [hl]
    have HL := hide hl
    have l1 : xs.length ≤ ys.length := by omega
    have l2 : ys.length ≤ xs.length := by omega
    clear hl
    go_enter Try.func67, Try.ntmps67
    go_wp2
    generalize (w.alloc (.cells #[.bool g1, .slice a1 xs.length c1] 56)).alloc (.cells #[.bool g2, .slice a2 ys.length c2] 56) = w0 at K ⊢
    go_loopw [5] (fun i wr => ∃ k : Nat, k ≤ xs.length ∧ xs.drop k = ys.drop k ∧ i = .int .i64 ((k : Int) - 1) ∧ Below w0.heap.size w0 wr) (fun i _ => (intOf i + 1).toNat)
    case atStart => exact ⟨xs.length, Nat.le_refl _, by rw [List.drop_of_length_le (by omega), List.drop_of_length_le (by omega)], rfl, Below.refl _ _⟩
    case round =>
      obtain ⟨k, hk, hd, rfl, hbel⟩ := hrel
      have HD := hide hd
      clear hd
      have hbw : Below w.heap.size w wr := K.out.2.2.1.trans (hbel.mono K.out.2.2.1.size)
      cases k with
      | zero =>
        have HE : Hid (cmpI x y = 0) := by
          show _ = _
          have := HD.out
          rw [List.drop_zero, List.drop_zero] at this
          rw [← VX.out, ← VY.out, this]
          exact cmpI_eq rfl
        go_wp2
        go_ret
        exact ⟨by rw [HE.out]; rfl, hbw⟩
      | succ k =>
        have sx := (hsx.out.below K.out.2.2.1).below hbel
        have sy := (hsy.out.below K.out.2.2.1).below hbel
        obtain ⟨b, off, rfl, hc⟩ := sx.cells (by omega)
        obtain ⟨b', off', rfl, hc'⟩ := sy.cells (by omega)
        have f1 := hc k (by omega)
        have f2 := hc' k (by omega)
        have m1 := (hbel.cell (p := ⟨w.heap.size, 1, none⟩) (by have := K.out.2.2.2; simp; omega)).trans K.out.1
        have m2 := (hbel.cell (p := ⟨w.heap.size + 1, 1, none⟩) K.out.2.2.2).trans K.out.2.1
        have d1 : (k : Int) < ((xs.length : Nat) : Int) := by omega
        have d2 : (k : Int) < ((ys.length : Nat) : Int) := by omega
        have ND := hide (drop_down HL.out (by omega) HD.out)
        have NL := hide (cmp_low CX.out.1 CY.out.1 HL.out (by omega) HD.out)
        have NH := hide (cmp_high CX.out.1 CY.out.1 HL.out (by omega) HD.out)
        generalize xs.getD k 0 = z at f1 ND NL NH
        generalize ys.getD k 0 = z' at f2 ND NL NH
        clear sx sy hc hc'
        rcases Int.lt_trichotomy z z' with h | h | h
        · have HE : Hid (cmpI x y = -1) := by show _ = _; rw [← VX.out, ← VY.out]; exact NL.out h
          go_wp2
          go_quiet (fail)
          go_wp2
          go_ret
          exact ⟨by rw [HE.out]; rfl, below_drewN hbw _⟩
        · subst h
          have n1 : ¬ z < z := by omega
          go_wp2
          go_quiet (fail)
          go_wp2
          replace f1 : (wr.drewN nq).cell? ⟨b, off + k, none⟩ = some (.int .i64 z) := f1
          replace f2 : (wr.drewN nq).cell? ⟨b', off' + k, none⟩ = some (.int .i64 z) := f2
          replace m1 : (wr.drewN nq).cell? ⟨w.heap.size, 1, none⟩ = _ := m1
          replace m2 : (wr.drewN nq).cell? ⟨w.heap.size + 1, 1, none⟩ = _ := m2
          replace hbel := below_drewN hbel nq
          generalize wr.drewN nq = wr2 at f1 f2 m1 m2 hbel ⊢
          go_quiet (fail)
          go_wp2
          go_roundw
          case rel => exact ⟨k, by omega, ND.out (by first | rfl | trivial), by go_num, below_drewN hbel _⟩
          case measure => simp [intOf]
        · have HE : Hid (cmpI x y = 1) := by show _ = _; rw [← VX.out, ← VY.out]; exact NH.out h
          have n1 : ¬ z < z' := by omega
          go_wp2
          go_quiet (fail)
          go_wp2
          replace f1 : (wr.drewN nq).cell? ⟨b, off + k, none⟩ = some (.int .i64 z) := f1
          replace f2 : (wr.drewN nq).cell? ⟨b', off' + k, none⟩ = some (.int .i64 z') := f2
          replace m1 : (wr.drewN nq).cell? ⟨w.heap.size, 1, none⟩ = _ := m1
          replace m2 : (wr.drewN nq).cell? ⟨w.heap.size + 1, 1, none⟩ = _ := m2
          replace hbw := below_drewN hbw nq
          generalize wr.drewN nq = wr2 at f1 f2 m1 m2 hbw ⊢
          go_quiet (fail)
          go_wp2
          go_ret
          exact ⟨by rw [HE.out]; rfl, below_drewN hbw _⟩
  · have hne : (((xs.length : Nat) : Int) != ((ys.length : Nat) : Int)) = true := by rw [bne_iff_ne]; omega
    have HE := hide (cmp_len CX.out CY.out hl)
    rw [VX.out, VY.out] at HE
    by_cases h : xs.length < ys.length
    · rw [if_pos h] at HE
      have h' : ((xs.length : Nat) : Int) < ((ys.length : Nat) : Int) := by omega
      clear hl
      go_enter Try.func67, Try.ntmps67
      go_wp2
      go_ret
      exact ⟨by rw [HE.out]; rfl, K.out.2.2.1⟩
    · rw [if_neg h] at HE
      have h' : ¬ ((xs.length : Nat) : Int) < ((ys.length : Nat) : Int) := by omega
      clear hl
      go_enter Try.func67, Try.ntmps67
      go_wp2
      go_ret
      exact ⟨by rw [HE.out]; rfl, K.out.2.2.1⟩

def sgn (n : Nat) : Int := if n = 0 then 0 else 1

set_option maxRecDepth 20000 in
set_option maxHeartbeats 400000 in
theorem sign_any (w : World) (ao : Option Addr) (n cap : Nat) :
    Calls Try.prog 50 #[.agg #[.bool false, .slice ao n cap]] w fun e w' => e = .returned (.int .i64 (sgn n)) ∧ w' = w.alloc (.cells #[.bool false, .slice ao n cap] 56) := by
  by_cases h : n = 0
  · subst h
    go_enter Try.func50, Try.ntmps50
    go_wp2
    go_ret
    exact ⟨rfl, rfl⟩
  · have hne : (((n : Nat) : Int) == 0) = false := by simp; omega
    have H : Hid (sgn n = 1) := by simp [Hid, sgn, h]
    clear h
    go_enter Try.func50, Try.ntmps50
    go_wp2
    go_ret
    exact ⟨by rw [H.out]; rfl, rfl⟩

theorem below_alloc {a w : World} (h : Below a.heap.size a w) (o : Obj) : Below a.heap.size a (w.alloc o) := h.alloc h.size o

theorem got_zero {w : World} {ao : Option Addr} {cap : Nat} {xs : List Int} {x : Int} (h : Got w ao cap xs x) (h0 : xs.length = 0) : x = 0 := by
  have e : xs = [] := List.eq_nil_of_length_eq_zero h0
  rw [← h.val, e]; rfl

theorem got_pos {w : World} {ao : Option Addr} {cap : Nat} {xs : List Int} {x : Int} (h : Got w ao cap xs x) (h0 : xs.length ≠ 0) : 0 < x := by
  have := val_pos_tl h.canon.1 (by rw [h.canon.2]; omega)
  rwa [h.val] at this

end Dm
end Go.Proofs.Ythbomfboohjcfaa
