/-
  The contract of the reference's Trim. The contracts of the reference's Sign, Size and Cmp. The contracts of the reference's plus: two magnitudes together. The contract of the reference's less: a magnitude less one that is not above it.
-/
import Derived.Test.YtkdcgnooeojjgabRMkLawM42
import Derived.Deep.QuietTactic
import Derived.BigQuiet
import Derived.Deep.RegionWith
import Derived.Test.YtkdcgnooeojjgabWrap
namespace Go.Proofs.Ytkdcgnooeojjgab
namespace Dm
open Go.RowKit
open Lm (hide lt_of_cell lt_of_heap div_of info32)

set_option maxRecDepth 20000 in
set_option maxHeartbeats 400000 in
theorem limbs_none (w : World) (ng : Bool) (ao : Option Addr) (cap : Nat) (_hcap : cap ≤ 9223372036854775807) :
    Calls Try.prog 79 #[.agg #[.bool ng, .slice ao 0 cap]] w fun e w' => ∃ v, e = .returned v ∧ Lm.Is w.heap.size w' v 0 ∧ Below w.heap.size w w' := by
  cases ao with
  | none =>
    go_enter Try.func79, Try.ntmps79
    go_wp2
    refine wp_loop_rounds 1 ?_
    rw [rounds_succ]
    go_wp2
    go_ret
    exact ⟨_, rfl, ⟨[], ⟨none, 0, rfl, Nat.le_refl _, by simp [maxLen], Lm.limb_nil, .inl rfl⟩, Lm.canon_nil, rfl⟩, (Below.refl _ _).alloc (Nat.le_refl _) _⟩
  | some ad =>
    go_enter Try.func79, Try.ntmps79
    go_wp2
    refine wp_loop_rounds 1 ?_
    rw [rounds_succ]
    go_wp2
    go_ret
    exact ⟨_, rfl, ⟨[], ⟨none, 0, rfl, Nat.le_refl _, by simp [maxLen], Lm.limb_nil, .inl rfl⟩, Lm.canon_nil, rfl⟩, (Below.refl _ _).alloc (Nat.le_refl _) _⟩

theorem limbs_any (w : World) (ng : Bool) (ao : Option Addr) (cap : Nat) (D : List Int) (x : Int) (hD : Got w ao cap D x) (M : Nat) (hx : x < Lm.pw M) (hM : M ≤ 1000000) (hl : D.length ≤ 1000000) :
    Calls Try.prog 79 #[.agg #[.bool ng, .slice ao D.length cap]] w fun e w' => ∃ v, e = .returned v ∧ Lm.Is w.heap.size w' v x ∧ Below w.heap.size w w' := by
  by_cases h0 : 0 < D.length
  · exact limbs_loop w ng ao cap D x hD M hx hM hl h0
  · have e : D = [] := List.eq_nil_of_length_eq_zero (by omega)
    have hx0 : x = 0 := by rw [← hD.val, e]; rfl
    have hc := hD.sl.parts.2.2.1
    rw [hx0, e]
    exact limbs_none w ng ao cap hc

end Dm
end Go.Proofs.Ytkdcgnooeojjgab

namespace Go.Proofs.Ytkdcgnooeojjgab
namespace Dm
open Go.RowKit
open Lm (hide lt_of_cell lt_of_heap div_of info32 cmpI cmpI_lt cmpI_gt cmpI_eq ret_i64)

theorem getD_take (zs : List Int) (i k : Nat) (h : i < k) : (zs.take k).getD i 0 = zs.getD i 0 := by
  rw [List.getD_eq_getElem?_getD, List.getD_eq_getElem?_getD, List.getElem?_take, if_pos h]

theorem cmp_len {xs ys : List Int} (hx : Canon xs) (hy : Canon ys) (h : xs.length ≠ ys.length) : cmpI (val xs) (val ys) = if xs.length < ys.length then -1 else 1 := by
  by_cases h' : xs.length < ys.length
  · rw [if_pos h', cmpI_lt (canon_lt hx hy h')]
  · rw [if_neg h', cmpI_gt (canon_lt hy hx (by omega))]

theorem cmp_low {xs ys : List Int} {k : Nat} (hx : Limb xs) (hy : Limb ys) (hl : xs.length = ys.length) (hk : k < xs.length) (hd : xs.drop (k + 1) = ys.drop (k + 1)) (h : xs.getD k 0 < ys.getD k 0) : cmpI (val xs) (val ys) = -1 := cmpI_lt (val_lt_at hx hy hl hk hd h)
theorem cmp_high {xs ys : List Int} {k : Nat} (hx : Limb xs) (hy : Limb ys) (hl : xs.length = ys.length) (hk : k < xs.length) (hd : xs.drop (k + 1) = ys.drop (k + 1)) (h : ys.getD k 0 < xs.getD k 0) : cmpI (val xs) (val ys) = 1 := cmpI_gt (val_lt_at hy hx hl.symm (by omega) hd.symm h)

theorem drop_down {xs ys : List Int} {k : Nat} (hl : xs.length = ys.length) (hk : k < xs.length) (hd : xs.drop (k + 1) = ys.drop (k + 1)) (h : xs.getD k 0 = ys.getD k 0) : xs.drop k = ys.drop k := by
  rw [drop_getD xs k hk, drop_getD ys k (by omega), hd, h]

set_option maxRecDepth 20000 in
set_option maxHeartbeats 1000000 in
theorem size_any (w : World) (g1 g2 : Bool) (a1 a2 : Option Addr) (c1 c2 : Nat) (xs ys : List Int) (x y : Int) (hx : Got w a1 c1 xs x) (hy : Got w a2 c2 ys y) :
    Calls Try.prog 77 #[.agg #[.bool g1, .slice a1 xs.length c1], .agg #[.bool g2, .slice a2 ys.length c2]] w fun e w' => e = .returned (.int .i64 (cmpI x y)) ∧ Below w.heap.size w w' := by
  have e1 : (w.alloc (.cells #[.bool g1, .slice a1 xs.length c1] 66)).heap.size = w.heap.size + 1 := by simp
  have hb1 : Below w.heap.size w (w.alloc (.cells #[.bool g1, .slice a1 xs.length c1] 66)) := (Below.refl _ _).alloc (Nat.le_refl _) _
  have hb2 := ((Below.refl (w.heap.size + 1) (w.alloc (.cells #[.bool g1, .slice a1 xs.length c1] 66))).alloc (by simp) (.cells #[.bool g2, .slice a2 ys.length c2] 66))
  have k1 : ((w.alloc (.cells #[.bool g1, .slice a1 xs.length c1] 66)).alloc (.cells #[.bool g2, .slice a2 ys.length c2] 66)).cell? ⟨w.heap.size, 1, none⟩ = some (.slice a1 xs.length c1) := by
    rw [hb2.cell (p := ⟨w.heap.size, 1, none⟩) (by simp), cell_of_row _ _ _ _ _ (0, 0) (heap_alloc_new w _)]; rfl
  have k2 : ((w.alloc (.cells #[.bool g1, .slice a1 xs.length c1] 66)).alloc (.cells #[.bool g2, .slice a2 ys.length c2] 66)).cell? ⟨w.heap.size + 1, 1, none⟩ = some (.slice a2 ys.length c2) := by
    rw [← e1, cell_of_row _ _ _ _ _ (0, 0) (heap_alloc_new _ _)]; rfl
  have hbw := hb1.trans (hb2.mono (by omega))
  have K := hide (And.intro k1 (And.intro k2 (And.intro hbw (show w.heap.size + 1 < ((w.alloc (.cells #[.bool g1, .slice a1 xs.length c1] 66)).alloc (.cells #[.bool g2, .slice a2 ys.length c2] 66)).heap.size by simp))))
  obtain ⟨_, p1, p2, p3⟩ := hx.sl.parts
  obtain ⟨_, s1, s2, s3⟩ := hy.sl.parts
  have VX := hide hx.val
  have VY := hide hy.val
  have CX := hide hx.canon
  have CY := hide hy.canon
  have hsx := hide hx.sl
  have hsy := hide hy.sl
  clear e1 hb1 hb2 k1 k2 hbw hx hy p3 s3
  by_cases hl : xs.length = ys.length
  · have hne : (((xs.length : Nat) : Int) != ((ys.length : Nat) : Int)) = false := by simp [hl]
    have HL := hide hl
    have l1 : xs.length ≤ ys.length := by omega
    have l2 : ys.length ≤ xs.length := by omega
    clear hl
    go_enter Try.func77, Try.ntmps77
    go_wp2
    generalize (w.alloc (.cells #[.bool g1, .slice a1 xs.length c1] 66)).alloc (.cells #[.bool g2, .slice a2 ys.length c2] 66) = w0 at K ⊢
    go_loopw [5] (fun i wr => ∃ k : Nat, k ≤ xs.length ∧ xs.drop k = ys.drop k ∧ i = .int .i64 ((k : Int) - 1) ∧ Below w0.heap.size w0 wr) (fun i _ => (intOf i + 1).toNat)
    case atStart => exact ⟨xs.length, Nat.le_refl _, by rw [List.drop_of_length_le (by omega), List.drop_of_length_le (by omega)], rfl, Below.refl _ _⟩
    case round =>
      obtain ⟨k, hk, hd, rfl, hbel⟩ := hrel
      have HD := hide hd
      clear hd
      have hbw : Below w.heap.size w wr := K.out.2.2.1.trans (hbel.mono K.out.2.2.1.size)
      cases k with
      | zero =>
        have HE : Hid (cmpI x y = 0) := by
          show _ = _
          have := HD.out
          rw [List.drop_zero, List.drop_zero] at this
          rw [← VX.out, ← VY.out, this]
          exact cmpI_eq rfl
        go_wp2
        go_ret
        exact ⟨by rw [HE.out]; rfl, hbw⟩
      | succ k =>
        have sx := (hsx.out.below K.out.2.2.1).below hbel
        have sy := (hsy.out.below K.out.2.2.1).below hbel
        obtain ⟨b, off, rfl, hc⟩ := sx.cells (by omega)
        obtain ⟨b', off', rfl, hc'⟩ := sy.cells (by omega)
        have f1 := hc k (by omega)
        have f2 := hc' k (by omega)
        have m1 := (hbel.cell (p := ⟨w.heap.size, 1, none⟩) (by have := K.out.2.2.2; simp; omega)).trans K.out.1
        have m2 := (hbel.cell (p := ⟨w.heap.size + 1, 1, none⟩) K.out.2.2.2).trans K.out.2.1
        have d1 : (k : Int) < ((xs.length : Nat) : Int) := by omega
        have d2 : (k : Int) < ((ys.length : Nat) : Int) := by omega
        have ND := hide (drop_down HL.out (by omega) HD.out)
        have NL := hide (cmp_low CX.out.1 CY.out.1 HL.out (by omega) HD.out)
        have NH := hide (cmp_high CX.out.1 CY.out.1 HL.out (by omega) HD.out)
        generalize xs.getD k 0 = z at f1 ND NL NH
        generalize ys.getD k 0 = z' at f2 ND NL NH
        clear sx sy hc hc'
        rcases Int.lt_trichotomy z z' with h | h | h
        · have HE : Hid (cmpI x y = -1) := by show _ = _; rw [← VX.out, ← VY.out]; exact NL.out h
          go_wp2
          go_quiet (fail)
          go_wp2
          go_ret
          exact ⟨by rw [HE.out]; rfl, below_drewN hbw _⟩
        · subst h
          have n1 : ¬ z < z := by omega
          go_wp2
          go_quiet (fail)
          go_wp2
          replace f1 : (wr.drewN nq).cell? ⟨b, off + k, none⟩ = some (.int .i64 z) := f1
          replace f2 : (wr.drewN nq).cell? ⟨b', off' + k, none⟩ = some (.int .i64 z) := f2
          replace m1 : (wr.drewN nq).cell? ⟨w.heap.size, 1, none⟩ = _ := m1
          replace m2 : (wr.drewN nq).cell? ⟨w.heap.size + 1, 1, none⟩ = _ := m2
          replace hbel := below_drewN hbel nq
          generalize wr.drewN nq = wr2 at f1 f2 m1 m2 hbel ⊢
          go_quiet (fail)
          go_wp2
          go_roundw
          case rel => exact ⟨k, by omega, ND.out (by first | rfl | trivial), by go_num, below_drewN hbel _⟩
          case measure => simp [intOf]
        · have HE : Hid (cmpI x y = 1) := by show _ = _; rw [← VX.out, ← VY.out]; exact NH.out h
          have n1 : ¬ z < z' := by omega
          go_wp2
          go_quiet (fail)
          go_wp2
          replace f1 : (wr.drewN nq).cell? ⟨b, off + k, none⟩ = some (.int .i64 z) := f1
          replace f2 : (wr.drewN nq).cell? ⟨b', off' + k, none⟩ = some (.int .i64 z') := f2
          replace m1 : (wr.drewN nq).cell? ⟨w.heap.size, 1, none⟩ = _ := m1
          replace m2 : (wr.drewN nq).cell? ⟨w.heap.size + 1, 1, none⟩ = _ := m2
          replace hbw := below_drewN hbw nq
          generalize wr.drewN nq = wr2 at f1 f2 m1 m2 hbw ⊢
          go_quiet (fail)
          go_wp2
          go_ret
          exact ⟨by rw [HE.out]; rfl, below_drewN hbw _⟩
  · have hne : (((xs.length : Nat) : Int) != ((ys.length : Nat) : Int)) = true := by rw [bne_iff_ne]; omega
    have HE := hide (cmp_len CX.out CY.out hl)
    rw [VX.out, VY.out] at HE
    by_cases h : xs.length < ys.length
    · rw [if_pos h] at HE
      have h' : ((xs.length : Nat) : Int) < ((ys.length : Nat) : Int) := by omega
      clear hl
      go_enter Try.func77, Try.ntmps77
      go_wp2
      go_ret
      exact ⟨by rw [HE.out]; rfl, K.out.2.2.1⟩
    · rw [if_neg h] at HE
      have h' : ¬ ((xs.length : Nat) : Int) < ((ys.length : Nat) : Int) := by omega
      clear hl
      go_enter Try.func77, Try.ntmps77
      go_wp2
      go_ret
      exact ⟨by rw [HE.out]; rfl, K.out.2.2.1⟩

def sgn (n : Nat) : Int := if n = 0 then 0 else 1

set_option maxRecDepth 20000 in
set_option maxHeartbeats 400000 in
theorem sign_any (w : World) (ao : Option Addr) (n cap : Nat) :
    Calls Try.prog 50 #[.agg #[.bool false, .slice ao n cap]] w fun e w' => e = .returned (.int .i64 (sgn n)) ∧ w' = w.alloc (.cells #[.bool false, .slice ao n cap] 66) := by
  by_cases h : n = 0
  · subst h
    go_enter Try.func50, Try.ntmps50
    go_wp2
    go_ret
    exact ⟨rfl, rfl⟩
  · have hne : (((n : Nat) : Int) == 0) = false := by simp; omega
    have H : Hid (sgn n = 1) := by simp [Hid, sgn, h]
    clear h
    go_enter Try.func50, Try.ntmps50
    go_wp2
    go_ret
    exact ⟨by rw [H.out]; rfl, rfl⟩

theorem below_alloc {a w : World} (h : Below a.heap.size a w) (o : Obj) : Below a.heap.size a (w.alloc o) := h.alloc h.size o

theorem got_zero {w : World} {ao : Option Addr} {cap : Nat} {xs : List Int} {x : Int} (h : Got w ao cap xs x) (h0 : xs.length = 0) : x = 0 := by
  have e : xs = [] := List.eq_nil_of_length_eq_zero h0
  rw [← h.val, e]; rfl

theorem got_pos {w : World} {ao : Option Addr} {cap : Nat} {xs : List Int} {x : Int} (h : Got w ao cap xs x) (h0 : xs.length ≠ 0) : 0 < x := by
  have := val_pos_tl h.canon.1 (by rw [h.canon.2]; omega)
  rwa [h.val] at this

end Dm
end Go.Proofs.Ytkdcgnooeojjgab

namespace Go.Proofs.Ytkdcgnooeojjgab
namespace Dm
open Go.RowKit
open Lm (hide)

/-- A list of digits of the call's own, worth x, of at most n digits. -/
def Dl (B : Nat) (w : World) (v : Value) (x : Int) (n : Nat) : Prop := ∃ ds, Ow B w v ds ∧ val ds = x ∧ ds.length ≤ n

/-- A round of plus. -/
theorem plus_val {A B ds : List Int} {k : Nat} {a b c s : Int} (hk : ds.length = k) (ha : A.getD k 0 = a) (hb : B.getD k 0 = b) (hs : s = c + a + b) (h : val ds + pw k * c = vf A k + vf B k) :
    val (ds ++ [s % 10000]) + pw (k + 1) * (s / 10000) = vf A (k + 1) + vf B (k + 1) := by
  rw [val_snoc, vf, vf, ha, hb, hk, pw]
  have e : s = s % 10000 + 10000 * (s / 10000) := by omega
  have e2 : pw k * (s % 10000) + 10000 * pw k * (s / 10000) = pw k * s := by
    rw [Int.mul_comm 10000 (pw k), Int.mul_assoc, ← Int.mul_add, ← e]
  rw [Int.add_assoc, e2, hs, Int.mul_add, Int.mul_add]
  omega

theorem getD_past (A : List Int) (k : Nat) (h : ¬ k < A.length) : A.getD k 0 = 0 := by
  rw [List.getD_eq_getElem?_getD, List.getElem?_eq_none (by omega)]; rfl

set_option maxRecDepth 20000 in
set_option maxHeartbeats 1000000 in
theorem plus_any (w : World) (a1 : Option Addr) (n1 c1 : Nat) (A : List Int) (hA : Sl w (.slice a1 n1 c1) A) (a2 : Option Addr) (n2 c2 : Nat) (B : List Int) (hB : Sl w (.slice a2 n2 c2) B) (hl1 : A.length ≤ 1000000) (hl2 : B.length ≤ 1000000) :
    Calls Try.prog 104 #[.slice a1 n1 c1, .slice a2 n2 c2] w fun e w' => ∃ v, e = .returned v ∧ Dl w.heap.size w' v (val A + val B) (A.length + B.length + 1) ∧ Below w.heap.size w w' := by
  obtain ⟨rfl, p1, p2, p3⟩ := hA.parts
  obtain ⟨rfl, q1, q2, q3⟩ := hB.parts
  obtain ⟨i0, hi, hz0, hz1, hz2⟩ := info_parts info64
  have P3 := hide p3
  have Q3 := hide q3
  clear p3 q3
  go_enter Try.func104, Try.ntmps104
  go_wp2
  go_loopw [5, 6, 7] (fun dv cv iv wr => ∃ (k : Nat) (c : Int) (ds : List Int), cv = .int .i64 c ∧ iv = .int .i64 k ∧ (0 ≤ c ∧ c ≤ 1) ∧ (k : Int) + c ≤ (A.length : Int) + B.length + 1 ∧ ds.length = k ∧ Limb ds ∧ val ds + pw k * c = vf A k + vf B k ∧ wr.ownsRow w.heap.size 3 1 dv k (ds.map (Value.int .i64)) ∧ Below w.heap.size w wr) (fun _ cv iv _ => (A.length - (intOf iv).toNat) * 2 + (B.length - (intOf iv).toNat) * 2 + (intOf cv).toNat)
  case atStart => exact ⟨0, 0, [], rfl, rfl, by omega, by omega, rfl, limb_nil, by simp [val, vf, pw], World.ownsRow_nil _ _ _ _, Below.refl _ _⟩
  case round =>
    obtain ⟨k, c, ds, rfl, rfl, hc, hkc, hdl, hd, hval, hown, hbel⟩ := hrel
    have HD := hide hd
    have HDL := hide hdl
    have HV := hide hval
    clear hd hdl hval
    have hsz := hbel.size
    by_cases hltA : k < A.length
    · by_cases hltB : k < B.length
      · have sA := hA.below hbel
        obtain ⟨b1, off1, rfl, hca⟩ := sA.cells (by omega)
        have ca := hca k hltA
        have ba := limb_getD P3.out k
        obtain ⟨a, hak⟩ : ∃ a, A.getD k 0 = a := ⟨_, rfl⟩
        rw [hak] at ca ba
        clear sA hca
        have sB := hB.below hbel
        obtain ⟨b2, off2, rfl, hcb⟩ := sB.cells (by omega)
        have cb := hcb k hltB
        have bb := limb_getD Q3.out k
        obtain ⟨b, hbk⟩ : ∃ b, B.getD k 0 = b := ⟨_, rfl⟩
        rw [hbk] at cb bb
        clear sB hcb
        have dA : (k : Int) < (A.length : Int) := by omega
        have dB : (k : Int) < (B.length : Int) := by omega
        have HV' := hide (plus_val (s := c + a + b) HDL.out hak hbk (by omega) HV.out)
        clear hak hbk
        go_wp2_with (at_builtin; refine wpList_append_own _ rfl (.tmp 44) (.tmp 47) 64 rfl w.heap.size 3 i0 (.int .i64 0) 1 8 Try.underlying64 hi hz0 hz1 hz2 rfl (by decide) _ _ _ rfl (hown.alloc _) ⟨wr.heap.size, 0, none⟩ 1 1 [.int .i64 ((c + a + b) % 10000)] rfl rfl (cell_one_new _ _ _) ?c211 ?c311 ?c411 ?c511 ?_)
        case c211 => first | rfl | (intro u hu; simp at hu; subst hu; rfl)
        case c311 => unfold maxLen; omega
        case c411 => omega
        case c511 => first | omega | (simp; omega)
        intro v' w1 hown' hgrow _
        have R := step_own hown' hgrow hbel (hown.lt)
        clear hown' hgrow hown
        go_wp2
        go_roundw
        case rel => exact ⟨k + 1, (c + a + b) / 10000, ds ++ [(c + a + b) % 10000], rfl, by go_num, by omega, by omega, by have := HDL.out; simp; omega, limb_append.2 ⟨HD.out, limb_cons.2 ⟨by omega, limb_nil⟩⟩, HV'.out, R.1, R.2⟩
        case measure => simp [intOf]; omega
      · have hbk := getD_past B k hltB
        have sA := hA.below hbel
        obtain ⟨b1, off1, rfl, hca⟩ := sA.cells (by omega)
        have ca := hca k hltA
        have ba := limb_getD P3.out k
        obtain ⟨a, hak⟩ : ∃ a, A.getD k 0 = a := ⟨_, rfl⟩
        rw [hak] at ca ba
        clear sA hca
        have dA : (k : Int) < (A.length : Int) := by omega
        have dB : ¬ (k : Int) < (B.length : Int) := by omega
        have HV' := hide (plus_val (s := c + a) HDL.out hak hbk (by omega) HV.out)
        clear hak hbk
        go_wp2_with (at_builtin; refine wpList_append_own _ rfl (.tmp 44) (.tmp 47) 64 rfl w.heap.size 3 i0 (.int .i64 0) 1 8 Try.underlying64 hi hz0 hz1 hz2 rfl (by decide) _ _ _ rfl (hown.alloc _) ⟨wr.heap.size, 0, none⟩ 1 1 [.int .i64 ((c + a) % 10000)] rfl rfl (cell_one_new _ _ _) ?c210 ?c310 ?c410 ?c510 ?_)
        case c210 => first | rfl | (intro u hu; simp at hu; subst hu; rfl)
        case c310 => unfold maxLen; omega
        case c410 => omega
        case c510 => first | omega | (simp; omega)
        intro v' w1 hown' hgrow _
        have R := step_own hown' hgrow hbel (hown.lt)
        clear hown' hgrow hown
        go_wp2
        go_roundw
        case rel => exact ⟨k + 1, (c + a) / 10000, ds ++ [(c + a) % 10000], rfl, by go_num, by omega, by omega, by have := HDL.out; simp; omega, limb_append.2 ⟨HD.out, limb_cons.2 ⟨by omega, limb_nil⟩⟩, HV'.out, R.1, R.2⟩
        case measure => simp [intOf]; omega
    · have hak := getD_past A k hltA
      by_cases hltB : k < B.length
      · have sB := hB.below hbel
        obtain ⟨b2, off2, rfl, hcb⟩ := sB.cells (by omega)
        have cb := hcb k hltB
        have bb := limb_getD Q3.out k
        obtain ⟨b, hbk⟩ : ∃ b, B.getD k 0 = b := ⟨_, rfl⟩
        rw [hbk] at cb bb
        clear sB hcb
        have dA : ¬ (k : Int) < (A.length : Int) := by omega
        have dB : (k : Int) < (B.length : Int) := by omega
        have HV' := hide (plus_val (s := c + b) HDL.out hak hbk (by omega) HV.out)
        clear hak hbk
        go_wp2_with (at_builtin; refine wpList_append_own _ rfl (.tmp 44) (.tmp 47) 64 rfl w.heap.size 3 i0 (.int .i64 0) 1 8 Try.underlying64 hi hz0 hz1 hz2 rfl (by decide) _ _ _ rfl (hown.alloc _) ⟨wr.heap.size, 0, none⟩ 1 1 [.int .i64 ((c + b) % 10000)] rfl rfl (cell_one_new _ _ _) ?c201 ?c301 ?c401 ?c501 ?_)
        case c201 => first | rfl | (intro u hu; simp at hu; subst hu; rfl)
        case c301 => unfold maxLen; omega
        case c401 => omega
        case c501 => first | omega | (simp; omega)
        intro v' w1 hown' hgrow _
        have R := step_own hown' hgrow hbel (hown.lt)
        clear hown' hgrow hown
        go_wp2
        go_roundw
        case rel => exact ⟨k + 1, (c + b) / 10000, ds ++ [(c + b) % 10000], rfl, by go_num, by omega, by omega, by have := HDL.out; simp; omega, limb_append.2 ⟨HD.out, limb_cons.2 ⟨by omega, limb_nil⟩⟩, HV'.out, R.1, R.2⟩
        case measure => simp [intOf]; omega
      · have hbk := getD_past B k hltB
        by_cases hc0 : 0 < c
        · have dA : ¬ (k : Int) < (A.length : Int) := by omega
          have dB : ¬ (k : Int) < (B.length : Int) := by omega
          have HV' := hide (plus_val (s := c) HDL.out hak hbk (by omega) HV.out)
          clear hak hbk
          go_wp2_with (at_builtin; refine wpList_append_own _ rfl (.tmp 44) (.tmp 47) 64 rfl w.heap.size 3 i0 (.int .i64 0) 1 8 Try.underlying64 hi hz0 hz1 hz2 rfl (by decide) _ _ _ rfl (hown.alloc _) ⟨wr.heap.size, 0, none⟩ 1 1 [.int .i64 ((c) % 10000)] rfl rfl (cell_one_new _ _ _) ?c200 ?c300 ?c400 ?c500 ?_)
          case c200 => first | rfl | (intro u hu; simp at hu; subst hu; rfl)
          case c300 => unfold maxLen; omega
          case c400 => omega
          case c500 => first | omega | (simp; omega)
          intro v' w1 hown' hgrow _
          have R := step_own hown' hgrow hbel (hown.lt)
          clear hown' hgrow hown
          go_wp2
          go_roundw
          case rel => exact ⟨k + 1, (c) / 10000, ds ++ [(c) % 10000], rfl, by go_num, by omega, by omega, by have := HDL.out; simp; omega, limb_append.2 ⟨HD.out, limb_cons.2 ⟨by omega, limb_nil⟩⟩, HV'.out, R.1, R.2⟩
          case measure => simp [intOf]; omega
        · have hc1 : c = 0 := by omega
          subst hc1
          have dA : ¬ (k : Int) < (A.length : Int) := by omega
          have dB : ¬ (k : Int) < (B.length : Int) := by omega
          have how := ow_of_row hown HD.out
          have hvv : val ds = val A + val B := by
            have := HV.out
            rw [Int.mul_zero, Int.add_zero, vf_all A _ (by omega), vf_all B _ (by omega)] at this
            exact this
          have hdl := HDL.out
          have HVV := hide hvv
          have HDL' : Hid (ds.length ≤ A.length + B.length + 1) := by show _ ≤ _; omega
          clear hvv hak hbk hown hdl
          go_wp2
          go_ret
          exact ⟨_, rfl, ⟨ds, how, HVV.out, HDL'.out⟩, hbel⟩

end Dm
end Go.Proofs.Ytkdcgnooeojjgab

namespace Go.Proofs.Ytkdcgnooeojjgab
namespace Dm
open Go.RowKit
open Lm (hide lt_of_cell lt_of_heap)

/-- The cells of a list, as a copy asks for them. -/
theorem Sl.copy {w : World} {b off n cap : Nat} {D : List Int} (h : Sl w (.slice (some ⟨b, off, none⟩) n cap) D) : ∀ j u, (D.map (Value.int .i64))[j]? = some u → w.cell? ((⟨b, off, none⟩ : Addr).add j) = some u := by
  intro j u hu
  rw [List.getElem?_map] at hu
  have hj : j < D.length := by
    apply Classical.byContradiction
    intro hn
    rw [List.getElem?_eq_none (by omega)] at hu
    cases hu
  rw [List.getElem?_eq_getElem hj] at hu
  obtain ⟨b', off', e, hc⟩ := h.cells (by omega)
  obtain ⟨rfl, rfl⟩ : b = b' ∧ off = off' := by simpa using e
  have hcj := hc j hj
  rw [List.getD_eq_getElem?_getD, List.getElem?_eq_getElem hj] at hcj
  rw [show ((⟨b, off, none⟩ : Addr).add j) = ⟨b, off + j, none⟩ from by simp [Addr.add], hcj]
  exact hu

theorem one_cells (D : List Int) : ∀ u ∈ D.map (Value.int .i64), u.oneCell' = true := by
  intro u hu
  obtain ⟨z, _, rfl⟩ := List.mem_map.1 hu
  rfl

/-- A first digit less t. -/
def dec (t : Int) : List Int → List Int
  | [] => []
  | x :: xs => (x - t) :: xs

theorem dec_length (t : Int) (xs : List Int) : (dec t xs).length = xs.length := by cases xs <;> simp [dec]
theorem dec_zero (xs : List Int) : dec 0 xs = xs := by cases xs <;> simp [dec]

theorem less_val {A B lo : List Int} {k : Nat} {a b t t' s : Int} (hk : lo.length = k) (ha : A.getD k 0 = a) (hb : B.getD k 0 = b) (hs : s = a - t - b + 10000 * t') (h : val lo + vf B k = vf A k + pw k * t) :
    val (lo ++ [s]) + vf B (k + 1) = vf A (k + 1) + pw (k + 1) * t' := by
  rw [val_snoc, vf, vf, ha, hb, hk, pw, hs]
  have e : 10000 * pw k * t' = pw k * (10000 * t') := by rw [Int.mul_comm 10000 (pw k), Int.mul_assoc]
  rw [e, Int.mul_add, Int.mul_sub, Int.mul_sub]
  omega

theorem set_mid (lo r : List Int) (x y : Int) (k : Nat) (hk : lo.length = k) : (lo ++ x :: r).set k y = lo ++ y :: r := by
  subst hk
  induction lo with
  | nil => rfl
  | cons z zs ih => simp

theorem getD_mid (lo r : List Int) (x : Int) (k : Nat) (hk : lo.length = k) : (lo ++ x :: r).getD k 0 = x := by
  subst hk
  simp [List.getD_eq_getElem?_getD]

theorem dec_drop (A : List Int) (k : Nat) (t : Int) (h : k < A.length) : dec t (A.drop k) = (A.getD k 0 - t) :: A.drop (k + 1) := by
  rw [drop_getD A k h]; rfl

/-- A borrow does not go out over the top. -/
theorem less_top {A B lo : List Int} {k : Nat} {a b t s : Int} (hk : lo.length = k) (hA : A.length = k + 1) (hB : B.length ≤ A.length) (hle : val B ≤ val A) (hlo : Limb lo) (ha : A.getD k 0 = a) (hb : B.getD k 0 = b) (hs : s = a - t - b) (h : val lo + vf B k = vf A k + pw k * t) : 0 ≤ s := by
  have h1 := less_val (t' := 0) (s := s) hk ha hb (by omega) h
  rw [vf_all A _ (by omega), vf_all B _ (by omega), Int.mul_zero, Int.add_zero, val_snoc, hk] at h1
  have h2 := (val_bounds hlo).2
  rw [hk] at h2
  apply Classical.byContradiction
  intro hn
  have h3 : pw k * s ≤ pw k * (-1) := Int.mul_le_mul_of_nonneg_left (by omega) (by have := pw_pos k; omega)
  omega

set_option maxRecDepth 20000 in
set_option maxHeartbeats 1000000 in
theorem less_any (w : World) (a1 : Option Addr) (n1 c1 : Nat) (A : List Int) (hA : Sl w (.slice a1 n1 c1) A) (a2 : Option Addr) (n2 c2 : Nat) (B : List Int) (hB : Sl w (.slice a2 n2 c2) B) (hl1 : A.length ≤ 1000000) (hBA : B.length ≤ A.length) (hle : val B ≤ val A) (h0 : 0 < A.length) :
    Calls Try.prog 105 #[.slice a1 n1 c1, .slice a2 n2 c2] w fun e w' => ∃ v, e = .returned v ∧ Dl w.heap.size w' v (val A - val B) A.length ∧ Below w.heap.size w w' := by
  obtain ⟨rfl, p1, p2, p3⟩ := hA.parts
  obtain ⟨rfl, q1, q2, q3⟩ := hB.parts
  obtain ⟨i0, hi, hz0, hz1, hz2⟩ := info_parts info64
  obtain ⟨b1, off1, rfl, _⟩ := hA.cells h0
  have hcells := hA.copy
  have hone := one_cells A
  have P3 := hide p3
  have Q3 := hide q3
  have HLE := hide hle
  clear p3 q3 hle
  go_enter Try.func105, Try.ntmps105
  go_wp2_with (at_builtin; refine wpList_append_own _ rfl (.const (.slice none 0 0)) (.tmp 7) 64 rfl w.heap.size 3 i0 (.int .i64 0) 1 8 Try.underlying64 hi hz0 hz1 hz2 rfl (by decide) _ _ _ rfl (World.ownsRow_nil _ _ _ _) ⟨b1, off1, none⟩ A.length c1 (A.map (Value.int .i64)) rfl (by simp) hcells hone (by unfold maxLen; omega) (by omega) (by simp) ?_)
  intro v' w1 hown hgrow _
  have hb1 : Below w.heap.size w w1 := (Below.refl w.heap.size w).grown hgrow (by simp) (by intro k hk; simp [Value.ownBlock] at hk)
  obtain ⟨ao, cap, rfl, o1, o2, _, o4⟩ := ow_of_row hown P3.out
  rcases o4 with o4 | ⟨g, off, cur, rfl, hg, hh, hsz, hat⟩
  · omega
  have o2' : cap ≤ 9223372036854775807 := o2
  have HH := hide hh
  have HA := hide hat
  have HSZ := hide hsz
  clear hown hgrow hcells hone hh hat o2 hsz
  go_wp2
  go_loopw [6] (fun iv wr => ∃ (k : Nat) (t : Int) (lo : List Int) (cur' : Array Value), k ≤ A.length ∧ iv = .int .i64 k ∧ (0 ≤ t ∧ t ≤ 1) ∧ (k = A.length → t = 0) ∧ lo.length = k ∧ Limb lo ∧ val lo + vf B k = vf A k + pw k * t ∧ Wr w1 wr g cur' 3 ∧ cur'.size = cur.size ∧ At cur' .i64 off (lo ++ dec t (A.drop k))) (fun iv _ => A.length - (intOf iv).toNat)
  case atStart => exact ⟨0, 0, [], cur, Nat.zero_le _, rfl, by omega, fun _ => rfl, rfl, limb_nil, by simp [val, vf, pw], Wr.refl HH.out, rfl, by simpa [dec_zero] using HA.out⟩
  case round =>
    obtain ⟨k, t, lo, cur', hk, rfl, ht, hkt, hlol, hlo, hval, hwr, hcs, hat⟩ := hrel
    have HLO := hide hlo
    have HLL := hide hlol
    have HV := hide hval
    have HC := hide hcs
    have hww : Wr w1 wr g cur' 3 := hwr
    by_cases hlt : k < A.length
    · rw [dec_drop A k t hlt] at hat
      have ba := limb_getD P3.out k
      obtain ⟨a, hak⟩ : ∃ a, A.getD k 0 = a := ⟨_, rfl⟩
      rw [hak] at hat ba
      have dA : (k : Int) < (A.length : Int) := by omega
      have dC : (k : Int) < (cap : Int) := by omega
      by_cases hltB : k < B.length
      · have sB := hwr.sl hg hb1 rfl hB
        obtain ⟨b2, off2, rfl, hcb⟩ := sB.cells (by omega)
        have cb := hcb k hltB
        have bb := limb_getD Q3.out k
        obtain ⟨b, hbk⟩ : ∃ b, B.getD k 0 = b := ⟨_, rfl⟩
        rw [hbk] at cb bb
        have dB : (k : Int) < (B.length : Int) := by omega
        have cd := hat.cell hwr.here k (by simp; omega)
        rw [getD_mid _ _ _ _ HLL.out] at cd
        have fd := hwr.free (off + k)
        have hat2 := hat.set k (a - t - b)
        rw [set_mid _ _ _ _ _ HLL.out] at hat2
        have hw2 := (hwr.set (off + k) (.int .i64 (a - t - b))).drew
        have HC2 : Hid ((cur'.setIfInBounds (off + k) (.int .i64 (a - t - b))).size = cur.size) := by show _ = _; rw [Array.size_setIfInBounds]; exact HC.out
        generalize hcur2 : cur'.setIfInBounds (off + k) (.int .i64 (a - t - b)) = cur2 at hat2 hw2 HC2
        have X2 := hide hat2
        have W2 := hide hw2
        have KB := hide hbk
        have KA := hide hak
        clear sB hcb hcur2 hat hwr hww hat2 hw2 hbk hak hlol hlo hval hcs
        go_wp2
        go_region
        generalize (wr.setCell ⟨g, off + k, none⟩ (.int .i64 (a - t - b))).drew = W at W2 ⊢
        have hat2 := X2.out
        have hw2 := W2.out
        have hak := KA.out
        have hbk := KB.out
        clear X2 W2 KA KB cd fd
        have hsv : Hid (val (lo ++ [a - t - b]) + vf B (k + 1) = vf A (k + 1) + pw (k + 1) * 0) := less_val (t' := 0) HLL.out hak hbk (by omega) HV.out
        have hsv1 : Hid (val (lo ++ [a - t - b + 10000]) + vf B (k + 1) = vf A (k + 1) + pw (k + 1) * 1) := less_val (t' := 1) HLL.out hak hbk (by omega) HV.out
        have htop : Hid (A.length = k + 1 → 0 ≤ a - t - b) := fun h => less_top HLL.out h hBA HLE.out HLO.out hak hbk (by omega) HV.out
        have cs := hat2.cell hw2.here k (by have := HLL.out; simp; omega)
        rw [getD_mid _ _ _ _ HLL.out] at cs
        have fs := hw2.free (off + k)
        by_cases hneg : a - t - b < 0
        · have hk1 : k + 1 < A.length := by
            apply Classical.byContradiction
            intro hn
            have := htop.out (by omega)
            omega
          have hat3 := hat2.set k (a - t - b + 10000)
          rw [set_mid _ _ _ _ _ HLL.out] at hat3
          have hw3 := (hw2.set (off + k) (.int .i64 (a - t - b + 10000)))
          have dB1 : (k : Int) + 1 < (A.length : Int) := by omega
          have e3 : lo ++ (a - t - b + 10000) :: A.drop (k + 1) = (lo ++ [a - t - b + 10000]) ++ A.getD (k + 1) 0 :: A.drop (k + 1 + 1) := by rw [drop_getD A (k + 1) hk1]; simp
          have HLL3 : (lo ++ [a - t - b + 10000]).length = k + 1 := by simp; exact HLL.out
          rw [e3] at hat3
          obtain ⟨a', hak'⟩ : ∃ a', A.getD (k + 1) 0 = a' := ⟨_, rfl⟩
          have ba' := limb_getD P3.out (k + 1)
          rw [hak'] at hat3 ba'
          have e2 : lo ++ (a - t - b) :: A.drop (k + 1) = (lo ++ [a - t - b]) ++ A.getD (k + 1) 0 :: A.drop (k + 1 + 1) := by rw [drop_getD A (k + 1) hk1]; simp
          have cs3 := hat2.cell hw2.here (k + 1) (by have := HLL.out; simp; omega)
          rw [e2, getD_mid _ _ _ _ (by simp; exact HLL.out), hak'] at cs3
          have fs3 := hw2.free (off + (k + 1))
          have fs4 := hw3.free (off + (k + 1))
          have hat4 := hat3.set (k + 1) (a' - 1)
          rw [set_mid _ _ _ _ _ HLL3] at hat4
          have hw4 := hw3.set (off + (k + 1)) (.int .i64 (a' - 1))
          rw [show (lo ++ [a - t - b + 10000]) ++ (a' - 1) :: A.drop (k + 1 + 1) = (lo ++ [a - t - b + 10000]) ++ dec 1 (A.drop (k + 1)) from by rw [dec_drop A (k + 1) 1 hk1, hak']] at hat4
          have HF := hide hat4
          have HW4 := hide hw4
          clear hat2 hat3 hat4 e3 e2 hw2 hw3 hw4 HLL3 hak hak' hbk hsv htop
          go_wp2
          go_roundw
          case rel => exact ⟨k + 1, 1, lo ++ [a - t - b + 10000], _, by omega, by go_num, by omega, fun h => by omega, by simp; exact HLL.out, limb_append.2 ⟨HLO.out, limb_cons.2 ⟨by omega, limb_nil⟩⟩, hsv1.out, HW4.out, by rw [Array.size_setIfInBounds, Array.size_setIfInBounds]; exact HC2.out, HF.out⟩
          case measure => simp [intOf]; omega
        · have HF : Hid (At cur2 .i64 off ((lo ++ [a - t - b]) ++ dec 0 (A.drop (k + 1)))) := by rw [dec_zero, List.append_assoc]; exact hat2
          have HW2 := hide hw2
          have HK := hide (show k + 1 ≤ A.length by omega)
          have HD := hide hsv.out
          clear hat2 hw2 hak hbk hsv hsv1 htop
          go_wp2
          go_roundw
          case rel => exact ⟨k + 1, 0, lo ++ [a - t - b], cur2, HK.out, by go_num, by omega, fun _ => rfl, by simp; exact HLL.out, limb_append.2 ⟨HLO.out, limb_cons.2 ⟨by omega, limb_nil⟩⟩, HD.out, HW2.out, HC2.out, HF.out⟩
          case measure => simp [intOf]; omega
      · have hbk := getD_past B k hltB
        have dB : ¬ (k : Int) < (B.length : Int) := by omega
        have hat2 : At cur' .i64 off (lo ++ (a - t) :: A.drop (k + 1)) := hat
        have hw2 := hwr
        have HC2 := HC
        generalize cur' = cur2 at hat2 hw2 HC2
        clear hat hww hcs hval hlo hlol
        have hsv : Hid (val (lo ++ [a - t]) + vf B (k + 1) = vf A (k + 1) + pw (k + 1) * 0) := less_val (t' := 0) HLL.out hak hbk (by omega) HV.out
        have hsv1 : Hid (val (lo ++ [a - t + 10000]) + vf B (k + 1) = vf A (k + 1) + pw (k + 1) * 1) := less_val (t' := 1) HLL.out hak hbk (by omega) HV.out
        have htop : Hid (A.length = k + 1 → 0 ≤ a - t) := fun h => less_top HLL.out h hBA HLE.out HLO.out hak hbk (by omega) HV.out
        have cs := hat2.cell hw2.here k (by have := HLL.out; simp; omega)
        rw [getD_mid _ _ _ _ HLL.out] at cs
        have fs := hw2.free (off + k)
        by_cases hneg : a - t < 0
        · have hk1 : k + 1 < A.length := by
            apply Classical.byContradiction
            intro hn
            have := htop.out (by omega)
            omega
          have hat3 := hat2.set k (a - t + 10000)
          rw [set_mid _ _ _ _ _ HLL.out] at hat3
          have hw3 := (hw2.set (off + k) (.int .i64 (a - t + 10000)))
          have dB1 : (k : Int) + 1 < (A.length : Int) := by omega
          have e3 : lo ++ (a - t + 10000) :: A.drop (k + 1) = (lo ++ [a - t + 10000]) ++ A.getD (k + 1) 0 :: A.drop (k + 1 + 1) := by rw [drop_getD A (k + 1) hk1]; simp
          have HLL3 : (lo ++ [a - t + 10000]).length = k + 1 := by simp; exact HLL.out
          rw [e3] at hat3
          obtain ⟨a', hak'⟩ : ∃ a', A.getD (k + 1) 0 = a' := ⟨_, rfl⟩
          have ba' := limb_getD P3.out (k + 1)
          rw [hak'] at hat3 ba'
          have e2 : lo ++ (a - t) :: A.drop (k + 1) = (lo ++ [a - t]) ++ A.getD (k + 1) 0 :: A.drop (k + 1 + 1) := by rw [drop_getD A (k + 1) hk1]; simp
          have cs3 := hat2.cell hw2.here (k + 1) (by have := HLL.out; simp; omega)
          rw [e2, getD_mid _ _ _ _ (by simp; exact HLL.out), hak'] at cs3
          have fs3 := hw2.free (off + (k + 1))
          have fs4 := hw3.free (off + (k + 1))
          have hat4 := hat3.set (k + 1) (a' - 1)
          rw [set_mid _ _ _ _ _ HLL3] at hat4
          have hw4 := hw3.set (off + (k + 1)) (.int .i64 (a' - 1))
          rw [show (lo ++ [a - t + 10000]) ++ (a' - 1) :: A.drop (k + 1 + 1) = (lo ++ [a - t + 10000]) ++ dec 1 (A.drop (k + 1)) from by rw [dec_drop A (k + 1) 1 hk1, hak']] at hat4
          have HF := hide hat4
          have HW4 := hide hw4
          clear hat2 hat3 hat4 e3 e2 hw2 hw3 hw4 HLL3 hak hak' hbk hsv htop
          go_wp2
          go_roundw
          case rel => exact ⟨k + 1, 1, lo ++ [a - t + 10000], _, by omega, by go_num, by omega, fun h => by omega, by simp; exact HLL.out, limb_append.2 ⟨HLO.out, limb_cons.2 ⟨by omega, limb_nil⟩⟩, hsv1.out, HW4.out, by rw [Array.size_setIfInBounds, Array.size_setIfInBounds]; exact HC2.out, HF.out⟩
          case measure => simp [intOf]; omega
        · have HF : Hid (At cur2 .i64 off ((lo ++ [a - t]) ++ dec 0 (A.drop (k + 1)))) := by rw [dec_zero, List.append_assoc]; exact hat2
          have HW2 := hide hw2
          have HK := hide (show k + 1 ≤ A.length by omega)
          have HD := hide hsv.out
          clear hat2 hw2 hak hbk hsv hsv1 htop
          go_wp2
          go_roundw
          case rel => exact ⟨k + 1, 0, lo ++ [a - t], cur2, HK.out, by go_num, by omega, fun _ => rfl, by simp; exact HLL.out, limb_append.2 ⟨HLO.out, limb_cons.2 ⟨by omega, limb_nil⟩⟩, HD.out, HW2.out, HC2.out, HF.out⟩
          case measure => simp [intOf]; omega
    · have hkn : k = A.length := by omega
      have ht0 := hkt hkn
      have hvv : val lo = val A - val B := by
        have h9 := HV.out
        rw [ht0, Int.mul_zero, Int.add_zero, vf_all A _ (by omega), vf_all B _ (by omega)] at h9
        omega
      have how : Ow w.heap.size wr (.slice (some ⟨g, off, none⟩) A.length cap) lo := by
        rw [List.drop_of_length_le (by omega)] at hat
        simp only [dec, List.append_nil] at hat
        exact ⟨_, cap, by rw [hlol, hkn], by omega, o2', hlo, .inr ⟨g, off, cur', rfl, hg, hwr.here, by rw [hcs]; exact HSZ.out, hat⟩⟩
      have D : Hid (Dl w.heap.size wr (.slice (some ⟨g, off, none⟩) A.length cap) (val A - val B) A.length) := ⟨lo, how, hvv, by omega⟩
      have hbel : Below w.heap.size w wr := hb1.trans (hwr.below hg)
      have dA : ¬ (k : Int) < (A.length : Int) := by omega
      clear hvv how hat hwr hww hcs hval hlo hlol ht0 hkt hkn
      go_wp2
      go_ret
      exact ⟨_, rfl, D.out, hbel⟩

end Dm
end Go.Proofs.Ytkdcgnooeojjgab
