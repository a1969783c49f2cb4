/-
  The given statement on GlyphScans, for every input: the call answers true, and each argument reads behind it as it read before; and its card. Its condition: the two tables of unicode/utf8 are laid as the row lists them; the card ties that to the program's text. Beside it: Tokens held against themselves, places and all. GlyphScans answers true, whatever text it is handed: the walk.
-/
import Derived.Test.YtgfglefgpgckiaaDoorRows
import Derived.Test.YtgfglefgpgckiaaDoorCards
import Derived.Test.YtgfglefgpgckiaaDoorTie
import Derived.ProofKit
import Derived.OpenShut
import Derived.ShutString
import Derived.ChangeOld
import Derived.SizedLaws
import Derived.Lib.SmallJoins
import Derived.Lib.LaidU8
import Derived.Lib.LaidIn
import Derived.Deep.DeepHandedRow
import Derived.Test.YtgfglefgpgckiaaDoorGLnLawZ2
namespace Go.Proofs.YtgfglefgpgckiaaDoor
namespace Lm
open Go Go.RowKit
section
variable {C : World → Prop} {a : Act} {o : Oper} {K : Act → Prop}
theorem quietT_idx (x y : Operand) (h : o.op = .indexAddr 23 x y) (b off n c k : Nat) (hx : a.eval x = .slice (some ⟨b, off, none⟩) n c) (hy : a.eval y = .int .i64 (k : Int)) (hl : (k : Int) < (n : Int)) (hk : K (a.put o.dst (.pointer (some ⟨b, off + k * 6, none⟩)))) : o.quiet Tryd.prog a C K := by
  refine ⟨.pointer (some ⟨b, off + k * 6, none⟩), fun w _ => ?_, hk⟩
  obtain ⟨dst, op, ty, pos, after, guard⟩ := o
  simp only at h
  subst h
  unfold Oper.quietAt
  simp only [execOp, hx, hy]
  go_simp
theorem quietT_fld0 (x : Operand) (h : o.op = .fieldAddr 35 x 0) (b off : Nat) (hx : a.eval x = .pointer (some ⟨b, off, none⟩)) (hk : K (a.put o.dst (.pointer (some ⟨b, off, none⟩)))) : o.quiet Tryd.prog a C K := by
  refine ⟨.pointer (some ⟨b, off, none⟩), fun w _ => ?_, hk⟩
  obtain ⟨dst, op, ty, pos, after, guard⟩ := o
  simp only at h
  subst h
  unfold Oper.quietAt
  simp only [execOp, hx]
  go_simp
theorem quietT_fld1 (x : Operand) (h : o.op = .fieldAddr 35 x 1) (b off : Nat) (hx : a.eval x = .pointer (some ⟨b, off, none⟩)) (hk : K (a.put o.dst (.pointer (some ⟨b, off + 1, none⟩)))) : o.quiet Tryd.prog a C K := by
  refine ⟨.pointer (some ⟨b, off + 1, none⟩), fun w _ => ?_, hk⟩
  obtain ⟨dst, op, ty, pos, after, guard⟩ := o
  simp only at h
  subst h
  unfold Oper.quietAt
  simp only [execOp, hx]
  go_simp
theorem quietT_fld2 (x : Operand) (h : o.op = .fieldAddr 35 x 2) (b off : Nat) (hx : a.eval x = .pointer (some ⟨b, off, none⟩)) (hk : K (a.put o.dst (.pointer (some ⟨b, off + 2, none⟩)))) : o.quiet Tryd.prog a C K := by
  refine ⟨.pointer (some ⟨b, off + 2, none⟩), fun w _ => ?_, hk⟩
  obtain ⟨dst, op, ty, pos, after, guard⟩ := o
  simp only at h
  subst h
  unfold Oper.quietAt
  simp only [execOp, hx]
  go_simp
theorem quiet_lds (x : Operand) (h : o.op = .load 9 x) (p : Addr) (z : ByteArray) (hx : a.eval x = .pointer (some p)) (hc : ∀ w, C w → w.cell? p = some (.string z)) (hk : K (a.put o.dst (.string z))) : o.quiet Tryd.prog a C K := by
  refine ⟨.string z, fun w hw => ?_, hk⟩
  have h1 := hc w hw
  obtain ⟨dst, op, ty, pos, after, guard⟩ := o
  simp only at h
  subst h
  unfold Oper.quietAt
  simp only [execOp, hx]
  go_simp
theorem quiet_neqs (x y : Operand) (h : o.op = .binOp .neq 9 x y 9) (z : ByteArray) (hx : a.eval x = .string z) (hy : a.eval y = .string z) (hk : K (a.put o.dst (.bool false))) : o.quiet Tryd.prog a C K := by
  refine ⟨.bool false, fun w _ => ?_, hk⟩
  obtain ⟨dst, op, ty, pos, after, guard⟩ := o
  simp only at h
  subst h
  unfold Oper.quietAt
  simp only [execOp, hx, hy]
  go_simp
end
set_option maxRecDepth 20000 in
set_option maxHeartbeats 4000000 in
theorem same_eq (w : World) (va vb : Value) (l : List Tk) (ha : Ts w va l) (hb : Ts w vb l) :
    Calls Tryd.prog 14 #[va, vb] w fun r w' => r = .returned (.bool true) ∧ Below w.heap.size w w' := by
  obtain ⟨aa, ca, rfl, na⟩ := ha.parts
  obtain ⟨ab, cb, rfl, nb⟩ := hb.parts
  have HA := hide ha
  have HB := hide hb
  clear ha hb
  obtain ⟨n, hn⟩ : ∃ n, l.length = n := ⟨_, rfl⟩
  rw [hn] at HA HB na ⊢
  have HN := hide hn
  clear hn nb
  go_enter Tryd.func14, Tryd.ntmps14
  go_wp2
  go_loopw [5] (fun iv wr => ∃ (i : Nat), iv = .int .i64 i ∧ i ≤ n ∧ Below w.heap.size w wr) (fun iv _ => n - (intOf iv).toNat)
  case atStart => exact ⟨0, rfl, Nat.zero_le _, Below.refl _ _⟩
  case round =>
    obtain ⟨i, rfl, hi, hbw⟩ := hrel
    have HW := hide hbw
    by_cases hlt : i < n
    · have h1 : l[i]? = some (l[i]'(by rw [HN.out]; exact hlt)) := List.getElem?_eq_getElem _
      obtain ⟨ba, oa, rfl, ga⟩ := HA.out.tok h1
      obtain ⟨bb, ob, rfl, gb⟩ := HB.out.tok h1
      generalize l[i]'(by rw [HN.out]; exact hlt) = t at ga gb
      have hlt' : (i : Int) < (n : Int) := by omega
      have GA : Hid (∀ W, Below wr.heap.size wr W → TkC W ba (oa + i * 6) t) := fun W hW => (ga.below hbw).below hW
      have GB : Hid (∀ W, Below wr.heap.size wr W → TkC W bb (ob + i * 6) t) := fun W hW => (gb.below hbw).below hW
      clear h1 ga gb hbw
      go_wp2_with fail
      refine wp_region_quiet (C := fun W => Below wr.heap.size wr W) (by kernel_rfl) (by kernel_rfl) ⟨rfl, rfl, rfl, Nat.le_refl _, fun _ _ => rfl⟩ ?_
      simp only []
      go_big_quiet_want
      go_big_quiet_op
      go_big_quiet_on
      go_big_quiet_want
      go_big_quiet_op
      go_big_quiet_on
      go_big_quiet_want
      refine quietT_idx _ _ rfl ba oa n ca i (by simp [Act.eval]) (by simp [Act.eval]) hlt' ?_
      go_simp
      go_big_quiet_on
      go_big_quiet_want
      refine quietT_fld0 _ rfl ba (oa + i * 6) (by simp [Act.eval]) ?_
      go_simp
      go_big_quiet_on
      go_big_quiet_want
      refine quiet_ldi _ rfl ⟨ba, oa + i * 6, none⟩ t.kind (by simp [Act.eval]) (fun W hW => (GA.out W hW).g0) ?_
      go_simp
      go_big_quiet_on
      go_big_quiet_want
      go_big_quiet_op
      go_big_quiet_on
      go_big_quiet_want
      go_big_quiet_op
      go_big_quiet_on
      go_big_quiet_want
      refine quietT_idx _ _ rfl bb ob n cb i (by simp [Act.eval]) (by simp [Act.eval]) hlt' ?_
      go_simp
      go_big_quiet_on
      go_big_quiet_want
      refine quietT_fld0 _ rfl bb (ob + i * 6) (by simp [Act.eval]) ?_
      go_simp
      go_big_quiet_on
      go_big_quiet_want
      refine quiet_ldi _ rfl ⟨bb, ob + i * 6, none⟩ t.kind (by simp [Act.eval]) (fun W hW => (GB.out W hW).g0) ?_
      go_simp
      go_big_quiet_on
      go_big_quiet_want
      refine quiet_neq _ _ rfl t.kind (by simp [Act.eval]) (by simp [Act.eval]) ?_
      go_simp
      go_big_quiet_on
      go_big_quiet_want
      go_big_quiet_op
      go_big_quiet_on
      go_big_quiet_want
      go_big_quiet_op
      go_big_quiet_on
      go_big_quiet_want
      go_big_quiet_op
      go_big_quiet_on
      go_big_quiet_want
      refine quietT_idx _ _ rfl ba oa n ca i (by simp [Act.eval]) (by simp [Act.eval]) hlt' ?_
      go_simp
      go_big_quiet_on
      go_big_quiet_want
      refine quietT_fld1 _ rfl ba (oa + i * 6) (by simp [Act.eval]) ?_
      go_simp
      go_big_quiet_on
      go_big_quiet_want
      refine quiet_lds _ rfl ⟨ba, oa + i * 6 + 1, none⟩ t.text (by simp [Act.eval]) (fun W hW => (GA.out W hW).g1) ?_
      go_simp
      go_big_quiet_on
      go_big_quiet_want
      go_big_quiet_op
      go_big_quiet_on
      go_big_quiet_want
      go_big_quiet_op
      go_big_quiet_on
      go_big_quiet_want
      refine quietT_idx _ _ rfl bb ob n cb i (by simp [Act.eval]) (by simp [Act.eval]) hlt' ?_
      go_simp
      go_big_quiet_on
      go_big_quiet_want
      refine quietT_fld1 _ rfl bb (ob + i * 6) (by simp [Act.eval]) ?_
      go_simp
      go_big_quiet_on
      go_big_quiet_want
      refine quiet_lds _ rfl ⟨bb, ob + i * 6 + 1, none⟩ t.text (by simp [Act.eval]) (fun W hW => (GB.out W hW).g1) ?_
      go_simp
      go_big_quiet_on
      go_big_quiet_want
      refine quiet_neqs _ _ rfl t.text (by simp [Act.eval]) (by simp [Act.eval]) ?_
      go_simp
      go_big_quiet_on
      go_big_quiet_want
      refine quiet_pickf _ _ _ rfl false (by simp [Act.eval]) (by simp [Act.eval]) ?_
      go_simp
      go_big_quiet_on
      go_big_quiet_want
      go_big_quiet_op
      go_big_quiet_on
      go_big_quiet_want
      go_big_quiet_op
      go_big_quiet_on
      go_big_quiet_want
      go_big_quiet_op
      go_big_quiet_on
      go_big_quiet_want
      refine quietT_idx _ _ rfl ba oa n ca i (by simp [Act.eval]) (by simp [Act.eval]) hlt' ?_
      go_simp
      go_big_quiet_on
      go_big_quiet_want
      refine quietT_fld2 _ rfl ba (oa + i * 6) (by simp [Act.eval]) ?_
      go_simp
      go_big_quiet_on
      go_big_quiet_want
      refine quiet_ldp _ rfl ba (oa + i * 6 + 2) t.pl (by simp [Act.eval]) (fun W hW => (GA.out W hW).g2) (fun W hW => (GA.out W hW).g3) (fun W hW => (GA.out W hW).g4) (fun W hW => (GA.out W hW).g5) ?_
      go_simp
      go_big_quiet_on
      go_big_quiet_want
      go_big_quiet_op
      go_big_quiet_on
      go_big_quiet_want
      go_big_quiet_op
      go_big_quiet_on
      go_big_quiet_want
      refine quietT_idx _ _ rfl bb ob n cb i (by simp [Act.eval]) (by simp [Act.eval]) hlt' ?_
      go_simp
      go_big_quiet_on
      go_big_quiet_want
      refine quietT_fld2 _ rfl bb (ob + i * 6) (by simp [Act.eval]) ?_
      go_simp
      go_big_quiet_on
      go_big_quiet_want
      refine quiet_ldp _ rfl bb (ob + i * 6 + 2) t.pl (by simp [Act.eval]) (fun W hW => (GB.out W hW).g2) (fun W hW => (GB.out W hW).g3) (fun W hW => (GB.out W hW).g4) (fun W hW => (GB.out W hW).g5) ?_
      go_simp
      go_big_quiet_on
      go_big_quiet_want
      refine quiet_call 13 _ _ _ rfl t.pl.v t.pl.v (by simp [Act.eval]) (by simp [Act.eval]) (.bool true) enters_same (fun W hW => (sameplace_eq W t.pl).mono fun r W' h => ⟨h.1, hW.trans (h.2.mono hW.size)⟩) ?_
      go_simp
      go_big_quiet_on
      go_big_quiet_want
      refine quiet_not _ rfl (by simp [Act.eval]) ?_
      go_simp
      go_big_quiet_on
      go_big_quiet_want
      refine quiet_pickf _ _ _ rfl false (by simp [Act.eval]) (by simp [Act.eval]) ?_
      go_simp
      go_big_quiet_on
      refine wpQuiet_nil ?_
      intro W hW
      have HWW := hide (HW.out.trans (hW.mono HW.out.size))
      clear hW
      go_wp2
      go_roundw
      case rel => exact ⟨i + 1, by go_num, by omega, HWW.out⟩
      case measure => simp [intOf]; omega
    · have hlt' : decide ((i : Int) < (n : Int)) = false := by simp; omega
      clear hbw
      go_wp2
      go_ret
      exact ⟨by rfl, HW.out⟩
end Lm
end Go.Proofs.YtgfglefgpgckiaaDoor

namespace Go.Proofs.YtgfglefgpgckiaaDoor
namespace Lm
open Go Go.RowKit
def ScU (w w' : World) (r : Ending) (k : Int) (P : Pl) (l : List Tk) : Prop := ∃ v, r = .returned (.tuple #[v, .int .i64 k, P.v]) ∧ w'.ownsRow w.heap.size 35 6 v l.length (tflat l)
def soK : SO → Int
  | .bad k _ => k
  | .ok _ => 0
def soP : SO → Pl
  | .bad _ p => p
  | .ok _ => plz
def soL : SO → List Tk
  | .bad _ _ => []
  | .ok l => l
theorem scanO_u {w w' : World} {r : Ending} {o : SO} (h : ScanO w w' r o) : ScU w w' r (soK o) (soP o) (soL o) := by
  cases o with
  | bad k p => exact ⟨_, h, World.ownsRow_nil _ _ _ _⟩
  | ok l => exact h
theorem scans_both (w : World) (s : ByteArray) :
    Calls Tryd.prog 10 #[.string s] w fun r w' => Below w.heap.size w w' ∧ ∃ k P l, ScU w w' r k P l ∧ ∀ W, Tabs W → Calls Tryd.prog 11 #[.string s] W fun r w' => Below W.heap.size W w' ∧ ScU W w' r k P l := by
  by_cases hs : 4096 < s.size
  · refine (rscan_long w s hs).mono ?_
    rintro r w' ⟨hb, rfl⟩
    refine ⟨hb, 2, plz, [], ⟨_, rfl, World.ownsRow_nil _ _ _ _⟩, fun W _ => (scan_long W s hs).mono ?_⟩
    rintro r w' ⟨hb, rfl⟩
    exact ⟨hb, _, rfl, World.ownsRow_nil _ _ _ _⟩
  · obtain ⟨gs, e, hQ⟩ := snd_is s s.size pl0 (by simp [pl0])
    refine (rscan_short w s (by omega) gs e hQ).mono ?_
    rintro r w' ⟨hb, o, hR, hO⟩
    refine ⟨hb, _, _, _, scanO_u hO, fun W hT => (scan_short W s hT (by omega)).mono ?_⟩
    rintro r w2 ⟨hb2, gs2, e2, o2, h1, h2, h3⟩
    obtain ⟨rfl, rfl⟩ := h1.one hQ
    obtain rfl := h2.one hR
    exact ⟨hb2, scanO_u h3⟩
set_option maxRecDepth 20000 in
set_option maxHeartbeats 4000000 in
theorem glyphscans_any (w : World) (hT : Tabs w) (s : ByteArray) :
    Calls Tryd.prog 3 #[.string s] w fun r w' => r = .returned (.bool true) ∧ Below w.heap.size w w' := by
  have HT := hide hT
  clear hT
  go_enter Tryd.func3, Tryd.ntmps3
  go_wp2_with fail
  refine (gawake_any w HT.out).mono ?_
  rintro r w1 ⟨rfl, hb1⟩
  go_wp2_with fail
  refine (scans_both w1 s).mono ?_
  rintro r w2 ⟨hb2, k, P, l, ⟨v, rfl, hown⟩, KG⟩
  have HKG := hide KG
  have hTs : Ts w2 v l := Ts.own hown
  obtain ⟨ao, cap, rfl, _⟩ := hTs.parts
  have hb12 : Below w.heap.size w w2 := hb1.trans (hb2.mono hb1.size)
  clear hown KG
  obtain ⟨L, hL⟩ : ∃ L, l.length = L := ⟨_, rfl⟩
  rw [hL] at hTs
  simp only [hL]
  unfold Pl.v
  go_wp2_with fail
  have hp3 : PlB (w2.alloc (.cells #[.int .i64 P.b, .int .i64 P.g, .int .i64 P.l, .int .i64 P.c] 25)) w2.heap.size P := heap_alloc_new w2 _
  have hG3 : Ts (w2.alloc (.cells #[.int .i64 P.b, .int .i64 P.g, .int .i64 P.l, .int .i64 P.c] 25)) (.slice ao L cap) l := hTs.below ((Below.refl _ _).alloc (Nat.le_refl _) _)
  have hb3 : Below w.heap.size w (w2.alloc (.cells #[.int .i64 P.b, .int .i64 P.g, .int .i64 P.l, .int .i64 P.c] 25)) := hb12.alloc hb12.size _
  have hs3 : (w2.alloc (.cells #[.int .i64 P.b, .int .i64 P.g, .int .i64 P.l, .int .i64 P.c] 25)).heap.size = w2.heap.size + 1 := World.size_alloc _ _
  generalize w2.alloc (.cells #[.int .i64 P.b, .int .i64 P.g, .int .i64 P.l, .int .i64 P.c] 25) = w3 at hp3 hG3 hb3 hs3 ⊢
  have hf3 : w2.heap.size < w3.heap.size := by omega
  generalize w2.heap.size = f at hp3 hf3 ⊢
  have HP := hide hp3
  have HG := hide hG3
  have HB := hide hb3
  have HLL := hide hL
  clear hL hTs hb12 hb1 hb2 hp3 hG3 hb3 hs3
  go_loopw [6] (fun kv wr => ∃ (m : Nat), kv = .int .i64 m ∧ m ≤ 2 ∧ Below w3.heap.size w3 wr) (fun kv _ => 2 - (intOf kv).toNat)
  case atStart => exact ⟨0, rfl, by omega, Below.refl _ _⟩
  case round =>
    obtain ⟨m, rfl, hm, hbw⟩ := hrel
    have HW := hide hbw
    clear hbw
    by_cases hlt : m < 2
    · have hlt' : (m : Int) < 2 := by omega
      go_wp2_with fail
      refine (HKG.out wr (HT.out.below (HB.out.trans (HW.out.mono HB.out.size)))).mono ?_
      rintro r w4 ⟨hb4, v4, rfl, hown4⟩
      have hT4 : Ts w4 v4 l := Ts.own hown4
      rw [HLL.out] at hown4
      have hb34 : Below w3.heap.size w3 w4 := HW.out.trans (hb4.mono HW.out.size)
      have hwr := HW.out.size
      have HT4 := hide hT4
      have HW4 := hide hb34
      have HG4 := hide (HG.out.below hb34)
      have HP4 := hide (HP.out.below hb34)
      clear hT4
      have hv4x : ∃ a4 c4, v4 = .slice a4 L c4 := by
        obtain ⟨a4, c4, h, _⟩ := HT4.out.parts
        rw [HLL.out] at h
        exact ⟨a4, c4, h⟩
      obtain ⟨a4, c4, rfl⟩ := hv4x
      have HOWN4 := hide hown4
      clear hown4
      unfold Pl.v
      go_wp2_with fail
      have hbA : Below w4.heap.size w4 (w4.alloc (.cells #[.int .i64 P.b, .int .i64 P.g, .int .i64 P.l, .int .i64 P.c] 25)) := (Below.refl _ _).alloc (Nat.le_refl _) _
      have hpA : PlB (w4.alloc (.cells #[.int .i64 P.b, .int .i64 P.g, .int .i64 P.l, .int .i64 P.c] 25)) w4.heap.size P := heap_alloc_new w4 _
      have HA := hide hbA
      generalize w4.alloc (.cells #[.int .i64 P.b, .int .i64 P.g, .int .i64 P.l, .int .i64 P.c] 25) = w5 at HA hpA hbA ⊢
      obtain ⟨_, p0, p1, p2, p3⟩ := (HP4.out.below hbA).cells
      obtain ⟨_, r0, r1, r2, r3⟩ := hpA.cells
      generalize w4.heap.size = aA at r0 r1 r2 r3 ⊢
      refine (num_any _ _).mono ?_
      rintro r w5' ⟨rfl, rfl⟩
      go_wp2_with fail
      refine (sameplace_eq _ P).mono ?_
      rintro r w6 ⟨rfl, hb6⟩
      go_wp2_with fail
      have hbC := hbA.trans (hb6.mono hbA.size)
      have HC := hide hbC
      refine (same_eq w6 _ _ l (HT4.out.below hbC) (HG4.out.below hbC)).mono ?_
      rintro r w7 ⟨rfl, hb7⟩
      have hbD := hbC.trans (hb7.mono hbC.size)
      have HB7 := hide (HW4.out.trans (hbD.mono HW4.out.size))
      obtain ⟨hl4, ⟨hv4, hn4⟩ | ⟨b4, cap4, cur4, hv4, hbB, hh4, hc1, hc2, hc3, hc4⟩⟩ := HOWN4.out
      · obtain ⟨rfl, rfl, rfl⟩ := (Value.slice.injEq .. ▸ hv4)
        clear hl4 hb4 hb34 hv4 hn4 p0 p1 p2 p3 r0 r1 r2 r3 hbA hpA hb6 hb7 hbC hbD HOWN4 HT4
        go_wp2_with fail
        go_loopw [10] (fun iv wr => iv = .int .i64 0 ∧ wr = w7) (fun _ _ => 0)
        case atStart => exact ⟨rfl, rfl⟩
        case round =>
          obtain ⟨rfl, rfl⟩ := hrel
          go_wp2
          go_roundw
          case rel => exact ⟨m + 1, by go_num, by omega, HB7.out⟩
          case measure => simp [intOf]; omega
      · obtain ⟨rfl, _, rfl⟩ := (Value.slice.injEq .. ▸ hv4)
        have hh7 : w7.heap[b4]? = some (.cells cur4 35 (0, 0)) := (hbD.block b4 (lt_of_heap hh4)).trans hh4
        have HH7 := hide hh7
        have hb4w : w3.heap.size ≤ b4 := by omega
        clear hl4 hb4 hb34 hv4 hh4 hh7 p0 p1 p2 p3 r0 r1 r2 r3 hbA hpA hb6 hb7 hbC hbD HOWN4 HT4 hc4
        go_wp2_with fail
        go_loopw [10] (fun iv wr => ∃ (i : Nat) (cur : Array Value), iv = .int .i64 i ∧ i ≤ L ∧ cur.size = c4 * 6 ∧ wr.heap[b4]? = some (.cells cur 35 (0, 0)) ∧ Tq w7 wr b4) (fun iv _ => L - (intOf iv).toNat)
        case atStart => exact ⟨0, cur4, rfl, Nat.zero_le _, hc3, HH7.out, Tq.refl _ _⟩
        case round =>
          obtain ⟨i, cur, rfl, hi, hcs, hh, ht⟩ := hrel
          have HT6 := hide ht
          have HH := hide hh
          clear hh ht
          have hbig : L ≤ 9223372036854775807 := by unfold maxLen at hc2; omega
          by_cases hil : i < L
          · have hil' : (i : Int) < (L : Int) := by omega
            obtain ⟨u, hu⟩ : ∃ u, wr.cell? ⟨b4, i * 6 + 1, none⟩ = some u := by
              rw [cell_of_row wr b4 _ cur _ _ HH.out, Array.getElem?_eq_getElem (by omega)]
              exact ⟨_, rfl⟩
            have fu := frozen_of_row wr b4 (i * 6 + 1) _ _ HH.out
            go_wp2
            go_roundw
            case rel =>
              refine ⟨i + 1, cur.setIfInBounds (i * 6 + 1) (.string ⟨#[109, 105, 110, 101]⟩), by go_num, by omega, by rw [Array.size_setIfInBounds]; exact hcs, ?_, HT6.out.set _ _⟩
              rw [heap_setCell_same _ _ _ _ _ _ HH.out]
            case measure => simp [intOf]; omega
          · have hil' : decide ((i : Int) < (L : Int)) = false := by simp; omega
            go_wp2
            go_roundw
            case rel => exact ⟨m + 1, by go_num, by omega, below_tq HB7.out HT6.out hb4w (Nat.le_refl _)⟩
            case measure => simp [intOf]; omega
    · have hlt' : decide ((m : Int) < 2) = false := by simp; omega
      go_wp2
      go_ret
      exact ⟨by rfl, HB.out.trans (HW.out.mono HB.out.size)⟩
end Lm
end Go.Proofs.YtgfglefgpgckiaaDoor

namespace Go.Proofs.YtgfglefgpgckiaaDoor
namespace glyphScansLaw
open Go.ChangeShapes Go.WideShapes Go.ChangeAt Go.RowKit
open Go.ChangeMaps (open_string shut_string)
theorem own : ownKnob Tryd.prog.godebug = none := by kernel_rfl
noncomputable def laidWorld (os : Os) : World :=
  let w0 := World.holding Tryd.prog os ⟨#[], #[], []⟩
  let put (h : Array Obj) (g : Nat) (cs : Array Value) : Array Obj := h.modify g fun
    | .cells _ t frozen => .cells cs t frozen
    | o => o
  let h1 := put w0.heap (Tryd.lays197_ren.g 3) (Lib.firstTab.map fun z => Value.int .u8 z).toArray
  let h2 := put h1 (Tryd.lays197_ren.g 4) ((List.range 16).flatMap fun i => [Value.int .u8 (Lib.accLo i), Value.int .u8 (Lib.accHi i)]).toArray
  { w0 with heap := h2 }
theorem laid_met (os : Os) : laidMet Tryd.prog Rows.glyphScansRow.laid ((laidWorld os).forCall (fun _ _ => 0) ⟨#[], #[.string ⟨#[]⟩], []⟩).memory :=
  laidMet_of_run' 8 (by kernel_rfl) (by kernel_rfl)
theorem tabs {W : World} (h : laidMet Tryd.prog Rows.glyphScansRow.laid W) : Lm.Tabs W :=
  utf8Tabs_of_reads (ρ := Tryd.lays197_ren) { Tryd.lays197 with } ⟨by kernel_rfl, by kernel_rfl, by kernel_rfl, by kernel_rfl, by kernel_rfl, by kernel_rfl, by kernel_rfl⟩
    (Lib.laidMet.reads h (show ("unicode/utf8.first", Lib.firstData) ∈ Rows.glyphScansRow.laid from by
      rw [show Lib.firstData = Rows.laid_unicode_utf8_first from by kernel_rfl]
      exact .tail _ (.head _)))
    (Lib.laidMet.reads h (show ("unicode/utf8.acceptRanges", Lib.acceptData) ∈ Rows.glyphScansRow.laid from by
      rw [show Lib.acceptData = Rows.laid_unicode_utf8_acceptRanges from by kernel_rfl]
      exact .head _))
theorem reads (os : Os) {H : Type} (enc : TypeId × Value → H) : ∃ places, DataW.whole enc Tryd.prog ((laidWorld os).forCall (fun _ _ => 0) ⟨#[], #[.string ⟨#[]⟩], []⟩).memory Tryd.f3.params.toList Rows.glyphScansSpec.vars false (#[.string ⟨#[]⟩] : Array Value).toList 8 = some ([.lit (.string [])], [], places) :=
  ⟨[], by kernel_rfl⟩
set_option linter.unusedVariables false in
set_option maxRecDepth 100000 in
theorem lifted (os : Os) (started : os.Started) (H : Type) (enc : TypeId × Value → H) (F : Stop.Interp) :
    ReturnsInHanded {} Tryd.checked os 3 .any ((OpenSpec.ofChange Rows.glyphScansSpec).preRow enc Tryd.prog Tryd.f3 Rows.glyphScansRow.domain false Rows.glyphScansRow.laid) (((OpenSpec.ofChange Rows.glyphScansSpec).at F).post enc Tryd.prog Tryd.f3 false true false false) := by
  obtain ⟨places, hx⟩ := reads os enc
  refine returnsInHanded_of_row (C := Tryd.checked) (s := (OpenSpec.ofChange Rows.glyphScansSpec)) own started (by kernel_rfl) Tryd.func3
    (witness_row_at (enc := enc) (C := Tryd.checked) false (laidWorld os) #[.string ⟨#[]⟩] rfl (by kernel_rfl) (by kernel_rfl) (by kernel_rfl)
      (OpenSpec.preRow_of_cond 8 hx (by kernel_rfl) (fun k hk => by cases hk) (by kernel_rfl) (laid_met os))) ?_
  intro W base args ds gs before hval0 hW hcnd0 hcond hsz0 hL hj2 hj3
  have hTabs : Lm.Tabs W := tabs hL
  have hval : ∀ (j : Nat) t v, Tryd.f3.params[j]? = some t → args[j]? = some v → Value.okWide Tryd.prog W .any base t v := hval0
  have hW' := hW
  obtain ⟨p, q, hA0, hV, rfl, hfz, hnd⟩ := hW
  have hA : DataW.TrodAll enc Tryd.prog W 0 (fun _ => true) true Tryd.f3.params.toList args.toList ds p := hA0
  have hsz : (DataW.weightsEach Tryd.prog (Tryd.f3.params.toList ++ Rows.glyphScansSpec.plain.varTypes Tryd.prog) (ds ++ gs)).all (· ≤ reachBytes) = true := hsz0
  rw [Tryd.params3] at hA hval hsz
  obtain ⟨v0, vs0, d0, ds0, p0, q0, hargs, rfl, rfl, h0, r0⟩ := trodAll_cons hA
  obtain ⟨rfl, rfl, rfl⟩ := trodAll_nil r0
  obtain rfl : args = #[v0] := by cases args; simp_all
  obtain ⟨rfl, rfl⟩ := trodVars_none hV
  obtain ⟨a0, rfl, rfl, rfl, w0⟩ := open_string Tryd.underlying9 (hval 0 9 v0 rfl rfl) h0
  clear hA0 hval0
  refine (Lm.glyphscans_any W hTabs a0).mono fun e W' ⟨he, bel⟩ => ?_
  subst he
  exact ⟨_, rfl, _, _, _, [], _, [], hW', trodAll_mk1 (shut_bool Tryd.underlying4 _), (trodAll_cons_mk (shut_string Tryd.underlying9 w0) trodAll_mk0), rfl, bel.frame _, fun h => by cases h⟩
theorem said : Rows.GlyphScansSaid :=
  OpenClaim.holds_of_cond 3 Tryd.f3 rfl rfl rfl rfl rfl rfl rfl ⟨rfl, rfl, rfl, rfl, rfl⟩ rfl rfl rfl rfl rfl (by kernel_rfl) Tryd.func3 (by kernel_rfl)
    (of_decide_eq_true (by kernel_rfl)) (by unfold Func.isWrapper; first | (rw [if_pos (by decide +kernel)]; kernel_rfl) | (rw [if_neg (by decide +kernel)]; exact ⟨rfl, rfl⟩))
    (fun os started H enc _ F => by rw [OpenClaim.pre_eq_preRow]; exact lifted os started H enc F)
theorem plain (f : FuncId) (fn : Func) (hf : Tryd.pinned.checked.prog.funcNamed "rafter/rafterlaw04.GlyphScans" = some f) (hfn : Tryd.pinned.checked.prog.funcs[f]? = some fn) :
    false = Tryd.pinned.checked.prog.looks [] ∧ ∀ (j : Nat) t, fn.params[j]? = some t → Tryd.pinned.checked.prog.wantsStandIn t = false := by
  obtain rfl : f = 3 := Option.some.inj ((show Tryd.prog.funcNamed "rafter/rafterlaw04.GlyphScans" = some 3 by kernel_rfl).symm.trans hf) |>.symm
  obtain rfl : fn = Tryd.f3 := (Option.some.inj (Tryd.func3.symm.trans hfn)).symm
  refine ⟨by kernel_rfl, fun j t ht => ?_⟩
  rw [Tryd.params3] at ht
  have hm := Array.mem_of_getElem? ht
  simp at hm
  obtain rfl := hm
  exact (show Tryd.prog.wantsStandIn 9 = false by kernel_rfl)
theorem card : Rows.GlyphScansCardSaid :=
  Claim7.holds_tied_plain_at .later [] _ _ _ _ said (fun _ h => by cases h) (by kernel_rfl) (fun _ h => by cases h) glyphScans_row_tie rfl ⟨rfl, rfl⟩ (by kernel_rfl) rfl plain (by kernel_rfl)
end glyphScansLaw
theorem glyphScans_card : Rows.GlyphScansCardSaid := glyphScansLaw.card
#print axioms glyphScans_card
end Go.Proofs.YtgfglefgpgckiaaDoor

