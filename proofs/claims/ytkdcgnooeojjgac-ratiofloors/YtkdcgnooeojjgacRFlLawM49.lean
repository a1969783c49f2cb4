/-
  The order of fractions, as numbers; single operations on what is asked of it. Rounding down, as numbers. RatioFloors answers true, whatever fraction and number it is handed. The given statement on RatioFloors, for every input: the call answers true, and each argument reads behind it as it read before. No condition beyond the statement's own.
-/
import Derived.Test.YtkdcgnooeojjgacRFlLawM48
import Derived.OpenShut
import Derived.Test.YtkdcgnooeojjgacRows
import Derived.ProofKit
import Derived.ShutString
import Derived.ChangeOld
import Derived.SizedLaws
import Derived.Lib.SmallJoins
namespace Go.Proofs.Ytkdcgnooeojjgac
namespace Lm
open Go Go.RowKit

theorem cmpI_sign (x y : Int) : cmpI x y = Int.sign (x - y) := by
  rcases Int.lt_trichotomy x y with h | h | h
  · rw [cmpI_lt h, Int.sign_eq_neg_one_of_neg (by omega)]
  · rw [h, cmpI_eq rfl, Int.sub_self]; rfl
  · rw [cmpI_gt h, Int.sign_eq_one_of_pos (by omega)]

theorem sign_of {c d x y : Int} (hc : 0 < c) (hd : 0 < d) (h : c * x = d * y) : Int.sign x = Int.sign y := by
  have h1 : Int.sign (c * x) = Int.sign x := by rw [Int.sign_mul, Int.sign_eq_one_of_pos hc, Int.one_mul]
  have h2 : Int.sign (d * y) = Int.sign y := by rw [Int.sign_mul, Int.sign_eq_one_of_pos hd, Int.one_mul]
  rw [← h1, h, h2]

theorem ord_anti (x y : Int) : cmpI y x = -cmpI x y := by
  rw [cmpI_sign, cmpI_sign, ← Int.sign_neg, Int.neg_sub]

theorem mul_pos3 {a b : Int} (h1 : 0 < a) (h2 : 0 < b) : 0 < a * b := Int.mul_pos h1 h2

theorem ord_add {P1 Q1 P2 Q2 P3 Q3 : Int} (h1 : 0 < Q1) (h2 : 0 < Q2) (h3 : 0 < Q3) :
    cmpI (tp (nm (P1 * Q3 + P3 * Q1) (Q1 * Q3)) (dn (P1 * Q3 + P3 * Q1) (Q1 * Q3)) * tq (dn (P2 * Q3 + P3 * Q2) (Q2 * Q3))) (tp (nm (P2 * Q3 + P3 * Q2) (Q2 * Q3)) (dn (P2 * Q3 + P3 * Q2) (Q2 * Q3)) * tq (dn (P1 * Q3 + P3 * Q1) (Q1 * Q3))) = cmpI (P1 * Q2) (P2 * Q1) := by
  have b0 : Q1 * Q3 ≠ 0 := Int.mul_ne_zero (by omega) (by omega)
  have b1 : Q2 * Q3 ≠ 0 := Int.mul_ne_zero (by omega) (by omega)
  have c0 := low_cross (P1 * Q3 + P3 * Q1) b0
  have c1 := low_cross (P2 * Q3 + P3 * Q2) b1
  have d0 := dn_pos (P1 * Q3 + P3 * Q1) b0
  have d1 := dn_pos (P2 * Q3 + P3 * Q2) b1
  rw [tp_low _ b0, tq_low _ b1, tp_low _ b1, tq_low _ b0, cmpI_sign, cmpI_sign]
  generalize nm (P1 * Q3 + P3 * Q1) (Q1 * Q3) = N0 at *
  generalize dn (P1 * Q3 + P3 * Q1) (Q1 * Q3) = D0 at *
  generalize nm (P2 * Q3 + P3 * Q2) (Q2 * Q3) = N1 at *
  generalize dn (P2 * Q3 + P3 * Q2) (Q2 * Q3) = D1 at *
  refine sign_of (c := (Q1 * Q3) * (Q2 * Q3)) (d := (D0 * D1) * (Q3 * Q3)) (Int.mul_pos (Int.mul_pos h1 h3) (Int.mul_pos h2 h3)) (Int.mul_pos (Int.mul_pos d0 d1) (Int.mul_pos h3 h3)) ?_
  grind

theorem ord_mul {P1 Q1 P2 Q2 P3 Q3 : Int} (h1 : 0 < Q1) (h2 : 0 < Q2) (h3 : 0 < Q3) :
    cmpI (tp (nm (P1 * P3) (Q1 * Q3)) (dn (P1 * P3) (Q1 * Q3)) * tq (dn (P2 * P3) (Q2 * Q3))) (tp (nm (P2 * P3) (Q2 * Q3)) (dn (P2 * P3) (Q2 * Q3)) * tq (dn (P1 * P3) (Q1 * Q3))) = cmpI (P1 * Q2) (P2 * Q1) * Int.sign P3 := by
  have b0 : Q1 * Q3 ≠ 0 := Int.mul_ne_zero (by omega) (by omega)
  have b1 : Q2 * Q3 ≠ 0 := Int.mul_ne_zero (by omega) (by omega)
  have c0 := low_cross (P1 * P3) b0
  have c1 := low_cross (P2 * P3) b1
  have d0 := dn_pos (P1 * P3) b0
  have d1 := dn_pos (P2 * P3) b1
  rw [tp_low _ b0, tq_low _ b1, tp_low _ b1, tq_low _ b0, cmpI_sign, cmpI_sign, ← Int.sign_mul]
  generalize nm (P1 * P3) (Q1 * Q3) = N0 at *
  generalize dn (P1 * P3) (Q1 * Q3) = D0 at *
  generalize nm (P2 * P3) (Q2 * Q3) = N1 at *
  generalize dn (P2 * P3) (Q2 * Q3) = D1 at *
  refine sign_of (c := (Q1 * Q3) * (Q2 * Q3)) (d := (D0 * D1) * Q3) (Int.mul_pos (Int.mul_pos h1 h3) (Int.mul_pos h2 h3)) (Int.mul_pos (Int.mul_pos d0 d1) h3) ?_
  grind

theorem ord_sub {P1 Q1 P2 Q2 : Int} (h1 : 0 < Q1) (h2 : 0 < Q2) :
    Int.sign (tp (nm (P1 * Q2 - P2 * Q1) (Q1 * Q2)) (dn (P1 * Q2 - P2 * Q1) (Q1 * Q2))) = cmpI (P1 * Q2) (P2 * Q1) := by
  have b0 : Q1 * Q2 ≠ 0 := Int.mul_ne_zero (by omega) (by omega)
  have c0 := low_cross (P1 * Q2 - P2 * Q1) b0
  have d0 := dn_pos (P1 * Q2 - P2 * Q1) b0
  rw [tp_low _ b0, cmpI_sign]
  generalize nm (P1 * Q2 - P2 * Q1) (Q1 * Q2) = N0 at *
  generalize dn (P1 * Q2 - P2 * Q1) (Q1 * Q2) = D0 at *
  refine sign_of (c := Q1 * Q2) (d := D0) (Int.mul_pos h1 h2) d0 ?_
  grind

theorem ord_same {P1 Q1 P2 Q2 : Int} (h1 : 0 < Q1) (h2 : 0 < Q2) : decide (cmpI (P1 * Q2) (P2 * Q1) = 0) = decide (nm P1 Q1 = nm P2 Q2 ∧ dn P1 Q1 = dn P2 Q2) := by
  refine decide_eq_decide.2 ?_
  rw [low_eq_iff (by omega) (by omega), cmpI_sign, sign_zero_iff]
  omega

theorem ord_trans {P1 Q1 P2 Q2 P3 Q3 : Int} (h1 : 0 < Q1) (h2 : 0 < Q2) (h3 : 0 < Q3) (a : ¬ 0 < cmpI (P1 * Q2) (P2 * Q1)) (b : ¬ 0 < cmpI (P2 * Q3) (P3 * Q2)) : cmpI (P1 * Q3) (P3 * Q1) ≤ 0 := by
  have key : ∀ x y, ¬ 0 < cmpI x y ↔ x ≤ y := by
    intro x y
    rcases Int.lt_trichotomy x y with h | h | h
    · rw [cmpI_lt h]; omega
    · rw [cmpI_eq h]; omega
    · rw [cmpI_gt h]; omega
  rw [key] at a b
  have hh : ¬ 0 < cmpI (P1 * Q3) (P3 * Q1) := by
    rw [key]
    have e1 : P1 * Q2 * Q3 ≤ P2 * Q1 * Q3 := Int.mul_le_mul_of_nonneg_right a (by omega)
    have e2 : P2 * Q3 * Q1 ≤ P3 * Q2 * Q1 := Int.mul_le_mul_of_nonneg_right b (by omega)
    have e3 : P1 * Q3 * Q2 ≤ P3 * Q1 * Q2 := by
      have x1 : P1 * Q2 * Q3 = P1 * Q3 * Q2 := by grind
      have x2 : P2 * Q1 * Q3 = P2 * Q3 * Q1 := by grind
      have x3 : P3 * Q2 * Q1 = P3 * Q1 * Q2 := by grind
      omega
    exact Int.le_of_mul_le_mul_right e3 h2
  omega

section
variable {dst : Option Tmp} {ty : TypeId} {pos : String} {after : Array Edge} {guard : Option (Nat × Bool)} {a : Act} {w : World} {i j : Nat} {u v : Int}
theorem op_neqf (h1 : a.eval (.tmp i) = .int .i64 u) (h2 : a.eval (.tmp j) = .int .i64 v) (h : u = v) :
    Does Try.prog { dst, op := .binOp .neq 3 (.tmp i) (.tmp j) 3, type := ty, pos, after, guard } a.eval w fun v w' => Below w.heap.size w w' ∧ Eqs (.bool false) v w' := by
  refine does_bin (v := .bool false) ?_ ?_ ⟨Below.refl _ _, rfl⟩
  · rw [h1, h2]; simp [go_sem]
  · rw [h1, h2]; simp [go_sem, h]
theorem op_negi (h1 : a.eval (.tmp i) = .int .i64 u) (h : -1 ≤ u ∧ u ≤ 1) :
    Does Try.prog { dst, op := .unOp .neg 3 (.tmp i), type := ty, pos, after, guard } a.eval w fun v w' => Below w.heap.size w w' ∧ Eqs (.int .i64 (-u)) v w' := by
  refine does_un (v := .int .i64 (-u)) ?_ ⟨Below.refl _ _, rfl⟩
  rw [h1]
  simp [go_sem]
  exact wrap64 (by omega) (by omega)
theorem op_timesi {z : Int} (h1 : a.eval (.tmp i) = .int .i64 u) (h2 : a.eval (.tmp j) = .int .i64 v) (h : z = u * v) (hz : -1 ≤ z ∧ z ≤ 1) :
    Does Try.prog { dst, op := .binOp .mul 3 (.tmp i) (.tmp j) 3, type := ty, pos, after, guard } a.eval w fun v' w' => Below w.heap.size w w' ∧ Eqs (.int .i64 z) v' w' :=
  (op_times h1 h2).mono (fun v' w' ⟨hb, e⟩ => ⟨hb, by rw [Eqs, show v' = _ from e, ← h, wrap64 (by omega) (by omega)]⟩)
theorem op_gtrt (h1 : a.eval (.tmp i) = .int .i64 u) (h : v < u) :
    Does Try.prog { dst, op := .binOp .gtr 3 (.tmp i) (.const (.int .i64 v)) 3, type := ty, pos, after, guard } a.eval w fun v' w' => Below w.heap.size w w' ∧ Eqs (.bool true) v' w' :=
  (op_gtrk h1).mono (fun v' w' ⟨hb, e⟩ => ⟨hb, by rw [Eqs, show v' = _ from e, decide_eq_true h]⟩)
theorem op_gtrf (h1 : a.eval (.tmp i) = .int .i64 u) (h : ¬ v < u) :
    Does Try.prog { dst, op := .binOp .gtr 3 (.tmp i) (.const (.int .i64 v)) 3, type := ty, pos, after, guard } a.eval w fun v' w' => Below w.heap.size w w' ∧ Eqs (.bool false) v' w' :=
  (op_gtrk h1).mono (fun v' w' ⟨hb, e⟩ => ⟨hb, by rw [Eqs, show v' = _ from e, decide_eq_false h]⟩)
theorem op_leqt (h1 : a.eval (.tmp i) = .int .i64 u) (h : u ≤ v) :
    Does Try.prog { dst, op := .binOp .leq 3 (.tmp i) (.const (.int .i64 v)) 3, type := ty, pos, after, guard } a.eval w fun v' w' => Below w.heap.size w w' ∧ Eqs (.bool true) v' w' := by
  refine does_bin (v := .bool true) ?_ ?_ ⟨Below.refl _ _, rfl⟩
  · rw [h1]; simp [go_sem, Act.eval]
  · rw [h1]; simp [go_sem, Act.eval, h]
theorem op_leqf (h1 : a.eval (.tmp i) = .int .i64 u) (h : ¬ u ≤ v) :
    Does Try.prog { dst, op := .binOp .leq 3 (.tmp i) (.const (.int .i64 v)) 3, type := ty, pos, after, guard } a.eval w fun v' w' => Below w.heap.size w w' ∧ Eqs (.bool false) v' w' := by
  refine does_bin (v := .bool false) ?_ ?_ ⟨Below.refl _ _, rfl⟩
  · rw [h1]; simp [go_sem, Act.eval]
  · rw [h1]; simp [go_sem, Act.eval]; omega
theorem op_eqlbt {b c : Bool} (h1 : a.eval (.tmp i) = .bool b) (h2 : a.eval (.tmp j) = .bool c) (h : b = c) :
    Does Try.prog { dst, op := .binOp .eql 4 (.tmp i) (.tmp j) 4, type := ty, pos, after, guard } a.eval w fun v w' => Below w.heap.size w w' ∧ Eqs (.bool true) v w' :=
  (op_eqlb h1 h2).mono (fun v' w' ⟨hb, e⟩ => ⟨hb, by rw [Eqs, show v' = _ from e, h]; simp⟩)
theorem op_neqbf {b c : Bool} (h1 : a.eval (.tmp i) = .bool b) (h2 : a.eval (.tmp j) = .bool c) (h : b = c) :
    Does Try.prog { dst, op := .binOp .neq 4 (.tmp i) (.tmp j) 4, type := ty, pos, after, guard } a.eval w fun v w' => Below w.heap.size w w' ∧ Eqs (.bool false) v w' :=
  (op_neqb h1 h2).mono (fun v' w' ⟨hb, e⟩ => ⟨hb, by rw [Eqs, show v' = _ from e, h]; simp⟩)
end
theorem cmpI_range (x y : Int) : -1 ≤ cmpI x y ∧ cmpI x y ≤ 1 := by
  rw [cmpI_sign]
  exact sign_three _

end Lm
end Go.Proofs.Ytkdcgnooeojjgac

namespace Go.Proofs.Ytkdcgnooeojjgac
namespace Lm
open Go Go.RowKit

theorem tp_one (x : Int) : tp x 1 = x := by rw [tp, if_neg (by decide)]
theorem tq_one : tq 1 = 1 := by rw [tq, if_neg (by decide)]
theorem nm_one (x : Int) : nm x 1 = x := by simp [nm]
theorem dn_one (x : Int) : dn x 1 = 1 := by simp [dn]

theorem cmpI_le0 (x y : Int) : cmpI x y ≤ 0 ↔ x ≤ y := by
  rcases Int.lt_trichotomy x y with h | h | h
  · rw [cmpI_lt h]; omega
  · rw [cmpI_eq h]; omega
  · rw [cmpI_gt h]; omega
theorem cmpI_eq0 (x y : Int) : cmpI x y = 0 ↔ x = y := by
  rcases Int.lt_trichotomy x y with h | h | h
  · rw [cmpI_lt h]; omega
  · rw [cmpI_eq h]; omega
  · rw [cmpI_gt h]; omega

theorem fl_below {P Q : Int} (hQ : 0 < Q) : ¬ 0 < cmpI (tp (P / Q) 1 * Q) (P * tq 1) := by
  rw [tp_one, tq_one, Int.mul_one]
  have := (cmpI_le0 (P / Q * Q) P).2 (Int.ediv_mul_le P (by omega))
  omega
theorem fl_above {P Q : Int} (hQ : 0 < Q) : ¬ cmpI (tp (nm (tp (P / Q) 1 * tq 1 + tp 1 1 * tq 1) (tq 1 * tq 1)) (dn (tp (P / Q) 1 * tq 1 + tp 1 1 * tq 1) (tq 1 * tq 1)) * Q) (P * tq (dn (tp (P / Q) 1 * tq 1 + tp 1 1 * tq 1) (tq 1 * tq 1))) ≤ 0 := by
  simp only [tp_one, tq_one, Int.mul_one, nm_one, dn_one]
  rw [cmpI_le0]
  have := Int.lt_ediv_add_one_mul_self P hQ
  omega
theorem fl_zero {P Q : Int} (_hQ : 0 < Q) : cmpI (tp (P / Q) 1 * Q) (P * tq 1) = 0 ↔ P % Q = 0 := by
  rw [tp_one, tq_one, Int.mul_one, cmpI_eq0]
  have := Int.mul_ediv_add_emod P Q
  have e : P / Q * Q = Q * (P / Q) := Int.mul_comm _ _
  omega
theorem fl_same {P Q : Int} (hQ : 0 < Q) (h : P % Q = 0) : P / Q = nm P Q ∧ 1 = dn P Q := by
  have e : P / Q * Q = P * 1 := by
    have := Int.mul_ediv_add_emod P Q
    have e : P / Q * Q = Q * (P / Q) := Int.mul_comm _ _
    omega
  have := low_eq (p := P / Q) (q := 1) (by decide) (show Q ≠ 0 by omega) e
  rwa [nm_one, dn_one] at this
theorem ediv_of {N D A B : Int} (hD : 0 < D) (hB : 0 < B) (h : N * B = A * D) : N / D = A / B := by
  have h1 := Int.mul_ediv_mul_of_pos_left N D hB
  have h2 := Int.mul_ediv_mul_of_pos_left A B hD
  rw [← h1, ← h2, h, Int.mul_comm D B]
theorem fl_add {P Q v : Int} (hQ : 0 < Q) : tp (nm (P * tq 1 + tp v 1 * Q) (Q * tq 1)) (dn (P * tq 1 + tp v 1 * Q) (Q * tq 1)) / tq (dn (P * tq 1 + tp v 1 * Q) (Q * tq 1)) = P / Q + v := by
  simp only [tp_one v, tq_one, Int.mul_one]
  have b : Q ≠ 0 := by omega
  have c := low_cross (P + v * Q) b
  have d := dn_pos (P + v * Q) b
  rw [tp_low _ b, tq_low _ b, ediv_of d hQ c, Int.add_mul_ediv_right _ _ b]

section
variable {dst : Option Tmp} {ty : TypeId} {pos : String} {after : Array Edge} {guard : Option (Nat × Bool)} {a : Act} {w : World} {i j : Nat} {u v : Int}
theorem op_eqlkt (h1 : a.eval (.tmp i) = .int .i64 u) (h : u = v) :
    Does Try.prog { dst, op := .binOp .eql 3 (.tmp i) (.const (.int .i64 v)) 3, type := ty, pos, after, guard } a.eval w fun v' w' => Below w.heap.size w w' ∧ Eqs (.bool true) v' w' :=
  (op_eqlk h1).mono (fun v' w' ⟨hb, e⟩ => ⟨hb, by rw [Eqs, show v' = _ from e, decide_eq_true h]⟩)
theorem op_eqlkf (h1 : a.eval (.tmp i) = .int .i64 u) (h : u ≠ v) :
    Does Try.prog { dst, op := .binOp .eql 3 (.tmp i) (.const (.int .i64 v)) 3, type := ty, pos, after, guard } a.eval w fun v' w' => Below w.heap.size w w' ∧ Eqs (.bool false) v' w' :=
  (op_eqlk h1).mono (fun v' w' ⟨hb, e⟩ => ⟨hb, by rw [Eqs, show v' = _ from e, decide_eq_false h]⟩)
theorem op_ofv {ats : Array TypeId} (h : a.eval (.tmp i) = .int .i64 v) (h1 : -9223372036854775808 ≤ v) (h2 : v ≤ 9223372036854775807) :
    Does Try.prog { dst, op := .call { callee := .value (.func 26), args := #[.tmp i], argTypes := ats }, type := ty, pos, after, guard } a.eval w fun v' w' => Below w.heap.size w w' ∧ OutW v 2 v' w' := by
  refine does_call has_of _ (by simp only [List.map_toArray, List.map_cons, List.map_nil, h]) ((wof_g _ v h1 h2).mono ?_)
  rintro e w' ⟨ng, ao, cap, rs, rfl, G, l, hb⟩
  exact ⟨_, rfl, hb, _, _, _, _, rfl, G, by omega⟩
end

end Lm
end Go.Proofs.Ytkdcgnooeojjgac

namespace Go.Proofs.Ytkdcgnooeojjgac
namespace Lm
open Go Go.RowKit

set_option maxRecDepth 20000 in
set_option maxHeartbeats 4000000 in
theorem rfloors_law (w : World) (nr : Bool) (ar : Option Addr) (mr cr : Nat) (rs : List Int) (pr : Int) (br : Option Addr) (kr dr : Nat) (rt : List Int) (qr : Int) (v : Int) (Ar : Ag w nr ar mr cr rs pr) (Sr : Sl w (.slice br kr dr) rt) (Vr : val rt = qr) (Wv : (Lit.int .i64 v).wf = true) (gr : mr ≤ 35184372088832) (jr : kr ≤ 35184372088832) :
    Calls Try.prog 5 #[.agg #[.bool nr, .slice ar mr cr, .slice br kr dr], .int .i64 v] w fun e w' => e = .returned (.bool true) ∧ Below w.heap.size w w' := by
  go_enter Try.func5, Try.ntmps5
  generalize hA : (Act.mk _ _) = aa
  have hn : aa.tmps.size = 68 := by rw [← hA]; rfl
  have hd : aa.defers = [] := by rw [← hA]
  have f0 : aa.eval (.tmp 0) = .agg #[.bool nr, .slice ar mr cr, .slice br kr dr] := by rw [← hA]; rfl
  have f1 : aa.eval (.tmp 1) = .int .i64 v := by rw [← hA]; rfl
  clear hA
  have HB : Below w.heap.size w w := Below.refl _ _
  have Dr : Ag w false br kr dr rt qr := ⟨Sr, Vr⟩
  have Qr : 0 < tq qr := tq_pos (by rw [← Vr]; exact (val_bounds Sr.parts.2.2.2).1)
  obtain ⟨hv1, hv2⟩ := bounds_i64 Wv
  refine wp_seq ?_
  refine region4 [some 2, some 4] [(fun _ _ => True), Eqs ((.bool false))] [⟨R3, some 0, 0, 2, .agg #[.bool nr, .slice ar mr cr, .slice br kr dr], none, []⟩] [] (by kernel_rfl) hn rfl (by kernel_rfl) (by kernel_rfl) (by kernel_rfl) (by kernel_rfl) (by kernel_rfl) (by kernel_rfl) ⟨True.mono4, Eqs.mono4 _, trivial⟩ (ok_cons R3ok ok_nil) (IsOld.all (bx := [⟨R3, some 0, 0, 2, .agg #[.bool nr, .slice ar mr cr, .slice br kr dr], none, []⟩]) ⟨someNe, trivial⟩) (DisOld.all (bx := [⟨R3, some 0, 0, 2, .agg #[.bool nr, .slice ar mr cr, .slice br kr dr], none, []⟩]) ⟨someNe, trivial⟩) ?_ ?_
  · exact ⟨.alloc 0 _ rfl rfl (.inr ⟨_, rfl, r3_cs, fun a_ hR => (hR 0 rfl).trans f0⟩) rfl rfl rfl rfl rfl,
      .norm 4 rfl rfl rfl (fun a_ w_ hn_ hBt hr hR hD hO hS => op_assign rfl),
      trivial⟩
  · intro a1 w1 gs1 hn1 hd1 hBt hr hR hP hX hU
    replace hn := hn1; replace hd := hd1.trans hd
    have b2 : BoxV R3 w1 (gs1 0) (.agg #[.bool nr, .slice ar mr cr, .slice br kr dr]) := (hX 0 _ rfl).2.2.2
    have f2 := (hX 0 _ rfl).1
    have u2 : w.heap.size ≤ gs1 0 := Nat.le_trans HB.size ((hX 0 _ rfl).2.2.1 (by simp))
    replace f1 := (hR 1 rfl).trans f1
    have e4 : a1.eval (.tmp 4) = (.bool false) := hP 1 (by decide)
    have f4 := e4
    replace Ar := Ar.rl hr
    replace Sr := Sr.rl hr
    replace Dr := Dr.rl hr
    replace HB := HB.trans (hBt.below HB.size (UpOld.all (bx := [⟨R3, some 0, 0, 2, .agg #[.bool nr, .slice ar mr cr, .slice br kr dr], none, []⟩]) ⟨someNe, trivial⟩))
    clear hBt hr hR hP hX hU
    refine wp_seq ?_
    refine wp_seq ?_
    refine region4 [some 10, some 11] [Eqs (.bool true), Eqs (.bool false)] [] [] (by kernel_rfl) hn rfl (by kernel_rfl) (by kernel_rfl) (by kernel_rfl) (by kernel_rfl) (by kernel_rfl) (by kernel_rfl) ⟨Eqs.mono4 _, Eqs.mono4 _, trivial⟩ ok_nil (IsOld.all (bx := []) trivial) (DisOld.all (bx := []) trivial) ?_ ?_
    · exact ⟨.norm 10 rfl rfl rfl (fun a_ w_ hn_ hBt hr hR hD hO hS => op_rawake),
        .norm 11 rfl rfl rfl (fun a_ w_ hn_ hBt hr hR hD hO hS => op_not (show a_.eval (.tmp 10) = .bool true from hD 0 rfl)),
        trivial⟩
    · intro a2 w2 gs2 hn2 hd2 hBt hr hR hP hX hU
      replace hn := hn2; replace hd := hd2.trans hd
      replace b2 := b2.keep hBt trivial
      replace f1 := (hR 1 rfl).trans f1
      replace f2 := (hR 2 rfl).trans f2
      replace f4 := (hR 4 rfl).trans f4
      have e11 : a2.eval (.tmp 11) = .bool false := hP 1 (by decide)
      have f11 := e11
      replace Ar := Ar.rl hr
      replace Sr := Sr.rl hr
      replace Dr := Dr.rl hr
      replace HB := HB.trans (hBt.below HB.size (UpOld.all (bx := []) trivial))
      clear hBt hr hR hP hX hU
      refine wp_cond_false f11 ?_
      refine wp_skip ?_
      refine wp_seq ?_
      refine wp_seq ?_
      refine region4 [some 12, some 13, some 14] [Eqs (.agg #[.bool nr, .slice ar mr cr, .slice br kr dr]), Eqs (.int .i64 (1 + (mr : Int) + (kr : Int))), Eqs (.bool (decide (1500 < (1 + (mr : Int) + (kr : Int)))))] [] [] (by kernel_rfl) hn rfl (by kernel_rfl) (by kernel_rfl) (by kernel_rfl) (by kernel_rfl) (by kernel_rfl) (by kernel_rfl) ⟨Eqs.mono4 _, Eqs.mono4 _, Eqs.mono4 _, trivial⟩ ok_nil (IsOld.all (bx := []) trivial) (DisOld.all (bx := []) trivial) ?_ ?_
      · exact ⟨.norm 12 rfl rfl rfl (fun a_ w_ hn_ hBt hr hR hD hO hS => op_loadv R3ok ((hR 2 rfl).trans f2) (b2.keep hBt trivial)),
          .norm 13 rfl rfl rfl (fun a_ w_ hn_ hBt hr hR hD hO hS => op_rlen (show a_.eval (.tmp 12) = .agg #[.bool nr, .slice ar mr cr, .slice br kr dr] from hD 0 rfl) (by omega) (by omega)),
          .norm 14 rfl rfl rfl (fun a_ w_ hn_ hBt hr hR hD hO hS => op_gtrk (show a_.eval (.tmp 13) = .int .i64 (1 + (mr : Int) + (kr : Int)) from hD 1 rfl)),
          trivial⟩
      · intro a3 w3 gs3 hn3 hd3 hBt hr hR hP hX hU
        replace hn := hn3; replace hd := hd3.trans hd
        replace b2 := b2.keep hBt trivial
        replace f1 := (hR 1 rfl).trans f1
        replace f2 := (hR 2 rfl).trans f2
        replace f4 := (hR 4 rfl).trans f4
        have e14 : a3.eval (.tmp 14) = .bool (decide (1500 < (1 + (mr : Int) + (kr : Int)))) := hP 2 (by decide)
        have f14 := e14
        replace Ar := Ar.rl hr
        replace Sr := Sr.rl hr
        replace Dr := Dr.rl hr
        replace HB := HB.trans (hBt.below HB.size (UpOld.all (bx := []) trivial))
        clear hBt hr hR hP hX hU
        refine wp_cond_split f14 (fun hc14 => ?_) (fun hc14 => ?_)
        · skip
          refine wp_seq ?_
          refine region4 [some 4] [Eqs ((.bool true))] [] [] (by kernel_rfl) hn rfl (by kernel_rfl) (by kernel_rfl) (by kernel_rfl) (by kernel_rfl) (by kernel_rfl) (by kernel_rfl) ⟨Eqs.mono4 _, trivial⟩ ok_nil (IsOld.all (bx := []) trivial) (DisOld.all (bx := []) trivial) ?_ ?_
          · exact ⟨.norm 4 rfl rfl rfl (fun a_ w_ hn_ hBt hr hR hD hO hS => op_assign rfl),
              trivial⟩
          · intro a4 w4 gs4 hn4 hd4 hBt hr hR hP hX hU
            replace hn := hn4; replace hd := hd4.trans hd
            replace b2 := b2.keep hBt trivial
            replace f1 := (hR 1 rfl).trans f1
            replace f2 := (hR 2 rfl).trans f2
            have e4 : a4.eval (.tmp 4) = (.bool true) := hP 0 (by decide)
            have f4 := e4
            replace Ar := Ar.rl hr
            replace Sr := Sr.rl hr
            replace Dr := Dr.rl hr
            replace HB := HB.trans (hBt.below HB.size (UpOld.all (bx := []) trivial))
            clear hBt hr hR hP hX hU
            refine wp_ret ?_
            repeat (first | refine then_ret ?_ | refine scope_ret ?_ | refine block_ret ?_)
            exact bodyPost_ret (v := .bool true) (res_t rfl f4) hd ⟨rfl, HB⟩
        · skip
          have hlen := of_decide_eq_false hc14
          have or := Ar.sl.parts.1; have Lr : rs.length ≤ 1500 := by omega
          have yr := Sr.parts.1; have Mr : rt.length ≤ 1500 := by omega
          refine wp_skip ?_
          refine wp_seq ?_
          refine region4 [some 15, some 16, some 17, some 5, none] [Eqs (.agg #[.bool nr, .slice ar mr cr, .slice br kr dr]), OutW ((tp pr qr / tq qr)) ((1500) + 6), OutR ((tp pr qr / tq qr)) (1) (((1500) + 6) + 2), (fun _ _ => True), (fun _ _ => True)] [⟨R3, some 3, 0, 5, .agg #[.bool false, .slice none 0 0, .slice none 0 0], some (4, 17, 2), []⟩] [] (by kernel_rfl) hn rfl (by kernel_rfl) (by kernel_rfl) (by kernel_rfl) (by kernel_rfl) (by kernel_rfl) (by kernel_rfl) ⟨Eqs.mono4 _, OutW.mono4 _ _, OutR.mono4 _ _ _, True.mono4, True.mono4, trivial⟩ (ok_cons R3ok ok_nil) (IsOld.all (bx := [⟨R3, some 3, 0, 5, .agg #[.bool false, .slice none 0 0, .slice none 0 0], some (4, 17, 2), []⟩]) ⟨someNe, trivial⟩) (DisOld.all (bx := [⟨R3, some 3, 0, 5, .agg #[.bool false, .slice none 0 0, .slice none 0 0], some (4, 17, 2), []⟩]) ⟨someNe, trivial⟩) ?_ ?_
          · exact ⟨.norm 15 rfl rfl rfl (fun a_ w_ hn_ hBt hr hR hD hO hS => op_loadv R3ok ((hR 2 rfl).trans f2) (b2.keep hBt ⟨someNe, trivial⟩)),
              .norm 16 rfl rfl rfl (fun a_ w_ hn_ hBt hr hR hD hO hS => op_rfloor (isr_eq (show a_.eval (.tmp 15) = .agg #[.bool nr, .slice ar mr cr, .slice br kr dr] from hD 0 rfl) (Ar.rl hr) (Sr.rl hr) Vr Lr Mr) (by omega)),
              .norm 17 rfl rfl rfl (fun a_ w_ hn_ hBt hr hR hD hO hS => op_from (show OutW ((tp pr qr / tq qr)) ((1500) + 6) (a_.eval (.tmp 16)) w_ from hD 1 rfl).is (by omega)),
              .alloc 0 _ rfl rfl (.inl ⟨rfl, rfl⟩) rfl rfl rfl rfl rfl,
              .store 0 _ _ _ rfl rfl rfl rfl rfl rfl rfl (fun ia h => by cases h; rfl) rfl rfl rfl OutR.cs,
              trivial⟩
          · intro a5 w5 gs5 hn5 hd5 hBt hr hR hP hX hU
            replace hn := hn5; replace hd := hd5.trans hd
            replace b2 := b2.keep hBt ⟨someNe, trivial⟩
            obtain ⟨n_6, a_6, c_6, r_6, b_6, d_6, s_6, e17, G6, K6, l6, k6⟩ : OutR ((tp pr qr / tq qr)) (1) (((1500) + 6) + 2) (a5.eval (.tmp 17)) w5 := hP 2 (by decide)
            have A6 := G6.ag; have S6 := K6.sl; have V6 := K6.val
            have b5 : BoxV R3 w5 (gs5 0) (.agg #[.bool n_6, .slice a_6 r_6.length c_6, .slice b_6 s_6.length d_6]) := boxv_of (hX 0 _ rfl).2.2.2 e17
            have f5 := (hX 0 _ rfl).1
            have u5 : w.heap.size ≤ gs5 0 := Nat.le_trans HB.size ((hX 0 _ rfl).2.2.1 (by simp))
            replace f1 := (hR 1 rfl).trans f1
            replace f2 := (hR 2 rfl).trans f2
            replace f4 := (hR 4 rfl).trans f4
            replace Ar := Ar.rl hr
            replace Sr := Sr.rl hr
            replace Dr := Dr.rl hr
            replace HB := HB.trans (hBt.below HB.size (UpOld.all (bx := [⟨R3, some 3, 0, 5, .agg #[.bool false, .slice none 0 0, .slice none 0 0], some (4, 17, 2), []⟩]) ⟨someNe, trivial⟩))
            clear hBt hr hR hP hX hU
            refine wp_seq ?_
            refine region4 [some 18, some 19, some 6, none] [OutW (1) (2), OutR (1) (1) ((2) + 2), (fun _ _ => True), (fun _ _ => True)] [⟨R3, some 2, 0, 6, .agg #[.bool false, .slice none 0 0, .slice none 0 0], some (3, 19, 1), []⟩] [] (by kernel_rfl) hn rfl (by kernel_rfl) (by kernel_rfl) (by kernel_rfl) (by kernel_rfl) (by kernel_rfl) (by kernel_rfl) ⟨OutW.mono4 _ _, OutR.mono4 _ _ _, True.mono4, True.mono4, trivial⟩ (ok_cons R3ok ok_nil) (IsOld.all (bx := [⟨R3, some 2, 0, 6, .agg #[.bool false, .slice none 0 0, .slice none 0 0], some (3, 19, 1), []⟩]) ⟨someNe, trivial⟩) (DisOld.all (bx := [⟨R3, some 2, 0, 6, .agg #[.bool false, .slice none 0 0, .slice none 0 0], some (3, 19, 1), []⟩]) ⟨someNe, trivial⟩) ?_ ?_
            · exact ⟨.norm 18 rfl rfl rfl (fun a_ w_ hn_ hBt hr hR hD hO hS => op_of (by omega) (by omega)),
                .norm 19 rfl rfl rfl (fun a_ w_ hn_ hBt hr hR hD hO hS => op_from (show OutW (1) (2) (a_.eval (.tmp 18)) w_ from hD 0 rfl).is (by omega)),
                .alloc 0 _ rfl rfl (.inl ⟨rfl, rfl⟩) rfl rfl rfl rfl rfl,
                .store 0 _ _ _ rfl rfl rfl rfl rfl rfl rfl (fun ia h => by cases h; rfl) rfl rfl rfl OutR.cs,
                trivial⟩
            · intro a7 w7 gs7 hn7 hd7 hBt hr hR hP hX hU
              replace hn := hn7; replace hd := hd7.trans hd
              replace b2 := b2.keep hBt ⟨someNe, trivial⟩
              replace b5 := b5.keep hBt ⟨someNe, trivial⟩
              obtain ⟨n_8, a_8, c_8, r_8, b_8, d_8, s_8, e19, G8, K8, l8, k8⟩ : OutR (1) (1) ((2) + 2) (a7.eval (.tmp 19)) w7 := hP 1 (by decide)
              have A8 := G8.ag; have S8 := K8.sl; have V8 := K8.val
              have b6 : BoxV R3 w7 (gs7 0) (.agg #[.bool n_8, .slice a_8 r_8.length c_8, .slice b_8 s_8.length d_8]) := boxv_of (hX 0 _ rfl).2.2.2 e19
              have f6 := (hX 0 _ rfl).1
              have u6 : w.heap.size ≤ gs7 0 := Nat.le_trans HB.size ((hX 0 _ rfl).2.2.1 (by simp))
              replace f1 := (hR 1 rfl).trans f1
              replace f2 := (hR 2 rfl).trans f2
              replace f4 := (hR 4 rfl).trans f4
              replace f5 := (hR 5 rfl).trans f5
              replace Ar := Ar.rl hr
              replace Sr := Sr.rl hr
              replace Dr := Dr.rl hr
              replace G6 := G6.rl hr
              replace A6 := A6.rl hr
              replace K6 := K6.rl hr
              replace S6 := S6.rl hr
              replace HB := HB.trans (hBt.below HB.size (UpOld.all (bx := [⟨R3, some 2, 0, 6, .agg #[.bool false, .slice none 0 0, .slice none 0 0], some (3, 19, 1), []⟩]) ⟨someNe, trivial⟩))
              clear hBt hr hR hP hX hU
              by_cases h0 : tp pr qr % tq qr = 0
              · skip
                refine wp_seq ?_
                refine region4 [some 21, some 22, some 20, some 23, some 24, some 7, none, some 8] [Eqs (.agg #[.bool nr, .slice ar mr cr, .slice br kr dr]), Tup2 (OutW ((tp pr qr / tq qr)) ((1500) + 6)) (Eqs (.bool true)), Tup2 (OutW ((tp pr qr / tq qr)) ((1500) + 6)) (Eqs (.bool true)), OutW ((tp pr qr / tq qr)) ((1500) + 6), Eqs (.bool true), (fun _ _ => True), (fun _ _ => True), Eqs (.bool true)] [⟨W2, some 5, 0, 7, .agg #[.bool false, .slice none 0 0], some (6, 23, 3), []⟩] [] (by kernel_rfl) hn rfl (by kernel_rfl) (by kernel_rfl) (by kernel_rfl) (by kernel_rfl) (by kernel_rfl) (by kernel_rfl) ⟨Eqs.mono4 _, Tup2.mono4 (OutW.mono4 _ _) (Eqs.mono4 _), Tup2.mono4 (OutW.mono4 _ _) (Eqs.mono4 _), OutW.mono4 _ _, Eqs.mono4 _, True.mono4, True.mono4, Eqs.mono4 _, trivial⟩ (ok_cons W2ok ok_nil) (IsOld.all (bx := [⟨W2, some 5, 0, 7, .agg #[.bool false, .slice none 0 0], some (6, 23, 3), []⟩]) ⟨someNe, trivial⟩) (DisOld.all (bx := [⟨W2, some 5, 0, 7, .agg #[.bool false, .slice none 0 0], some (6, 23, 3), []⟩]) ⟨someNe, trivial⟩) ?_ ?_
                · exact ⟨.norm 21 rfl rfl rfl (fun a_ w_ hn_ hBt hr hR hD hO hS => op_loadv R3ok ((hR 2 rfl).trans f2) (b2.keep hBt ⟨someNe, trivial⟩)),
                    .norm 22 rfl rfl rfl (fun a_ w_ hn_ hBt hr hR hD hO hS => op_rwhole (isr_eq (show a_.eval (.tmp 21) = .agg #[.bool nr, .slice ar mr cr, .slice br kr dr] from hD 0 rfl) (Ar.rl hr) (Sr.rl hr) Vr Lr Mr) (by omega) h0),
                    .norm 20 rfl rfl rfl (fun a_ w_ hn_ hBt hr hR hD hO hS => op_mvp (p := Tup2 (OutW ((tp pr qr / tq qr)) ((1500) + 6)) (Eqs (.bool true))) (show Tup2 (OutW ((tp pr qr / tq qr)) ((1500) + 6)) (Eqs (.bool true)) (a_.eval (.tmp 22)) w_ from hD 1 rfl)),
                    .norm 23 rfl rfl rfl (fun a_ w_ hn_ hBt hr hR hD hO hS => op_ex20 (show Tup2 (OutW ((tp pr qr / tq qr)) ((1500) + 6)) (Eqs (.bool true)) (a_.eval (.tmp 20)) w_ from hD 2 rfl)),
                    .norm 24 rfl rfl rfl (fun a_ w_ hn_ hBt hr hR hD hO hS => op_ex21 (show Tup2 (OutW ((tp pr qr / tq qr)) ((1500) + 6)) (Eqs (.bool true)) (a_.eval (.tmp 20)) w_ from hD 2 rfl)),
                    .alloc 0 _ rfl rfl (.inl ⟨rfl, rfl⟩) rfl rfl rfl rfl rfl,
                    .store 0 _ _ _ rfl rfl rfl rfl rfl rfl rfl (fun ia h => by cases h; rfl) rfl rfl rfl OutW.cs,
                    .norm 8 rfl rfl rfl (fun a_ w_ hn_ hBt hr hR hD hO hS => op_assign (show a_.eval (.tmp 24) = .bool true from hD 4 rfl)),
                    trivial⟩
                · intro a9 w9 gs9 hn9 hd9 hBt hr hR hP hX hU
                  replace hn := hn9; replace hd := hd9.trans hd
                  replace b2 := b2.keep hBt ⟨someNe, trivial⟩
                  replace b5 := b5.keep hBt ⟨someNe, trivial⟩
                  replace b6 := b6.keep hBt ⟨someNe, trivial⟩
                  obtain ⟨n_10, a_10, c_10, r_10, e23, G10, l10⟩ : OutW ((tp pr qr / tq qr)) ((1500) + 6) (a9.eval (.tmp 23)) w9 := hP 3 (by decide)
                  have A10 := G10.ag
                  have b7 : BoxV W2 w9 (gs9 0) (.agg #[.bool n_10, .slice a_10 r_10.length c_10]) := boxv_of (hX 0 _ rfl).2.2.2 e23
                  have f7 := (hX 0 _ rfl).1
                  have u7 : w.heap.size ≤ gs9 0 := Nat.le_trans HB.size ((hX 0 _ rfl).2.2.1 (by simp))
                  replace f1 := (hR 1 rfl).trans f1
                  replace f2 := (hR 2 rfl).trans f2
                  replace f4 := (hR 4 rfl).trans f4
                  replace f5 := (hR 5 rfl).trans f5
                  replace f6 := (hR 6 rfl).trans f6
                  have e8 : a9.eval (.tmp 8) = .bool true := hP 7 (by decide)
                  have f8 := e8
                  replace Ar := Ar.rl hr
                  replace Sr := Sr.rl hr
                  replace Dr := Dr.rl hr
                  replace G6 := G6.rl hr
                  replace A6 := A6.rl hr
                  replace K6 := K6.rl hr
                  replace S6 := S6.rl hr
                  replace G8 := G8.rl hr
                  replace A8 := A8.rl hr
                  replace K8 := K8.rl hr
                  replace S8 := S8.rl hr
                  replace HB := HB.trans (hBt.below HB.size (UpOld.all (bx := [⟨W2, some 5, 0, 7, .agg #[.bool false, .slice none 0 0], some (6, 23, 3), []⟩]) ⟨someNe, trivial⟩))
                  clear hBt hr hR hP hX hU
                  refine wp_seq ?_
                  refine wp_seq ?_
                  refine region4 [some 25, some 26, some 27, some 28, some 29, some 30, some 31, some 32, some 33, some 34, some 35, some 36, some 37, some 38, some 39, some 40, some 41, some 42, some 43, some 44, some 45, some 46, some 47, some 48, some 49, some 50, some 51, some 52, some 53, some 54, some 55] [Eqs (.agg #[.bool n_6, .slice a_6 r_6.length c_6, .slice b_6 s_6.length d_6]), Eqs (.agg #[.bool nr, .slice ar mr cr, .slice br kr dr]), Eqs (.int .i64 (cmpI (tp (tp pr qr / tq qr) 1 * tq qr) (tp pr qr * tq 1))), Eqs (.bool false), Eqs (.bool false), Eqs (.agg #[.bool n_6, .slice a_6 r_6.length c_6, .slice b_6 s_6.length d_6]), Eqs (.agg #[.bool n_8, .slice a_8 r_8.length c_8, .slice b_8 s_8.length d_8]), OutR ((nm (tp (tp pr qr / tq qr) 1 * tq 1 + tp 1 1 * tq 1) (tq 1 * tq 1))) ((dn (tp (tp pr qr / tq qr) 1 * tq 1 + tp 1 1 * tq 1) (tq 1 * tq 1))) (3 * ((((1500) + 6) + 2) + ((2) + 2) + 4) + 1), Eqs (.agg #[.bool nr, .slice ar mr cr, .slice br kr dr]), Eqs (.int .i64 (cmpI (tp (nm (tp (tp pr qr / tq qr) 1 * tq 1 + tp 1 1 * tq 1) (tq 1 * tq 1)) (dn (tp (tp pr qr / tq qr) 1 * tq 1 + tp 1 1 * tq 1) (tq 1 * tq 1)) * tq qr) (tp pr qr * tq (dn (tp (tp pr qr / tq qr) 1 * tq 1 + tp 1 1 * tq 1) (tq 1 * tq 1))))), Eqs (.bool false), Eqs (.bool false), Eqs (.bool false), Eqs (.bool true), Eqs (.agg #[.bool n_6, .slice a_6 r_6.length c_6, .slice b_6 s_6.length d_6]), Eqs (.agg #[.bool nr, .slice ar mr cr, .slice br kr dr]), Eqs (.int .i64 (cmpI (tp (tp pr qr / tq qr) 1 * tq qr) (tp pr qr * tq 1))), Eqs (.bool true), Eqs (.bool false), Eqs (.bool false), Eqs (.bool false), Eqs (.bool true), Eqs (.bool true), Eqs (.agg #[.bool n_10, .slice a_10 r_10.length c_10]), OutR ((tp pr qr / tq qr)) (1) (((1500) + 6) + 2), Eqs (.agg #[.bool nr, .slice ar mr cr, .slice br kr dr]), OutR ((nm (tp pr qr) (tq qr))) ((dn (tp pr qr) (tq qr))) (2 * ((1500) + 2)), Eqs (.bool true), Eqs (.bool false), Eqs (.bool false), Eqs (.bool false)] [] [] (by kernel_rfl) hn rfl (by kernel_rfl) (by kernel_rfl) (by kernel_rfl) (by kernel_rfl) (by kernel_rfl) (by kernel_rfl) ⟨Eqs.mono4 _, Eqs.mono4 _, Eqs.mono4 _, Eqs.mono4 _, Eqs.mono4 _, Eqs.mono4 _, Eqs.mono4 _, OutR.mono4 _ _ _, Eqs.mono4 _, Eqs.mono4 _, Eqs.mono4 _, Eqs.mono4 _, Eqs.mono4 _, Eqs.mono4 _, Eqs.mono4 _, Eqs.mono4 _, Eqs.mono4 _, Eqs.mono4 _, Eqs.mono4 _, Eqs.mono4 _, Eqs.mono4 _, Eqs.mono4 _, Eqs.mono4 _, Eqs.mono4 _, OutR.mono4 _ _ _, Eqs.mono4 _, OutR.mono4 _ _ _, Eqs.mono4 _, Eqs.mono4 _, Eqs.mono4 _, Eqs.mono4 _, trivial⟩ ok_nil (IsOld.all (bx := []) trivial) (DisOld.all (bx := []) trivial) ?_ ?_
                  · exact ⟨.norm 25 rfl rfl rfl (fun a_ w_ hn_ hBt hr hR hD hO hS => op_loadv R3ok ((hR 5 rfl).trans f5) (b5.keep hBt trivial)),
                      .norm 26 rfl rfl rfl (fun a_ w_ hn_ hBt hr hR hD hO hS => op_loadv R3ok ((hR 2 rfl).trans f2) (b2.keep hBt trivial)),
                      .norm 27 rfl rfl rfl (fun a_ w_ hn_ hBt hr hR hD hO hS => op_rcmp (isr_eq (show a_.eval (.tmp 25) = .agg #[.bool n_6, .slice a_6 r_6.length c_6, .slice b_6 s_6.length d_6] from hD 0 rfl) (A6.rl hr) (S6.rl hr) V6 l6 k6) (isr_eq (show a_.eval (.tmp 26) = .agg #[.bool nr, .slice ar mr cr, .slice br kr dr] from hD 1 rfl) (Ar.rl hr) (Sr.rl hr) Vr Lr Mr) (by omega)),
                      .norm 28 rfl rfl rfl (fun a_ w_ hn_ hBt hr hR hD hO hS => op_gtrf (show a_.eval (.tmp 27) = .int .i64 (cmpI (tp (tp pr qr / tq qr) 1 * tq qr) (tp pr qr * tq 1)) from hD 2 rfl) (fl_below Qr)),
                      .norm 29 rfl rfl rfl (fun a_ w_ hn_ hBt hr hR hD hO hS => op_mv (show a_.eval (.tmp 28) = .bool false from hD 3 rfl)),
                      .norm 30 rfl rfl rfl (fun a_ w_ hn_ hBt hr hR hD hO hS => ⟨⟨_, rfl⟩, fun _ => op_loadv R3ok ((hR 5 rfl).trans f5) (b5.keep hBt trivial), fun hne => absurd (hD 4 rfl) hne⟩),
                      .norm 31 rfl rfl rfl (fun a_ w_ hn_ hBt hr hR hD hO hS => ⟨⟨_, rfl⟩, fun _ => op_loadv R3ok ((hR 6 rfl).trans f6) (b6.keep hBt trivial), fun hne => absurd (hD 4 rfl) hne⟩),
                      .norm 32 rfl rfl rfl (fun a_ w_ hn_ hBt hr hR hD hO hS => ⟨⟨_, rfl⟩, fun _ => op_radd (isr_eq (show a_.eval (.tmp 30) = .agg #[.bool n_6, .slice a_6 r_6.length c_6, .slice b_6 s_6.length d_6] from hD 5 rfl) (A6.rl hr) (S6.rl hr) V6 l6 k6) (isr_eq (show a_.eval (.tmp 31) = .agg #[.bool n_8, .slice a_8 r_8.length c_8, .slice b_8 s_8.length d_8] from hD 6 rfl) (A8.rl hr) (S8.rl hr) V8 l8 k8) (by omega), fun hne => absurd (hD 4 rfl) hne⟩),
                      .norm 33 rfl rfl rfl (fun a_ w_ hn_ hBt hr hR hD hO hS => ⟨⟨_, rfl⟩, fun _ => op_loadv R3ok ((hR 2 rfl).trans f2) (b2.keep hBt trivial), fun hne => absurd (hD 4 rfl) hne⟩),
                      .norm 34 rfl rfl rfl (fun a_ w_ hn_ hBt hr hR hD hO hS => ⟨⟨_, rfl⟩, fun _ => op_rcmp (show OutR ((nm (tp (tp pr qr / tq qr) 1 * tq 1 + tp 1 1 * tq 1) (tq 1 * tq 1))) ((dn (tp (tp pr qr / tq qr) 1 * tq 1 + tp 1 1 * tq 1) (tq 1 * tq 1))) (3 * ((((1500) + 6) + 2) + ((2) + 2) + 4) + 1) (a_.eval (.tmp 32)) w_ from hD 7 rfl).is (isr_eq (show a_.eval (.tmp 33) = .agg #[.bool nr, .slice ar mr cr, .slice br kr dr] from hD 8 rfl) (Ar.rl hr) (Sr.rl hr) Vr Lr Mr) (by omega), fun hne => absurd (hD 4 rfl) hne⟩),
                      .norm 35 rfl rfl rfl (fun a_ w_ hn_ hBt hr hR hD hO hS => ⟨⟨_, rfl⟩, fun _ => op_leqf (show a_.eval (.tmp 34) = .int .i64 (cmpI (tp (nm (tp (tp pr qr / tq qr) 1 * tq 1 + tp 1 1 * tq 1) (tq 1 * tq 1)) (dn (tp (tp pr qr / tq qr) 1 * tq 1 + tp 1 1 * tq 1) (tq 1 * tq 1)) * tq qr) (tp pr qr * tq (dn (tp (tp pr qr / tq qr) 1 * tq 1 + tp 1 1 * tq 1) (tq 1 * tq 1)))) from hD 9 rfl) (fl_above Qr), fun hne => absurd (hD 4 rfl) hne⟩),
                      .norm 36 rfl rfl rfl (fun a_ w_ hn_ hBt hr hR hD hO hS => op_pickb (show a_.eval (.tmp 29) = .bool false from hD 4 rfl) (show a_.eval (.tmp 35) = .bool false from hD 10 rfl)),
                      .norm 37 rfl rfl rfl (fun a_ w_ hn_ hBt hr hR hD hO hS => op_mv (show a_.eval (.tmp 36) = .bool false from hD 11 rfl)),
                      .norm 38 rfl rfl rfl (fun a_ w_ hn_ hBt hr hR hD hO hS => ⟨⟨_, rfl⟩, fun _ => op_mv ((hR 8 rfl).trans f8), fun hne => absurd (hD 12 rfl) hne⟩),
                      .norm 39 rfl rfl rfl (fun a_ w_ hn_ hBt hr hR hD hO hS => ⟨⟨_, rfl⟩, fun _ => op_loadv R3ok ((hR 5 rfl).trans f5) (b5.keep hBt trivial), fun hne => absurd (hD 12 rfl) hne⟩),
                      .norm 40 rfl rfl rfl (fun a_ w_ hn_ hBt hr hR hD hO hS => ⟨⟨_, rfl⟩, fun _ => op_loadv R3ok ((hR 2 rfl).trans f2) (b2.keep hBt trivial), fun hne => absurd (hD 12 rfl) hne⟩),
                      .norm 41 rfl rfl rfl (fun a_ w_ hn_ hBt hr hR hD hO hS => ⟨⟨_, rfl⟩, fun _ => op_rcmp (isr_eq (show a_.eval (.tmp 39) = .agg #[.bool n_6, .slice a_6 r_6.length c_6, .slice b_6 s_6.length d_6] from hD 14 rfl) (A6.rl hr) (S6.rl hr) V6 l6 k6) (isr_eq (show a_.eval (.tmp 40) = .agg #[.bool nr, .slice ar mr cr, .slice br kr dr] from hD 15 rfl) (Ar.rl hr) (Sr.rl hr) Vr Lr Mr) (by omega), fun hne => absurd (hD 12 rfl) hne⟩),
                      .norm 42 rfl rfl rfl (fun a_ w_ hn_ hBt hr hR hD hO hS => ⟨⟨_, rfl⟩, fun _ => op_eqlkt (show a_.eval (.tmp 41) = .int .i64 (cmpI (tp (tp pr qr / tq qr) 1 * tq qr) (tp pr qr * tq 1)) from hD 16 rfl) ((fl_zero Qr).2 h0), fun hne => absurd (hD 12 rfl) hne⟩),
                      .norm 43 rfl rfl rfl (fun a_ w_ hn_ hBt hr hR hD hO hS => ⟨⟨_, rfl⟩, fun _ => op_neqbf (show a_.eval (.tmp 38) = .bool true from hD 13 rfl) (show a_.eval (.tmp 42) = .bool true from hD 17 rfl) rfl, fun hne => absurd (hD 12 rfl) hne⟩),
                      .norm 44 rfl rfl rfl (fun a_ w_ hn_ hBt hr hR hD hO hS => op_pickb (show a_.eval (.tmp 37) = .bool false from hD 12 rfl) (show a_.eval (.tmp 43) = .bool false from hD 18 rfl)),
                      .norm 45 rfl rfl rfl (fun a_ w_ hn_ hBt hr hR hD hO hS => op_mv (show a_.eval (.tmp 44) = .bool false from hD 19 rfl)),
                      .norm 46 rfl rfl rfl (fun a_ w_ hn_ hBt hr hR hD hO hS => ⟨⟨_, rfl⟩, fun _ => op_mv ((hR 8 rfl).trans f8), fun hne => absurd (hD 20 rfl) hne⟩),
                      .norm 47 rfl rfl rfl (fun a_ w_ hn_ hBt hr hR hD hO hS => ⟨⟨_, rfl⟩, fun _ => op_mv (show a_.eval (.tmp 46) = .bool true from hD 21 rfl), fun hne => absurd (hD 20 rfl) hne⟩),
                      .norm 48 rfl rfl rfl (fun a_ w_ hn_ hBt hr hR hD hO hS => ⟨⟨_, rfl⟩, fun _ => op_loadv W2ok ((hR 7 rfl).trans f7) (b7.keep hBt trivial), fun hne => absurd (hD 22 rfl) hne⟩),
                      .norm 49 rfl rfl rfl (fun a_ w_ hn_ hBt hr hR hD hO hS => ⟨⟨_, rfl⟩, fun _ => op_from (isw_eq (show a_.eval (.tmp 48) = .agg #[.bool n_10, .slice a_10 r_10.length c_10] from hD 23 rfl) (A10.rl hr) l10) (by omega), fun hne => absurd (hD 22 rfl) hne⟩),
                      .norm 50 rfl rfl rfl (fun a_ w_ hn_ hBt hr hR hD hO hS => ⟨⟨_, rfl⟩, fun _ => op_loadv R3ok ((hR 2 rfl).trans f2) (b2.keep hBt trivial), fun hne => absurd (hD 22 rfl) hne⟩),
                      .norm 51 rfl rfl rfl (fun a_ w_ hn_ hBt hr hR hD hO hS => ⟨⟨_, rfl⟩, fun _ => op_rtrim (isr_eq (show a_.eval (.tmp 50) = .agg #[.bool nr, .slice ar mr cr, .slice br kr dr] from hD 25 rfl) (Ar.rl hr) (Sr.rl hr) Vr Lr Mr) (by omega), fun hne => absurd (hD 22 rfl) hne⟩),
                      .norm 52 rfl rfl rfl (fun a_ w_ hn_ hBt hr hR hD hO hS => ⟨⟨_, rfl⟩, fun _ => op_samer (show OutR ((tp pr qr / tq qr)) (1) (((1500) + 6) + 2) (a_.eval (.tmp 49)) w_ from hD 24 rfl) (show OutR ((nm (tp pr qr) (tq qr))) ((dn (tp pr qr) (tq qr))) (2 * ((1500) + 2)) (a_.eval (.tmp 51)) w_ from hD 26 rfl) (fl_same Qr h0), fun hne => absurd (hD 22 rfl) hne⟩),
                      .norm 53 rfl rfl rfl (fun a_ w_ hn_ hBt hr hR hD hO hS => ⟨⟨_, rfl⟩, fun _ => op_not (show a_.eval (.tmp 52) = .bool true from hD 27 rfl), fun hne => absurd (hD 22 rfl) hne⟩),
                      .norm 54 rfl rfl rfl (fun a_ w_ hn_ hBt hr hR hD hO hS => ⟨⟨_, rfl⟩, fun _ => op_pickb (show a_.eval (.tmp 47) = .bool true from hD 22 rfl) (show a_.eval (.tmp 53) = .bool false from hD 28 rfl), fun hne => absurd (hD 20 rfl) hne⟩),
                      .norm 55 rfl rfl rfl (fun a_ w_ hn_ hBt hr hR hD hO hS => op_pickb (show a_.eval (.tmp 45) = .bool false from hD 20 rfl) (show a_.eval (.tmp 54) = .bool false from hD 29 rfl)),
                      trivial⟩
                  · intro a11 w11 gs11 hn11 hd11 hBt hr hR hP hX hU
                    replace hn := hn11; replace hd := hd11.trans hd
                    replace b2 := b2.keep hBt trivial
                    replace f1 := (hR 1 rfl).trans f1
                    replace f2 := (hR 2 rfl).trans f2
                    replace f4 := (hR 4 rfl).trans f4
                    have e55 : a11.eval (.tmp 55) = .bool false := hP 30 (by decide)
                    have f55 := e55
                    replace Ar := Ar.rl hr
                    replace Sr := Sr.rl hr
                    replace Dr := Dr.rl hr
                    replace G6 := G6.rl hr
                    replace A6 := A6.rl hr
                    replace K6 := K6.rl hr
                    replace S6 := S6.rl hr
                    replace G8 := G8.rl hr
                    replace A8 := A8.rl hr
                    replace K8 := K8.rl hr
                    replace S8 := S8.rl hr
                    replace G10 := G10.rl hr
                    replace A10 := A10.rl hr
                    replace HB := HB.trans (hBt.below HB.size (UpOld.all (bx := []) trivial))
                    clear hBt hr hR hP hX hU
                    refine wp_cond_false f55 ?_
                    refine wp_skip ?_
                    refine wp_seq ?_
                    refine region4 [some 56, some 57, some 9, none] [Eqs (.int .i64 v), OutW (v) (2), (fun _ _ => True), (fun _ _ => True)] [⟨W2, some 2, 0, 9, .agg #[.bool false, .slice none 0 0], some (3, 57, 1), []⟩] [] (by kernel_rfl) hn rfl (by kernel_rfl) (by kernel_rfl) (by kernel_rfl) (by kernel_rfl) (by kernel_rfl) (by kernel_rfl) ⟨Eqs.mono4 _, OutW.mono4 _ _, True.mono4, True.mono4, trivial⟩ (ok_cons W2ok ok_nil) (IsOld.all (bx := [⟨W2, some 2, 0, 9, .agg #[.bool false, .slice none 0 0], some (3, 57, 1), []⟩]) ⟨someNe, trivial⟩) (DisOld.all (bx := [⟨W2, some 2, 0, 9, .agg #[.bool false, .slice none 0 0], some (3, 57, 1), []⟩]) ⟨someNe, trivial⟩) ?_ ?_
                    · exact ⟨.norm 56 rfl rfl rfl (fun a_ w_ hn_ hBt hr hR hD hO hS => op_mv ((hR 1 rfl).trans f1)),
                        .norm 57 rfl rfl rfl (fun a_ w_ hn_ hBt hr hR hD hO hS => op_ofv (show a_.eval (.tmp 56) = .int .i64 v from hD 0 rfl) hv1 hv2),
                        .alloc 0 _ rfl rfl (.inl ⟨rfl, rfl⟩) rfl rfl rfl rfl rfl,
                        .store 0 _ _ _ rfl rfl rfl rfl rfl rfl rfl (fun ia h => by cases h; rfl) rfl rfl rfl OutW.cs,
                        trivial⟩
                    · intro a12 w12 gs12 hn12 hd12 hBt hr hR hP hX hU
                      replace hn := hn12; replace hd := hd12.trans hd
                      replace b2 := b2.keep hBt ⟨someNe, trivial⟩
                      obtain ⟨n_13, a_13, c_13, r_13, e57, G13, l13⟩ : OutW (v) (2) (a12.eval (.tmp 57)) w12 := hP 1 (by decide)
                      have A13 := G13.ag
                      have b9 : BoxV W2 w12 (gs12 0) (.agg #[.bool n_13, .slice a_13 r_13.length c_13]) := boxv_of (hX 0 _ rfl).2.2.2 e57
                      have f9 := (hX 0 _ rfl).1
                      have u9 : w.heap.size ≤ gs12 0 := Nat.le_trans HB.size ((hX 0 _ rfl).2.2.1 (by simp))
                      replace f2 := (hR 2 rfl).trans f2
                      replace f4 := (hR 4 rfl).trans f4
                      replace Ar := Ar.rl hr
                      replace Sr := Sr.rl hr
                      replace Dr := Dr.rl hr
                      replace G6 := G6.rl hr
                      replace A6 := A6.rl hr
                      replace K6 := K6.rl hr
                      replace S6 := S6.rl hr
                      replace G8 := G8.rl hr
                      replace A8 := A8.rl hr
                      replace K8 := K8.rl hr
                      replace S8 := S8.rl hr
                      replace G10 := G10.rl hr
                      replace A10 := A10.rl hr
                      replace HB := HB.trans (hBt.below HB.size (UpOld.all (bx := [⟨W2, some 2, 0, 9, .agg #[.bool false, .slice none 0 0], some (3, 57, 1), []⟩]) ⟨someNe, trivial⟩))
                      clear hBt hr hR hP hX hU
                      refine wp_seq ?_
                      refine region4 [some 58, some 59, some 60, some 61, some 62, some 63, some 64, some 65, some 66, some 67, some 4] [Eqs (.agg #[.bool nr, .slice ar mr cr, .slice br kr dr]), Eqs (.agg #[.bool n_13, .slice a_13 r_13.length c_13]), OutR (v) (1) ((2) + 2), OutR ((nm (tp pr qr * tq 1 + tp v 1 * tq qr) (tq qr * tq 1))) ((dn (tp pr qr * tq 1 + tp v 1 * tq qr) (tq qr * tq 1))) (3 * ((1500) + ((2) + 2) + 4) + 1), OutW ((tp (nm (tp pr qr * tq 1 + tp v 1 * tq qr) (tq qr * tq 1)) (dn (tp pr qr * tq 1 + tp v 1 * tq qr) (tq qr * tq 1)) / tq (dn (tp pr qr * tq 1 + tp v 1 * tq qr) (tq qr * tq 1)))) ((3 * ((1500) + ((2) + 2) + 4) + 1) + 6), Eqs (.agg #[.bool nr, .slice ar mr cr, .slice br kr dr]), OutW ((tp pr qr / tq qr)) ((1500) + 6), Eqs (.agg #[.bool n_13, .slice a_13 r_13.length c_13]), OutW (((tp pr qr / tq qr) + v)) (((1500) + 6) + (2) + 1), Eqs (.bool true), Eqs (.bool true)] [] [] (by kernel_rfl) hn rfl (by kernel_rfl) (by kernel_rfl) (by kernel_rfl) (by kernel_rfl) (by kernel_rfl) (by kernel_rfl) ⟨Eqs.mono4 _, Eqs.mono4 _, OutR.mono4 _ _ _, OutR.mono4 _ _ _, OutW.mono4 _ _, Eqs.mono4 _, OutW.mono4 _ _, Eqs.mono4 _, OutW.mono4 _ _, Eqs.mono4 _, Eqs.mono4 _, trivial⟩ ok_nil (IsOld.all (bx := []) trivial) (DisOld.all (bx := []) trivial) ?_ ?_
                      · exact ⟨.norm 58 rfl rfl rfl (fun a_ w_ hn_ hBt hr hR hD hO hS => op_loadv R3ok ((hR 2 rfl).trans f2) (b2.keep hBt trivial)),
                          .norm 59 rfl rfl rfl (fun a_ w_ hn_ hBt hr hR hD hO hS => op_loadv W2ok ((hR 9 rfl).trans f9) (b9.keep hBt trivial)),
                          .norm 60 rfl rfl rfl (fun a_ w_ hn_ hBt hr hR hD hO hS => op_from (isw_eq (show a_.eval (.tmp 59) = .agg #[.bool n_13, .slice a_13 r_13.length c_13] from hD 1 rfl) (A13.rl hr) l13) (by omega)),
                          .norm 61 rfl rfl rfl (fun a_ w_ hn_ hBt hr hR hD hO hS => op_radd (isr_eq (show a_.eval (.tmp 58) = .agg #[.bool nr, .slice ar mr cr, .slice br kr dr] from hD 0 rfl) (Ar.rl hr) (Sr.rl hr) Vr Lr Mr) (show OutR (v) (1) ((2) + 2) (a_.eval (.tmp 60)) w_ from hD 2 rfl).is (by omega)),
                          .norm 62 rfl rfl rfl (fun a_ w_ hn_ hBt hr hR hD hO hS => op_rfloor (show OutR ((nm (tp pr qr * tq 1 + tp v 1 * tq qr) (tq qr * tq 1))) ((dn (tp pr qr * tq 1 + tp v 1 * tq qr) (tq qr * tq 1))) (3 * ((1500) + ((2) + 2) + 4) + 1) (a_.eval (.tmp 61)) w_ from hD 3 rfl).is (by omega)),
                          .norm 63 rfl rfl rfl (fun a_ w_ hn_ hBt hr hR hD hO hS => op_loadv R3ok ((hR 2 rfl).trans f2) (b2.keep hBt trivial)),
                          .norm 64 rfl rfl rfl (fun a_ w_ hn_ hBt hr hR hD hO hS => op_rfloor (isr_eq (show a_.eval (.tmp 63) = .agg #[.bool nr, .slice ar mr cr, .slice br kr dr] from hD 5 rfl) (Ar.rl hr) (Sr.rl hr) Vr Lr Mr) (by omega)),
                          .norm 65 rfl rfl rfl (fun a_ w_ hn_ hBt hr hR hD hO hS => op_loadv W2ok ((hR 9 rfl).trans f9) (b9.keep hBt trivial)),
                          .norm 66 rfl rfl rfl (fun a_ w_ hn_ hBt hr hR hD hO hS => op_add (L1 := (1500) + 6) (L2 := 2) (show OutW ((tp pr qr / tq qr)) ((1500) + 6) (a_.eval (.tmp 64)) w_ from hD 6 rfl).is (isw_eq (show a_.eval (.tmp 65) = .agg #[.bool n_13, .slice a_13 r_13.length c_13] from hD 7 rfl) (A13.rl hr) l13) (by omega) (by omega)),
                          .norm 67 rfl rfl rfl (fun a_ w_ hn_ hBt hr hR hD hO hS => op_same (show OutW ((tp (nm (tp pr qr * tq 1 + tp v 1 * tq qr) (tq qr * tq 1)) (dn (tp pr qr * tq 1 + tp v 1 * tq qr) (tq qr * tq 1)) / tq (dn (tp pr qr * tq 1 + tp v 1 * tq qr) (tq qr * tq 1)))) ((3 * ((1500) + ((2) + 2) + 4) + 1) + 6) (a_.eval (.tmp 62)) w_ from hD 4 rfl) (show OutW (((tp pr qr / tq qr) + v)) (((1500) + 6) + (2) + 1) (a_.eval (.tmp 66)) w_ from hD 8 rfl) (fl_add Qr)),
                          .norm 4 rfl rfl rfl (fun a_ w_ hn_ hBt hr hR hD hO hS => op_assign (show a_.eval (.tmp 67) = .bool true from hD 9 rfl)),
                          trivial⟩
                      · intro a14 w14 gs14 hn14 hd14 hBt hr hR hP hX hU
                        replace hn := hn14; replace hd := hd14.trans hd
                        have e4 : a14.eval (.tmp 4) = .bool true := hP 10 (by decide)
                        have f4 := e4
                        replace Ar := Ar.rl hr
                        replace Sr := Sr.rl hr
                        replace Dr := Dr.rl hr
                        replace G6 := G6.rl hr
                        replace A6 := A6.rl hr
                        replace K6 := K6.rl hr
                        replace S6 := S6.rl hr
                        replace G8 := G8.rl hr
                        replace A8 := A8.rl hr
                        replace K8 := K8.rl hr
                        replace S8 := S8.rl hr
                        replace G10 := G10.rl hr
                        replace A10 := A10.rl hr
                        replace G13 := G13.rl hr
                        replace A13 := A13.rl hr
                        replace HB := HB.trans (hBt.below HB.size (UpOld.all (bx := []) trivial))
                        clear hBt hr hR hP hX hU
                        refine wp_ret ?_
                        repeat (first | refine then_ret ?_ | refine scope_ret ?_ | refine block_ret ?_)
                        exact bodyPost_ret (v := .bool true) (res_t rfl f4) hd ⟨rfl, HB⟩
              · skip
                refine wp_seq ?_
                refine region4 [some 21, some 22, some 20, some 23, some 24, some 7, none, some 8] [Eqs (.agg #[.bool nr, .slice ar mr cr, .slice br kr dr]), Tup2 (OutW (0) ((1500) + 6)) (Eqs (.bool false)), Tup2 (OutW (0) ((1500) + 6)) (Eqs (.bool false)), OutW (0) ((1500) + 6), Eqs (.bool false), (fun _ _ => True), (fun _ _ => True), Eqs (.bool false)] [⟨W2, some 5, 0, 7, .agg #[.bool false, .slice none 0 0], some (6, 23, 3), []⟩] [] (by kernel_rfl) hn rfl (by kernel_rfl) (by kernel_rfl) (by kernel_rfl) (by kernel_rfl) (by kernel_rfl) (by kernel_rfl) ⟨Eqs.mono4 _, Tup2.mono4 (OutW.mono4 _ _) (Eqs.mono4 _), Tup2.mono4 (OutW.mono4 _ _) (Eqs.mono4 _), OutW.mono4 _ _, Eqs.mono4 _, True.mono4, True.mono4, Eqs.mono4 _, trivial⟩ (ok_cons W2ok ok_nil) (IsOld.all (bx := [⟨W2, some 5, 0, 7, .agg #[.bool false, .slice none 0 0], some (6, 23, 3), []⟩]) ⟨someNe, trivial⟩) (DisOld.all (bx := [⟨W2, some 5, 0, 7, .agg #[.bool false, .slice none 0 0], some (6, 23, 3), []⟩]) ⟨someNe, trivial⟩) ?_ ?_
                · exact ⟨.norm 21 rfl rfl rfl (fun a_ w_ hn_ hBt hr hR hD hO hS => op_loadv R3ok ((hR 2 rfl).trans f2) (b2.keep hBt ⟨someNe, trivial⟩)),
                    .norm 22 rfl rfl rfl (fun a_ w_ hn_ hBt hr hR hD hO hS => op_rwhole0 (isr_eq (show a_.eval (.tmp 21) = .agg #[.bool nr, .slice ar mr cr, .slice br kr dr] from hD 0 rfl) (Ar.rl hr) (Sr.rl hr) Vr Lr Mr) (by omega) h0),
                    .norm 20 rfl rfl rfl (fun a_ w_ hn_ hBt hr hR hD hO hS => op_mvp (p := Tup2 (OutW (0) ((1500) + 6)) (Eqs (.bool false))) (show Tup2 (OutW (0) ((1500) + 6)) (Eqs (.bool false)) (a_.eval (.tmp 22)) w_ from hD 1 rfl)),
                    .norm 23 rfl rfl rfl (fun a_ w_ hn_ hBt hr hR hD hO hS => op_ex20 (show Tup2 (OutW (0) ((1500) + 6)) (Eqs (.bool false)) (a_.eval (.tmp 20)) w_ from hD 2 rfl)),
                    .norm 24 rfl rfl rfl (fun a_ w_ hn_ hBt hr hR hD hO hS => op_ex21 (show Tup2 (OutW (0) ((1500) + 6)) (Eqs (.bool false)) (a_.eval (.tmp 20)) w_ from hD 2 rfl)),
                    .alloc 0 _ rfl rfl (.inl ⟨rfl, rfl⟩) rfl rfl rfl rfl rfl,
                    .store 0 _ _ _ rfl rfl rfl rfl rfl rfl rfl (fun ia h => by cases h; rfl) rfl rfl rfl OutW.cs,
                    .norm 8 rfl rfl rfl (fun a_ w_ hn_ hBt hr hR hD hO hS => op_assign (show a_.eval (.tmp 24) = .bool false from hD 4 rfl)),
                    trivial⟩
                · intro a15 w15 gs15 hn15 hd15 hBt hr hR hP hX hU
                  replace hn := hn15; replace hd := hd15.trans hd
                  replace b2 := b2.keep hBt ⟨someNe, trivial⟩
                  replace b5 := b5.keep hBt ⟨someNe, trivial⟩
                  replace b6 := b6.keep hBt ⟨someNe, trivial⟩
                  obtain ⟨n_16, a_16, c_16, r_16, e23, G16, l16⟩ : OutW (0) ((1500) + 6) (a15.eval (.tmp 23)) w15 := hP 3 (by decide)
                  have A16 := G16.ag
                  have b7 : BoxV W2 w15 (gs15 0) (.agg #[.bool n_16, .slice a_16 r_16.length c_16]) := boxv_of (hX 0 _ rfl).2.2.2 e23
                  have f7 := (hX 0 _ rfl).1
                  have u7 : w.heap.size ≤ gs15 0 := Nat.le_trans HB.size ((hX 0 _ rfl).2.2.1 (by simp))
                  replace f1 := (hR 1 rfl).trans f1
                  replace f2 := (hR 2 rfl).trans f2
                  replace f4 := (hR 4 rfl).trans f4
                  replace f5 := (hR 5 rfl).trans f5
                  replace f6 := (hR 6 rfl).trans f6
                  have e8 : a15.eval (.tmp 8) = .bool false := hP 7 (by decide)
                  have f8 := e8
                  replace Ar := Ar.rl hr
                  replace Sr := Sr.rl hr
                  replace Dr := Dr.rl hr
                  replace G6 := G6.rl hr
                  replace A6 := A6.rl hr
                  replace K6 := K6.rl hr
                  replace S6 := S6.rl hr
                  replace G8 := G8.rl hr
                  replace A8 := A8.rl hr
                  replace K8 := K8.rl hr
                  replace S8 := S8.rl hr
                  replace HB := HB.trans (hBt.below HB.size (UpOld.all (bx := [⟨W2, some 5, 0, 7, .agg #[.bool false, .slice none 0 0], some (6, 23, 3), []⟩]) ⟨someNe, trivial⟩))
                  clear hBt hr hR hP hX hU
                  refine wp_seq ?_
                  refine wp_seq ?_
                  refine region4 [some 25, some 26, some 27, some 28, some 29, some 30, some 31, some 32, some 33, some 34, some 35, some 36, some 37, some 38, some 39, some 40, some 41, some 42, some 43, some 44, some 45, some 46, some 47, some 48, some 49, some 50, some 51, some 52, some 53, some 54, some 55] [Eqs (.agg #[.bool n_6, .slice a_6 r_6.length c_6, .slice b_6 s_6.length d_6]), Eqs (.agg #[.bool nr, .slice ar mr cr, .slice br kr dr]), Eqs (.int .i64 (cmpI (tp (tp pr qr / tq qr) 1 * tq qr) (tp pr qr * tq 1))), Eqs (.bool false), Eqs (.bool false), Eqs (.agg #[.bool n_6, .slice a_6 r_6.length c_6, .slice b_6 s_6.length d_6]), Eqs (.agg #[.bool n_8, .slice a_8 r_8.length c_8, .slice b_8 s_8.length d_8]), OutR ((nm (tp (tp pr qr / tq qr) 1 * tq 1 + tp 1 1 * tq 1) (tq 1 * tq 1))) ((dn (tp (tp pr qr / tq qr) 1 * tq 1 + tp 1 1 * tq 1) (tq 1 * tq 1))) (3 * ((((1500) + 6) + 2) + ((2) + 2) + 4) + 1), Eqs (.agg #[.bool nr, .slice ar mr cr, .slice br kr dr]), Eqs (.int .i64 (cmpI (tp (nm (tp (tp pr qr / tq qr) 1 * tq 1 + tp 1 1 * tq 1) (tq 1 * tq 1)) (dn (tp (tp pr qr / tq qr) 1 * tq 1 + tp 1 1 * tq 1) (tq 1 * tq 1)) * tq qr) (tp pr qr * tq (dn (tp (tp pr qr / tq qr) 1 * tq 1 + tp 1 1 * tq 1) (tq 1 * tq 1))))), Eqs (.bool false), Eqs (.bool false), Eqs (.bool false), Eqs (.bool false), Eqs (.agg #[.bool n_6, .slice a_6 r_6.length c_6, .slice b_6 s_6.length d_6]), Eqs (.agg #[.bool nr, .slice ar mr cr, .slice br kr dr]), Eqs (.int .i64 (cmpI (tp (tp pr qr / tq qr) 1 * tq qr) (tp pr qr * tq 1))), Eqs (.bool false), Eqs (.bool false), Eqs (.bool false), Eqs (.bool false), Eqs (.bool false), Eqs (.bool false), (fun _ _ => True), (fun _ _ => True), (fun _ _ => True), (fun _ _ => True), (fun _ _ => True), (fun _ _ => True), Eqs (.bool false), Eqs (.bool false)] [] [] (by kernel_rfl) hn rfl (by kernel_rfl) (by kernel_rfl) (by kernel_rfl) (by kernel_rfl) (by kernel_rfl) (by kernel_rfl) ⟨Eqs.mono4 _, Eqs.mono4 _, Eqs.mono4 _, Eqs.mono4 _, Eqs.mono4 _, Eqs.mono4 _, Eqs.mono4 _, OutR.mono4 _ _ _, Eqs.mono4 _, Eqs.mono4 _, Eqs.mono4 _, Eqs.mono4 _, Eqs.mono4 _, Eqs.mono4 _, Eqs.mono4 _, Eqs.mono4 _, Eqs.mono4 _, Eqs.mono4 _, Eqs.mono4 _, Eqs.mono4 _, Eqs.mono4 _, Eqs.mono4 _, Eqs.mono4 _, True.mono4, True.mono4, True.mono4, True.mono4, True.mono4, True.mono4, Eqs.mono4 _, Eqs.mono4 _, trivial⟩ ok_nil (IsOld.all (bx := []) trivial) (DisOld.all (bx := []) trivial) ?_ ?_
                  · exact ⟨.norm 25 rfl rfl rfl (fun a_ w_ hn_ hBt hr hR hD hO hS => op_loadv R3ok ((hR 5 rfl).trans f5) (b5.keep hBt trivial)),
                      .norm 26 rfl rfl rfl (fun a_ w_ hn_ hBt hr hR hD hO hS => op_loadv R3ok ((hR 2 rfl).trans f2) (b2.keep hBt trivial)),
                      .norm 27 rfl rfl rfl (fun a_ w_ hn_ hBt hr hR hD hO hS => op_rcmp (isr_eq (show a_.eval (.tmp 25) = .agg #[.bool n_6, .slice a_6 r_6.length c_6, .slice b_6 s_6.length d_6] from hD 0 rfl) (A6.rl hr) (S6.rl hr) V6 l6 k6) (isr_eq (show a_.eval (.tmp 26) = .agg #[.bool nr, .slice ar mr cr, .slice br kr dr] from hD 1 rfl) (Ar.rl hr) (Sr.rl hr) Vr Lr Mr) (by omega)),
                      .norm 28 rfl rfl rfl (fun a_ w_ hn_ hBt hr hR hD hO hS => op_gtrf (show a_.eval (.tmp 27) = .int .i64 (cmpI (tp (tp pr qr / tq qr) 1 * tq qr) (tp pr qr * tq 1)) from hD 2 rfl) (fl_below Qr)),
                      .norm 29 rfl rfl rfl (fun a_ w_ hn_ hBt hr hR hD hO hS => op_mv (show a_.eval (.tmp 28) = .bool false from hD 3 rfl)),
                      .norm 30 rfl rfl rfl (fun a_ w_ hn_ hBt hr hR hD hO hS => ⟨⟨_, rfl⟩, fun _ => op_loadv R3ok ((hR 5 rfl).trans f5) (b5.keep hBt trivial), fun hne => absurd (hD 4 rfl) hne⟩),
                      .norm 31 rfl rfl rfl (fun a_ w_ hn_ hBt hr hR hD hO hS => ⟨⟨_, rfl⟩, fun _ => op_loadv R3ok ((hR 6 rfl).trans f6) (b6.keep hBt trivial), fun hne => absurd (hD 4 rfl) hne⟩),
                      .norm 32 rfl rfl rfl (fun a_ w_ hn_ hBt hr hR hD hO hS => ⟨⟨_, rfl⟩, fun _ => op_radd (isr_eq (show a_.eval (.tmp 30) = .agg #[.bool n_6, .slice a_6 r_6.length c_6, .slice b_6 s_6.length d_6] from hD 5 rfl) (A6.rl hr) (S6.rl hr) V6 l6 k6) (isr_eq (show a_.eval (.tmp 31) = .agg #[.bool n_8, .slice a_8 r_8.length c_8, .slice b_8 s_8.length d_8] from hD 6 rfl) (A8.rl hr) (S8.rl hr) V8 l8 k8) (by omega), fun hne => absurd (hD 4 rfl) hne⟩),
                      .norm 33 rfl rfl rfl (fun a_ w_ hn_ hBt hr hR hD hO hS => ⟨⟨_, rfl⟩, fun _ => op_loadv R3ok ((hR 2 rfl).trans f2) (b2.keep hBt trivial), fun hne => absurd (hD 4 rfl) hne⟩),
                      .norm 34 rfl rfl rfl (fun a_ w_ hn_ hBt hr hR hD hO hS => ⟨⟨_, rfl⟩, fun _ => op_rcmp (show OutR ((nm (tp (tp pr qr / tq qr) 1 * tq 1 + tp 1 1 * tq 1) (tq 1 * tq 1))) ((dn (tp (tp pr qr / tq qr) 1 * tq 1 + tp 1 1 * tq 1) (tq 1 * tq 1))) (3 * ((((1500) + 6) + 2) + ((2) + 2) + 4) + 1) (a_.eval (.tmp 32)) w_ from hD 7 rfl).is (isr_eq (show a_.eval (.tmp 33) = .agg #[.bool nr, .slice ar mr cr, .slice br kr dr] from hD 8 rfl) (Ar.rl hr) (Sr.rl hr) Vr Lr Mr) (by omega), fun hne => absurd (hD 4 rfl) hne⟩),
                      .norm 35 rfl rfl rfl (fun a_ w_ hn_ hBt hr hR hD hO hS => ⟨⟨_, rfl⟩, fun _ => op_leqf (show a_.eval (.tmp 34) = .int .i64 (cmpI (tp (nm (tp (tp pr qr / tq qr) 1 * tq 1 + tp 1 1 * tq 1) (tq 1 * tq 1)) (dn (tp (tp pr qr / tq qr) 1 * tq 1 + tp 1 1 * tq 1) (tq 1 * tq 1)) * tq qr) (tp pr qr * tq (dn (tp (tp pr qr / tq qr) 1 * tq 1 + tp 1 1 * tq 1) (tq 1 * tq 1)))) from hD 9 rfl) (fl_above Qr), fun hne => absurd (hD 4 rfl) hne⟩),
                      .norm 36 rfl rfl rfl (fun a_ w_ hn_ hBt hr hR hD hO hS => op_pickb (show a_.eval (.tmp 29) = .bool false from hD 4 rfl) (show a_.eval (.tmp 35) = .bool false from hD 10 rfl)),
                      .norm 37 rfl rfl rfl (fun a_ w_ hn_ hBt hr hR hD hO hS => op_mv (show a_.eval (.tmp 36) = .bool false from hD 11 rfl)),
                      .norm 38 rfl rfl rfl (fun a_ w_ hn_ hBt hr hR hD hO hS => ⟨⟨_, rfl⟩, fun _ => op_mv ((hR 8 rfl).trans f8), fun hne => absurd (hD 12 rfl) hne⟩),
                      .norm 39 rfl rfl rfl (fun a_ w_ hn_ hBt hr hR hD hO hS => ⟨⟨_, rfl⟩, fun _ => op_loadv R3ok ((hR 5 rfl).trans f5) (b5.keep hBt trivial), fun hne => absurd (hD 12 rfl) hne⟩),
                      .norm 40 rfl rfl rfl (fun a_ w_ hn_ hBt hr hR hD hO hS => ⟨⟨_, rfl⟩, fun _ => op_loadv R3ok ((hR 2 rfl).trans f2) (b2.keep hBt trivial), fun hne => absurd (hD 12 rfl) hne⟩),
                      .norm 41 rfl rfl rfl (fun a_ w_ hn_ hBt hr hR hD hO hS => ⟨⟨_, rfl⟩, fun _ => op_rcmp (isr_eq (show a_.eval (.tmp 39) = .agg #[.bool n_6, .slice a_6 r_6.length c_6, .slice b_6 s_6.length d_6] from hD 14 rfl) (A6.rl hr) (S6.rl hr) V6 l6 k6) (isr_eq (show a_.eval (.tmp 40) = .agg #[.bool nr, .slice ar mr cr, .slice br kr dr] from hD 15 rfl) (Ar.rl hr) (Sr.rl hr) Vr Lr Mr) (by omega), fun hne => absurd (hD 12 rfl) hne⟩),
                      .norm 42 rfl rfl rfl (fun a_ w_ hn_ hBt hr hR hD hO hS => ⟨⟨_, rfl⟩, fun _ => op_eqlkf (show a_.eval (.tmp 41) = .int .i64 (cmpI (tp (tp pr qr / tq qr) 1 * tq qr) (tp pr qr * tq 1)) from hD 16 rfl) (fun e => h0 ((fl_zero Qr).1 e)), fun hne => absurd (hD 12 rfl) hne⟩),
                      .norm 43 rfl rfl rfl (fun a_ w_ hn_ hBt hr hR hD hO hS => ⟨⟨_, rfl⟩, fun _ => op_neqbf (show a_.eval (.tmp 38) = .bool false from hD 13 rfl) (show a_.eval (.tmp 42) = .bool false from hD 17 rfl) rfl, fun hne => absurd (hD 12 rfl) hne⟩),
                      .norm 44 rfl rfl rfl (fun a_ w_ hn_ hBt hr hR hD hO hS => op_pickb (show a_.eval (.tmp 37) = .bool false from hD 12 rfl) (show a_.eval (.tmp 43) = .bool false from hD 18 rfl)),
                      .norm 45 rfl rfl rfl (fun a_ w_ hn_ hBt hr hR hD hO hS => op_mv (show a_.eval (.tmp 44) = .bool false from hD 19 rfl)),
                      .norm 46 rfl rfl rfl (fun a_ w_ hn_ hBt hr hR hD hO hS => ⟨⟨_, rfl⟩, fun _ => op_mv ((hR 8 rfl).trans f8), fun hne => absurd (hD 20 rfl) hne⟩),
                      .norm 47 rfl rfl rfl (fun a_ w_ hn_ hBt hr hR hD hO hS => ⟨⟨_, rfl⟩, fun _ => op_mv (show a_.eval (.tmp 46) = .bool false from hD 21 rfl), fun hne => absurd (hD 20 rfl) hne⟩),
                      .norm 48 rfl rfl rfl (fun a_ w_ hn_ hBt hr hR hD hO hS => ⟨⟨_, rfl⟩, fun h => absurd ((show _ = Value.bool false from hD 22 rfl).symm.trans h) (by simp), fun _ => trivial⟩),
                      .norm 49 rfl rfl rfl (fun a_ w_ hn_ hBt hr hR hD hO hS => ⟨⟨_, rfl⟩, fun h => absurd ((show _ = Value.bool false from hD 22 rfl).symm.trans h) (by simp), fun _ => trivial⟩),
                      .norm 50 rfl rfl rfl (fun a_ w_ hn_ hBt hr hR hD hO hS => ⟨⟨_, rfl⟩, fun h => absurd ((show _ = Value.bool false from hD 22 rfl).symm.trans h) (by simp), fun _ => trivial⟩),
                      .norm 51 rfl rfl rfl (fun a_ w_ hn_ hBt hr hR hD hO hS => ⟨⟨_, rfl⟩, fun h => absurd ((show _ = Value.bool false from hD 22 rfl).symm.trans h) (by simp), fun _ => trivial⟩),
                      .norm 52 rfl rfl rfl (fun a_ w_ hn_ hBt hr hR hD hO hS => ⟨⟨_, rfl⟩, fun h => absurd ((show _ = Value.bool false from hD 22 rfl).symm.trans h) (by simp), fun _ => trivial⟩),
                      .norm 53 rfl rfl rfl (fun a_ w_ hn_ hBt hr hR hD hO hS => ⟨⟨_, rfl⟩, fun h => absurd ((show _ = Value.bool false from hD 22 rfl).symm.trans h) (by simp), fun _ => trivial⟩),
                      .norm 54 rfl rfl rfl (fun a_ w_ hn_ hBt hr hR hD hO hS => ⟨⟨_, rfl⟩, fun _ => op_pickb (show a_.eval (.tmp 47) = .bool false from hD 22 rfl) rfl, fun hne => absurd (hD 20 rfl) hne⟩),
                      .norm 55 rfl rfl rfl (fun a_ w_ hn_ hBt hr hR hD hO hS => op_pickb (show a_.eval (.tmp 45) = .bool false from hD 20 rfl) (show a_.eval (.tmp 54) = .bool false from hD 29 rfl)),
                      trivial⟩
                  · intro a17 w17 gs17 hn17 hd17 hBt hr hR hP hX hU
                    replace hn := hn17; replace hd := hd17.trans hd
                    replace b2 := b2.keep hBt trivial
                    replace f1 := (hR 1 rfl).trans f1
                    replace f2 := (hR 2 rfl).trans f2
                    replace f4 := (hR 4 rfl).trans f4
                    have e55 : a17.eval (.tmp 55) = .bool false := hP 30 (by decide)
                    have f55 := e55
                    replace Ar := Ar.rl hr
                    replace Sr := Sr.rl hr
                    replace Dr := Dr.rl hr
                    replace G6 := G6.rl hr
                    replace A6 := A6.rl hr
                    replace K6 := K6.rl hr
                    replace S6 := S6.rl hr
                    replace G8 := G8.rl hr
                    replace A8 := A8.rl hr
                    replace K8 := K8.rl hr
                    replace S8 := S8.rl hr
                    replace G16 := G16.rl hr
                    replace A16 := A16.rl hr
                    replace HB := HB.trans (hBt.below HB.size (UpOld.all (bx := []) trivial))
                    clear hBt hr hR hP hX hU
                    refine wp_cond_false f55 ?_
                    refine wp_skip ?_
                    refine wp_seq ?_
                    refine region4 [some 56, some 57, some 9, none] [Eqs (.int .i64 v), OutW (v) (2), (fun _ _ => True), (fun _ _ => True)] [⟨W2, some 2, 0, 9, .agg #[.bool false, .slice none 0 0], some (3, 57, 1), []⟩] [] (by kernel_rfl) hn rfl (by kernel_rfl) (by kernel_rfl) (by kernel_rfl) (by kernel_rfl) (by kernel_rfl) (by kernel_rfl) ⟨Eqs.mono4 _, OutW.mono4 _ _, True.mono4, True.mono4, trivial⟩ (ok_cons W2ok ok_nil) (IsOld.all (bx := [⟨W2, some 2, 0, 9, .agg #[.bool false, .slice none 0 0], some (3, 57, 1), []⟩]) ⟨someNe, trivial⟩) (DisOld.all (bx := [⟨W2, some 2, 0, 9, .agg #[.bool false, .slice none 0 0], some (3, 57, 1), []⟩]) ⟨someNe, trivial⟩) ?_ ?_
                    · exact ⟨.norm 56 rfl rfl rfl (fun a_ w_ hn_ hBt hr hR hD hO hS => op_mv ((hR 1 rfl).trans f1)),
                        .norm 57 rfl rfl rfl (fun a_ w_ hn_ hBt hr hR hD hO hS => op_ofv (show a_.eval (.tmp 56) = .int .i64 v from hD 0 rfl) hv1 hv2),
                        .alloc 0 _ rfl rfl (.inl ⟨rfl, rfl⟩) rfl rfl rfl rfl rfl,
                        .store 0 _ _ _ rfl rfl rfl rfl rfl rfl rfl (fun ia h => by cases h; rfl) rfl rfl rfl OutW.cs,
                        trivial⟩
                    · intro a18 w18 gs18 hn18 hd18 hBt hr hR hP hX hU
                      replace hn := hn18; replace hd := hd18.trans hd
                      replace b2 := b2.keep hBt ⟨someNe, trivial⟩
                      obtain ⟨n_19, a_19, c_19, r_19, e57, G19, l19⟩ : OutW (v) (2) (a18.eval (.tmp 57)) w18 := hP 1 (by decide)
                      have A19 := G19.ag
                      have b9 : BoxV W2 w18 (gs18 0) (.agg #[.bool n_19, .slice a_19 r_19.length c_19]) := boxv_of (hX 0 _ rfl).2.2.2 e57
                      have f9 := (hX 0 _ rfl).1
                      have u9 : w.heap.size ≤ gs18 0 := Nat.le_trans HB.size ((hX 0 _ rfl).2.2.1 (by simp))
                      replace f2 := (hR 2 rfl).trans f2
                      replace f4 := (hR 4 rfl).trans f4
                      replace Ar := Ar.rl hr
                      replace Sr := Sr.rl hr
                      replace Dr := Dr.rl hr
                      replace G6 := G6.rl hr
                      replace A6 := A6.rl hr
                      replace K6 := K6.rl hr
                      replace S6 := S6.rl hr
                      replace G8 := G8.rl hr
                      replace A8 := A8.rl hr
                      replace K8 := K8.rl hr
                      replace S8 := S8.rl hr
                      replace G16 := G16.rl hr
                      replace A16 := A16.rl hr
                      replace HB := HB.trans (hBt.below HB.size (UpOld.all (bx := [⟨W2, some 2, 0, 9, .agg #[.bool false, .slice none 0 0], some (3, 57, 1), []⟩]) ⟨someNe, trivial⟩))
                      clear hBt hr hR hP hX hU
                      refine wp_seq ?_
                      refine region4 [some 58, some 59, some 60, some 61, some 62, some 63, some 64, some 65, some 66, some 67, some 4] [Eqs (.agg #[.bool nr, .slice ar mr cr, .slice br kr dr]), Eqs (.agg #[.bool n_19, .slice a_19 r_19.length c_19]), OutR (v) (1) ((2) + 2), OutR ((nm (tp pr qr * tq 1 + tp v 1 * tq qr) (tq qr * tq 1))) ((dn (tp pr qr * tq 1 + tp v 1 * tq qr) (tq qr * tq 1))) (3 * ((1500) + ((2) + 2) + 4) + 1), OutW ((tp (nm (tp pr qr * tq 1 + tp v 1 * tq qr) (tq qr * tq 1)) (dn (tp pr qr * tq 1 + tp v 1 * tq qr) (tq qr * tq 1)) / tq (dn (tp pr qr * tq 1 + tp v 1 * tq qr) (tq qr * tq 1)))) ((3 * ((1500) + ((2) + 2) + 4) + 1) + 6), Eqs (.agg #[.bool nr, .slice ar mr cr, .slice br kr dr]), OutW ((tp pr qr / tq qr)) ((1500) + 6), Eqs (.agg #[.bool n_19, .slice a_19 r_19.length c_19]), OutW (((tp pr qr / tq qr) + v)) (((1500) + 6) + (2) + 1), Eqs (.bool true), Eqs (.bool true)] [] [] (by kernel_rfl) hn rfl (by kernel_rfl) (by kernel_rfl) (by kernel_rfl) (by kernel_rfl) (by kernel_rfl) (by kernel_rfl) ⟨Eqs.mono4 _, Eqs.mono4 _, OutR.mono4 _ _ _, OutR.mono4 _ _ _, OutW.mono4 _ _, Eqs.mono4 _, OutW.mono4 _ _, Eqs.mono4 _, OutW.mono4 _ _, Eqs.mono4 _, Eqs.mono4 _, trivial⟩ ok_nil (IsOld.all (bx := []) trivial) (DisOld.all (bx := []) trivial) ?_ ?_
                      · exact ⟨.norm 58 rfl rfl rfl (fun a_ w_ hn_ hBt hr hR hD hO hS => op_loadv R3ok ((hR 2 rfl).trans f2) (b2.keep hBt trivial)),
                          .norm 59 rfl rfl rfl (fun a_ w_ hn_ hBt hr hR hD hO hS => op_loadv W2ok ((hR 9 rfl).trans f9) (b9.keep hBt trivial)),
                          .norm 60 rfl rfl rfl (fun a_ w_ hn_ hBt hr hR hD hO hS => op_from (isw_eq (show a_.eval (.tmp 59) = .agg #[.bool n_19, .slice a_19 r_19.length c_19] from hD 1 rfl) (A19.rl hr) l19) (by omega)),
                          .norm 61 rfl rfl rfl (fun a_ w_ hn_ hBt hr hR hD hO hS => op_radd (isr_eq (show a_.eval (.tmp 58) = .agg #[.bool nr, .slice ar mr cr, .slice br kr dr] from hD 0 rfl) (Ar.rl hr) (Sr.rl hr) Vr Lr Mr) (show OutR (v) (1) ((2) + 2) (a_.eval (.tmp 60)) w_ from hD 2 rfl).is (by omega)),
                          .norm 62 rfl rfl rfl (fun a_ w_ hn_ hBt hr hR hD hO hS => op_rfloor (show OutR ((nm (tp pr qr * tq 1 + tp v 1 * tq qr) (tq qr * tq 1))) ((dn (tp pr qr * tq 1 + tp v 1 * tq qr) (tq qr * tq 1))) (3 * ((1500) + ((2) + 2) + 4) + 1) (a_.eval (.tmp 61)) w_ from hD 3 rfl).is (by omega)),
                          .norm 63 rfl rfl rfl (fun a_ w_ hn_ hBt hr hR hD hO hS => op_loadv R3ok ((hR 2 rfl).trans f2) (b2.keep hBt trivial)),
                          .norm 64 rfl rfl rfl (fun a_ w_ hn_ hBt hr hR hD hO hS => op_rfloor (isr_eq (show a_.eval (.tmp 63) = .agg #[.bool nr, .slice ar mr cr, .slice br kr dr] from hD 5 rfl) (Ar.rl hr) (Sr.rl hr) Vr Lr Mr) (by omega)),
                          .norm 65 rfl rfl rfl (fun a_ w_ hn_ hBt hr hR hD hO hS => op_loadv W2ok ((hR 9 rfl).trans f9) (b9.keep hBt trivial)),
                          .norm 66 rfl rfl rfl (fun a_ w_ hn_ hBt hr hR hD hO hS => op_add (L1 := (1500) + 6) (L2 := 2) (show OutW ((tp pr qr / tq qr)) ((1500) + 6) (a_.eval (.tmp 64)) w_ from hD 6 rfl).is (isw_eq (show a_.eval (.tmp 65) = .agg #[.bool n_19, .slice a_19 r_19.length c_19] from hD 7 rfl) (A19.rl hr) l19) (by omega) (by omega)),
                          .norm 67 rfl rfl rfl (fun a_ w_ hn_ hBt hr hR hD hO hS => op_same (show OutW ((tp (nm (tp pr qr * tq 1 + tp v 1 * tq qr) (tq qr * tq 1)) (dn (tp pr qr * tq 1 + tp v 1 * tq qr) (tq qr * tq 1)) / tq (dn (tp pr qr * tq 1 + tp v 1 * tq qr) (tq qr * tq 1)))) ((3 * ((1500) + ((2) + 2) + 4) + 1) + 6) (a_.eval (.tmp 62)) w_ from hD 4 rfl) (show OutW (((tp pr qr / tq qr) + v)) (((1500) + 6) + (2) + 1) (a_.eval (.tmp 66)) w_ from hD 8 rfl) (fl_add Qr)),
                          .norm 4 rfl rfl rfl (fun a_ w_ hn_ hBt hr hR hD hO hS => op_assign (show a_.eval (.tmp 67) = .bool true from hD 9 rfl)),
                          trivial⟩
                      · intro a20 w20 gs20 hn20 hd20 hBt hr hR hP hX hU
                        replace hn := hn20; replace hd := hd20.trans hd
                        have e4 : a20.eval (.tmp 4) = .bool true := hP 10 (by decide)
                        have f4 := e4
                        replace Ar := Ar.rl hr
                        replace Sr := Sr.rl hr
                        replace Dr := Dr.rl hr
                        replace G6 := G6.rl hr
                        replace A6 := A6.rl hr
                        replace K6 := K6.rl hr
                        replace S6 := S6.rl hr
                        replace G8 := G8.rl hr
                        replace A8 := A8.rl hr
                        replace K8 := K8.rl hr
                        replace S8 := S8.rl hr
                        replace G16 := G16.rl hr
                        replace A16 := A16.rl hr
                        replace G19 := G19.rl hr
                        replace A19 := A19.rl hr
                        replace HB := HB.trans (hBt.below HB.size (UpOld.all (bx := []) trivial))
                        clear hBt hr hR hP hX hU
                        refine wp_ret ?_
                        repeat (first | refine then_ret ?_ | refine scope_ret ?_ | refine block_ret ?_)
                        exact bodyPost_ret (v := .bool true) (res_t rfl f4) hd ⟨rfl, HB⟩

end Lm
end Go.Proofs.Ytkdcgnooeojjgac

namespace Go.Proofs.Ytkdcgnooeojjgac
namespace ratioFloorsLaw
open Go.ChangeShapes Go.WideShapes Go.ChangeAt Go.RowKit
open Go.ChangeMaps (open_string shut_string)

theorem own : ownKnob Try.prog.godebug = none := by kernel_rfl
theorem laidOut : laidOutB Try.prog = true := by kernel_rfl
theorem bytes4 : Try.prog.bytesOf 32 = 4 := by kernel_rfl

theorem sl_of {w : World} {x : Addr} {l c : Nat} {zs : List Int} (hl : l ≤ c) (hm : c ≤ maxLen) (hz : zs.length = c) (hcell : ∀ i, i < zs.length → w.cell? (x.add i) = some (.int .u32 (zs.getD i 0))) (hwz : ∀ n ∈ zs, (Lit.int .u32 n).wf = true) : Lm.Sl w (.slice (some x) l c) (zs.take l) := by
  have hll : (zs.take l).length = l := by rw [List.length_take]; omega
  refine ⟨some x, c, by rw [hll], by omega, hm, fun n hn => ?_, ?_⟩
  · have := bounds_u32 (hwz n (List.mem_of_mem_take hn))
    omega
  · by_cases h0 : l = 0
    · exact .inl (List.eq_nil_of_length_eq_zero (by omega))
    · obtain ⟨b, off, spot⟩ := x
      have h1 := hcell 0 (by omega)
      have hspot : spot = none := by simpa [Addr.add] using World.cell?_spot h1
      subst hspot
      refine .inr ⟨b, off, rfl, fun i hi => ?_⟩
      have h2 := hcell i (by omega)
      rw [Lm.getD_take _ _ _ (by omega)]
      have e : (⟨b, off, none⟩ : Addr).add i = ⟨b, off + i, none⟩ := by
        by_cases hi0 : i = 0
        · subst hi0; simp [Addr.add]
        · simp [Addr.add, hi0]
      rwa [e] at h2

set_option linter.unusedVariables false in
set_option maxRecDepth 100000 in
theorem lifted (os : Os) (started : os.Started) (H : Type) (enc : TypeId × Value → H) :
    ReturnsInHanded {} Try.checked os 5 .any (Rows.ratioFloorsSpec.pre6 enc Try.prog Try.f5 Rows.ratioFloorsRow.domain false) (Rows.ratioFloorsSpec.post enc Try.prog Try.f5 false true false false) := by
  refine returnsInHanded_of_change_sized (C := Try.checked) own started (by kernel_rfl) Try.func5
    (ChangeSpec.witness6 (enc := enc) (C := Try.checked) false ⟨#[], #[.agg #[.bool false, .slice none 0 0, .slice none 0 0], .int .i64 0], []⟩ 8 (by kernel_rfl) (by kernel_rfl) (by kernel_rfl) (by kernel_rfl)) ?_
  intro W base args ds gs before hval0 hW hcnd hsz0 _
  have hval : ∀ (j : Nat) t v, Try.f5.params[j]? = some t → args[j]? = some v → Value.okWide Try.prog W .any base t v := hval0
  have hW' := hW
  obtain ⟨p, q, hA0, hV, rfl, hfz, hnd⟩ := hW
  have hA : DataW.TrodAll enc Try.prog W 0 (fun _ => true) true Try.f5.params.toList args.toList ds p := hA0
  have hsz : (DataW.weightsEach Try.prog (Try.f5.params.toList ++ Rows.ratioFloorsSpec.plain.varTypes Try.prog) (ds ++ gs)).all (· ≤ reachBytes) = true := hsz0
  rw [Try.params5] at hA hval hsz
  obtain ⟨v0, vs0, d0, ds0, p0, q0, hargs, rfl, rfl, h0, r0⟩ := trodAll_cons hA
  obtain ⟨v1, vs1, d1, ds1, p1, q1, rfl, rfl, rfl, h1, r1⟩ := trodAll_cons r0
  obtain ⟨rfl, rfl, rfl⟩ := trodAll_nil r1
  obtain rfl : args = #[v0, v1] := by cases args; simp_all
  obtain ⟨rfl, rfl⟩ := trodVars_none hV
  have k0 := h0
  have lt0 : ∀ x ∈ p0, x.block < W.heap.size := by obtain ⟨m, hm⟩ := k0; exact DataW.trod_lt m _ _ _ hm
  obtain ⟨g0, a0, len0, cap0, z0, e0, l0, c0, y0, hv0, w0, b0, u0, m0⟩ : ∃ ng ao n cap zs bo m dap ys, v0 = .agg #[.bool ng, .slice ao n cap, .slice bo m dap] ∧ Lm.Sl W (.slice ao n cap) zs ∧ n ≤ 35184372088832 ∧ Lm.Sl W (.slice bo m dap) ys ∧ m ≤ 35184372088832 := by
    obtain ⟨cs, hv, hsz2⟩ := okWide_struct Try.underlying28 (hval 0 28 v0 rfl rfl)
    obtain ⟨c0, c1, c2, rfl⟩ := Go.Joins.array3 (hsz2.trans (by kernel_rfl : Try.prog.cellsOf 28 = 3))
    subst hv
    obtain ⟨fuel, hf⟩ := h0
    obtain ⟨y0, y1, n, hx, _, t0, t1⟩ := trod_struct2 Try.underlying28 hf
    obtain ⟨z0, z1, n2, hx2, _, s0, s1⟩ := trod_struct2 Try.underlying24 t0
    have kW : Try.prog.cellsOf 24 = 2 := by kernel_rfl
    have kS : Try.prog.cellsOf 22 = 1 := by kernel_rfl
    have kB : Try.prog.cellsOf 4 = 1 := by kernel_rfl
    have s0' : DataW.trod enc Try.prog W 0 (fun _ => true) true n2 4 [c0] = some z0 := by simpa [Value.cells, kW, kB] using s0
    have s1' : DataW.trod enc Try.prog W 0 (fun _ => true) true n2 22 [c1] = some z1 := by simpa [Value.cells, kW, kS] using s1
    have t1' : DataW.trod enc Try.prog W 0 (fun _ => true) true n 22 [c2] = some y1 := by simpa [Value.cells, kS] using t1
    have hd : d0 = .agg [.agg [z0.1, z1.1], y1.1] := by
      have h1 := congrArg Prod.fst hx
      have h2 := congrArg Prod.fst hx2
      simp only at h1 h2
      rw [h1, h2]
    clear s0 s1 t1 t0 hx hx2 hf
    obtain ⟨b, hb0, _⟩ := DataW.trod_bool Try.underlying4 s0'
    obtain rfl : c0 = .bool b := by simpa using hb0
    have num : ∃ ao n cap zs, c1 = .slice ao n cap ∧ Lm.Sl W (.slice ao n cap) zs ∧ n ≤ 35184372088832 := by
      rcases open_ints Try.underlying22 Try.underlying32 (by kernel_rfl) s1' with ⟨hcs, _⟩ | ⟨x, l, c, zs, hcs, _, hl, hm, hz, hx, hcell, hwz⟩
      · obtain rfl : c1 = .slice none 0 0 := by simpa using hcs
        exact ⟨none, 0, 0, [], rfl, ⟨none, 0, rfl, Nat.le_refl _, by simp [maxLen], Lm.limb_nil, .inl rfl⟩, by omega⟩
      · obtain rfl : c1 = .slice (some x) l c := by simpa using hcs
        have hz' : zs.length = c := by simpa using hz
        have hx1 : z1.1 = .slice (lits .u32 (zs.take l)) (lits .u32 (zs.drop l)) := congrArg Prod.fst hx
        refine ⟨some x, l, c, _, rfl, sl_of hl hm hz' hcell hwz, ?_⟩
        have hs := List.all_eq_true.1 hsz _ (DataW.weights_mem_each (j := 0) (t := 28) rfl (congrArg some hd) (((lits .u32 (zs.take l) : List (DataW H)).length + (lits .u32 (zs.drop l) : List (DataW H)).length) * Try.prog.bytesOf 32) (by rw [hx1]; simp [DataW.weights, DataW.weightsEach, Try.underlying28, Try.underlying24, Try.underlying22]))
        rw [bytes4] at hs
        simp only [lits, List.length_map, List.length_take, List.length_drop, reachBytes, decide_eq_true_eq] at hs
        omega
    have den : ∃ ao n cap zs, c2 = .slice ao n cap ∧ Lm.Sl W (.slice ao n cap) zs ∧ n ≤ 35184372088832 := by
      rcases open_ints Try.underlying22 Try.underlying32 (by kernel_rfl) t1' with ⟨hcs, _⟩ | ⟨x, l, c, zs, hcs, _, hl, hm, hz, hx, hcell, hwz⟩
      · obtain rfl : c2 = .slice none 0 0 := by simpa using hcs
        exact ⟨none, 0, 0, [], rfl, ⟨none, 0, rfl, Nat.le_refl _, by simp [maxLen], Lm.limb_nil, .inl rfl⟩, by omega⟩
      · obtain rfl : c2 = .slice (some x) l c := by simpa using hcs
        have hz' : zs.length = c := by simpa using hz
        have hx1 : y1.1 = .slice (lits .u32 (zs.take l)) (lits .u32 (zs.drop l)) := congrArg Prod.fst hx
        refine ⟨some x, l, c, _, rfl, sl_of hl hm hz' hcell hwz, ?_⟩
        have hs := List.all_eq_true.1 hsz _ (DataW.weights_mem_each (j := 0) (t := 28) rfl (congrArg some hd) (((lits .u32 (zs.take l) : List (DataW H)).length + (lits .u32 (zs.drop l) : List (DataW H)).length) * Try.prog.bytesOf 32) (by rw [hx1]; simp [DataW.weights, DataW.weightsEach, Try.underlying28, Try.underlying24, Try.underlying22]))
        rw [bytes4] at hs
        simp only [lits, List.length_map, List.length_take, List.length_drop, reachBytes, decide_eq_true_eq] at hs
        omega
    obtain ⟨ao, n1, cap, zs, rfl, hS1, hn1⟩ := num
    obtain ⟨bo, m1, dap, ys, rfl, hS2, hn2⟩ := den
    exact ⟨b, ao, n1, cap, zs, bo, m1, dap, ys, rfl, hS1, hn1, hS2, hn2⟩
  subst hv0
  obtain ⟨a1, rfl, rfl, rfl, w1⟩ := open_int Try.underlying3 (hval 1 3 v1 rfl rfl) h1
  clear hA0 hval0
  refine (Lm.rfloors_law W g0 a0 len0 cap0 z0 _ e0 l0 c0 y0 _ a1 ⟨w0, rfl⟩ u0 rfl w1 b0 m0).mono fun e W' ⟨he, bel⟩ => ?_
  subst he
  exact ⟨_, rfl, _, _, _, [], _, [], hW', trodAll_mk1 (shut_bool Try.underlying4 _), (trodAll_cons_mk (Below.trod laidOut (by kernel_rfl) (of_decide_eq_true (by kernel_rfl)) k0 bel lt0) (trodAll_cons_mk (shut_int Try.underlying3 w1) trodAll_mk0)), rfl, bel.frame _, fun h => by cases h⟩

theorem over : Rows.ratioFloorsRow.holds Try.pinned (OpenSpec.ofChange Rows.ratioFloorsSpec) :=
  OpenClaim.holds_of_wide 5 Try.f5 rfl rfl rfl rfl rfl rfl rfl ⟨rfl, rfl, rfl, rfl, rfl⟩ rfl rfl rfl rfl rfl (by kernel_rfl) Try.func5 (by kernel_rfl)
    (of_decide_eq_true (by kernel_rfl)) (by unfold Func.isWrapper; first | (rw [if_pos (by decide +kernel)]; kernel_rfl) | (rw [if_neg (by decide +kernel)]; exact ⟨rfl, rfl⟩))
    (fun os started H enc _ => lifted os started H enc)
end ratioFloorsLaw

theorem ratioFloors_holds : Rows.RatioFloorsSaid := ratioFloorsLaw.over
#print axioms ratioFloors_holds
end Go.Proofs.Ytkdcgnooeojjgac
