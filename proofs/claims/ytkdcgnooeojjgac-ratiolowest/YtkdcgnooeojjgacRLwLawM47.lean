/-
  Rounding down, as numbers. Lowest terms: single operations, and what they come to as numbers. RatioLowest answers true, whatever three numbers it is handed. The given statement on RatioLowest, for every input: the call answers true, and each argument reads behind it as it read before. No condition beyond the statement's own.
-/
import Derived.Test.YtkdcgnooeojjgacRLwLawM46
import Derived.OpenShut
import Derived.Test.YtkdcgnooeojjgacRows
import Derived.ProofKit
import Derived.ShutString
import Derived.ChangeOld
import Derived.SizedLaws
import Derived.Lib.SmallJoins
namespace Go.Proofs.Ytkdcgnooeojjgac
namespace Lm
open Go Go.RowKit

theorem tp_one (x : Int) : tp x 1 = x := by rw [tp, if_neg (by decide)]
theorem tq_one : tq 1 = 1 := by rw [tq, if_neg (by decide)]
theorem nm_one (x : Int) : nm x 1 = x := by simp [nm]
theorem dn_one (x : Int) : dn x 1 = 1 := by simp [dn]

theorem cmpI_le0 (x y : Int) : cmpI x y ≤ 0 ↔ x ≤ y := by
  rcases Int.lt_trichotomy x y with h | h | h
  · rw [cmpI_lt h]; omega
  · rw [cmpI_eq h]; omega
  · rw [cmpI_gt h]; omega
theorem cmpI_eq0 (x y : Int) : cmpI x y = 0 ↔ x = y := by
  rcases Int.lt_trichotomy x y with h | h | h
  · rw [cmpI_lt h]; omega
  · rw [cmpI_eq h]; omega
  · rw [cmpI_gt h]; omega

theorem fl_below {P Q : Int} (hQ : 0 < Q) : ¬ 0 < cmpI (tp (P / Q) 1 * Q) (P * tq 1) := by
  rw [tp_one, tq_one, Int.mul_one]
  have := (cmpI_le0 (P / Q * Q) P).2 (Int.ediv_mul_le P (by omega))
  omega
theorem fl_above {P Q : Int} (hQ : 0 < Q) : ¬ cmpI (tp (nm (tp (P / Q) 1 * tq 1 + tp 1 1 * tq 1) (tq 1 * tq 1)) (dn (tp (P / Q) 1 * tq 1 + tp 1 1 * tq 1) (tq 1 * tq 1)) * Q) (P * tq (dn (tp (P / Q) 1 * tq 1 + tp 1 1 * tq 1) (tq 1 * tq 1))) ≤ 0 := by
  simp only [tp_one, tq_one, Int.mul_one, nm_one, dn_one]
  rw [cmpI_le0]
  have := Int.lt_ediv_add_one_mul_self P hQ
  omega
theorem fl_zero {P Q : Int} (_hQ : 0 < Q) : cmpI (tp (P / Q) 1 * Q) (P * tq 1) = 0 ↔ P % Q = 0 := by
  rw [tp_one, tq_one, Int.mul_one, cmpI_eq0]
  have := Int.mul_ediv_add_emod P Q
  have e : P / Q * Q = Q * (P / Q) := Int.mul_comm _ _
  omega
theorem fl_same {P Q : Int} (hQ : 0 < Q) (h : P % Q = 0) : P / Q = nm P Q ∧ 1 = dn P Q := by
  have e : P / Q * Q = P * 1 := by
    have := Int.mul_ediv_add_emod P Q
    have e : P / Q * Q = Q * (P / Q) := Int.mul_comm _ _
    omega
  have := low_eq (p := P / Q) (q := 1) (by decide) (show Q ≠ 0 by omega) e
  rwa [nm_one, dn_one] at this
theorem ediv_of {N D A B : Int} (hD : 0 < D) (hB : 0 < B) (h : N * B = A * D) : N / D = A / B := by
  have h1 := Int.mul_ediv_mul_of_pos_left N D hB
  have h2 := Int.mul_ediv_mul_of_pos_left A B hD
  rw [← h1, ← h2, h, Int.mul_comm D B]
theorem fl_add {P Q v : Int} (hQ : 0 < Q) : tp (nm (P * tq 1 + tp v 1 * Q) (Q * tq 1)) (dn (P * tq 1 + tp v 1 * Q) (Q * tq 1)) / tq (dn (P * tq 1 + tp v 1 * Q) (Q * tq 1)) = P / Q + v := by
  simp only [tp_one v, tq_one, Int.mul_one]
  have b : Q ≠ 0 := by omega
  have c := low_cross (P + v * Q) b
  have d := dn_pos (P + v * Q) b
  rw [tp_low _ b, tq_low _ b, ediv_of d hQ c, Int.add_mul_ediv_right _ _ b]

section
variable {dst : Option Tmp} {ty : TypeId} {pos : String} {after : Array Edge} {guard : Option (Nat × Bool)} {a : Act} {w : World} {i j : Nat} {u v : Int}
theorem op_eqlkt (h1 : a.eval (.tmp i) = .int .i64 u) (h : u = v) :
    Does Try.prog { dst, op := .binOp .eql 3 (.tmp i) (.const (.int .i64 v)) 3, type := ty, pos, after, guard } a.eval w fun v' w' => Below w.heap.size w w' ∧ Eqs (.bool true) v' w' :=
  (op_eqlk h1).mono (fun v' w' ⟨hb, e⟩ => ⟨hb, by rw [Eqs, show v' = _ from e, decide_eq_true h]⟩)
theorem op_eqlkf (h1 : a.eval (.tmp i) = .int .i64 u) (h : u ≠ v) :
    Does Try.prog { dst, op := .binOp .eql 3 (.tmp i) (.const (.int .i64 v)) 3, type := ty, pos, after, guard } a.eval w fun v' w' => Below w.heap.size w w' ∧ Eqs (.bool false) v' w' :=
  (op_eqlk h1).mono (fun v' w' ⟨hb, e⟩ => ⟨hb, by rw [Eqs, show v' = _ from e, decide_eq_false h]⟩)
theorem op_ofv {ats : Array TypeId} (h : a.eval (.tmp i) = .int .i64 v) (h1 : -9223372036854775808 ≤ v) (h2 : v ≤ 9223372036854775807) :
    Does Try.prog { dst, op := .call { callee := .value (.func 26), args := #[.tmp i], argTypes := ats }, type := ty, pos, after, guard } a.eval w fun v' w' => Below w.heap.size w w' ∧ OutW v 2 v' w' := by
  refine does_call has_of _ (by simp only [List.map_toArray, List.map_cons, List.map_nil, h]) ((wof_g _ v h1 h2).mono ?_)
  rintro e w' ⟨ng, ao, cap, rs, rfl, G, l, hb⟩
  exact ⟨_, rfl, hb, _, _, _, _, rfl, G, by omega⟩
end

end Lm
end Go.Proofs.Ytkdcgnooeojjgac

namespace Go.Proofs.Ytkdcgnooeojjgac
namespace Lm
open Go Go.RowKit

theorem low_gcd (p : Int) {q : Int} (hq : q ≠ 0) : ((Int.gcd ((nm p q).natAbs : Int) (dn p q) : Nat) : Int) = 1 := by
  have h := low_cop p hq
  have e : Int.gcd ((nm p q).natAbs : Int) (dn p q) = Int.gcd (nm p q) (dn p q) := by simp [Int.gcd]
  rw [e, h]
  rfl
theorem low_times {p q k : Int} (hq : q ≠ 0) (hk : k ≠ 0) : nm (p * k) (q * k) = nm p q ∧ dn (p * k) (q * k) = dn p q :=
  low_eq (Int.mul_ne_zero hq hk) hq (by grind)
theorem raw_den {p q k : Int} (hq : q ≠ 0) (hk : k ≠ 0) : ((k * k * dn p q).natAbs : Int) = k * k * dn p q ∧ k * k * dn p q ≠ 0 := by
  have h1 : 0 < k * k := by
    rcases Int.lt_trichotomy k 0 with h | h | h
    · exact Int.mul_pos_of_neg_of_neg h h
    · exact absurd h hk
    · exact Int.mul_pos h h
  have h2 := Int.mul_pos h1 (dn_pos p hq)
  omega
theorem raw_trim {p q k : Int} (hq : q ≠ 0) (hk : k ≠ 0) : nm (tp (nm p q * (k * k)) ((k * k * dn p q).natAbs : Int)) (tq ((k * k * dn p q).natAbs : Int)) = nm p q ∧ dn (tp (nm p q * (k * k)) ((k * k * dn p q).natAbs : Int)) (tq ((k * k * dn p q).natAbs : Int)) = dn p q := by
  obtain ⟨e, h0⟩ := raw_den (p := p) hq hk
  rw [e, tp, tq, if_neg h0, if_neg h0]
  have c := low_cross p hq
  have d := dn_ne p hq
  refine low_eq h0 hq ?_
  grind
theorem raw_cmp {p q k : Int} (hq : q ≠ 0) (hk : k ≠ 0) : cmpI (tp (nm p q * (k * k)) ((k * k * dn p q).natAbs : Int) * tq (dn p q)) (tp (nm p q) (dn p q) * tq ((k * k * dn p q).natAbs : Int)) = 0 := by
  obtain ⟨e, h0⟩ := raw_den (p := p) hq hk
  rw [tp_low p hq, tq_low p hq, e, tp, tq, if_neg h0, if_neg h0, cmpI_eq0]
  grind

section
variable {dst : Option Tmp} {ty : TypeId} {pos : String} {after : Array Edge} {guard : Option (Nat × Bool)} {a : Act} {w : World} {ats : Array TypeId} {i j k g : Nat} {u v x y z : Int} {L L1 L2 : Nat}
theorem op_ldrmag {ng : Bool} {ao bo : Option Addr} {n c m d : Nat} (hp : a.eval (.tmp k) = .pointer (some ⟨g, 1, none⟩)) (hb : BoxV R3 w g (.agg #[.bool ng, .slice ao n c, .slice bo m d])) :
    Does Try.prog { dst, op := .load 22 (.tmp k), type := ty, pos, after, guard } a.eval w fun v' w' => Below w.heap.size w w' ∧ Eqs (.slice ao n c) v' w' := by
  obtain ⟨b1, b2, b3, b4, b5, b6⟩ := r3_facts (r3_row hb)
  refine does_load (v := .slice ao n c) ?_ ⟨Below.refl _ _, rfl⟩
  rw [hp]
  go_simp
theorem op_field {t : TypeId} {f : Nat} {x : Operand} {P : Program} {R : Value → World → Prop} {v : Value} (hb : (Instr.field t (a.eval x) f).run P w = .ok v w) (h : R v w) : Does P { dst, op := .field t x f, type := ty, pos, after, guard } a.eval w R := by
  refine ⟨?_⟩
  unfold Turns
  simp only [execOp]
  simp [hb, h]
theorem op_mag (h : OutW z L (a.eval (.tmp i)) w) :
    Does Try.prog { dst, op := .field 24 (.tmp i) 1, type := ty, pos, after, guard } a.eval w fun v' w' => Below w.heap.size w w' ∧ OutL (z.natAbs : Int) L v' w' := by
  obtain ⟨ng, ao, cap, rs, e, W, l⟩ := h
  refine op_field (v := .slice ao rs.length cap) ?_ ⟨Below.refl _ _, _, _, _, rfl, W.1, l⟩
  rw [e]
  simp [Instr.field, asAgg, part, go_sem]
theorem one_canon : Canon [1] := by
  refine ⟨?_, ?_⟩
  · intro z hz
    simp at hz
    omega
  · decide
theorem op_one : Does Try.prog { dst, op := .buildSlice 22 1 #[(0, .const (.int .u32 1))], type := ty, pos, after, guard } a.eval w fun v' w' => Below w.heap.size w w' ∧ OutL 1 1 v' w' := by
  have e : (execOp a.eval { dst, op := .buildSlice 22 1 #[(0, .const (.int .u32 1))], type := ty, pos, after, guard }).run Try.prog w = .ok (.value (.slice (some ⟨w.heap.size, 0, none⟩) 1 1)) (w.alloc (.cells #[.int .u32 1] 32)) := by
    simp only [execOp, List.map_toArray, List.map_nil, List.map_cons, Act.eval]
    go_simp
  have hb : Below w.heap.size w (w.alloc (.cells #[.int .u32 1] 32)) := (Below.refl _ _).alloc (Nat.le_refl _) _
  refine ⟨?_⟩
  unfold Turns
  rw [e]
  refine ⟨hb, some ⟨w.heap.size, 0, none⟩, 1, [1], rfl, ⟨⟨_, _, rfl, by simp, by simp [maxLen], one_canon.1, .inr ⟨w.heap.size, 0, rfl, fun i hi => ?_⟩⟩, one_canon, by simp [val]⟩, by simp⟩
  have hi0 : i = 0 := by simpa using hi
  subst hi0
  rw [cell_of_row _ _ _ _ _ (0, 0) (heap_alloc_new w _)]
  rfl
theorem op_samelt (hx : OutL x L1 (a.eval (.tmp i)) w) (hy : OutL y L2 (a.eval (.tmp j)) w) (h : x = y) :
    Does Try.prog { dst, op := .call { callee := .value (.func 10), args := #[.tmp i, .tmp j], argTypes := ats }, type := ty, pos, after, guard } a.eval w fun v w' => Below w.heap.size w w' ∧ Eqs (.bool true) v w' :=
  (op_samel hx hy).mono (fun v' w' ⟨hb, e⟩ => ⟨hb, by rw [Eqs, show v' = _ from e, decide_eq_true h]⟩)
theorem op_neqe (h1 : a.eval (.tmp i) = .int .i64 u) :
    Does Try.prog { dst, op := .binOp .neq 29 (.tmp i) (.const (.int .i64 u)) 29, type := ty, pos, after, guard } a.eval w fun v w' => Below w.heap.size w w' ∧ Eqs (.bool false) v w' := by
  refine does_bin (v := .bool false) ?_ ?_ ⟨Below.refl _ _, rfl⟩
  · rw [h1]; simp [go_sem, Act.eval]
  · rw [h1]; simp [go_sem, Act.eval]
end

end Lm
end Go.Proofs.Ytkdcgnooeojjgac

namespace Go.Proofs.Ytkdcgnooeojjgac
namespace Lm
open Go Go.RowKit

set_option maxRecDepth 20000 in
set_option maxHeartbeats 4000000 in
theorem rlowest_law (w : World) (nx : Bool) (ax : Option Addr) (mx cx : Nat) (xs : List Int) (zx : Int) (ny : Bool) (ay : Option Addr) (my cy : Nat) (ys : List Int) (zy : Int) (nv : Bool) (av : Option Addr) (mv cv : Nat) (vs : List Int) (zv : Int) (Ax : Ag w nx ax mx cx xs zx) (Ay : Ag w ny ay my cy ys zy) (Av : Ag w nv av mv cv vs zv) (gx : mx ≤ 35184372088832) (gy : my ≤ 35184372088832) (gv : mv ≤ 35184372088832) :
    Calls Try.prog 3 #[.agg #[.bool nx, .slice ax mx cx], .agg #[.bool ny, .slice ay my cy], .agg #[.bool nv, .slice av mv cv]] w fun e w' => e = .returned (.bool true) ∧ Below w.heap.size w w' := by
  go_enter Try.func3, Try.ntmps3
  generalize hA : (Act.mk _ _) = aa
  have hn : aa.tmps.size = 125 := by rw [← hA]; rfl
  have hd : aa.defers = [] := by rw [← hA]
  have f0 : aa.eval (.tmp 0) = .agg #[.bool nx, .slice ax mx cx] := by rw [← hA]; rfl
  have f1 : aa.eval (.tmp 1) = .agg #[.bool ny, .slice ay my cy] := by rw [← hA]; rfl
  have f2 : aa.eval (.tmp 2) = .agg #[.bool nv, .slice av mv cv] := by rw [← hA]; rfl
  clear hA
  have HB : Below w.heap.size w w := Below.refl _ _
  have Tx := Ax.sl
  have Ty := Ay.sl
  have Tv := Av.sl
  refine wp_seq ?_
  refine region4 [some 3, some 4, some 5, some 6] [(fun _ _ => True), (fun _ _ => True), (fun _ _ => True), Eqs ((.bool false))] [⟨W2, some 0, 0, 3, .agg #[.bool nx, .slice ax mx cx], none, []⟩, ⟨W2, some 1, 0, 4, .agg #[.bool ny, .slice ay my cy], none, []⟩, ⟨W2, some 2, 0, 5, .agg #[.bool nv, .slice av mv cv], none, []⟩] [] (by kernel_rfl) hn rfl (by kernel_rfl) (by kernel_rfl) (by kernel_rfl) (by kernel_rfl) (by kernel_rfl) (by kernel_rfl) ⟨True.mono4, True.mono4, True.mono4, Eqs.mono4 _, trivial⟩ (ok_cons W2ok (ok_cons W2ok (ok_cons W2ok ok_nil))) (IsOld.all (bx := [⟨W2, some 0, 0, 3, .agg #[.bool nx, .slice ax mx cx], none, []⟩, ⟨W2, some 1, 0, 4, .agg #[.bool ny, .slice ay my cy], none, []⟩, ⟨W2, some 2, 0, 5, .agg #[.bool nv, .slice av mv cv], none, []⟩]) ⟨someNe, someNe, someNe, trivial⟩) (DisOld.all (bx := [⟨W2, some 0, 0, 3, .agg #[.bool nx, .slice ax mx cx], none, []⟩, ⟨W2, some 1, 0, 4, .agg #[.bool ny, .slice ay my cy], none, []⟩, ⟨W2, some 2, 0, 5, .agg #[.bool nv, .slice av mv cv], none, []⟩]) ⟨someNe, someNe, someNe, trivial⟩) ?_ ?_
  · exact ⟨.alloc 0 _ rfl rfl (.inr ⟨_, rfl, w2_cs, fun a_ hR => (hR 0 rfl).trans f0⟩) rfl rfl rfl rfl rfl,
      .alloc 1 _ rfl rfl (.inr ⟨_, rfl, w2_cs, fun a_ hR => (hR 1 rfl).trans f1⟩) rfl rfl rfl rfl rfl,
      .alloc 2 _ rfl rfl (.inr ⟨_, rfl, w2_cs, fun a_ hR => (hR 2 rfl).trans f2⟩) rfl rfl rfl rfl rfl,
      .norm 6 rfl rfl rfl (fun a_ w_ hn_ hBt hr hR hD hO hS => op_assign rfl),
      trivial⟩
  · intro a1 w1 gs1 hn1 hd1 hBt hr hR hP hX hU
    replace hn := hn1; replace hd := hd1.trans hd
    have b3 : BoxV W2 w1 (gs1 0) (.agg #[.bool nx, .slice ax mx cx]) := (hX 0 _ rfl).2.2.2
    have f3 := (hX 0 _ rfl).1
    have u3 : w.heap.size ≤ gs1 0 := Nat.le_trans HB.size ((hX 0 _ rfl).2.2.1 (by simp))
    have b4 : BoxV W2 w1 (gs1 1) (.agg #[.bool ny, .slice ay my cy]) := (hX 1 _ rfl).2.2.2
    have f4 := (hX 1 _ rfl).1
    have u4 : w.heap.size ≤ gs1 1 := Nat.le_trans HB.size ((hX 1 _ rfl).2.2.1 (by simp))
    have b5 : BoxV W2 w1 (gs1 2) (.agg #[.bool nv, .slice av mv cv]) := (hX 2 _ rfl).2.2.2
    have f5 := (hX 2 _ rfl).1
    have u5 : w.heap.size ≤ gs1 2 := Nat.le_trans HB.size ((hX 2 _ rfl).2.2.1 (by simp))
    have e6 : a1.eval (.tmp 6) = (.bool false) := hP 3 (by decide)
    have f6 := e6
    replace Ax := Ax.rl hr
    replace Tx := Tx.rl hr
    replace Ay := Ay.rl hr
    replace Ty := Ty.rl hr
    replace Av := Av.rl hr
    replace Tv := Tv.rl hr
    replace HB := HB.trans (hBt.below HB.size (UpOld.all (bx := [⟨W2, some 0, 0, 3, .agg #[.bool nx, .slice ax mx cx], none, []⟩, ⟨W2, some 1, 0, 4, .agg #[.bool ny, .slice ay my cy], none, []⟩, ⟨W2, some 2, 0, 5, .agg #[.bool nv, .slice av mv cv], none, []⟩]) ⟨someNe, someNe, someNe, trivial⟩))
    clear hBt hr hR hP hX hU
    refine wp_seq ?_
    refine wp_seq ?_
    refine region4 [some 13, some 14] [Eqs (.bool true), Eqs (.bool false)] [] [] (by kernel_rfl) hn rfl (by kernel_rfl) (by kernel_rfl) (by kernel_rfl) (by kernel_rfl) (by kernel_rfl) (by kernel_rfl) ⟨Eqs.mono4 _, Eqs.mono4 _, trivial⟩ ok_nil (IsOld.all (bx := []) trivial) (DisOld.all (bx := []) trivial) ?_ ?_
    · exact ⟨.norm 13 rfl rfl rfl (fun a_ w_ hn_ hBt hr hR hD hO hS => op_rawake),
        .norm 14 rfl rfl rfl (fun a_ w_ hn_ hBt hr hR hD hO hS => op_not (show a_.eval (.tmp 13) = .bool true from hD 0 rfl)),
        trivial⟩
    · intro a2 w2 gs2 hn2 hd2 hBt hr hR hP hX hU
      replace hn := hn2; replace hd := hd2.trans hd
      replace b3 := b3.keep hBt trivial
      replace b4 := b4.keep hBt trivial
      replace b5 := b5.keep hBt trivial
      replace f3 := (hR 3 rfl).trans f3
      replace f4 := (hR 4 rfl).trans f4
      replace f5 := (hR 5 rfl).trans f5
      replace f6 := (hR 6 rfl).trans f6
      have e14 : a2.eval (.tmp 14) = .bool false := hP 1 (by decide)
      have f14 := e14
      replace Ax := Ax.rl hr
      replace Tx := Tx.rl hr
      replace Ay := Ay.rl hr
      replace Ty := Ty.rl hr
      replace Av := Av.rl hr
      replace Tv := Tv.rl hr
      replace HB := HB.trans (hBt.below HB.size (UpOld.all (bx := []) trivial))
      clear hBt hr hR hP hX hU
      refine wp_cond_false f14 ?_
      refine wp_skip ?_
      refine wp_seq ?_
      refine wp_seq ?_
      refine region4 [some 15, some 16, some 17, some 18, some 19, some 20, some 21, some 22, some 23] [Eqs (.agg #[.bool nx, .slice ax mx cx]), Eqs (.int .i64 (1 + (mx : Int))), Eqs (.agg #[.bool ny, .slice ay my cy]), Eqs (.int .i64 (1 + (my : Int))), Eqs (.int .i64 ((1 + (mx : Int)) + (1 + (my : Int)))), Eqs (.agg #[.bool nv, .slice av mv cv]), Eqs (.int .i64 (1 + (mv : Int))), Eqs (.int .i64 (((1 + (mx : Int)) + (1 + (my : Int))) + (1 + (mv : Int)))), Eqs (.bool (decide (1500 < (((1 + (mx : Int)) + (1 + (my : Int))) + (1 + (mv : Int))))))] [] [] (by kernel_rfl) hn rfl (by kernel_rfl) (by kernel_rfl) (by kernel_rfl) (by kernel_rfl) (by kernel_rfl) (by kernel_rfl) ⟨Eqs.mono4 _, Eqs.mono4 _, Eqs.mono4 _, Eqs.mono4 _, Eqs.mono4 _, Eqs.mono4 _, Eqs.mono4 _, Eqs.mono4 _, Eqs.mono4 _, trivial⟩ ok_nil (IsOld.all (bx := []) trivial) (DisOld.all (bx := []) trivial) ?_ ?_
      · exact ⟨.norm 15 rfl rfl rfl (fun a_ w_ hn_ hBt hr hR hD hO hS => op_loadv W2ok ((hR 3 rfl).trans f3) (b3.keep hBt trivial)),
          .norm 16 rfl rfl rfl (fun a_ w_ hn_ hBt hr hR hD hO hS => op_lenw (show a_.eval (.tmp 15) = .agg #[.bool nx, .slice ax mx cx] from hD 0 rfl) (by omega)),
          .norm 17 rfl rfl rfl (fun a_ w_ hn_ hBt hr hR hD hO hS => op_loadv W2ok ((hR 4 rfl).trans f4) (b4.keep hBt trivial)),
          .norm 18 rfl rfl rfl (fun a_ w_ hn_ hBt hr hR hD hO hS => op_lenw (show a_.eval (.tmp 17) = .agg #[.bool ny, .slice ay my cy] from hD 2 rfl) (by omega)),
          .norm 19 rfl rfl rfl (fun a_ w_ hn_ hBt hr hR hD hO hS => op_plus (show a_.eval (.tmp 16) = .int .i64 (1 + (mx : Int)) from hD 1 rfl) (show a_.eval (.tmp 18) = .int .i64 (1 + (my : Int)) from hD 3 rfl) (by omega)),
          .norm 20 rfl rfl rfl (fun a_ w_ hn_ hBt hr hR hD hO hS => op_loadv W2ok ((hR 5 rfl).trans f5) (b5.keep hBt trivial)),
          .norm 21 rfl rfl rfl (fun a_ w_ hn_ hBt hr hR hD hO hS => op_lenw (show a_.eval (.tmp 20) = .agg #[.bool nv, .slice av mv cv] from hD 5 rfl) (by omega)),
          .norm 22 rfl rfl rfl (fun a_ w_ hn_ hBt hr hR hD hO hS => op_plus (show a_.eval (.tmp 19) = .int .i64 ((1 + (mx : Int)) + (1 + (my : Int))) from hD 4 rfl) (show a_.eval (.tmp 21) = .int .i64 (1 + (mv : Int)) from hD 6 rfl) (by omega)),
          .norm 23 rfl rfl rfl (fun a_ w_ hn_ hBt hr hR hD hO hS => op_gtrk (show a_.eval (.tmp 22) = .int .i64 (((1 + (mx : Int)) + (1 + (my : Int))) + (1 + (mv : Int))) from hD 7 rfl)),
          trivial⟩
      · intro a3 w3 gs3 hn3 hd3 hBt hr hR hP hX hU
        replace hn := hn3; replace hd := hd3.trans hd
        replace b3 := b3.keep hBt trivial
        replace b4 := b4.keep hBt trivial
        replace b5 := b5.keep hBt trivial
        replace f3 := (hR 3 rfl).trans f3
        replace f4 := (hR 4 rfl).trans f4
        replace f5 := (hR 5 rfl).trans f5
        replace f6 := (hR 6 rfl).trans f6
        have e23 : a3.eval (.tmp 23) = .bool (decide (1500 < (((1 + (mx : Int)) + (1 + (my : Int))) + (1 + (mv : Int))))) := hP 8 (by decide)
        have f23 := e23
        replace Ax := Ax.rl hr
        replace Tx := Tx.rl hr
        replace Ay := Ay.rl hr
        replace Ty := Ty.rl hr
        replace Av := Av.rl hr
        replace Tv := Tv.rl hr
        replace HB := HB.trans (hBt.below HB.size (UpOld.all (bx := []) trivial))
        clear hBt hr hR hP hX hU
        refine wp_cond_split f23 (fun hc23 => ?_) (fun hc23 => ?_)
        · skip
          refine wp_seq ?_
          refine region4 [some 6] [Eqs ((.bool true))] [] [] (by kernel_rfl) hn rfl (by kernel_rfl) (by kernel_rfl) (by kernel_rfl) (by kernel_rfl) (by kernel_rfl) (by kernel_rfl) ⟨Eqs.mono4 _, trivial⟩ ok_nil (IsOld.all (bx := []) trivial) (DisOld.all (bx := []) trivial) ?_ ?_
          · exact ⟨.norm 6 rfl rfl rfl (fun a_ w_ hn_ hBt hr hR hD hO hS => op_assign rfl),
              trivial⟩
          · intro a4 w4 gs4 hn4 hd4 hBt hr hR hP hX hU
            replace hn := hn4; replace hd := hd4.trans hd
            replace b3 := b3.keep hBt trivial
            replace b4 := b4.keep hBt trivial
            replace b5 := b5.keep hBt trivial
            replace f3 := (hR 3 rfl).trans f3
            replace f4 := (hR 4 rfl).trans f4
            replace f5 := (hR 5 rfl).trans f5
            have e6 : a4.eval (.tmp 6) = (.bool true) := hP 0 (by decide)
            have f6 := e6
            replace Ax := Ax.rl hr
            replace Tx := Tx.rl hr
            replace Ay := Ay.rl hr
            replace Ty := Ty.rl hr
            replace Av := Av.rl hr
            replace Tv := Tv.rl hr
            replace HB := HB.trans (hBt.below HB.size (UpOld.all (bx := []) trivial))
            clear hBt hr hR hP hX hU
            refine wp_ret ?_
            repeat (first | refine then_ret ?_ | refine scope_ret ?_ | refine block_ret ?_)
            exact bodyPost_ret (v := .bool true) (res_t rfl f6) hd ⟨rfl, HB⟩
        · skip
          have hlen := of_decide_eq_false hc23
          have ox := Ax.sl.parts.1; have Lx : xs.length ≤ 1500 := by omega
          have oy := Ay.sl.parts.1; have Ly : ys.length ≤ 1500 := by omega
          have ov := Av.sl.parts.1; have Lv : vs.length ≤ 1500 := by omega
          refine wp_skip ?_
          by_cases hy0 : zy = 0
          · skip
            refine wp_seq ?_
            refine region4 [some 25, some 26, some 27, some 24, some 28, some 29, some 7, none, some 8] [Eqs (.agg #[.bool nx, .slice ax mx cx]), Eqs (.agg #[.bool ny, .slice ay my cy]), Tup2 (Eqs (.agg #[.bool false, .slice none 0 0, .slice none 0 0])) (Eqs (.int .i64 20)), Tup2 (Eqs (.agg #[.bool false, .slice none 0 0, .slice none 0 0])) (Eqs (.int .i64 20)), Eqs (.agg #[.bool false, .slice none 0 0, .slice none 0 0]), Eqs (.int .i64 20), (fun _ _ => True), (fun _ _ => True), Eqs (.int .i64 20)] [⟨R3, some 6, 0, 7, .agg #[.bool false, .slice none 0 0, .slice none 0 0], some (7, 28, 4), []⟩] [] (by kernel_rfl) hn rfl (by kernel_rfl) (by kernel_rfl) (by kernel_rfl) (by kernel_rfl) (by kernel_rfl) (by kernel_rfl) ⟨Eqs.mono4 _, Eqs.mono4 _, Tup2.mono4 (Eqs.mono4 _) (Eqs.mono4 _), Tup2.mono4 (Eqs.mono4 _) (Eqs.mono4 _), Eqs.mono4 _, Eqs.mono4 _, True.mono4, True.mono4, Eqs.mono4 _, trivial⟩ (ok_cons R3ok ok_nil) (IsOld.all (bx := [⟨R3, some 6, 0, 7, .agg #[.bool false, .slice none 0 0, .slice none 0 0], some (7, 28, 4), []⟩]) ⟨someNe, trivial⟩) (DisOld.all (bx := [⟨R3, some 6, 0, 7, .agg #[.bool false, .slice none 0 0, .slice none 0 0], some (7, 28, 4), []⟩]) ⟨someNe, trivial⟩) ?_ ?_
            · exact ⟨.norm 25 rfl rfl rfl (fun a_ w_ hn_ hBt hr hR hD hO hS => op_loadv W2ok ((hR 3 rfl).trans f3) (b3.keep hBt ⟨someNe, trivial⟩)),
                .norm 26 rfl rfl rfl (fun a_ w_ hn_ hBt hr hR hD hO hS => op_loadv W2ok ((hR 4 rfl).trans f4) (b4.keep hBt ⟨someNe, trivial⟩)),
                .norm 27 rfl rfl rfl (fun a_ w_ hn_ hBt hr hR hD hO hS => op_rof0 (isw_eq (show a_.eval (.tmp 25) = .agg #[.bool nx, .slice ax mx cx] from hD 0 rfl) (Ax.rl hr) Lx) (isw_eq (show a_.eval (.tmp 26) = .agg #[.bool ny, .slice ay my cy] from hD 1 rfl) (Ay.rl hr) Ly) (by omega) hy0),
                .norm 24 rfl rfl rfl (fun a_ w_ hn_ hBt hr hR hD hO hS => op_mvp (p := Tup2 (Eqs (.agg #[.bool false, .slice none 0 0, .slice none 0 0])) (Eqs (.int .i64 20))) (show Tup2 (Eqs (.agg #[.bool false, .slice none 0 0, .slice none 0 0])) (Eqs (.int .i64 20)) (a_.eval (.tmp 27)) w_ from hD 2 rfl)),
                .norm 28 rfl rfl rfl (fun a_ w_ hn_ hBt hr hR hD hO hS => op_ex20 (show Tup2 (Eqs (.agg #[.bool false, .slice none 0 0, .slice none 0 0])) (Eqs (.int .i64 20)) (a_.eval (.tmp 24)) w_ from hD 3 rfl)),
                .norm 29 rfl rfl rfl (fun a_ w_ hn_ hBt hr hR hD hO hS => op_ex21 (show Tup2 (Eqs (.agg #[.bool false, .slice none 0 0, .slice none 0 0])) (Eqs (.int .i64 20)) (a_.eval (.tmp 24)) w_ from hD 3 rfl)),
                .alloc 0 _ rfl rfl (.inl ⟨rfl, rfl⟩) rfl rfl rfl rfl rfl,
                .store 0 _ _ _ rfl rfl rfl rfl rfl rfl rfl (fun ia h => by cases h; rfl) rfl rfl rfl (eqs_cs r3_cs),
                .norm 8 rfl rfl rfl (fun a_ w_ hn_ hBt hr hR hD hO hS => op_assign (show a_.eval (.tmp 29) = .int .i64 20 from hD 5 rfl)),
                trivial⟩
            · intro a5 w5 gs5 hn5 hd5 hBt hr hR hP hX hU
              replace hn := hn5; replace hd := hd5.trans hd
              replace b3 := b3.keep hBt ⟨someNe, trivial⟩
              replace b4 := b4.keep hBt ⟨someNe, trivial⟩
              replace b5 := b5.keep hBt ⟨someNe, trivial⟩
              have e28 : a5.eval (.tmp 28) = .agg #[.bool false, .slice none 0 0, .slice none 0 0] := hP 4 (by decide)
              have b7 : BoxV R3 w5 (gs5 0) (.agg #[.bool false, .slice none 0 0, .slice none 0 0]) := boxv_of (hX 0 _ rfl).2.2.2 e28
              have f7 := (hX 0 _ rfl).1
              have u7 : w.heap.size ≤ gs5 0 := Nat.le_trans HB.size ((hX 0 _ rfl).2.2.1 (by simp))
              replace f3 := (hR 3 rfl).trans f3
              replace f4 := (hR 4 rfl).trans f4
              replace f5 := (hR 5 rfl).trans f5
              replace f6 := (hR 6 rfl).trans f6
              have e8 : a5.eval (.tmp 8) = .int .i64 20 := hP 8 (by decide)
              have f8 := e8
              replace Ax := Ax.rl hr
              replace Tx := Tx.rl hr
              replace Ay := Ay.rl hr
              replace Ty := Ty.rl hr
              replace Av := Av.rl hr
              replace Tv := Tv.rl hr
              replace HB := HB.trans (hBt.below HB.size (UpOld.all (bx := [⟨R3, some 6, 0, 7, .agg #[.bool false, .slice none 0 0, .slice none 0 0], some (7, 28, 4), []⟩]) ⟨someNe, trivial⟩))
              clear hBt hr hR hP hX hU
              refine wp_seq ?_
              refine wp_seq ?_
              refine region4 [some 30, some 31, some 32] [Eqs (.agg #[.bool ny, .slice ay my cy]), Eqs (.int .i64 (Int.sign zy)), Eqs (.bool (decide ((Int.sign zy) = 0)))] [] [] (by kernel_rfl) hn rfl (by kernel_rfl) (by kernel_rfl) (by kernel_rfl) (by kernel_rfl) (by kernel_rfl) (by kernel_rfl) ⟨Eqs.mono4 _, Eqs.mono4 _, Eqs.mono4 _, trivial⟩ ok_nil (IsOld.all (bx := []) trivial) (DisOld.all (bx := []) trivial) ?_ ?_
              · exact ⟨.norm 30 rfl rfl rfl (fun a_ w_ hn_ hBt hr hR hD hO hS => op_loadv W2ok ((hR 4 rfl).trans f4) (b4.keep hBt trivial)),
                  .norm 31 rfl rfl rfl (fun a_ w_ hn_ hBt hr hR hD hO hS => op_sign (isw_eq (show a_.eval (.tmp 30) = .agg #[.bool ny, .slice ay my cy] from hD 0 rfl) (Ay.rl hr) Ly) (by omega)),
                  .norm 32 rfl rfl rfl (fun a_ w_ hn_ hBt hr hR hD hO hS => op_eqlk (show a_.eval (.tmp 31) = .int .i64 (Int.sign zy) from hD 1 rfl)),
                  trivial⟩
              · intro a6 w6 gs6 hn6 hd6 hBt hr hR hP hX hU
                replace hn := hn6; replace hd := hd6.trans hd
                replace b3 := b3.keep hBt trivial
                replace b4 := b4.keep hBt trivial
                replace b5 := b5.keep hBt trivial
                replace b7 := b7.keep hBt trivial
                replace f3 := (hR 3 rfl).trans f3
                replace f4 := (hR 4 rfl).trans f4
                replace f5 := (hR 5 rfl).trans f5
                replace f6 := (hR 6 rfl).trans f6
                replace f7 := (hR 7 rfl).trans f7
                replace f8 := (hR 8 rfl).trans f8
                have e32 : a6.eval (.tmp 32) = .bool (decide ((Int.sign zy) = 0)) := hP 2 (by decide)
                have f32 := e32
                replace Ax := Ax.rl hr
                replace Tx := Tx.rl hr
                replace Ay := Ay.rl hr
                replace Ty := Ty.rl hr
                replace Av := Av.rl hr
                replace Tv := Tv.rl hr
                replace HB := HB.trans (hBt.below HB.size (UpOld.all (bx := []) trivial))
                clear hBt hr hR hP hX hU
                refine wp_cond_split f32 (fun hc32 => ?_) (fun hc32 => ?_)
                · skip
                  refine wp_seq ?_
                  refine region4 [some 33, some 34, some 6] [Eqs (.int .i64 20), Eqs (.bool true), Eqs (.bool true)] [] [] (by kernel_rfl) hn rfl (by kernel_rfl) (by kernel_rfl) (by kernel_rfl) (by kernel_rfl) (by kernel_rfl) (by kernel_rfl) ⟨Eqs.mono4 _, Eqs.mono4 _, Eqs.mono4 _, trivial⟩ ok_nil (IsOld.all (bx := []) trivial) (DisOld.all (bx := []) trivial) ?_ ?_
                  · exact ⟨.norm 33 rfl rfl rfl (fun a_ w_ hn_ hBt hr hR hD hO hS => op_mv ((hR 8 rfl).trans f8)),
                      .norm 34 rfl rfl rfl (fun a_ w_ hn_ hBt hr hR hD hO hS => op_eqle (show a_.eval (.tmp 33) = .int .i64 20 from hD 0 rfl)),
                      .norm 6 rfl rfl rfl (fun a_ w_ hn_ hBt hr hR hD hO hS => op_assign (show a_.eval (.tmp 34) = .bool true from hD 1 rfl)),
                      trivial⟩
                  · intro a7 w7 gs7 hn7 hd7 hBt hr hR hP hX hU
                    replace hn := hn7; replace hd := hd7.trans hd
                    replace b3 := b3.keep hBt trivial
                    replace b4 := b4.keep hBt trivial
                    replace b5 := b5.keep hBt trivial
                    replace b7 := b7.keep hBt trivial
                    replace f3 := (hR 3 rfl).trans f3
                    replace f4 := (hR 4 rfl).trans f4
                    replace f5 := (hR 5 rfl).trans f5
                    replace f7 := (hR 7 rfl).trans f7
                    replace f8 := (hR 8 rfl).trans f8
                    have e6 : a7.eval (.tmp 6) = .bool true := hP 2 (by decide)
                    have f6 := e6
                    replace Ax := Ax.rl hr
                    replace Tx := Tx.rl hr
                    replace Ay := Ay.rl hr
                    replace Ty := Ty.rl hr
                    replace Av := Av.rl hr
                    replace Tv := Tv.rl hr
                    replace HB := HB.trans (hBt.below HB.size (UpOld.all (bx := []) trivial))
                    clear hBt hr hR hP hX hU
                    refine wp_ret ?_
                    repeat (first | refine then_ret ?_ | refine scope_ret ?_ | refine block_ret ?_)
                    exact bodyPost_ret (v := .bool true) (res_t rfl f6) hd ⟨rfl, HB⟩
                · skip
                  exact absurd (sign_zero_iff.2 hy0) (of_decide_eq_false hc32)
          · skip
            refine wp_seq ?_
            refine region4 [some 25, some 26, some 27, some 24, some 28, some 29, some 7, none, some 8] [Eqs (.agg #[.bool nx, .slice ax mx cx]), Eqs (.agg #[.bool ny, .slice ay my cy]), Tup2 (OutR ((nm zx zy)) ((dn zx zy)) ((1500) + (1500))) (Eqs (.int .i64 0)), Tup2 (OutR ((nm zx zy)) ((dn zx zy)) ((1500) + (1500))) (Eqs (.int .i64 0)), OutR ((nm zx zy)) ((dn zx zy)) ((1500) + (1500)), Eqs (.int .i64 0), (fun _ _ => True), (fun _ _ => True), Eqs (.int .i64 0)] [⟨R3, some 6, 0, 7, .agg #[.bool false, .slice none 0 0, .slice none 0 0], some (7, 28, 4), []⟩] [] (by kernel_rfl) hn rfl (by kernel_rfl) (by kernel_rfl) (by kernel_rfl) (by kernel_rfl) (by kernel_rfl) (by kernel_rfl) ⟨Eqs.mono4 _, Eqs.mono4 _, Tup2.mono4 (OutR.mono4 _ _ _) (Eqs.mono4 _), Tup2.mono4 (OutR.mono4 _ _ _) (Eqs.mono4 _), OutR.mono4 _ _ _, Eqs.mono4 _, True.mono4, True.mono4, Eqs.mono4 _, trivial⟩ (ok_cons R3ok ok_nil) (IsOld.all (bx := [⟨R3, some 6, 0, 7, .agg #[.bool false, .slice none 0 0, .slice none 0 0], some (7, 28, 4), []⟩]) ⟨someNe, trivial⟩) (DisOld.all (bx := [⟨R3, some 6, 0, 7, .agg #[.bool false, .slice none 0 0, .slice none 0 0], some (7, 28, 4), []⟩]) ⟨someNe, trivial⟩) ?_ ?_
            · exact ⟨.norm 25 rfl rfl rfl (fun a_ w_ hn_ hBt hr hR hD hO hS => op_loadv W2ok ((hR 3 rfl).trans f3) (b3.keep hBt ⟨someNe, trivial⟩)),
                .norm 26 rfl rfl rfl (fun a_ w_ hn_ hBt hr hR hD hO hS => op_loadv W2ok ((hR 4 rfl).trans f4) (b4.keep hBt ⟨someNe, trivial⟩)),
                .norm 27 rfl rfl rfl (fun a_ w_ hn_ hBt hr hR hD hO hS => op_rof (Bx := 1500) (By := 1500) (isw_eq (show a_.eval (.tmp 25) = .agg #[.bool nx, .slice ax mx cx] from hD 0 rfl) (Ax.rl hr) Lx) (isw_eq (show a_.eval (.tmp 26) = .agg #[.bool ny, .slice ay my cy] from hD 1 rfl) (Ay.rl hr) Ly) (by omega) hy0),
                .norm 24 rfl rfl rfl (fun a_ w_ hn_ hBt hr hR hD hO hS => op_mvp (p := Tup2 (OutR ((nm zx zy)) ((dn zx zy)) ((1500) + (1500))) (Eqs (.int .i64 0))) (show Tup2 (OutR ((nm zx zy)) ((dn zx zy)) ((1500) + (1500))) (Eqs (.int .i64 0)) (a_.eval (.tmp 27)) w_ from hD 2 rfl)),
                .norm 28 rfl rfl rfl (fun a_ w_ hn_ hBt hr hR hD hO hS => op_ex20 (show Tup2 (OutR ((nm zx zy)) ((dn zx zy)) ((1500) + (1500))) (Eqs (.int .i64 0)) (a_.eval (.tmp 24)) w_ from hD 3 rfl)),
                .norm 29 rfl rfl rfl (fun a_ w_ hn_ hBt hr hR hD hO hS => op_ex21 (show Tup2 (OutR ((nm zx zy)) ((dn zx zy)) ((1500) + (1500))) (Eqs (.int .i64 0)) (a_.eval (.tmp 24)) w_ from hD 3 rfl)),
                .alloc 0 _ rfl rfl (.inl ⟨rfl, rfl⟩) rfl rfl rfl rfl rfl,
                .store 0 _ _ _ rfl rfl rfl rfl rfl rfl rfl (fun ia h => by cases h; rfl) rfl rfl rfl OutR.cs,
                .norm 8 rfl rfl rfl (fun a_ w_ hn_ hBt hr hR hD hO hS => op_assign (show a_.eval (.tmp 29) = .int .i64 0 from hD 5 rfl)),
                trivial⟩
            · intro a8 w8 gs8 hn8 hd8 hBt hr hR hP hX hU
              replace hn := hn8; replace hd := hd8.trans hd
              replace b3 := b3.keep hBt ⟨someNe, trivial⟩
              replace b4 := b4.keep hBt ⟨someNe, trivial⟩
              replace b5 := b5.keep hBt ⟨someNe, trivial⟩
              obtain ⟨n_9, a_9, c_9, r_9, b_9, d_9, s_9, e28, G9, K9, l9, k9⟩ : OutR ((nm zx zy)) ((dn zx zy)) ((1500) + (1500)) (a8.eval (.tmp 28)) w8 := hP 4 (by decide)
              have A9 := G9.ag; have S9 := K9.sl; have V9 := K9.val
              have X9 := G9.1; have Y9 := X9.sl; have Z9 := X9.val; have E9 : Ag w8 false b_9 s_9.length d_9 s_9 (dn zx zy) := ⟨S9, V9⟩
              have b7 : BoxV R3 w8 (gs8 0) (.agg #[.bool n_9, .slice a_9 r_9.length c_9, .slice b_9 s_9.length d_9]) := boxv_of (hX 0 _ rfl).2.2.2 e28
              have f7 := (hX 0 _ rfl).1
              have u7 : w.heap.size ≤ gs8 0 := Nat.le_trans HB.size ((hX 0 _ rfl).2.2.1 (by simp))
              replace f3 := (hR 3 rfl).trans f3
              replace f4 := (hR 4 rfl).trans f4
              replace f5 := (hR 5 rfl).trans f5
              replace f6 := (hR 6 rfl).trans f6
              have e8 : a8.eval (.tmp 8) = .int .i64 0 := hP 8 (by decide)
              have f8 := e8
              replace Ax := Ax.rl hr
              replace Tx := Tx.rl hr
              replace Ay := Ay.rl hr
              replace Ty := Ty.rl hr
              replace Av := Av.rl hr
              replace Tv := Tv.rl hr
              replace HB := HB.trans (hBt.below HB.size (UpOld.all (bx := [⟨R3, some 6, 0, 7, .agg #[.bool false, .slice none 0 0, .slice none 0 0], some (7, 28, 4), []⟩]) ⟨someNe, trivial⟩))
              clear hBt hr hR hP hX hU
              refine wp_seq ?_
              refine wp_seq ?_
              refine region4 [some 30, some 31, some 32] [Eqs (.agg #[.bool ny, .slice ay my cy]), Eqs (.int .i64 (Int.sign zy)), Eqs (.bool (decide ((Int.sign zy) = 0)))] [] [] (by kernel_rfl) hn rfl (by kernel_rfl) (by kernel_rfl) (by kernel_rfl) (by kernel_rfl) (by kernel_rfl) (by kernel_rfl) ⟨Eqs.mono4 _, Eqs.mono4 _, Eqs.mono4 _, trivial⟩ ok_nil (IsOld.all (bx := []) trivial) (DisOld.all (bx := []) trivial) ?_ ?_
              · exact ⟨.norm 30 rfl rfl rfl (fun a_ w_ hn_ hBt hr hR hD hO hS => op_loadv W2ok ((hR 4 rfl).trans f4) (b4.keep hBt trivial)),
                  .norm 31 rfl rfl rfl (fun a_ w_ hn_ hBt hr hR hD hO hS => op_sign (isw_eq (show a_.eval (.tmp 30) = .agg #[.bool ny, .slice ay my cy] from hD 0 rfl) (Ay.rl hr) Ly) (by omega)),
                  .norm 32 rfl rfl rfl (fun a_ w_ hn_ hBt hr hR hD hO hS => op_eqlk (show a_.eval (.tmp 31) = .int .i64 (Int.sign zy) from hD 1 rfl)),
                  trivial⟩
              · intro a10 w10 gs10 hn10 hd10 hBt hr hR hP hX hU
                replace hn := hn10; replace hd := hd10.trans hd
                replace b3 := b3.keep hBt trivial
                replace b4 := b4.keep hBt trivial
                replace b5 := b5.keep hBt trivial
                replace b7 := b7.keep hBt trivial
                replace f3 := (hR 3 rfl).trans f3
                replace f4 := (hR 4 rfl).trans f4
                replace f5 := (hR 5 rfl).trans f5
                replace f6 := (hR 6 rfl).trans f6
                replace f7 := (hR 7 rfl).trans f7
                replace f8 := (hR 8 rfl).trans f8
                have e32 : a10.eval (.tmp 32) = .bool (decide ((Int.sign zy) = 0)) := hP 2 (by decide)
                have f32 := e32
                replace Ax := Ax.rl hr
                replace Tx := Tx.rl hr
                replace Ay := Ay.rl hr
                replace Ty := Ty.rl hr
                replace Av := Av.rl hr
                replace Tv := Tv.rl hr
                replace G9 := G9.rl hr
                replace A9 := A9.rl hr
                replace K9 := K9.rl hr
                replace S9 := S9.rl hr
                replace X9 := X9.rl hr
                replace Y9 := Y9.rl hr
                replace E9 := E9.rl hr
                replace HB := HB.trans (hBt.below HB.size (UpOld.all (bx := []) trivial))
                clear hBt hr hR hP hX hU
                refine wp_cond_split f32 (fun hc32 => ?_) (fun hc32 => ?_)
                · skip
                  exact absurd (sign_zero_iff.1 (of_decide_eq_true hc32)) hy0
                · skip
                  refine wp_skip ?_
                  refine wp_seq ?_
                  refine region4 [some 35, some 9] [OutL (1) (1), OutL (1) (1)] [] [] (by kernel_rfl) hn rfl (by kernel_rfl) (by kernel_rfl) (by kernel_rfl) (by kernel_rfl) (by kernel_rfl) (by kernel_rfl) ⟨OutL.mono4 _ _, OutL.mono4 _ _, trivial⟩ ok_nil (IsOld.all (bx := []) trivial) (DisOld.all (bx := []) trivial) ?_ ?_
                  · exact ⟨.norm 35 rfl rfl rfl (fun a_ w_ hn_ hBt hr hR hD hO hS => op_one),
                      .norm 9 rfl rfl rfl (fun a_ w_ hn_ hBt hr hR hD hO hS => op_asp (p := OutL (1) (1)) (show OutL (1) (1) (a_.eval (.tmp 35)) w_ from hD 0 rfl)),
                      trivial⟩
                  · intro a11 w11 gs11 hn11 hd11 hBt hr hR hP hX hU
                    replace hn := hn11; replace hd := hd11.trans hd
                    replace b3 := b3.keep hBt trivial
                    replace b4 := b4.keep hBt trivial
                    replace b5 := b5.keep hBt trivial
                    replace b7 := b7.keep hBt trivial
                    replace f3 := (hR 3 rfl).trans f3
                    replace f4 := (hR 4 rfl).trans f4
                    replace f5 := (hR 5 rfl).trans f5
                    replace f6 := (hR 6 rfl).trans f6
                    replace f7 := (hR 7 rfl).trans f7
                    replace f8 := (hR 8 rfl).trans f8
                    obtain ⟨a_12, c_12, r_12, e9, K12, l12⟩ : OutL (1) (1) (a11.eval (.tmp 9)) w11 := hP 1 (by decide)
                    have S12 := K12.sl; have V12 := K12.val
                    have f9 := e9
                    replace Ax := Ax.rl hr
                    replace Tx := Tx.rl hr
                    replace Ay := Ay.rl hr
                    replace Ty := Ty.rl hr
                    replace Av := Av.rl hr
                    replace Tv := Tv.rl hr
                    replace G9 := G9.rl hr
                    replace A9 := A9.rl hr
                    replace K9 := K9.rl hr
                    replace S9 := S9.rl hr
                    replace X9 := X9.rl hr
                    replace Y9 := Y9.rl hr
                    replace E9 := E9.rl hr
                    replace HB := HB.trans (hBt.below HB.size (UpOld.all (bx := []) trivial))
                    clear hBt hr hR hP hX hU
                    refine wp_seq ?_
                    refine wp_seq ?_
                    refine region4 [some 36, some 37, some 38, some 39, some 40, some 41, some 42, some 43, some 44, some 45, some 46, some 47, some 48, some 49, some 50, some 51, some 52, some 53, some 54, some 55, some 56, some 57, some 58, some 59, some 60, some 61, some 62, some 63, some 64, some 65, some 66] [Eqs (.int .i64 0), Eqs (.bool false), Eqs (.bool false), Eqs (.pointer (some ⟨gs8 0, 0, none⟩)), Eqs (.pointer (some ⟨gs8 0, 1, none⟩)), Eqs (.slice a_9 r_9.length c_9), Eqs (.pointer (some ⟨gs8 0, 2, none⟩)), Eqs (.slice b_9 s_9.length d_9), OutL (((Int.gcd (((nm zx zy)).natAbs : Int) (dn zx zy) : Nat) : Int)) (((1500) + (1500)) + ((1500) + (1500)) + 1), Eqs (.slice a_12 r_12.length c_12), Eqs (.bool true), Eqs (.bool false), Eqs (.bool false), Eqs (.bool false), Eqs (.pointer (some ⟨gs8 0, 0, none⟩)), Eqs (.agg #[.bool n_9, .slice a_9 r_9.length c_9]), Eqs (.pointer (some ⟨gs8 0, 0, none⟩)), Eqs (.agg #[.bool n_9, .slice a_9 r_9.length c_9]), OutW ((nm zx zy)) ((1500) + (1500)), Eqs (.bool true), Eqs (.bool false), Eqs (.bool false), Eqs (.bool false), Eqs (.pointer (some ⟨gs8 0, 2, none⟩)), Eqs (.slice b_9 s_9.length d_9), Eqs (.pointer (some ⟨gs8 0, 2, none⟩)), Eqs (.slice b_9 s_9.length d_9), OutL ((dn zx zy)) ((1500) + (1500)), Eqs (.bool true), Eqs (.bool false), Eqs (.bool false)] [] [] (by kernel_rfl) hn rfl (by kernel_rfl) (by kernel_rfl) (by kernel_rfl) (by kernel_rfl) (by kernel_rfl) (by kernel_rfl) ⟨Eqs.mono4 _, Eqs.mono4 _, Eqs.mono4 _, Eqs.mono4 _, Eqs.mono4 _, Eqs.mono4 _, Eqs.mono4 _, Eqs.mono4 _, OutL.mono4 _ _, Eqs.mono4 _, Eqs.mono4 _, Eqs.mono4 _, Eqs.mono4 _, Eqs.mono4 _, Eqs.mono4 _, Eqs.mono4 _, Eqs.mono4 _, Eqs.mono4 _, OutW.mono4 _ _, Eqs.mono4 _, Eqs.mono4 _, Eqs.mono4 _, Eqs.mono4 _, Eqs.mono4 _, Eqs.mono4 _, Eqs.mono4 _, Eqs.mono4 _, OutL.mono4 _ _, Eqs.mono4 _, Eqs.mono4 _, Eqs.mono4 _, trivial⟩ ok_nil (IsOld.all (bx := []) trivial) (DisOld.all (bx := []) trivial) ?_ ?_
                    · exact ⟨.norm 36 rfl rfl rfl (fun a_ w_ hn_ hBt hr hR hD hO hS => op_mv ((hR 8 rfl).trans f8)),
                        .norm 37 rfl rfl rfl (fun a_ w_ hn_ hBt hr hR hD hO hS => op_neqe (show a_.eval (.tmp 36) = .int .i64 0 from hD 0 rfl)),
                        .norm 38 rfl rfl rfl (fun a_ w_ hn_ hBt hr hR hD hO hS => op_mv (show a_.eval (.tmp 37) = .bool false from hD 1 rfl)),
                        .norm 39 rfl rfl rfl (fun a_ w_ hn_ hBt hr hR hD hO hS => ⟨⟨_, rfl⟩, fun _ => op_faR fa_num ((hR 7 rfl).trans f7), fun hne => absurd (hD 2 rfl) hne⟩),
                        .norm 40 rfl rfl rfl (fun a_ w_ hn_ hBt hr hR hD hO hS => ⟨⟨_, rfl⟩, fun _ => op_fa fa_mag (show a_.eval (.tmp 39) = .pointer (some ⟨gs8 0, 0, none⟩) from hD 3 rfl), fun hne => absurd (hD 2 rfl) hne⟩),
                        .norm 41 rfl rfl rfl (fun a_ w_ hn_ hBt hr hR hD hO hS => ⟨⟨_, rfl⟩, fun _ => op_ldrmag (show a_.eval (.tmp 40) = .pointer (some ⟨gs8 0, 1, none⟩) from hD 4 rfl) (b7.keep hBt trivial), fun hne => absurd (hD 2 rfl) hne⟩),
                        .norm 42 rfl rfl rfl (fun a_ w_ hn_ hBt hr hR hD hO hS => ⟨⟨_, rfl⟩, fun _ => op_faR fa_den ((hR 7 rfl).trans f7), fun hne => absurd (hD 2 rfl) hne⟩),
                        .norm 43 rfl rfl rfl (fun a_ w_ hn_ hBt hr hR hD hO hS => ⟨⟨_, rfl⟩, fun _ => op_ldden (show a_.eval (.tmp 42) = .pointer (some ⟨gs8 0, 2, none⟩) from hD 6 rfl) (b7.keep hBt trivial), fun hne => absurd (hD 2 rfl) hne⟩),
                        .norm 44 rfl rfl rfl (fun a_ w_ hn_ hBt hr hR hD hO hS => ⟨⟨_, rfl⟩, fun _ => op_lgcd (L1 := (1500) + (1500)) (L2 := (1500) + (1500)) (isl_eq (show a_.eval (.tmp 41) = .slice a_9 r_9.length c_9 from hD 5 rfl) (Y9.rl hr) Z9 l9) (isl_eq (show a_.eval (.tmp 43) = .slice b_9 s_9.length d_9 from hD 7 rfl) (S9.rl hr) V9 k9) (by omega) (by omega), fun hne => absurd (hD 2 rfl) hne⟩),
                        .norm 45 rfl rfl rfl (fun a_ w_ hn_ hBt hr hR hD hO hS => ⟨⟨_, rfl⟩, fun _ => op_mv ((hR 9 rfl).trans f9), fun hne => absurd (hD 2 rfl) hne⟩),
                        .norm 46 rfl rfl rfl (fun a_ w_ hn_ hBt hr hR hD hO hS => ⟨⟨_, rfl⟩, fun _ => op_samelt (show OutL (((Int.gcd (((nm zx zy)).natAbs : Int) (dn zx zy) : Nat) : Int)) (((1500) + (1500)) + ((1500) + (1500)) + 1) (a_.eval (.tmp 44)) w_ from hD 8 rfl) (outl_eq (show a_.eval (.tmp 45) = .slice a_12 r_12.length c_12 from hD 9 rfl) (K12.rl hr) l12) (low_gcd _ hy0), fun hne => absurd (hD 2 rfl) hne⟩),
                        .norm 47 rfl rfl rfl (fun a_ w_ hn_ hBt hr hR hD hO hS => ⟨⟨_, rfl⟩, fun _ => op_not (show a_.eval (.tmp 46) = .bool true from hD 10 rfl), fun hne => absurd (hD 2 rfl) hne⟩),
                        .norm 48 rfl rfl rfl (fun a_ w_ hn_ hBt hr hR hD hO hS => op_pickb (show a_.eval (.tmp 38) = .bool false from hD 2 rfl) (show a_.eval (.tmp 47) = .bool false from hD 11 rfl)),
                        .norm 49 rfl rfl rfl (fun a_ w_ hn_ hBt hr hR hD hO hS => op_mv (show a_.eval (.tmp 48) = .bool false from hD 12 rfl)),
                        .norm 50 rfl rfl rfl (fun a_ w_ hn_ hBt hr hR hD hO hS => ⟨⟨_, rfl⟩, fun _ => op_faR fa_num ((hR 7 rfl).trans f7), fun hne => absurd (hD 13 rfl) hne⟩),
                        .norm 51 rfl rfl rfl (fun a_ w_ hn_ hBt hr hR hD hO hS => ⟨⟨_, rfl⟩, fun _ => op_ldnum (show a_.eval (.tmp 50) = .pointer (some ⟨gs8 0, 0, none⟩) from hD 14 rfl) (b7.keep hBt trivial), fun hne => absurd (hD 13 rfl) hne⟩),
                        .norm 52 rfl rfl rfl (fun a_ w_ hn_ hBt hr hR hD hO hS => ⟨⟨_, rfl⟩, fun _ => op_faR fa_num ((hR 7 rfl).trans f7), fun hne => absurd (hD 13 rfl) hne⟩),
                        .norm 53 rfl rfl rfl (fun a_ w_ hn_ hBt hr hR hD hO hS => ⟨⟨_, rfl⟩, fun _ => op_ldnum (show a_.eval (.tmp 52) = .pointer (some ⟨gs8 0, 0, none⟩) from hD 16 rfl) (b7.keep hBt trivial), fun hne => absurd (hD 13 rfl) hne⟩),
                        .norm 54 rfl rfl rfl (fun a_ w_ hn_ hBt hr hR hD hO hS => ⟨⟨_, rfl⟩, fun _ => op_wtrim (isw_eq (show a_.eval (.tmp 53) = .agg #[.bool n_9, .slice a_9 r_9.length c_9] from hD 17 rfl) (A9.rl hr) l9) (by omega), fun hne => absurd (hD 13 rfl) hne⟩),
                        .norm 55 rfl rfl rfl (fun a_ w_ hn_ hBt hr hR hD hO hS => ⟨⟨_, rfl⟩, fun _ => op_same (outw_eq (show a_.eval (.tmp 51) = .agg #[.bool n_9, .slice a_9 r_9.length c_9] from hD 15 rfl) (G9.rl hr) l9) (show OutW ((nm zx zy)) ((1500) + (1500)) (a_.eval (.tmp 54)) w_ from hD 18 rfl) rfl, fun hne => absurd (hD 13 rfl) hne⟩),
                        .norm 56 rfl rfl rfl (fun a_ w_ hn_ hBt hr hR hD hO hS => ⟨⟨_, rfl⟩, fun _ => op_not (show a_.eval (.tmp 55) = .bool true from hD 19 rfl), fun hne => absurd (hD 13 rfl) hne⟩),
                        .norm 57 rfl rfl rfl (fun a_ w_ hn_ hBt hr hR hD hO hS => op_pickb (show a_.eval (.tmp 49) = .bool false from hD 13 rfl) (show a_.eval (.tmp 56) = .bool false from hD 20 rfl)),
                        .norm 58 rfl rfl rfl (fun a_ w_ hn_ hBt hr hR hD hO hS => op_mv (show a_.eval (.tmp 57) = .bool false from hD 21 rfl)),
                        .norm 59 rfl rfl rfl (fun a_ w_ hn_ hBt hr hR hD hO hS => ⟨⟨_, rfl⟩, fun _ => op_faR fa_den ((hR 7 rfl).trans f7), fun hne => absurd (hD 22 rfl) hne⟩),
                        .norm 60 rfl rfl rfl (fun a_ w_ hn_ hBt hr hR hD hO hS => ⟨⟨_, rfl⟩, fun _ => op_ldden (show a_.eval (.tmp 59) = .pointer (some ⟨gs8 0, 2, none⟩) from hD 23 rfl) (b7.keep hBt trivial), fun hne => absurd (hD 22 rfl) hne⟩),
                        .norm 61 rfl rfl rfl (fun a_ w_ hn_ hBt hr hR hD hO hS => ⟨⟨_, rfl⟩, fun _ => op_faR fa_den ((hR 7 rfl).trans f7), fun hne => absurd (hD 22 rfl) hne⟩),
                        .norm 62 rfl rfl rfl (fun a_ w_ hn_ hBt hr hR hD hO hS => ⟨⟨_, rfl⟩, fun _ => op_ldden (show a_.eval (.tmp 61) = .pointer (some ⟨gs8 0, 2, none⟩) from hD 25 rfl) (b7.keep hBt trivial), fun hne => absurd (hD 22 rfl) hne⟩),
                        .norm 63 rfl rfl rfl (fun a_ w_ hn_ hBt hr hR hD hO hS => ⟨⟨_, rfl⟩, fun _ => op_ltrim (isl_eq (show a_.eval (.tmp 62) = .slice b_9 s_9.length d_9 from hD 26 rfl) (S9.rl hr) V9 k9) (by omega), fun hne => absurd (hD 22 rfl) hne⟩),
                        .norm 64 rfl rfl rfl (fun a_ w_ hn_ hBt hr hR hD hO hS => ⟨⟨_, rfl⟩, fun _ => op_samelt (outl_eq (show a_.eval (.tmp 60) = .slice b_9 s_9.length d_9 from hD 24 rfl) (K9.rl hr) k9) (show OutL ((dn zx zy)) ((1500) + (1500)) (a_.eval (.tmp 63)) w_ from hD 27 rfl) rfl, fun hne => absurd (hD 22 rfl) hne⟩),
                        .norm 65 rfl rfl rfl (fun a_ w_ hn_ hBt hr hR hD hO hS => ⟨⟨_, rfl⟩, fun _ => op_not (show a_.eval (.tmp 64) = .bool true from hD 28 rfl), fun hne => absurd (hD 22 rfl) hne⟩),
                        .norm 66 rfl rfl rfl (fun a_ w_ hn_ hBt hr hR hD hO hS => op_pickb (show a_.eval (.tmp 58) = .bool false from hD 22 rfl) (show a_.eval (.tmp 65) = .bool false from hD 29 rfl)),
                        trivial⟩
                    · intro a13 w13 gs13 hn13 hd13 hBt hr hR hP hX hU
                      replace hn := hn13; replace hd := hd13.trans hd
                      replace b3 := b3.keep hBt trivial
                      replace b4 := b4.keep hBt trivial
                      replace b5 := b5.keep hBt trivial
                      replace b7 := b7.keep hBt trivial
                      replace f3 := (hR 3 rfl).trans f3
                      replace f4 := (hR 4 rfl).trans f4
                      replace f5 := (hR 5 rfl).trans f5
                      replace f6 := (hR 6 rfl).trans f6
                      replace f7 := (hR 7 rfl).trans f7
                      have e66 : a13.eval (.tmp 66) = .bool false := hP 30 (by decide)
                      have f66 := e66
                      replace Ax := Ax.rl hr
                      replace Tx := Tx.rl hr
                      replace Ay := Ay.rl hr
                      replace Ty := Ty.rl hr
                      replace Av := Av.rl hr
                      replace Tv := Tv.rl hr
                      replace G9 := G9.rl hr
                      replace A9 := A9.rl hr
                      replace K9 := K9.rl hr
                      replace S9 := S9.rl hr
                      replace X9 := X9.rl hr
                      replace Y9 := Y9.rl hr
                      replace E9 := E9.rl hr
                      replace K12 := K12.rl hr
                      replace S12 := S12.rl hr
                      replace HB := HB.trans (hBt.below HB.size (UpOld.all (bx := []) trivial))
                      clear hBt hr hR hP hX hU
                      refine wp_cond_false f66 ?_
                      refine wp_skip ?_
                      refine wp_seq ?_
                      refine wp_seq ?_
                      refine region4 [some 67, some 68, some 69, some 70, some 71, some 72, some 73, some 74, some 75, some 76, some 77] [Eqs (.pointer (some ⟨gs8 0, 0, none⟩)), Eqs (.agg #[.bool n_9, .slice a_9 r_9.length c_9]), Eqs (.agg #[.bool ny, .slice ay my cy]), OutW (((nm zx zy) * zy)) (((1500) + (1500)) + (1500)), Eqs (.agg #[.bool nx, .slice ax mx cx]), Eqs (.pointer (some ⟨gs8 0, 2, none⟩)), Eqs (.slice b_9 s_9.length d_9), Eqs (.agg #[.bool false, .slice b_9 s_9.length d_9]), OutW ((zx * (dn zx zy))) ((1500) + ((1500) + (1500))), Eqs (.bool true), Eqs (.bool false)] [] [] (by kernel_rfl) hn rfl (by kernel_rfl) (by kernel_rfl) (by kernel_rfl) (by kernel_rfl) (by kernel_rfl) (by kernel_rfl) ⟨Eqs.mono4 _, Eqs.mono4 _, Eqs.mono4 _, OutW.mono4 _ _, Eqs.mono4 _, Eqs.mono4 _, Eqs.mono4 _, Eqs.mono4 _, OutW.mono4 _ _, Eqs.mono4 _, Eqs.mono4 _, trivial⟩ ok_nil (IsOld.all (bx := []) trivial) (DisOld.all (bx := []) trivial) ?_ ?_
                      · exact ⟨.norm 67 rfl rfl rfl (fun a_ w_ hn_ hBt hr hR hD hO hS => op_faR fa_num ((hR 7 rfl).trans f7)),
                          .norm 68 rfl rfl rfl (fun a_ w_ hn_ hBt hr hR hD hO hS => op_ldnum (show a_.eval (.tmp 67) = .pointer (some ⟨gs8 0, 0, none⟩) from hD 0 rfl) (b7.keep hBt trivial)),
                          .norm 69 rfl rfl rfl (fun a_ w_ hn_ hBt hr hR hD hO hS => op_loadv W2ok ((hR 4 rfl).trans f4) (b4.keep hBt trivial)),
                          .norm 70 rfl rfl rfl (fun a_ w_ hn_ hBt hr hR hD hO hS => op_mul (L1 := (1500) + (1500)) (L2 := 1500) (isw_eq (show a_.eval (.tmp 68) = .agg #[.bool n_9, .slice a_9 r_9.length c_9] from hD 1 rfl) (A9.rl hr) l9) (isw_eq (show a_.eval (.tmp 69) = .agg #[.bool ny, .slice ay my cy] from hD 2 rfl) (Ay.rl hr) Ly) (by omega) (by omega)),
                          .norm 71 rfl rfl rfl (fun a_ w_ hn_ hBt hr hR hD hO hS => op_loadv W2ok ((hR 3 rfl).trans f3) (b3.keep hBt trivial)),
                          .norm 72 rfl rfl rfl (fun a_ w_ hn_ hBt hr hR hD hO hS => op_faR fa_den ((hR 7 rfl).trans f7)),
                          .norm 73 rfl rfl rfl (fun a_ w_ hn_ hBt hr hR hD hO hS => op_ldden (show a_.eval (.tmp 72) = .pointer (some ⟨gs8 0, 2, none⟩) from hD 5 rfl) (b7.keep hBt trivial)),
                          .norm 74 rfl rfl rfl (fun a_ w_ hn_ hBt hr hR hD hO hS => op_bW1 (show a_.eval (.tmp 73) = .slice b_9 s_9.length d_9 from hD 6 rfl)),
                          .norm 75 rfl rfl rfl (fun a_ w_ hn_ hBt hr hR hD hO hS => op_mul (L1 := 1500) (L2 := (1500) + (1500)) (isw_eq (show a_.eval (.tmp 71) = .agg #[.bool nx, .slice ax mx cx] from hD 4 rfl) (Ax.rl hr) Lx) (isw_eq (show a_.eval (.tmp 74) = .agg #[.bool false, .slice b_9 s_9.length d_9] from hD 7 rfl) (E9.rl hr) k9) (by omega) (by omega)),
                          .norm 76 rfl rfl rfl (fun a_ w_ hn_ hBt hr hR hD hO hS => op_same (show OutW (((nm zx zy) * zy)) (((1500) + (1500)) + (1500)) (a_.eval (.tmp 70)) w_ from hD 3 rfl) (show OutW ((zx * (dn zx zy))) ((1500) + ((1500) + (1500))) (a_.eval (.tmp 75)) w_ from hD 8 rfl) (low_cross _ hy0)),
                          .norm 77 rfl rfl rfl (fun a_ w_ hn_ hBt hr hR hD hO hS => op_not (show a_.eval (.tmp 76) = .bool true from hD 9 rfl)),
                          trivial⟩
                      · intro a14 w14 gs14 hn14 hd14 hBt hr hR hP hX hU
                        replace hn := hn14; replace hd := hd14.trans hd
                        replace b3 := b3.keep hBt trivial
                        replace b4 := b4.keep hBt trivial
                        replace b5 := b5.keep hBt trivial
                        replace b7 := b7.keep hBt trivial
                        replace f3 := (hR 3 rfl).trans f3
                        replace f4 := (hR 4 rfl).trans f4
                        replace f5 := (hR 5 rfl).trans f5
                        replace f6 := (hR 6 rfl).trans f6
                        replace f7 := (hR 7 rfl).trans f7
                        have e77 : a14.eval (.tmp 77) = .bool false := hP 10 (by decide)
                        have f77 := e77
                        replace Ax := Ax.rl hr
                        replace Tx := Tx.rl hr
                        replace Ay := Ay.rl hr
                        replace Ty := Ty.rl hr
                        replace Av := Av.rl hr
                        replace Tv := Tv.rl hr
                        replace G9 := G9.rl hr
                        replace A9 := A9.rl hr
                        replace K9 := K9.rl hr
                        replace S9 := S9.rl hr
                        replace X9 := X9.rl hr
                        replace Y9 := Y9.rl hr
                        replace E9 := E9.rl hr
                        replace K12 := K12.rl hr
                        replace S12 := S12.rl hr
                        replace HB := HB.trans (hBt.below HB.size (UpOld.all (bx := []) trivial))
                        clear hBt hr hR hP hX hU
                        refine wp_cond_false f77 ?_
                        refine wp_skip ?_
                        refine wp_seq ?_
                        refine wp_seq ?_
                        refine region4 [some 78, some 79, some 80] [Eqs (.agg #[.bool nv, .slice av mv cv]), Eqs (.int .i64 (Int.sign zv)), Eqs (.bool (decide ((Int.sign zv) = 0)))] [] [] (by kernel_rfl) hn rfl (by kernel_rfl) (by kernel_rfl) (by kernel_rfl) (by kernel_rfl) (by kernel_rfl) (by kernel_rfl) ⟨Eqs.mono4 _, Eqs.mono4 _, Eqs.mono4 _, trivial⟩ ok_nil (IsOld.all (bx := []) trivial) (DisOld.all (bx := []) trivial) ?_ ?_
                        · exact ⟨.norm 78 rfl rfl rfl (fun a_ w_ hn_ hBt hr hR hD hO hS => op_loadv W2ok ((hR 5 rfl).trans f5) (b5.keep hBt trivial)),
                            .norm 79 rfl rfl rfl (fun a_ w_ hn_ hBt hr hR hD hO hS => op_sign (isw_eq (show a_.eval (.tmp 78) = .agg #[.bool nv, .slice av mv cv] from hD 0 rfl) (Av.rl hr) Lv) (by omega)),
                            .norm 80 rfl rfl rfl (fun a_ w_ hn_ hBt hr hR hD hO hS => op_eqlk (show a_.eval (.tmp 79) = .int .i64 (Int.sign zv) from hD 1 rfl)),
                            trivial⟩
                        · intro a15 w15 gs15 hn15 hd15 hBt hr hR hP hX hU
                          replace hn := hn15; replace hd := hd15.trans hd
                          replace b3 := b3.keep hBt trivial
                          replace b4 := b4.keep hBt trivial
                          replace b5 := b5.keep hBt trivial
                          replace b7 := b7.keep hBt trivial
                          replace f3 := (hR 3 rfl).trans f3
                          replace f4 := (hR 4 rfl).trans f4
                          replace f5 := (hR 5 rfl).trans f5
                          replace f6 := (hR 6 rfl).trans f6
                          replace f7 := (hR 7 rfl).trans f7
                          have e80 : a15.eval (.tmp 80) = .bool (decide ((Int.sign zv) = 0)) := hP 2 (by decide)
                          have f80 := e80
                          replace Ax := Ax.rl hr
                          replace Tx := Tx.rl hr
                          replace Ay := Ay.rl hr
                          replace Ty := Ty.rl hr
                          replace Av := Av.rl hr
                          replace Tv := Tv.rl hr
                          replace G9 := G9.rl hr
                          replace A9 := A9.rl hr
                          replace K9 := K9.rl hr
                          replace S9 := S9.rl hr
                          replace X9 := X9.rl hr
                          replace Y9 := Y9.rl hr
                          replace E9 := E9.rl hr
                          replace K12 := K12.rl hr
                          replace S12 := S12.rl hr
                          replace HB := HB.trans (hBt.below HB.size (UpOld.all (bx := []) trivial))
                          clear hBt hr hR hP hX hU
                          refine wp_cond_split f80 (fun hc80 => ?_) (fun hc80 => ?_)
                          · skip
                            refine wp_seq ?_
                            refine region4 [some 6] [Eqs ((.bool true))] [] [] (by kernel_rfl) hn rfl (by kernel_rfl) (by kernel_rfl) (by kernel_rfl) (by kernel_rfl) (by kernel_rfl) (by kernel_rfl) ⟨Eqs.mono4 _, trivial⟩ ok_nil (IsOld.all (bx := []) trivial) (DisOld.all (bx := []) trivial) ?_ ?_
                            · exact ⟨.norm 6 rfl rfl rfl (fun a_ w_ hn_ hBt hr hR hD hO hS => op_assign rfl),
                                trivial⟩
                            · intro a16 w16 gs16 hn16 hd16 hBt hr hR hP hX hU
                              replace hn := hn16; replace hd := hd16.trans hd
                              replace b3 := b3.keep hBt trivial
                              replace b4 := b4.keep hBt trivial
                              replace b5 := b5.keep hBt trivial
                              replace b7 := b7.keep hBt trivial
                              replace f3 := (hR 3 rfl).trans f3
                              replace f4 := (hR 4 rfl).trans f4
                              replace f5 := (hR 5 rfl).trans f5
                              replace f7 := (hR 7 rfl).trans f7
                              have e6 : a16.eval (.tmp 6) = (.bool true) := hP 0 (by decide)
                              have f6 := e6
                              replace Ax := Ax.rl hr
                              replace Tx := Tx.rl hr
                              replace Ay := Ay.rl hr
                              replace Ty := Ty.rl hr
                              replace Av := Av.rl hr
                              replace Tv := Tv.rl hr
                              replace G9 := G9.rl hr
                              replace A9 := A9.rl hr
                              replace K9 := K9.rl hr
                              replace S9 := S9.rl hr
                              replace X9 := X9.rl hr
                              replace Y9 := Y9.rl hr
                              replace E9 := E9.rl hr
                              replace K12 := K12.rl hr
                              replace S12 := S12.rl hr
                              replace HB := HB.trans (hBt.below HB.size (UpOld.all (bx := []) trivial))
                              clear hBt hr hR hP hX hU
                              refine wp_ret ?_
                              repeat (first | refine then_ret ?_ | refine scope_ret ?_ | refine block_ret ?_)
                              exact bodyPost_ret (v := .bool true) (res_t rfl f6) hd ⟨rfl, HB⟩
                          · skip
                            have hk0 : zv ≠ 0 := fun e => absurd (sign_zero_iff.2 e) (of_decide_eq_false hc80)
                            refine wp_skip ?_
                            refine wp_seq ?_
                            refine region4 [some 82, some 83, some 84, some 85, some 86, some 87, some 88, some 81, some 89, some 90, some 10, none, some 11] [Eqs (.agg #[.bool nx, .slice ax mx cx]), Eqs (.agg #[.bool nv, .slice av mv cv]), OutW ((zx * zv)) ((1500) + (1500)), Eqs (.agg #[.bool ny, .slice ay my cy]), Eqs (.agg #[.bool nv, .slice av mv cv]), OutW ((zy * zv)) ((1500) + (1500)), Tup2 (OutR ((nm (zx * zv) (zy * zv))) ((dn (zx * zv) (zy * zv))) (((1500) + (1500)) + ((1500) + (1500)))) (Eqs (.int .i64 0)), Tup2 (OutR ((nm (zx * zv) (zy * zv))) ((dn (zx * zv) (zy * zv))) (((1500) + (1500)) + ((1500) + (1500)))) (Eqs (.int .i64 0)), OutR ((nm (zx * zv) (zy * zv))) ((dn (zx * zv) (zy * zv))) (((1500) + (1500)) + ((1500) + (1500))), Eqs (.int .i64 0), (fun _ _ => True), (fun _ _ => True), Eqs (.int .i64 0)] [⟨R3, some 10, 0, 10, .agg #[.bool false, .slice none 0 0, .slice none 0 0], some (11, 89, 8), []⟩] [] (by kernel_rfl) hn rfl (by kernel_rfl) (by kernel_rfl) (by kernel_rfl) (by kernel_rfl) (by kernel_rfl) (by kernel_rfl) ⟨Eqs.mono4 _, Eqs.mono4 _, OutW.mono4 _ _, Eqs.mono4 _, Eqs.mono4 _, OutW.mono4 _ _, Tup2.mono4 (OutR.mono4 _ _ _) (Eqs.mono4 _), Tup2.mono4 (OutR.mono4 _ _ _) (Eqs.mono4 _), OutR.mono4 _ _ _, Eqs.mono4 _, True.mono4, True.mono4, Eqs.mono4 _, trivial⟩ (ok_cons R3ok ok_nil) (IsOld.all (bx := [⟨R3, some 10, 0, 10, .agg #[.bool false, .slice none 0 0, .slice none 0 0], some (11, 89, 8), []⟩]) ⟨someNe, trivial⟩) (DisOld.all (bx := [⟨R3, some 10, 0, 10, .agg #[.bool false, .slice none 0 0, .slice none 0 0], some (11, 89, 8), []⟩]) ⟨someNe, trivial⟩) ?_ ?_
                            · exact ⟨.norm 82 rfl rfl rfl (fun a_ w_ hn_ hBt hr hR hD hO hS => op_loadv W2ok ((hR 3 rfl).trans f3) (b3.keep hBt ⟨someNe, trivial⟩)),
                                .norm 83 rfl rfl rfl (fun a_ w_ hn_ hBt hr hR hD hO hS => op_loadv W2ok ((hR 5 rfl).trans f5) (b5.keep hBt ⟨someNe, trivial⟩)),
                                .norm 84 rfl rfl rfl (fun a_ w_ hn_ hBt hr hR hD hO hS => op_mul (L1 := 1500) (L2 := 1500) (isw_eq (show a_.eval (.tmp 82) = .agg #[.bool nx, .slice ax mx cx] from hD 0 rfl) (Ax.rl hr) Lx) (isw_eq (show a_.eval (.tmp 83) = .agg #[.bool nv, .slice av mv cv] from hD 1 rfl) (Av.rl hr) Lv) (by omega) (by omega)),
                                .norm 85 rfl rfl rfl (fun a_ w_ hn_ hBt hr hR hD hO hS => op_loadv W2ok ((hR 4 rfl).trans f4) (b4.keep hBt ⟨someNe, trivial⟩)),
                                .norm 86 rfl rfl rfl (fun a_ w_ hn_ hBt hr hR hD hO hS => op_loadv W2ok ((hR 5 rfl).trans f5) (b5.keep hBt ⟨someNe, trivial⟩)),
                                .norm 87 rfl rfl rfl (fun a_ w_ hn_ hBt hr hR hD hO hS => op_mul (L1 := 1500) (L2 := 1500) (isw_eq (show a_.eval (.tmp 85) = .agg #[.bool ny, .slice ay my cy] from hD 3 rfl) (Ay.rl hr) Ly) (isw_eq (show a_.eval (.tmp 86) = .agg #[.bool nv, .slice av mv cv] from hD 4 rfl) (Av.rl hr) Lv) (by omega) (by omega)),
                                .norm 88 rfl rfl rfl (fun a_ w_ hn_ hBt hr hR hD hO hS => op_rof (Bx := (1500) + (1500)) (By := (1500) + (1500)) (show OutW ((zx * zv)) ((1500) + (1500)) (a_.eval (.tmp 84)) w_ from hD 2 rfl).is (show OutW ((zy * zv)) ((1500) + (1500)) (a_.eval (.tmp 87)) w_ from hD 5 rfl).is (by omega) (Int.mul_ne_zero hy0 hk0)),
                                .norm 81 rfl rfl rfl (fun a_ w_ hn_ hBt hr hR hD hO hS => op_mvp (p := Tup2 (OutR ((nm (zx * zv) (zy * zv))) ((dn (zx * zv) (zy * zv))) (((1500) + (1500)) + ((1500) + (1500)))) (Eqs (.int .i64 0))) (show Tup2 (OutR ((nm (zx * zv) (zy * zv))) ((dn (zx * zv) (zy * zv))) (((1500) + (1500)) + ((1500) + (1500)))) (Eqs (.int .i64 0)) (a_.eval (.tmp 88)) w_ from hD 6 rfl)),
                                .norm 89 rfl rfl rfl (fun a_ w_ hn_ hBt hr hR hD hO hS => op_ex20 (show Tup2 (OutR ((nm (zx * zv) (zy * zv))) ((dn (zx * zv) (zy * zv))) (((1500) + (1500)) + ((1500) + (1500)))) (Eqs (.int .i64 0)) (a_.eval (.tmp 81)) w_ from hD 7 rfl)),
                                .norm 90 rfl rfl rfl (fun a_ w_ hn_ hBt hr hR hD hO hS => op_ex21 (show Tup2 (OutR ((nm (zx * zv) (zy * zv))) ((dn (zx * zv) (zy * zv))) (((1500) + (1500)) + ((1500) + (1500)))) (Eqs (.int .i64 0)) (a_.eval (.tmp 81)) w_ from hD 7 rfl)),
                                .alloc 0 _ rfl rfl (.inl ⟨rfl, rfl⟩) rfl rfl rfl rfl rfl,
                                .store 0 _ _ _ rfl rfl rfl rfl rfl rfl rfl (fun ia h => by cases h; rfl) rfl rfl rfl OutR.cs,
                                .norm 11 rfl rfl rfl (fun a_ w_ hn_ hBt hr hR hD hO hS => op_assign (show a_.eval (.tmp 90) = .int .i64 0 from hD 9 rfl)),
                                trivial⟩
                            · intro a17 w17 gs17 hn17 hd17 hBt hr hR hP hX hU
                              replace hn := hn17; replace hd := hd17.trans hd
                              replace b5 := b5.keep hBt ⟨someNe, trivial⟩
                              replace b7 := b7.keep hBt ⟨someNe, trivial⟩
                              obtain ⟨n_18, a_18, c_18, r_18, b_18, d_18, s_18, e89, G18, K18, l18, k18⟩ : OutR ((nm (zx * zv) (zy * zv))) ((dn (zx * zv) (zy * zv))) (((1500) + (1500)) + ((1500) + (1500))) (a17.eval (.tmp 89)) w17 := hP 8 (by decide)
                              have A18 := G18.ag; have S18 := K18.sl; have V18 := K18.val
                              have X18 := G18.1; have Y18 := X18.sl; have Z18 := X18.val; have E18 : Ag w17 false b_18 s_18.length d_18 s_18 (dn (zx * zv) (zy * zv)) := ⟨S18, V18⟩
                              have b10 : BoxV R3 w17 (gs17 0) (.agg #[.bool n_18, .slice a_18 r_18.length c_18, .slice b_18 s_18.length d_18]) := boxv_of (hX 0 _ rfl).2.2.2 e89
                              have f10 := (hX 0 _ rfl).1
                              have u10 : w.heap.size ≤ gs17 0 := Nat.le_trans HB.size ((hX 0 _ rfl).2.2.1 (by simp))
                              replace f5 := (hR 5 rfl).trans f5
                              replace f6 := (hR 6 rfl).trans f6
                              replace f7 := (hR 7 rfl).trans f7
                              have e11 : a17.eval (.tmp 11) = .int .i64 0 := hP 12 (by decide)
                              have f11 := e11
                              replace Ax := Ax.rl hr
                              replace Tx := Tx.rl hr
                              replace Ay := Ay.rl hr
                              replace Ty := Ty.rl hr
                              replace Av := Av.rl hr
                              replace Tv := Tv.rl hr
                              replace G9 := G9.rl hr
                              replace A9 := A9.rl hr
                              replace K9 := K9.rl hr
                              replace S9 := S9.rl hr
                              replace X9 := X9.rl hr
                              replace Y9 := Y9.rl hr
                              replace E9 := E9.rl hr
                              replace K12 := K12.rl hr
                              replace S12 := S12.rl hr
                              replace HB := HB.trans (hBt.below HB.size (UpOld.all (bx := [⟨R3, some 10, 0, 10, .agg #[.bool false, .slice none 0 0, .slice none 0 0], some (11, 89, 8), []⟩]) ⟨someNe, trivial⟩))
                              clear hBt hr hR hP hX hU
                              refine wp_seq ?_
                              refine region4 [some 91, some 92, some 93, some 94, some 95, some 96, some 97, some 98, some 99, some 100, some 101, some 102, some 103, some 104, some 105, some 12, none] [Eqs (.pointer (some ⟨gs8 0, 0, none⟩)), Eqs (.agg #[.bool n_9, .slice a_9 r_9.length c_9]), Eqs (.agg #[.bool nv, .slice av mv cv]), Eqs (.agg #[.bool nv, .slice av mv cv]), OutW ((zv * zv)) ((1500) + (1500)), OutW (((nm zx zy) * (zv * zv))) (((1500) + (1500)) + ((1500) + (1500))), Eqs (.agg #[.bool nv, .slice av mv cv]), Eqs (.agg #[.bool nv, .slice av mv cv]), OutW ((zv * zv)) ((1500) + (1500)), Eqs (.pointer (some ⟨gs8 0, 2, none⟩)), Eqs (.slice b_9 s_9.length d_9), Eqs (.agg #[.bool false, .slice b_9 s_9.length d_9]), OutW (((zv * zv) * (dn zx zy))) (((1500) + (1500)) + ((1500) + (1500))), OutL (((((zv * zv) * (dn zx zy))).natAbs : Int)) (((1500) + (1500)) + ((1500) + (1500))), OutR (((nm zx zy) * (zv * zv))) (((((zv * zv) * (dn zx zy))).natAbs : Int)) ((((1500) + (1500)) + ((1500) + (1500))) + (((1500) + (1500)) + ((1500) + (1500)))), (fun _ _ => True), (fun _ _ => True)] [⟨R3, some 15, 0, 12, .agg #[.bool false, .slice none 0 0, .slice none 0 0], some (16, 105, 14), []⟩] [] (by kernel_rfl) hn rfl (by kernel_rfl) (by kernel_rfl) (by kernel_rfl) (by kernel_rfl) (by kernel_rfl) (by kernel_rfl) ⟨Eqs.mono4 _, Eqs.mono4 _, Eqs.mono4 _, Eqs.mono4 _, OutW.mono4 _ _, OutW.mono4 _ _, Eqs.mono4 _, Eqs.mono4 _, OutW.mono4 _ _, Eqs.mono4 _, Eqs.mono4 _, Eqs.mono4 _, OutW.mono4 _ _, OutL.mono4 _ _, OutR.mono4 _ _ _, True.mono4, True.mono4, trivial⟩ (ok_cons R3ok ok_nil) (IsOld.all (bx := [⟨R3, some 15, 0, 12, .agg #[.bool false, .slice none 0 0, .slice none 0 0], some (16, 105, 14), []⟩]) ⟨someNe, trivial⟩) (DisOld.all (bx := [⟨R3, some 15, 0, 12, .agg #[.bool false, .slice none 0 0, .slice none 0 0], some (16, 105, 14), []⟩]) ⟨someNe, trivial⟩) ?_ ?_
                              · exact ⟨.norm 91 rfl rfl rfl (fun a_ w_ hn_ hBt hr hR hD hO hS => op_faR fa_num ((hR 7 rfl).trans f7)),
                                  .norm 92 rfl rfl rfl (fun a_ w_ hn_ hBt hr hR hD hO hS => op_ldnum (show a_.eval (.tmp 91) = .pointer (some ⟨gs8 0, 0, none⟩) from hD 0 rfl) (b7.keep hBt ⟨someNe, trivial⟩)),
                                  .norm 93 rfl rfl rfl (fun a_ w_ hn_ hBt hr hR hD hO hS => op_loadv W2ok ((hR 5 rfl).trans f5) (b5.keep hBt ⟨someNe, trivial⟩)),
                                  .norm 94 rfl rfl rfl (fun a_ w_ hn_ hBt hr hR hD hO hS => op_loadv W2ok ((hR 5 rfl).trans f5) (b5.keep hBt ⟨someNe, trivial⟩)),
                                  .norm 95 rfl rfl rfl (fun a_ w_ hn_ hBt hr hR hD hO hS => op_mul (L1 := 1500) (L2 := 1500) (isw_eq (show a_.eval (.tmp 93) = .agg #[.bool nv, .slice av mv cv] from hD 2 rfl) (Av.rl hr) Lv) (isw_eq (show a_.eval (.tmp 94) = .agg #[.bool nv, .slice av mv cv] from hD 3 rfl) (Av.rl hr) Lv) (by omega) (by omega)),
                                  .norm 96 rfl rfl rfl (fun a_ w_ hn_ hBt hr hR hD hO hS => op_mul (L1 := (1500) + (1500)) (L2 := (1500) + (1500)) (isw_eq (show a_.eval (.tmp 92) = .agg #[.bool n_9, .slice a_9 r_9.length c_9] from hD 1 rfl) (A9.rl hr) l9) (show OutW ((zv * zv)) ((1500) + (1500)) (a_.eval (.tmp 95)) w_ from hD 4 rfl).is (by omega) (by omega)),
                                  .norm 97 rfl rfl rfl (fun a_ w_ hn_ hBt hr hR hD hO hS => op_loadv W2ok ((hR 5 rfl).trans f5) (b5.keep hBt ⟨someNe, trivial⟩)),
                                  .norm 98 rfl rfl rfl (fun a_ w_ hn_ hBt hr hR hD hO hS => op_loadv W2ok ((hR 5 rfl).trans f5) (b5.keep hBt ⟨someNe, trivial⟩)),
                                  .norm 99 rfl rfl rfl (fun a_ w_ hn_ hBt hr hR hD hO hS => op_mul (L1 := 1500) (L2 := 1500) (isw_eq (show a_.eval (.tmp 97) = .agg #[.bool nv, .slice av mv cv] from hD 6 rfl) (Av.rl hr) Lv) (isw_eq (show a_.eval (.tmp 98) = .agg #[.bool nv, .slice av mv cv] from hD 7 rfl) (Av.rl hr) Lv) (by omega) (by omega)),
                                  .norm 100 rfl rfl rfl (fun a_ w_ hn_ hBt hr hR hD hO hS => op_faR fa_den ((hR 7 rfl).trans f7)),
                                  .norm 101 rfl rfl rfl (fun a_ w_ hn_ hBt hr hR hD hO hS => op_ldden (show a_.eval (.tmp 100) = .pointer (some ⟨gs8 0, 2, none⟩) from hD 9 rfl) (b7.keep hBt ⟨someNe, trivial⟩)),
                                  .norm 102 rfl rfl rfl (fun a_ w_ hn_ hBt hr hR hD hO hS => op_bW1 (show a_.eval (.tmp 101) = .slice b_9 s_9.length d_9 from hD 10 rfl)),
                                  .norm 103 rfl rfl rfl (fun a_ w_ hn_ hBt hr hR hD hO hS => op_mul (L1 := (1500) + (1500)) (L2 := (1500) + (1500)) (show OutW ((zv * zv)) ((1500) + (1500)) (a_.eval (.tmp 99)) w_ from hD 8 rfl).is (isw_eq (show a_.eval (.tmp 102) = .agg #[.bool false, .slice b_9 s_9.length d_9] from hD 11 rfl) (E9.rl hr) k9) (by omega) (by omega)),
                                  .norm 104 rfl rfl rfl (fun a_ w_ hn_ hBt hr hR hD hO hS => op_mag (show OutW (((zv * zv) * (dn zx zy))) (((1500) + (1500)) + ((1500) + (1500))) (a_.eval (.tmp 103)) w_ from hD 12 rfl)),
                                  .norm 105 rfl rfl rfl (fun a_ w_ hn_ hBt hr hR hD hO hS => op_bRo ((show OutW (((nm zx zy) * (zv * zv))) (((1500) + (1500)) + ((1500) + (1500))) (a_.eval (.tmp 96)) w_ from hD 5 rfl).to rfl (by omega)) ((show OutL (((((zv * zv) * (dn zx zy))).natAbs : Int)) (((1500) + (1500)) + ((1500) + (1500))) (a_.eval (.tmp 104)) w_ from hD 13 rfl).to (by omega))),
                                  .alloc 0 _ rfl rfl (.inl ⟨rfl, rfl⟩) rfl rfl rfl rfl rfl,
                                  .store 0 _ _ _ rfl rfl rfl rfl rfl rfl rfl (fun ia h => by cases h; rfl) rfl rfl rfl OutR.cs,
                                  trivial⟩
                              · intro a19 w19 gs19 hn19 hd19 hBt hr hR hP hX hU
                                replace hn := hn19; replace hd := hd19.trans hd
                                replace b7 := b7.keep hBt ⟨someNe, trivial⟩
                                replace b10 := b10.keep hBt ⟨someNe, trivial⟩
                                obtain ⟨n_20, a_20, c_20, r_20, b_20, d_20, s_20, e105, G20, K20, l20, k20⟩ : OutR (((nm zx zy) * (zv * zv))) (((((zv * zv) * (dn zx zy))).natAbs : Int)) ((((1500) + (1500)) + ((1500) + (1500))) + (((1500) + (1500)) + ((1500) + (1500)))) (a19.eval (.tmp 105)) w19 := hP 14 (by decide)
                                have A20 := G20.ag; have S20 := K20.sl; have V20 := K20.val
                                have X20 := G20.1; have Y20 := X20.sl; have Z20 := X20.val; have E20 : Ag w19 false b_20 s_20.length d_20 s_20 ((((zv * zv) * (dn zx zy))).natAbs : Int) := ⟨S20, V20⟩
                                have b12 : BoxV R3 w19 (gs19 0) (.agg #[.bool n_20, .slice a_20 r_20.length c_20, .slice b_20 s_20.length d_20]) := boxv_of (hX 0 _ rfl).2.2.2 e105
                                have f12 := (hX 0 _ rfl).1
                                have u12 : w.heap.size ≤ gs19 0 := Nat.le_trans HB.size ((hX 0 _ rfl).2.2.1 (by simp))
                                replace f6 := (hR 6 rfl).trans f6
                                replace f7 := (hR 7 rfl).trans f7
                                replace f10 := (hR 10 rfl).trans f10
                                replace f11 := (hR 11 rfl).trans f11
                                replace Ax := Ax.rl hr
                                replace Tx := Tx.rl hr
                                replace Ay := Ay.rl hr
                                replace Ty := Ty.rl hr
                                replace Av := Av.rl hr
                                replace Tv := Tv.rl hr
                                replace G9 := G9.rl hr
                                replace A9 := A9.rl hr
                                replace K9 := K9.rl hr
                                replace S9 := S9.rl hr
                                replace X9 := X9.rl hr
                                replace Y9 := Y9.rl hr
                                replace E9 := E9.rl hr
                                replace K12 := K12.rl hr
                                replace S12 := S12.rl hr
                                replace G18 := G18.rl hr
                                replace A18 := A18.rl hr
                                replace K18 := K18.rl hr
                                replace S18 := S18.rl hr
                                replace X18 := X18.rl hr
                                replace Y18 := Y18.rl hr
                                replace E18 := E18.rl hr
                                replace HB := HB.trans (hBt.below HB.size (UpOld.all (bx := [⟨R3, some 15, 0, 12, .agg #[.bool false, .slice none 0 0, .slice none 0 0], some (16, 105, 14), []⟩]) ⟨someNe, trivial⟩))
                                clear hBt hr hR hP hX hU
                                refine wp_seq ?_
                                refine region4 [some 106, some 107, some 108, some 109, some 110, some 111, some 112, some 113, some 114, some 115, some 116, some 117, some 118, some 119, some 120, some 121, some 122, some 123, some 124, some 6] [Eqs (.int .i64 0), Eqs (.bool true), Eqs (.bool true), Eqs (.agg #[.bool n_18, .slice a_18 r_18.length c_18, .slice b_18 s_18.length d_18]), Eqs (.agg #[.bool n_9, .slice a_9 r_9.length c_9, .slice b_9 s_9.length d_9]), Eqs (.bool true), Eqs (.bool true), Eqs (.bool true), Eqs (.agg #[.bool n_20, .slice a_20 r_20.length c_20, .slice b_20 s_20.length d_20]), OutR ((nm (tp ((nm zx zy) * (zv * zv)) ((((zv * zv) * (dn zx zy))).natAbs : Int)) (tq ((((zv * zv) * (dn zx zy))).natAbs : Int)))) ((dn (tp ((nm zx zy) * (zv * zv)) ((((zv * zv) * (dn zx zy))).natAbs : Int)) (tq ((((zv * zv) * (dn zx zy))).natAbs : Int)))) (2 * (((((1500) + (1500)) + ((1500) + (1500))) + (((1500) + (1500)) + ((1500) + (1500)))) + 2)), Eqs (.agg #[.bool n_9, .slice a_9 r_9.length c_9, .slice b_9 s_9.length d_9]), Eqs (.bool true), Eqs (.bool true), Eqs (.bool true), Eqs (.agg #[.bool n_20, .slice a_20 r_20.length c_20, .slice b_20 s_20.length d_20]), Eqs (.agg #[.bool n_9, .slice a_9 r_9.length c_9, .slice b_9 s_9.length d_9]), Eqs (.int .i64 (cmpI (tp ((nm zx zy) * (zv * zv)) ((((zv * zv) * (dn zx zy))).natAbs : Int) * tq (dn zx zy)) (tp (nm zx zy) (dn zx zy) * tq ((((zv * zv) * (dn zx zy))).natAbs : Int)))), Eqs (.bool true), Eqs (.bool true), Eqs (.bool true)] [] [] (by kernel_rfl) hn rfl (by kernel_rfl) (by kernel_rfl) (by kernel_rfl) (by kernel_rfl) (by kernel_rfl) (by kernel_rfl) ⟨Eqs.mono4 _, Eqs.mono4 _, Eqs.mono4 _, Eqs.mono4 _, Eqs.mono4 _, Eqs.mono4 _, Eqs.mono4 _, Eqs.mono4 _, Eqs.mono4 _, OutR.mono4 _ _ _, Eqs.mono4 _, Eqs.mono4 _, Eqs.mono4 _, Eqs.mono4 _, Eqs.mono4 _, Eqs.mono4 _, Eqs.mono4 _, Eqs.mono4 _, Eqs.mono4 _, Eqs.mono4 _, trivial⟩ ok_nil (IsOld.all (bx := []) trivial) (DisOld.all (bx := []) trivial) ?_ ?_
                                · exact ⟨.norm 106 rfl rfl rfl (fun a_ w_ hn_ hBt hr hR hD hO hS => op_mv ((hR 11 rfl).trans f11)),
                                    .norm 107 rfl rfl rfl (fun a_ w_ hn_ hBt hr hR hD hO hS => op_eqle (show a_.eval (.tmp 106) = .int .i64 0 from hD 0 rfl)),
                                    .norm 108 rfl rfl rfl (fun a_ w_ hn_ hBt hr hR hD hO hS => op_mv (show a_.eval (.tmp 107) = .bool true from hD 1 rfl)),
                                    .norm 109 rfl rfl rfl (fun a_ w_ hn_ hBt hr hR hD hO hS => ⟨⟨_, rfl⟩, fun _ => op_loadv R3ok ((hR 10 rfl).trans f10) (b10.keep hBt trivial), fun hne => absurd (hD 2 rfl) hne⟩),
                                    .norm 110 rfl rfl rfl (fun a_ w_ hn_ hBt hr hR hD hO hS => ⟨⟨_, rfl⟩, fun _ => op_loadv R3ok ((hR 7 rfl).trans f7) (b7.keep hBt trivial), fun hne => absurd (hD 2 rfl) hne⟩),
                                    .norm 111 rfl rfl rfl (fun a_ w_ hn_ hBt hr hR hD hO hS => ⟨⟨_, rfl⟩, fun _ => op_samer (outr_eq (show a_.eval (.tmp 109) = .agg #[.bool n_18, .slice a_18 r_18.length c_18, .slice b_18 s_18.length d_18] from hD 3 rfl) (G18.rl hr) (K18.rl hr) l18 k18) (outr_eq (show a_.eval (.tmp 110) = .agg #[.bool n_9, .slice a_9 r_9.length c_9, .slice b_9 s_9.length d_9] from hD 4 rfl) (G9.rl hr) (K9.rl hr) l9 k9) (low_times hy0 hk0), fun hne => absurd (hD 2 rfl) hne⟩),
                                    .norm 112 rfl rfl rfl (fun a_ w_ hn_ hBt hr hR hD hO hS => op_pickb (show a_.eval (.tmp 108) = .bool true from hD 2 rfl) (show a_.eval (.tmp 111) = .bool true from hD 5 rfl)),
                                    .norm 113 rfl rfl rfl (fun a_ w_ hn_ hBt hr hR hD hO hS => op_mv (show a_.eval (.tmp 112) = .bool true from hD 6 rfl)),
                                    .norm 114 rfl rfl rfl (fun a_ w_ hn_ hBt hr hR hD hO hS => ⟨⟨_, rfl⟩, fun _ => op_loadv R3ok ((hR 12 rfl).trans f12) (b12.keep hBt trivial), fun hne => absurd (hD 7 rfl) hne⟩),
                                    .norm 115 rfl rfl rfl (fun a_ w_ hn_ hBt hr hR hD hO hS => ⟨⟨_, rfl⟩, fun _ => op_rtrim (isr_eq (show a_.eval (.tmp 114) = .agg #[.bool n_20, .slice a_20 r_20.length c_20, .slice b_20 s_20.length d_20] from hD 8 rfl) (A20.rl hr) (S20.rl hr) V20 l20 k20) (by omega), fun hne => absurd (hD 7 rfl) hne⟩),
                                    .norm 116 rfl rfl rfl (fun a_ w_ hn_ hBt hr hR hD hO hS => ⟨⟨_, rfl⟩, fun _ => op_loadv R3ok ((hR 7 rfl).trans f7) (b7.keep hBt trivial), fun hne => absurd (hD 7 rfl) hne⟩),
                                    .norm 117 rfl rfl rfl (fun a_ w_ hn_ hBt hr hR hD hO hS => ⟨⟨_, rfl⟩, fun _ => op_samer (show OutR ((nm (tp ((nm zx zy) * (zv * zv)) ((((zv * zv) * (dn zx zy))).natAbs : Int)) (tq ((((zv * zv) * (dn zx zy))).natAbs : Int)))) ((dn (tp ((nm zx zy) * (zv * zv)) ((((zv * zv) * (dn zx zy))).natAbs : Int)) (tq ((((zv * zv) * (dn zx zy))).natAbs : Int)))) (2 * (((((1500) + (1500)) + ((1500) + (1500))) + (((1500) + (1500)) + ((1500) + (1500)))) + 2)) (a_.eval (.tmp 115)) w_ from hD 9 rfl) (outr_eq (show a_.eval (.tmp 116) = .agg #[.bool n_9, .slice a_9 r_9.length c_9, .slice b_9 s_9.length d_9] from hD 10 rfl) (G9.rl hr) (K9.rl hr) l9 k9) (raw_trim hy0 hk0), fun hne => absurd (hD 7 rfl) hne⟩),
                                    .norm 118 rfl rfl rfl (fun a_ w_ hn_ hBt hr hR hD hO hS => op_pickb (show a_.eval (.tmp 113) = .bool true from hD 7 rfl) (show a_.eval (.tmp 117) = .bool true from hD 11 rfl)),
                                    .norm 119 rfl rfl rfl (fun a_ w_ hn_ hBt hr hR hD hO hS => op_mv (show a_.eval (.tmp 118) = .bool true from hD 12 rfl)),
                                    .norm 120 rfl rfl rfl (fun a_ w_ hn_ hBt hr hR hD hO hS => ⟨⟨_, rfl⟩, fun _ => op_loadv R3ok ((hR 12 rfl).trans f12) (b12.keep hBt trivial), fun hne => absurd (hD 13 rfl) hne⟩),
                                    .norm 121 rfl rfl rfl (fun a_ w_ hn_ hBt hr hR hD hO hS => ⟨⟨_, rfl⟩, fun _ => op_loadv R3ok ((hR 7 rfl).trans f7) (b7.keep hBt trivial), fun hne => absurd (hD 13 rfl) hne⟩),
                                    .norm 122 rfl rfl rfl (fun a_ w_ hn_ hBt hr hR hD hO hS => ⟨⟨_, rfl⟩, fun _ => op_rcmp (isr_eq (show a_.eval (.tmp 120) = .agg #[.bool n_20, .slice a_20 r_20.length c_20, .slice b_20 s_20.length d_20] from hD 14 rfl) (A20.rl hr) (S20.rl hr) V20 l20 k20) (isr_eq (show a_.eval (.tmp 121) = .agg #[.bool n_9, .slice a_9 r_9.length c_9, .slice b_9 s_9.length d_9] from hD 15 rfl) (A9.rl hr) (S9.rl hr) V9 l9 k9) (by omega), fun hne => absurd (hD 13 rfl) hne⟩),
                                    .norm 123 rfl rfl rfl (fun a_ w_ hn_ hBt hr hR hD hO hS => ⟨⟨_, rfl⟩, fun _ => op_eqlkt (show a_.eval (.tmp 122) = .int .i64 (cmpI (tp ((nm zx zy) * (zv * zv)) ((((zv * zv) * (dn zx zy))).natAbs : Int) * tq (dn zx zy)) (tp (nm zx zy) (dn zx zy) * tq ((((zv * zv) * (dn zx zy))).natAbs : Int))) from hD 16 rfl) (raw_cmp hy0 hk0), fun hne => absurd (hD 13 rfl) hne⟩),
                                    .norm 124 rfl rfl rfl (fun a_ w_ hn_ hBt hr hR hD hO hS => op_pickb (show a_.eval (.tmp 119) = .bool true from hD 13 rfl) (show a_.eval (.tmp 123) = .bool true from hD 17 rfl)),
                                    .norm 6 rfl rfl rfl (fun a_ w_ hn_ hBt hr hR hD hO hS => op_assign (show a_.eval (.tmp 124) = .bool true from hD 18 rfl)),
                                    trivial⟩
                                · intro a21 w21 gs21 hn21 hd21 hBt hr hR hP hX hU
                                  replace hn := hn21; replace hd := hd21.trans hd
                                  have e6 : a21.eval (.tmp 6) = .bool true := hP 19 (by decide)
                                  have f6 := e6
                                  replace Ax := Ax.rl hr
                                  replace Tx := Tx.rl hr
                                  replace Ay := Ay.rl hr
                                  replace Ty := Ty.rl hr
                                  replace Av := Av.rl hr
                                  replace Tv := Tv.rl hr
                                  replace G9 := G9.rl hr
                                  replace A9 := A9.rl hr
                                  replace K9 := K9.rl hr
                                  replace S9 := S9.rl hr
                                  replace X9 := X9.rl hr
                                  replace Y9 := Y9.rl hr
                                  replace E9 := E9.rl hr
                                  replace K12 := K12.rl hr
                                  replace S12 := S12.rl hr
                                  replace G18 := G18.rl hr
                                  replace A18 := A18.rl hr
                                  replace K18 := K18.rl hr
                                  replace S18 := S18.rl hr
                                  replace X18 := X18.rl hr
                                  replace Y18 := Y18.rl hr
                                  replace E18 := E18.rl hr
                                  replace G20 := G20.rl hr
                                  replace A20 := A20.rl hr
                                  replace K20 := K20.rl hr
                                  replace S20 := S20.rl hr
                                  replace X20 := X20.rl hr
                                  replace Y20 := Y20.rl hr
                                  replace E20 := E20.rl hr
                                  replace HB := HB.trans (hBt.below HB.size (UpOld.all (bx := []) trivial))
                                  clear hBt hr hR hP hX hU
                                  refine wp_ret ?_
                                  repeat (first | refine then_ret ?_ | refine scope_ret ?_ | refine block_ret ?_)
                                  exact bodyPost_ret (v := .bool true) (res_t rfl f6) hd ⟨rfl, HB⟩

end Lm
end Go.Proofs.Ytkdcgnooeojjgac

namespace Go.Proofs.Ytkdcgnooeojjgac
namespace ratioLowestLaw
open Go.ChangeShapes Go.WideShapes Go.ChangeAt Go.RowKit
open Go.ChangeMaps (open_string shut_string)

theorem own : ownKnob Try.prog.godebug = none := by kernel_rfl
theorem laidOut : laidOutB Try.prog = true := by kernel_rfl
theorem bytes4 : Try.prog.bytesOf 32 = 4 := by kernel_rfl

theorem sl_of {w : World} {x : Addr} {l c : Nat} {zs : List Int} (hl : l ≤ c) (hm : c ≤ maxLen) (hz : zs.length = c) (hcell : ∀ i, i < zs.length → w.cell? (x.add i) = some (.int .u32 (zs.getD i 0))) (hwz : ∀ n ∈ zs, (Lit.int .u32 n).wf = true) : Lm.Sl w (.slice (some x) l c) (zs.take l) := by
  have hll : (zs.take l).length = l := by rw [List.length_take]; omega
  refine ⟨some x, c, by rw [hll], by omega, hm, fun n hn => ?_, ?_⟩
  · have := bounds_u32 (hwz n (List.mem_of_mem_take hn))
    omega
  · by_cases h0 : l = 0
    · exact .inl (List.eq_nil_of_length_eq_zero (by omega))
    · obtain ⟨b, off, spot⟩ := x
      have h1 := hcell 0 (by omega)
      have hspot : spot = none := by simpa [Addr.add] using World.cell?_spot h1
      subst hspot
      refine .inr ⟨b, off, rfl, fun i hi => ?_⟩
      have h2 := hcell i (by omega)
      rw [Lm.getD_take _ _ _ (by omega)]
      have e : (⟨b, off, none⟩ : Addr).add i = ⟨b, off + i, none⟩ := by
        by_cases hi0 : i = 0
        · subst hi0; simp [Addr.add]
        · simp [Addr.add, hi0]
      rwa [e] at h2

set_option linter.unusedVariables false in
set_option maxRecDepth 100000 in
theorem lifted (os : Os) (started : os.Started) (H : Type) (enc : TypeId × Value → H) :
    ReturnsInHanded {} Try.checked os 3 .any (Rows.ratioLowestSpec.pre6 enc Try.prog Try.f3 Rows.ratioLowestRow.domain false) (Rows.ratioLowestSpec.post enc Try.prog Try.f3 false true false false) := by
  refine returnsInHanded_of_change_sized (C := Try.checked) own started (by kernel_rfl) Try.func3
    (ChangeSpec.witness6 (enc := enc) (C := Try.checked) false ⟨#[], #[.agg #[.bool false, .slice none 0 0], .agg #[.bool false, .slice none 0 0], .agg #[.bool false, .slice none 0 0]], []⟩ 8 (by kernel_rfl) (by kernel_rfl) (by kernel_rfl) (by kernel_rfl)) ?_
  intro W base args ds gs before hval0 hW hcnd hsz0 _
  have hval : ∀ (j : Nat) t v, Try.f3.params[j]? = some t → args[j]? = some v → Value.okWide Try.prog W .any base t v := hval0
  have hW' := hW
  obtain ⟨p, q, hA0, hV, rfl, hfz, hnd⟩ := hW
  have hA : DataW.TrodAll enc Try.prog W 0 (fun _ => true) true Try.f3.params.toList args.toList ds p := hA0
  have hsz : (DataW.weightsEach Try.prog (Try.f3.params.toList ++ Rows.ratioLowestSpec.plain.varTypes Try.prog) (ds ++ gs)).all (· ≤ reachBytes) = true := hsz0
  rw [Try.params3] at hA hval hsz
  obtain ⟨v0, vs0, d0, ds0, p0, q0, hargs, rfl, rfl, h0, r0⟩ := trodAll_cons hA
  obtain ⟨v1, vs1, d1, ds1, p1, q1, rfl, rfl, rfl, h1, r1⟩ := trodAll_cons r0
  obtain ⟨v2, vs2, d2, ds2, p2, q2, rfl, rfl, rfl, h2, r2⟩ := trodAll_cons r1
  obtain ⟨rfl, rfl, rfl⟩ := trodAll_nil r2
  obtain rfl : args = #[v0, v1, v2] := by cases args; simp_all
  obtain ⟨rfl, rfl⟩ := trodVars_none hV
  have k0 := h0
  have lt0 : ∀ x ∈ p0, x.block < W.heap.size := by obtain ⟨m, hm⟩ := k0; exact DataW.trod_lt m _ _ _ hm
  obtain ⟨g0, a0, len0, cap0, z0, hv0, w0, b0⟩ : ∃ ng ao n cap zs, v0 = .agg #[.bool ng, .slice ao n cap] ∧ Lm.Sl W (.slice ao n cap) zs ∧ n ≤ 35184372088832 := by
    obtain ⟨x0, x1, y0, y1, m, hv, hd, _, t0, t1⟩ := Go.Joins.open_agg2 Try.underlying24 (by kernel_rfl) (by kernel_rfl) (hval 0 24 v0 rfl rfl) h0
    obtain ⟨b, hb0, _⟩ := DataW.trod_bool Try.underlying4 t0
    obtain rfl : x0 = .bool b := by simpa using hb0
    rcases open_ints Try.underlying22 Try.underlying32 (by kernel_rfl) t1 with ⟨hcs, _⟩ | ⟨x, l, c, zs, hcs, _, hl, hm, hz, hx, hcell, hwz⟩
    · obtain rfl : x1 = .slice none 0 0 := by simpa using hcs
      exact ⟨b, none, 0, 0, [], hv, ⟨none, 0, rfl, Nat.le_refl _, by simp [maxLen], Lm.limb_nil, .inl rfl⟩, by omega⟩
    · obtain rfl : x1 = .slice (some x) l c := by simpa using hcs
      have hz' : zs.length = c := by simpa using hz
      have hx1 : y1.1 = .slice (lits .u32 (zs.take l)) (lits .u32 (zs.drop l)) := congrArg Prod.fst hx
      refine ⟨b, some x, l, c, _, hv, sl_of hl hm hz' hcell hwz, ?_⟩
      have hs := List.all_eq_true.1 hsz _ (DataW.weights_mem_each (j := 0) (t := 24) rfl (congrArg some hd) (((lits .u32 (zs.take l) : List (DataW H)).length + (lits .u32 (zs.drop l) : List (DataW H)).length) * Try.prog.bytesOf 32) (by rw [hx1]; simp [DataW.weights, DataW.weightsEach, Try.underlying24, Try.underlying22]))
      rw [bytes4] at hs
      simp only [lits, List.length_map, List.length_take, List.length_drop, reachBytes, decide_eq_true_eq] at hs
      omega
  subst hv0
  have k1 := h1
  have lt1 : ∀ x ∈ p1, x.block < W.heap.size := by obtain ⟨m, hm⟩ := k1; exact DataW.trod_lt m _ _ _ hm
  obtain ⟨g1, a1, len1, cap1, z1, hv1, w1, b1⟩ : ∃ ng ao n cap zs, v1 = .agg #[.bool ng, .slice ao n cap] ∧ Lm.Sl W (.slice ao n cap) zs ∧ n ≤ 35184372088832 := by
    obtain ⟨x0, x1, y0, y1, m, hv, hd, _, t0, t1⟩ := Go.Joins.open_agg2 Try.underlying24 (by kernel_rfl) (by kernel_rfl) (hval 1 24 v1 rfl rfl) h1
    obtain ⟨b, hb0, _⟩ := DataW.trod_bool Try.underlying4 t0
    obtain rfl : x0 = .bool b := by simpa using hb0
    rcases open_ints Try.underlying22 Try.underlying32 (by kernel_rfl) t1 with ⟨hcs, _⟩ | ⟨x, l, c, zs, hcs, _, hl, hm, hz, hx, hcell, hwz⟩
    · obtain rfl : x1 = .slice none 0 0 := by simpa using hcs
      exact ⟨b, none, 0, 0, [], hv, ⟨none, 0, rfl, Nat.le_refl _, by simp [maxLen], Lm.limb_nil, .inl rfl⟩, by omega⟩
    · obtain rfl : x1 = .slice (some x) l c := by simpa using hcs
      have hz' : zs.length = c := by simpa using hz
      have hx1 : y1.1 = .slice (lits .u32 (zs.take l)) (lits .u32 (zs.drop l)) := congrArg Prod.fst hx
      refine ⟨b, some x, l, c, _, hv, sl_of hl hm hz' hcell hwz, ?_⟩
      have hs := List.all_eq_true.1 hsz _ (DataW.weights_mem_each (j := 1) (t := 24) rfl (congrArg some hd) (((lits .u32 (zs.take l) : List (DataW H)).length + (lits .u32 (zs.drop l) : List (DataW H)).length) * Try.prog.bytesOf 32) (by rw [hx1]; simp [DataW.weights, DataW.weightsEach, Try.underlying24, Try.underlying22]))
      rw [bytes4] at hs
      simp only [lits, List.length_map, List.length_take, List.length_drop, reachBytes, decide_eq_true_eq] at hs
      omega
  subst hv1
  have k2 := h2
  have lt2 : ∀ x ∈ p2, x.block < W.heap.size := by obtain ⟨m, hm⟩ := k2; exact DataW.trod_lt m _ _ _ hm
  obtain ⟨g2, a2, len2, cap2, z2, hv2, w2, b2⟩ : ∃ ng ao n cap zs, v2 = .agg #[.bool ng, .slice ao n cap] ∧ Lm.Sl W (.slice ao n cap) zs ∧ n ≤ 35184372088832 := by
    obtain ⟨x0, x1, y0, y1, m, hv, hd, _, t0, t1⟩ := Go.Joins.open_agg2 Try.underlying24 (by kernel_rfl) (by kernel_rfl) (hval 2 24 v2 rfl rfl) h2
    obtain ⟨b, hb0, _⟩ := DataW.trod_bool Try.underlying4 t0
    obtain rfl : x0 = .bool b := by simpa using hb0
    rcases open_ints Try.underlying22 Try.underlying32 (by kernel_rfl) t1 with ⟨hcs, _⟩ | ⟨x, l, c, zs, hcs, _, hl, hm, hz, hx, hcell, hwz⟩
    · obtain rfl : x1 = .slice none 0 0 := by simpa using hcs
      exact ⟨b, none, 0, 0, [], hv, ⟨none, 0, rfl, Nat.le_refl _, by simp [maxLen], Lm.limb_nil, .inl rfl⟩, by omega⟩
    · obtain rfl : x1 = .slice (some x) l c := by simpa using hcs
      have hz' : zs.length = c := by simpa using hz
      have hx1 : y1.1 = .slice (lits .u32 (zs.take l)) (lits .u32 (zs.drop l)) := congrArg Prod.fst hx
      refine ⟨b, some x, l, c, _, hv, sl_of hl hm hz' hcell hwz, ?_⟩
      have hs := List.all_eq_true.1 hsz _ (DataW.weights_mem_each (j := 2) (t := 24) rfl (congrArg some hd) (((lits .u32 (zs.take l) : List (DataW H)).length + (lits .u32 (zs.drop l) : List (DataW H)).length) * Try.prog.bytesOf 32) (by rw [hx1]; simp [DataW.weights, DataW.weightsEach, Try.underlying24, Try.underlying22]))
      rw [bytes4] at hs
      simp only [lits, List.length_map, List.length_take, List.length_drop, reachBytes, decide_eq_true_eq] at hs
      omega
  subst hv2
  clear hA0 hval0
  refine (Lm.rlowest_law W g0 a0 len0 cap0 z0 _ g1 a1 len1 cap1 z1 _ g2 a2 len2 cap2 z2 _ ⟨w0, rfl⟩ ⟨w1, rfl⟩ ⟨w2, rfl⟩ b0 b1 b2).mono fun e W' ⟨he, bel⟩ => ?_
  subst he
  exact ⟨_, rfl, _, _, _, [], _, [], hW', trodAll_mk1 (shut_bool Try.underlying4 _), (trodAll_cons_mk (Below.trod laidOut (by kernel_rfl) (of_decide_eq_true (by kernel_rfl)) k0 bel lt0) (trodAll_cons_mk (Below.trod laidOut (by kernel_rfl) (of_decide_eq_true (by kernel_rfl)) k1 bel lt1) (trodAll_cons_mk (Below.trod laidOut (by kernel_rfl) (of_decide_eq_true (by kernel_rfl)) k2 bel lt2) trodAll_mk0))), rfl, bel.frame _, fun h => by cases h⟩

theorem over : Rows.ratioLowestRow.holds Try.pinned (OpenSpec.ofChange Rows.ratioLowestSpec) :=
  OpenClaim.holds_of_wide 3 Try.f3 rfl rfl rfl rfl rfl rfl rfl ⟨rfl, rfl, rfl, rfl, rfl⟩ rfl rfl rfl rfl rfl (by kernel_rfl) Try.func3 (by kernel_rfl)
    (of_decide_eq_true (by kernel_rfl)) (by unfold Func.isWrapper; first | (rw [if_pos (by decide +kernel)]; kernel_rfl) | (rw [if_neg (by decide +kernel)]; exact ⟨rfl, rfl⟩))
    (fun os started H enc _ => lifted os started H enc)
end ratioLowestLaw

theorem ratioLowest_holds : Rows.RatioLowestSaid := ratioLowestLaw.over
#print axioms ratioLowest_holds
end Go.Proofs.Ytkdcgnooeojjgac
