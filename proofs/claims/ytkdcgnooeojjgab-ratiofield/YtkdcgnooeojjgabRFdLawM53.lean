/-
  What the laws on fractions lean on. Lowest terms, as numbers: fractions that are one number have one numerator and one denominator. No program is named here. The laws of fractions in lowest terms, as numbers. No program is named here. RatioField answers true, whatever three fractions it is handed. The given statement on RatioField, for every input: the call answers true, and each argument reads behind it as it read before. No condition beyond the statement's own.
-/
import Derived.Test.YtkdcgnooeojjgabRF
import Derived.Test.YtkdcgnooeojjgabWT
import Derived.Test.YtkdcgnooeojjgabRFdLawM51
import Derived.Test.YtkdcgnooeojjgabRows
import Derived.ProofKit
import Derived.OpenShut
import Derived.ShutString
import Derived.ChangeOld
import Derived.SizedLaws
import Derived.Lib.SmallJoins
namespace Go.Proofs.Ytkdcgnooeojjgab
namespace Lm
open Go Go.RowKit

section
variable {dst : Option Tmp} {ty : TypeId} {pos : String} {after : Array Edge} {guard : Option (Nat × Bool)} {a : Act} {w : World} {ats : Array TypeId} {i j : Nat} {x y : Int} {L L1 L2 : Nat}
theorem has_lenw : Has Try.prog 27 := by unfold Has; kernel_rfl
theorem op_lenw {ng : Bool} {ao : Option Addr} {n c : Nat} (h : a.eval (.tmp i) = .agg #[.bool ng, .slice ao n c]) (hn : n ≤ 35184372088832) :
    Does Try.prog { dst, op := .call { callee := .value (.func 27), args := #[.tmp i], argTypes := ats }, type := ty, pos, after, guard } a.eval w fun v w' => Below w.heap.size w w' ∧ Eqs (.int .i64 (1 + (n : Int))) v w' := by
  refine does_call has_lenw _ (by simp only [List.map_toArray, List.map_cons, List.map_nil, h]) ((wlen_any w ng ao n c hn).mono ?_)
  rintro e w' ⟨rfl, hb⟩
  exact ⟨_, rfl, hb, rfl⟩
theorem op_samef (hx : OutW x L1 (a.eval (.tmp i)) w) (hy : OutW y L2 (a.eval (.tmp j)) w) (h : x ≠ y) :
    Does Try.prog { dst, op := .call { callee := .value (.func 21), args := #[.tmp i, .tmp j], argTypes := ats }, type := ty, pos, after, guard } a.eval w fun v w' => Below w.heap.size w w' ∧ Eqs (.bool false) v w' := by
  obtain ⟨n1, a1, c1, xs, e1, A1, l1⟩ := hx
  obtain ⟨n2, a2, c2, ys, e2, A2, l2⟩ := hy
  refine does_call has_same _ (by simp only [List.map_toArray, List.map_cons, List.map_nil, e1, e2]) ((same_z _ _ _ _ _ _ _ _ _ _ _ A1 A2 false (decide_eq_false h)).mono ?_)
  rintro e w' ⟨rfl, hb⟩
  exact ⟨_, rfl, hb, rfl⟩
theorem has_samel : Has Try.prog 52 := by unfold Has; kernel_rfl
theorem op_samel (hx : OutL x L1 (a.eval (.tmp i)) w) (hy : OutL y L2 (a.eval (.tmp j)) w) :
    Does Try.prog { dst, op := .call { callee := .value (.func 52), args := #[.tmp i, .tmp j], argTypes := ats }, type := ty, pos, after, guard } a.eval w fun v w' => Below w.heap.size w w' ∧ Eqs (.bool (decide (x = y))) v w' := by
  obtain ⟨a1, c1, xs, e1, G1, l1⟩ := hx
  obtain ⟨a2, c2, ys, e2, G2, l2⟩ := hy
  refine does_call has_samel _ (by simp only [List.map_toArray, List.map_cons, List.map_nil, e1, e2]) ((same_any w _ _ _ _ _ _ xs ys G1.sl G2.sl).mono ?_)
  rintro e w' ⟨rfl, hb⟩
  refine ⟨_, rfl, hb, ?_⟩
  have v1 := G1.val
  have v2 := G2.val
  show Value.bool (sameB xs ys) = Value.bool (decide (x = y))
  by_cases h : x = y
  · rw [sameB_of (canon_one G1.canon G2.canon (by rw [v1, v2, h])), decide_eq_true h]
  · have : xs ≠ ys := fun e => h (by rw [← v1, ← v2, e])
    simp [sameB, h, this]
theorem dec3 : IsDec [51] 3 := by
  refine ⟨?_, by decide, .inr ⟨51, _, rfl, by decide⟩⟩
  intro c hc
  simp at hc
  omega
theorem dec2 : IsDec [50] 2 := by
  refine ⟨?_, by decide, .inr ⟨50, _, rfl, by decide⟩⟩
  intro c hc
  simp at hc
  omega
theorem has_wtext : Has Try.prog 66 := by unfold Has; kernel_rfl
theorem op_text3 (hx : OutW x L (a.eval (.tmp i)) w) (h : x = -3) (hl : L ≤ 100000) :
    Does Try.prog { dst, op := .call { callee := .value (.func 66), args := #[.tmp i], argTypes := ats }, type := ty, pos, after, guard } a.eval w fun v w' => Below w.heap.size w w' ∧ Eqs (.string ⟨#[45, 51]⟩) v w' := by
  subst h
  obtain ⟨n1, a1, c1, xs, e1, A1, l1⟩ := hx
  refine does_call has_wtext _ (by simp only [List.map_toArray, List.map_cons, List.map_nil, e1]) ((wtext_neg w n1 a1 _ c1 xs A1.sl (by omega) (by rw [A1.worth]; decide)).mono ?_)
  rintro e w' ⟨ds, rfl, hd, hb⟩
  have e2 := isDec_one hd (show IsDec [51] (val xs) by rw [A1.1.val]; exact dec3)
  subst e2
  exact ⟨_, rfl, hb, rfl⟩
theorem has_ltext : Has Try.prog 68 := by unfold Has; kernel_rfl
theorem op_text2 (hx : IsL x L (a.eval (.tmp i)) w) (h : x = 2) (hl : L ≤ 100000) :
    Does Try.prog { dst, op := .call { callee := .value (.func 68), args := #[.tmp i], argTypes := ats }, type := ty, pos, after, guard } a.eval w fun v w' => Below w.heap.size w w' ∧ Eqs (.string ⟨#[50]⟩) v w' := by
  subst h
  obtain ⟨a1, n1, c1, xs, e1, S1, V1, l1⟩ := hx
  refine does_call has_ltext _ (by simp only [List.map_toArray, List.map_cons, List.map_nil, e1]) ((text_any w a1 n1 c1 xs S1 (by omega)).mono ?_)
  rintro e w' ⟨ds, rfl, hd, hb⟩
  have e2 := isDec_one hd (show IsDec [50] (val xs) by rw [V1]; exact dec2)
  subst e2
  exact ⟨_, rfl, hb, rfl⟩
theorem op_cat {x y : Operand} {s t r : ByteArray} (h1 : a.eval x = .string s) (h2 : a.eval y = .string t) (hs : s.size + t.size ≤ 9223372036854775807) (h : s ++ t = r) :
    Does Try.prog { dst, op := .binOp .add 9 x y 9, type := ty, pos, after, guard } a.eval w fun v w' => Below w.heap.size w w' ∧ Eqs (.string r) v w' := by
  subst h
  refine does_bin (v := .string (s ++ t)) ?_ ?_ ⟨Below.refl _ _, rfl⟩
  · rw [h1, h2]; simp [go_sem]
  · rw [h1, h2]; simp [go_sem]; exact hs
theorem op_eqls {s t : ByteArray} (h1 : a.eval (.tmp i) = .string s) (h : s = t) :
    Does Try.prog { dst, op := .binOp .eql 9 (.tmp i) (.const (.string t)) 9, type := ty, pos, after, guard } a.eval w fun v w' => Below w.heap.size w w' ∧ Eqs (.bool true) v w' := by
  subst h
  refine does_bin (v := .bool true) ?_ ?_ ⟨Below.refl _ _, rfl⟩
  · rw [h1]; simp [go_sem, Act.eval]
  · rw [h1]; simp [go_sem, Act.eval]
theorem op_bits1 (h : BitsOf x (a.eval (.tmp i)) w) (hx : 0 < x) :
    Does Try.prog { dst, op := .binOp .eql 3 (.tmp i) (.const (.int .i64 1)) 3, type := ty, pos, after, guard } a.eval w fun v w' => Below w.heap.size w w' ∧ Eqs (.bool (decide (x = 1))) v w' := by
  obtain ⟨k, e, hb⟩ := h
  refine (op_eqlk e).mono (fun v w' ⟨h1, h2⟩ => ⟨h1, ?_⟩)
  show v = _
  rw [show v = _ from h2]
  congr 1
  exact decide_eq_decide.2 (bits_is_one hb hx)
theorem op_eqle {u : Int} (h1 : a.eval (.tmp i) = .int .i64 u) :
    Does Try.prog { dst, op := .binOp .eql 47 (.tmp i) (.const (.int .i64 u)) 47, type := ty, pos, after, guard } a.eval w fun v w' => Below w.heap.size w w' ∧ Eqs (.bool true) v w' := by
  refine does_bin (v := .bool true) ?_ ?_ ⟨Below.refl _ _, rfl⟩
  · rw [h1]; simp [go_sem, Act.eval]
  · rw [h1]; simp [go_sem, Act.eval]
theorem has_lsmall : Has Try.prog 38 := by unfold Has; kernel_rfl
theorem op_lsmall {v : Int} (h1 : -9223372036854775808 ≤ v) (h2 : v ≤ 9223372036854775807) :
    Does Try.prog { dst, op := .call { callee := .value (.func 38), args := #[.const (.int .i64 v)], argTypes := ats }, type := ty, pos, after, guard } a.eval w fun v' w' => Below w.heap.size w w' ∧ OutW v 2 v' w' := by
  refine does_call has_lsmall _ (by simp only [List.map_toArray, List.map_cons, List.map_nil, Act.eval]) ((lsmall_g _ v h1 h2).mono ?_)
  rintro e w' ⟨ng, ao, cap, rs, rfl, G, l, hb⟩
  exact ⟨_, rfl, hb, _, _, _, _, rfl, G, by omega⟩
end

set_option maxRecDepth 20000 in
set_option maxHeartbeats 1000000 in
theorem rlen_z (w : World) (nr : Bool) (ar : Option Addr) (mr cr : Nat) (br : Option Addr) (kr dr : Nat) (hm : mr ≤ 35184372088832) (hk : kr ≤ 35184372088832) :
    Calls Try.prog 7 #[.agg #[.bool nr, .slice ar mr cr, .slice br kr dr]] w fun e w' => ∃ v, e = .returned v ∧ (Eqs (.int .i64 (1 + (mr : Int) + (kr : Int)))) v w' ∧ Below w.heap.size w w' := by
  go_enter Try.func7, Try.ntmps7
  generalize hA : (Act.mk _ _) = aa
  have hn : aa.tmps.size = 10 := by rw [← hA]; rfl
  have hd : aa.defers = [] := by rw [← hA]
  have f0 : aa.eval (.tmp 0) = .agg #[.bool nr, .slice ar mr cr, .slice br kr dr] := by rw [← hA]; rfl
  clear hA
  have HB : Below w.heap.size w w := Below.refl _ _
  refine wp_seq ?_
  refine region4 [some 1, some 2] [(fun _ _ => True), Eqs ((.int .i64 0))] [⟨R3, some 0, 0, 1, .agg #[.bool nr, .slice ar mr cr, .slice br kr dr], none, []⟩] [] (by kernel_rfl) hn rfl (by kernel_rfl) (by kernel_rfl) (by kernel_rfl) (by kernel_rfl) (by kernel_rfl) (by kernel_rfl) ⟨True.mono4, Eqs.mono4 _, trivial⟩ (ok_cons R3ok ok_nil) (IsOld.all (bx := [⟨R3, some 0, 0, 1, .agg #[.bool nr, .slice ar mr cr, .slice br kr dr], none, []⟩]) ⟨someNe, trivial⟩) (DisOld.all (bx := [⟨R3, some 0, 0, 1, .agg #[.bool nr, .slice ar mr cr, .slice br kr dr], none, []⟩]) ⟨someNe, trivial⟩) ?_ ?_
  · exact ⟨.alloc 0 _ rfl rfl (.inr ⟨_, rfl, r3_cs, fun a_ hR => (hR 0 rfl).trans f0⟩) rfl rfl rfl rfl rfl,
      .norm 2 rfl rfl rfl (fun a_ w_ hn_ hBt hr hR hD hO hS => op_assign rfl),
      trivial⟩
  · intro a1 w1 gs1 hn1 hd1 hBt hr hR hP hX hU
    replace hn := hn1; replace hd := hd1.trans hd
    have b1 : BoxV R3 w1 (gs1 0) (.agg #[.bool nr, .slice ar mr cr, .slice br kr dr]) := (hX 0 _ rfl).2.2.2
    have f1 := (hX 0 _ rfl).1
    have u1 : w.heap.size ≤ gs1 0 := Nat.le_trans HB.size ((hX 0 _ rfl).2.2.1 (by simp))
    have e2 : a1.eval (.tmp 2) = (.int .i64 0) := hP 1 (by decide)
    have f2 := e2
    replace HB := HB.trans (hBt.below HB.size (UpOld.all (bx := [⟨R3, some 0, 0, 1, .agg #[.bool nr, .slice ar mr cr, .slice br kr dr], none, []⟩]) ⟨someNe, trivial⟩))
    clear hBt hr hR hP hX hU
    refine wp_seq ?_
    refine region4 [some 3, some 4, some 5, some 6, some 7, some 8, some 9, some 2] [Eqs (.pointer (some ⟨gs1 0, 0, none⟩)), Eqs (.agg #[.bool nr, .slice ar mr cr]), Eqs (.int .i64 (1 + (mr : Int))), Eqs (.pointer (some ⟨gs1 0, 2, none⟩)), Eqs (.slice br kr dr), Eqs (.int .i64 (kr : Int)), Eqs (.int .i64 ((1 + (mr : Int)) + (kr : Int))), Eqs (.int .i64 ((1 + (mr : Int)) + (kr : Int)))] [] [] (by kernel_rfl) hn rfl (by kernel_rfl) (by kernel_rfl) (by kernel_rfl) (by kernel_rfl) (by kernel_rfl) (by kernel_rfl) ⟨Eqs.mono4 _, Eqs.mono4 _, Eqs.mono4 _, Eqs.mono4 _, Eqs.mono4 _, Eqs.mono4 _, Eqs.mono4 _, Eqs.mono4 _, trivial⟩ ok_nil (IsOld.all (bx := []) trivial) (DisOld.all (bx := []) trivial) ?_ ?_
    · exact ⟨.norm 3 rfl rfl rfl (fun a_ w_ hn_ hBt hr hR hD hO hS => op_faR fa_num ((hR 1 rfl).trans f1)),
        .norm 4 rfl rfl rfl (fun a_ w_ hn_ hBt hr hR hD hO hS => op_ldnum (show a_.eval (.tmp 3) = .pointer (some ⟨gs1 0, 0, none⟩) from hD 0 rfl) (b1.keep hBt trivial)),
        .norm 5 rfl rfl rfl (fun a_ w_ hn_ hBt hr hR hD hO hS => op_lenw (show a_.eval (.tmp 4) = .agg #[.bool nr, .slice ar mr cr] from hD 1 rfl) (by omega)),
        .norm 6 rfl rfl rfl (fun a_ w_ hn_ hBt hr hR hD hO hS => op_faR fa_den ((hR 1 rfl).trans f1)),
        .norm 7 rfl rfl rfl (fun a_ w_ hn_ hBt hr hR hD hO hS => op_ldden (show a_.eval (.tmp 6) = .pointer (some ⟨gs1 0, 2, none⟩) from hD 3 rfl) (b1.keep hBt trivial)),
        .norm 8 rfl rfl rfl (fun a_ w_ hn_ hBt hr hR hD hO hS => op_len (show a_.eval (.tmp 7) = .slice br kr dr from hD 4 rfl)),
        .norm 9 rfl rfl rfl (fun a_ w_ hn_ hBt hr hR hD hO hS => op_plus (show a_.eval (.tmp 5) = .int .i64 (1 + (mr : Int)) from hD 2 rfl) (show a_.eval (.tmp 8) = .int .i64 (kr : Int) from hD 5 rfl) (by omega)),
        .norm 2 rfl rfl rfl (fun a_ w_ hn_ hBt hr hR hD hO hS => op_assign (show a_.eval (.tmp 9) = .int .i64 ((1 + (mr : Int)) + (kr : Int)) from hD 6 rfl)),
        trivial⟩
    · intro a2 w2 gs2 hn2 hd2 hBt hr hR hP hX hU
      replace hn := hn2; replace hd := hd2.trans hd
      have e2 : a2.eval (.tmp 2) = .int .i64 ((1 + (mr : Int)) + (kr : Int)) := hP 7 (by decide)
      have f2 := e2
      replace HB := HB.trans (hBt.below HB.size (UpOld.all (bx := []) trivial))
      clear hBt hr hR hP hX hU
      refine wp_ret ?_
      repeat (first | refine then_ret ?_ | refine scope_ret ?_ | refine block_ret ?_)
      exact bodyPost_ret (v := .int .i64 ((1 + (mr : Int)) + (kr : Int))) (res_t rfl f2) hd ⟨_, rfl, rfl, HB⟩

theorem has_rlen : Has Try.prog 7 := by unfold Has; kernel_rfl
theorem op_rlen {dst : Option Tmp} {ty : TypeId} {pos : String} {after : Array Edge} {guard : Option (Nat × Bool)} {a : Act} {w : World} {ats : Array TypeId} {i : Nat} {nr : Bool} {ar br : Option Addr} {mr cr kr dr : Nat} (h : a.eval (.tmp i) = .agg #[.bool nr, .slice ar mr cr, .slice br kr dr]) (hm : mr ≤ 35184372088832) (hk : kr ≤ 35184372088832) :
    Does Try.prog { dst, op := .call { callee := .value (.func 7), args := #[.tmp i], argTypes := ats }, type := ty, pos, after, guard } a.eval w fun v w' => Below w.heap.size w w' ∧ Eqs (.int .i64 (1 + (mr : Int) + (kr : Int))) v w' := by
  refine does_call has_rlen _ (by simp only [List.map_toArray, List.map_cons, List.map_nil, h]) ((rlen_z w nr ar mr cr br kr dr hm hk).mono ?_)
  rintro e w' ⟨v, rfl, h1, hb⟩
  exact ⟨_, rfl, hb, h1⟩

set_option maxRecDepth 20000 in
set_option maxHeartbeats 1000000 in
theorem samer_z (w : World) (nr : Bool) (ar : Option Addr) (cr : Nat) (rs : List Int) (pr : Int) (Gr : Wh w nr ar cr rs pr) (br : Option Addr) (dr : Nat) (rt : List Int) (qr : Int) (Kr : Got w br dr rt qr) (nu : Bool) (au : Option Addr) (cu : Nat) (us : List Int) (pu : Int) (Gu : Wh w nu au cu us pu) (bu : Option Addr) (du : Nat) (ut : List Int) (qu : Int) (Ku : Got w bu du ut qu) (hp : pr = pu) :
    Calls Try.prog 19 #[.agg #[.bool nr, .slice ar rs.length cr, .slice br rt.length dr], .agg #[.bool nu, .slice au us.length cu, .slice bu ut.length du]] w fun e w' => ∃ v, e = .returned v ∧ (Eqs (.bool (decide (qr = qu)))) v w' ∧ Below w.heap.size w w' := by
  go_enter Try.func19, Try.ntmps19
  generalize hA : (Act.mk _ _) = aa
  have hn : aa.tmps.size = 17 := by rw [← hA]; rfl
  have hd : aa.defers = [] := by rw [← hA]
  have f0 : aa.eval (.tmp 0) = .agg #[.bool nr, .slice ar rs.length cr, .slice br rt.length dr] := by rw [← hA]; rfl
  have f1 : aa.eval (.tmp 1) = .agg #[.bool nu, .slice au us.length cu, .slice bu ut.length du] := by rw [← hA]; rfl
  clear hA
  have HB : Below w.heap.size w w := Below.refl _ _
  refine wp_seq ?_
  refine region4 [some 2, some 3, some 4] [(fun _ _ => True), (fun _ _ => True), Eqs ((.bool false))] [⟨R3, some 0, 0, 2, .agg #[.bool nr, .slice ar rs.length cr, .slice br rt.length dr], none, []⟩, ⟨R3, some 1, 0, 3, .agg #[.bool nu, .slice au us.length cu, .slice bu ut.length du], none, []⟩] [] (by kernel_rfl) hn rfl (by kernel_rfl) (by kernel_rfl) (by kernel_rfl) (by kernel_rfl) (by kernel_rfl) (by kernel_rfl) ⟨True.mono4, True.mono4, Eqs.mono4 _, trivial⟩ (ok_cons R3ok (ok_cons R3ok ok_nil)) (IsOld.all (bx := [⟨R3, some 0, 0, 2, .agg #[.bool nr, .slice ar rs.length cr, .slice br rt.length dr], none, []⟩, ⟨R3, some 1, 0, 3, .agg #[.bool nu, .slice au us.length cu, .slice bu ut.length du], none, []⟩]) ⟨someNe, someNe, trivial⟩) (DisOld.all (bx := [⟨R3, some 0, 0, 2, .agg #[.bool nr, .slice ar rs.length cr, .slice br rt.length dr], none, []⟩, ⟨R3, some 1, 0, 3, .agg #[.bool nu, .slice au us.length cu, .slice bu ut.length du], none, []⟩]) ⟨someNe, someNe, trivial⟩) ?_ ?_
  · exact ⟨.alloc 0 _ rfl rfl (.inr ⟨_, rfl, r3_cs, fun a_ hR => (hR 0 rfl).trans f0⟩) rfl rfl rfl rfl rfl,
      .alloc 1 _ rfl rfl (.inr ⟨_, rfl, r3_cs, fun a_ hR => (hR 1 rfl).trans f1⟩) rfl rfl rfl rfl rfl,
      .norm 4 rfl rfl rfl (fun a_ w_ hn_ hBt hr hR hD hO hS => op_assign rfl),
      trivial⟩
  · intro a1 w1 gs1 hn1 hd1 hBt hr hR hP hX hU
    replace hn := hn1; replace hd := hd1.trans hd
    have b2 : BoxV R3 w1 (gs1 0) (.agg #[.bool nr, .slice ar rs.length cr, .slice br rt.length dr]) := (hX 0 _ rfl).2.2.2
    have f2 := (hX 0 _ rfl).1
    have u2 : w.heap.size ≤ gs1 0 := Nat.le_trans HB.size ((hX 0 _ rfl).2.2.1 (by simp))
    have b3 : BoxV R3 w1 (gs1 1) (.agg #[.bool nu, .slice au us.length cu, .slice bu ut.length du]) := (hX 1 _ rfl).2.2.2
    have f3 := (hX 1 _ rfl).1
    have u3 : w.heap.size ≤ gs1 1 := Nat.le_trans HB.size ((hX 1 _ rfl).2.2.1 (by simp))
    have e4 : a1.eval (.tmp 4) = (.bool false) := hP 2 (by decide)
    have f4 := e4
    replace Gr := Gr.rl hr
    replace Kr := Kr.rl hr
    replace Gu := Gu.rl hr
    replace Ku := Ku.rl hr
    replace HB := HB.trans (hBt.below HB.size (UpOld.all (bx := [⟨R3, some 0, 0, 2, .agg #[.bool nr, .slice ar rs.length cr, .slice br rt.length dr], none, []⟩, ⟨R3, some 1, 0, 3, .agg #[.bool nu, .slice au us.length cu, .slice bu ut.length du], none, []⟩]) ⟨someNe, someNe, trivial⟩))
    clear hBt hr hR hP hX hU
    refine wp_seq ?_
    refine region4 [some 5, some 6, some 7, some 8, some 9, some 10, some 11, some 12, some 13, some 14, some 15, some 16, some 4] [Eqs (.pointer (some ⟨gs1 0, 0, none⟩)), Eqs (.agg #[.bool nr, .slice ar rs.length cr]), Eqs (.pointer (some ⟨gs1 1, 0, none⟩)), Eqs (.agg #[.bool nu, .slice au us.length cu]), Eqs (.bool true), Eqs (.bool true), Eqs (.pointer (some ⟨gs1 0, 2, none⟩)), Eqs (.slice br rt.length dr), Eqs (.pointer (some ⟨gs1 1, 2, none⟩)), Eqs (.slice bu ut.length du), Eqs (.bool (decide (qr = qu))), Eqs (.bool (decide (qr = qu))), Eqs (.bool (decide (qr = qu)))] [] [] (by kernel_rfl) hn rfl (by kernel_rfl) (by kernel_rfl) (by kernel_rfl) (by kernel_rfl) (by kernel_rfl) (by kernel_rfl) ⟨Eqs.mono4 _, Eqs.mono4 _, Eqs.mono4 _, Eqs.mono4 _, Eqs.mono4 _, Eqs.mono4 _, Eqs.mono4 _, Eqs.mono4 _, Eqs.mono4 _, Eqs.mono4 _, Eqs.mono4 _, Eqs.mono4 _, Eqs.mono4 _, trivial⟩ ok_nil (IsOld.all (bx := []) trivial) (DisOld.all (bx := []) trivial) ?_ ?_
    · exact ⟨.norm 5 rfl rfl rfl (fun a_ w_ hn_ hBt hr hR hD hO hS => op_faR fa_num ((hR 2 rfl).trans f2)),
        .norm 6 rfl rfl rfl (fun a_ w_ hn_ hBt hr hR hD hO hS => op_ldnum (show a_.eval (.tmp 5) = .pointer (some ⟨gs1 0, 0, none⟩) from hD 0 rfl) (b2.keep hBt trivial)),
        .norm 7 rfl rfl rfl (fun a_ w_ hn_ hBt hr hR hD hO hS => op_faR fa_num ((hR 3 rfl).trans f3)),
        .norm 8 rfl rfl rfl (fun a_ w_ hn_ hBt hr hR hD hO hS => op_ldnum (show a_.eval (.tmp 7) = .pointer (some ⟨gs1 1, 0, none⟩) from hD 2 rfl) (b3.keep hBt trivial)),
        .norm 9 rfl rfl rfl (fun a_ w_ hn_ hBt hr hR hD hO hS => op_same (outw_eq (show a_.eval (.tmp 6) = .agg #[.bool nr, .slice ar rs.length cr] from hD 1 rfl) (Gr.rl hr) (Nat.le_refl _)) (outw_eq (show a_.eval (.tmp 8) = .agg #[.bool nu, .slice au us.length cu] from hD 3 rfl) (Gu.rl hr) (Nat.le_refl _)) hp),
        .norm 10 rfl rfl rfl (fun a_ w_ hn_ hBt hr hR hD hO hS => op_mv (show a_.eval (.tmp 9) = .bool true from hD 4 rfl)),
        .norm 11 rfl rfl rfl (fun a_ w_ hn_ hBt hr hR hD hO hS => ⟨⟨_, rfl⟩, fun _ => op_faR fa_den ((hR 2 rfl).trans f2), fun hne => absurd (hD 5 rfl) hne⟩),
        .norm 12 rfl rfl rfl (fun a_ w_ hn_ hBt hr hR hD hO hS => ⟨⟨_, rfl⟩, fun _ => op_ldden (show a_.eval (.tmp 11) = .pointer (some ⟨gs1 0, 2, none⟩) from hD 6 rfl) (b2.keep hBt trivial), fun hne => absurd (hD 5 rfl) hne⟩),
        .norm 13 rfl rfl rfl (fun a_ w_ hn_ hBt hr hR hD hO hS => ⟨⟨_, rfl⟩, fun _ => op_faR fa_den ((hR 3 rfl).trans f3), fun hne => absurd (hD 5 rfl) hne⟩),
        .norm 14 rfl rfl rfl (fun a_ w_ hn_ hBt hr hR hD hO hS => ⟨⟨_, rfl⟩, fun _ => op_ldden (show a_.eval (.tmp 13) = .pointer (some ⟨gs1 1, 2, none⟩) from hD 8 rfl) (b3.keep hBt trivial), fun hne => absurd (hD 5 rfl) hne⟩),
        .norm 15 rfl rfl rfl (fun a_ w_ hn_ hBt hr hR hD hO hS => ⟨⟨_, rfl⟩, fun _ => op_samel (outl_eq (show a_.eval (.tmp 12) = .slice br rt.length dr from hD 7 rfl) (Kr.rl hr) (Nat.le_refl _)) (outl_eq (show a_.eval (.tmp 14) = .slice bu ut.length du from hD 9 rfl) (Ku.rl hr) (Nat.le_refl _)), fun hne => absurd (hD 5 rfl) hne⟩),
        .norm 16 rfl rfl rfl (fun a_ w_ hn_ hBt hr hR hD hO hS => op_pickb (show a_.eval (.tmp 10) = .bool true from hD 5 rfl) (show a_.eval (.tmp 15) = .bool (decide (qr = qu)) from hD 10 rfl)),
        .norm 4 rfl rfl rfl (fun a_ w_ hn_ hBt hr hR hD hO hS => op_assign (show a_.eval (.tmp 16) = .bool (decide (qr = qu)) from hD 11 rfl)),
        trivial⟩
    · intro a2 w2 gs2 hn2 hd2 hBt hr hR hP hX hU
      replace hn := hn2; replace hd := hd2.trans hd
      have e4 : a2.eval (.tmp 4) = .bool (decide (qr = qu)) := hP 12 (by decide)
      have f4 := e4
      replace Gr := Gr.rl hr
      replace Kr := Kr.rl hr
      replace Gu := Gu.rl hr
      replace Ku := Ku.rl hr
      replace HB := HB.trans (hBt.below HB.size (UpOld.all (bx := []) trivial))
      clear hBt hr hR hP hX hU
      refine wp_ret ?_
      repeat (first | refine then_ret ?_ | refine scope_ret ?_ | refine block_ret ?_)
      exact bodyPost_ret (v := .bool (decide (qr = qu))) (res_t rfl f4) hd ⟨_, rfl, rfl, HB⟩

set_option maxRecDepth 20000 in
set_option maxHeartbeats 1000000 in
theorem samerf_z (w : World) (nr : Bool) (ar : Option Addr) (cr : Nat) (rs : List Int) (pr : Int) (Gr : Wh w nr ar cr rs pr) (br : Option Addr) (dr : Nat) (rt : List Int) (qr : Int) (Kr : Got w br dr rt qr) (nu : Bool) (au : Option Addr) (cu : Nat) (us : List Int) (pu : Int) (Gu : Wh w nu au cu us pu) (bu : Option Addr) (du : Nat) (ut : List Int) (qu : Int) (Ku : Got w bu du ut qu) (hp : pr ≠ pu) :
    Calls Try.prog 19 #[.agg #[.bool nr, .slice ar rs.length cr, .slice br rt.length dr], .agg #[.bool nu, .slice au us.length cu, .slice bu ut.length du]] w fun e w' => ∃ v, e = .returned v ∧ (Eqs (.bool false)) v w' ∧ Below w.heap.size w w' := by
  go_enter Try.func19, Try.ntmps19
  generalize hA : (Act.mk _ _) = aa
  have hn : aa.tmps.size = 17 := by rw [← hA]; rfl
  have hd : aa.defers = [] := by rw [← hA]
  have f0 : aa.eval (.tmp 0) = .agg #[.bool nr, .slice ar rs.length cr, .slice br rt.length dr] := by rw [← hA]; rfl
  have f1 : aa.eval (.tmp 1) = .agg #[.bool nu, .slice au us.length cu, .slice bu ut.length du] := by rw [← hA]; rfl
  clear hA
  have HB : Below w.heap.size w w := Below.refl _ _
  refine wp_seq ?_
  refine region4 [some 2, some 3, some 4] [(fun _ _ => True), (fun _ _ => True), Eqs ((.bool false))] [⟨R3, some 0, 0, 2, .agg #[.bool nr, .slice ar rs.length cr, .slice br rt.length dr], none, []⟩, ⟨R3, some 1, 0, 3, .agg #[.bool nu, .slice au us.length cu, .slice bu ut.length du], none, []⟩] [] (by kernel_rfl) hn rfl (by kernel_rfl) (by kernel_rfl) (by kernel_rfl) (by kernel_rfl) (by kernel_rfl) (by kernel_rfl) ⟨True.mono4, True.mono4, Eqs.mono4 _, trivial⟩ (ok_cons R3ok (ok_cons R3ok ok_nil)) (IsOld.all (bx := [⟨R3, some 0, 0, 2, .agg #[.bool nr, .slice ar rs.length cr, .slice br rt.length dr], none, []⟩, ⟨R3, some 1, 0, 3, .agg #[.bool nu, .slice au us.length cu, .slice bu ut.length du], none, []⟩]) ⟨someNe, someNe, trivial⟩) (DisOld.all (bx := [⟨R3, some 0, 0, 2, .agg #[.bool nr, .slice ar rs.length cr, .slice br rt.length dr], none, []⟩, ⟨R3, some 1, 0, 3, .agg #[.bool nu, .slice au us.length cu, .slice bu ut.length du], none, []⟩]) ⟨someNe, someNe, trivial⟩) ?_ ?_
  · exact ⟨.alloc 0 _ rfl rfl (.inr ⟨_, rfl, r3_cs, fun a_ hR => (hR 0 rfl).trans f0⟩) rfl rfl rfl rfl rfl,
      .alloc 1 _ rfl rfl (.inr ⟨_, rfl, r3_cs, fun a_ hR => (hR 1 rfl).trans f1⟩) rfl rfl rfl rfl rfl,
      .norm 4 rfl rfl rfl (fun a_ w_ hn_ hBt hr hR hD hO hS => op_assign rfl),
      trivial⟩
  · intro a1 w1 gs1 hn1 hd1 hBt hr hR hP hX hU
    replace hn := hn1; replace hd := hd1.trans hd
    have b2 : BoxV R3 w1 (gs1 0) (.agg #[.bool nr, .slice ar rs.length cr, .slice br rt.length dr]) := (hX 0 _ rfl).2.2.2
    have f2 := (hX 0 _ rfl).1
    have u2 : w.heap.size ≤ gs1 0 := Nat.le_trans HB.size ((hX 0 _ rfl).2.2.1 (by simp))
    have b3 : BoxV R3 w1 (gs1 1) (.agg #[.bool nu, .slice au us.length cu, .slice bu ut.length du]) := (hX 1 _ rfl).2.2.2
    have f3 := (hX 1 _ rfl).1
    have u3 : w.heap.size ≤ gs1 1 := Nat.le_trans HB.size ((hX 1 _ rfl).2.2.1 (by simp))
    have e4 : a1.eval (.tmp 4) = (.bool false) := hP 2 (by decide)
    have f4 := e4
    replace Gr := Gr.rl hr
    replace Kr := Kr.rl hr
    replace Gu := Gu.rl hr
    replace Ku := Ku.rl hr
    replace HB := HB.trans (hBt.below HB.size (UpOld.all (bx := [⟨R3, some 0, 0, 2, .agg #[.bool nr, .slice ar rs.length cr, .slice br rt.length dr], none, []⟩, ⟨R3, some 1, 0, 3, .agg #[.bool nu, .slice au us.length cu, .slice bu ut.length du], none, []⟩]) ⟨someNe, someNe, trivial⟩))
    clear hBt hr hR hP hX hU
    refine wp_seq ?_
    refine region4 [some 5, some 6, some 7, some 8, some 9, some 10, some 11, some 12, some 13, some 14, some 15, some 16, some 4] [Eqs (.pointer (some ⟨gs1 0, 0, none⟩)), Eqs (.agg #[.bool nr, .slice ar rs.length cr]), Eqs (.pointer (some ⟨gs1 1, 0, none⟩)), Eqs (.agg #[.bool nu, .slice au us.length cu]), Eqs (.bool false), Eqs (.bool false), (fun _ _ => True), (fun _ _ => True), (fun _ _ => True), (fun _ _ => True), (fun _ _ => True), Eqs (.bool false), Eqs (.bool false)] [] [] (by kernel_rfl) hn rfl (by kernel_rfl) (by kernel_rfl) (by kernel_rfl) (by kernel_rfl) (by kernel_rfl) (by kernel_rfl) ⟨Eqs.mono4 _, Eqs.mono4 _, Eqs.mono4 _, Eqs.mono4 _, Eqs.mono4 _, Eqs.mono4 _, True.mono4, True.mono4, True.mono4, True.mono4, True.mono4, Eqs.mono4 _, Eqs.mono4 _, trivial⟩ ok_nil (IsOld.all (bx := []) trivial) (DisOld.all (bx := []) trivial) ?_ ?_
    · exact ⟨.norm 5 rfl rfl rfl (fun a_ w_ hn_ hBt hr hR hD hO hS => op_faR fa_num ((hR 2 rfl).trans f2)),
        .norm 6 rfl rfl rfl (fun a_ w_ hn_ hBt hr hR hD hO hS => op_ldnum (show a_.eval (.tmp 5) = .pointer (some ⟨gs1 0, 0, none⟩) from hD 0 rfl) (b2.keep hBt trivial)),
        .norm 7 rfl rfl rfl (fun a_ w_ hn_ hBt hr hR hD hO hS => op_faR fa_num ((hR 3 rfl).trans f3)),
        .norm 8 rfl rfl rfl (fun a_ w_ hn_ hBt hr hR hD hO hS => op_ldnum (show a_.eval (.tmp 7) = .pointer (some ⟨gs1 1, 0, none⟩) from hD 2 rfl) (b3.keep hBt trivial)),
        .norm 9 rfl rfl rfl (fun a_ w_ hn_ hBt hr hR hD hO hS => op_samef (outw_eq (show a_.eval (.tmp 6) = .agg #[.bool nr, .slice ar rs.length cr] from hD 1 rfl) (Gr.rl hr) (Nat.le_refl _)) (outw_eq (show a_.eval (.tmp 8) = .agg #[.bool nu, .slice au us.length cu] from hD 3 rfl) (Gu.rl hr) (Nat.le_refl _)) hp),
        .norm 10 rfl rfl rfl (fun a_ w_ hn_ hBt hr hR hD hO hS => op_mv (show a_.eval (.tmp 9) = .bool false from hD 4 rfl)),
        .norm 11 rfl rfl rfl (fun a_ w_ hn_ hBt hr hR hD hO hS => ⟨⟨_, rfl⟩, fun h => absurd ((show _ = Value.bool false from hD 5 rfl).symm.trans h) (by simp), fun _ => trivial⟩),
        .norm 12 rfl rfl rfl (fun a_ w_ hn_ hBt hr hR hD hO hS => ⟨⟨_, rfl⟩, fun h => absurd ((show _ = Value.bool false from hD 5 rfl).symm.trans h) (by simp), fun _ => trivial⟩),
        .norm 13 rfl rfl rfl (fun a_ w_ hn_ hBt hr hR hD hO hS => ⟨⟨_, rfl⟩, fun h => absurd ((show _ = Value.bool false from hD 5 rfl).symm.trans h) (by simp), fun _ => trivial⟩),
        .norm 14 rfl rfl rfl (fun a_ w_ hn_ hBt hr hR hD hO hS => ⟨⟨_, rfl⟩, fun h => absurd ((show _ = Value.bool false from hD 5 rfl).symm.trans h) (by simp), fun _ => trivial⟩),
        .norm 15 rfl rfl rfl (fun a_ w_ hn_ hBt hr hR hD hO hS => ⟨⟨_, rfl⟩, fun h => absurd ((show _ = Value.bool false from hD 5 rfl).symm.trans h) (by simp), fun _ => trivial⟩),
        .norm 16 rfl rfl rfl (fun a_ w_ hn_ hBt hr hR hD hO hS => op_pickb (show a_.eval (.tmp 10) = .bool false from hD 5 rfl) rfl),
        .norm 4 rfl rfl rfl (fun a_ w_ hn_ hBt hr hR hD hO hS => op_assign (show a_.eval (.tmp 16) = .bool false from hD 11 rfl)),
        trivial⟩
    · intro a2 w2 gs2 hn2 hd2 hBt hr hR hP hX hU
      replace hn := hn2; replace hd := hd2.trans hd
      have e4 : a2.eval (.tmp 4) = .bool false := hP 12 (by decide)
      have f4 := e4
      replace Gr := Gr.rl hr
      replace Kr := Kr.rl hr
      replace Gu := Gu.rl hr
      replace Ku := Ku.rl hr
      replace HB := HB.trans (hBt.below HB.size (UpOld.all (bx := []) trivial))
      clear hBt hr hR hP hX hU
      refine wp_ret ?_
      repeat (first | refine then_ret ?_ | refine scope_ret ?_ | refine block_ret ?_)
      exact bodyPost_ret (v := .bool false) (res_t rfl f4) hd ⟨_, rfl, rfl, HB⟩

theorem has_samer : Has Try.prog 19 := by unfold Has; kernel_rfl
theorem op_samerb {dst : Option Tmp} {ty : TypeId} {pos : String} {after : Array Edge} {guard : Option (Nat × Bool)} {a : Act} {w : World} {ats : Array TypeId} {i j : Nat} {pr qr pu qu : Int} {Lr Lu : Nat} (h1 : OutR pr qr Lr (a.eval (.tmp i)) w) (h2 : OutR pu qu Lu (a.eval (.tmp j)) w) :
    Does Try.prog { dst, op := .call { callee := .value (.func 19), args := #[.tmp i, .tmp j], argTypes := ats }, type := ty, pos, after, guard } a.eval w fun v w' => Below w.heap.size w w' ∧ Eqs (.bool (decide (pr = pu ∧ qr = qu))) v w' := by
  obtain ⟨ng, ao, cap, rs, bo, dap, ss, e1, G1, K1, _, _⟩ := h1
  obtain ⟨ng2, ao2, cap2, rs2, bo2, dap2, ss2, e2, G2, K2, _, _⟩ := h2
  by_cases hp : pr = pu
  · refine does_call has_samer _ (by simp only [List.map_toArray, List.map_cons, List.map_nil, e1, e2]) ((samer_z w _ _ _ _ _ G1 _ _ _ _ K1 _ _ _ _ _ G2 _ _ _ _ K2 hp).mono ?_)
    rintro e w' ⟨v, rfl, h1, hb⟩
    exact ⟨_, rfl, hb, by simpa [hp] using h1⟩
  · refine does_call has_samer _ (by simp only [List.map_toArray, List.map_cons, List.map_nil, e1, e2]) ((samerf_z w _ _ _ _ _ G1 _ _ _ _ K1 _ _ _ _ _ G2 _ _ _ _ K2 hp).mono ?_)
    rintro e w' ⟨v, rfl, h1, hb⟩
    exact ⟨_, rfl, hb, by simpa [hp] using h1⟩
theorem op_samer {dst : Option Tmp} {ty : TypeId} {pos : String} {after : Array Edge} {guard : Option (Nat × Bool)} {a : Act} {w : World} {ats : Array TypeId} {i j : Nat} {pr qr pu qu : Int} {Lr Lu : Nat} (h1 : OutR pr qr Lr (a.eval (.tmp i)) w) (h2 : OutR pu qu Lu (a.eval (.tmp j)) w) (h : pr = pu ∧ qr = qu) :
    Does Try.prog { dst, op := .call { callee := .value (.func 19), args := #[.tmp i, .tmp j], argTypes := ats }, type := ty, pos, after, guard } a.eval w fun v w' => Below w.heap.size w w' ∧ Eqs (.bool true) v w' :=
  (op_samerb h1 h2).mono (fun v w' ⟨hb, e⟩ => ⟨hb, by rw [Eqs, e, decide_eq_true h]⟩)
theorem outr_zero {v : Value} (w : World) (h : v = .agg #[.bool false, .slice none 0 0, .slice none 0 0]) : OutR 0 0 0 v w := ⟨false, none, 0, [], none, 0, [], h, ⟨⟨sl_nil w, canon_nil, rfl⟩, rfl⟩, ⟨sl_nil w, canon_nil, rfl⟩, Nat.le_refl _, Nat.le_refl _⟩

set_option maxRecDepth 20000 in
set_option maxHeartbeats 2000000 in
theorem rtext32_z (w : World) (Br : Nat) (nr : Bool) (ar : Option Addr) (mr cr : Nat) (rs : List Int) (pr : Int) (Ar : Ag w nr ar mr cr rs pr) (Lr : rs.length ≤ Br) (br : Option Addr) (kr dr : Nat) (rt : List Int) (qr : Int) (Sr : Sl w (.slice br kr dr) rt) (Vr : val rt = qr) (Mr : rt.length ≤ Br) (hL : Br ≤ 1000) (hp : nm (tp pr qr) (tq qr) = -3) (hq : dn (tp pr qr) (tq qr) = 2) :
    Calls Try.prog 39 #[.agg #[.bool nr, .slice ar mr cr, .slice br kr dr]] w fun e w' => ∃ v, e = .returned v ∧ (Eqs (.string ⟨#[45, 51, 47, 50]⟩)) v w' ∧ Below w.heap.size w w' := by
  go_enter Try.func39, Try.ntmps39
  generalize hA : (Act.mk _ _) = aa
  have hn : aa.tmps.size = 21 := by rw [← hA]; rfl
  have hd : aa.defers = [] := by rw [← hA]
  have f0 : aa.eval (.tmp 0) = .agg #[.bool nr, .slice ar mr cr, .slice br kr dr] := by rw [← hA]; rfl
  clear hA
  have HB : Below w.heap.size w w := Below.refl _ _
  have Dr : Ag w false br kr dr rt qr := ⟨Sr, Vr⟩
  refine wp_seq ?_
  refine region4 [some 1, some 2] [(fun _ _ => True), Eqs ((.string ⟨#[]⟩))] [⟨R3, some 0, 0, 1, .agg #[.bool nr, .slice ar mr cr, .slice br kr dr], none, []⟩] [] (by kernel_rfl) hn rfl (by kernel_rfl) (by kernel_rfl) (by kernel_rfl) (by kernel_rfl) (by kernel_rfl) (by kernel_rfl) ⟨True.mono4, Eqs.mono4 _, trivial⟩ (ok_cons R3ok ok_nil) (IsOld.all (bx := [⟨R3, some 0, 0, 1, .agg #[.bool nr, .slice ar mr cr, .slice br kr dr], none, []⟩]) ⟨someNe, trivial⟩) (DisOld.all (bx := [⟨R3, some 0, 0, 1, .agg #[.bool nr, .slice ar mr cr, .slice br kr dr], none, []⟩]) ⟨someNe, trivial⟩) ?_ ?_
  · exact ⟨.alloc 0 _ rfl rfl (.inr ⟨_, rfl, r3_cs, fun a_ hR => (hR 0 rfl).trans f0⟩) rfl rfl rfl rfl rfl,
      .norm 2 rfl rfl rfl (fun a_ w_ hn_ hBt hr hR hD hO hS => op_assign rfl),
      trivial⟩
  · intro a1 w1 gs1 hn1 hd1 hBt hr hR hP hX hU
    replace hn := hn1; replace hd := hd1.trans hd
    have b1 : BoxV R3 w1 (gs1 0) (.agg #[.bool nr, .slice ar mr cr, .slice br kr dr]) := (hX 0 _ rfl).2.2.2
    have f1 := (hX 0 _ rfl).1
    have u1 : w.heap.size ≤ gs1 0 := Nat.le_trans HB.size ((hX 0 _ rfl).2.2.1 (by simp))
    have e2 : a1.eval (.tmp 2) = (.string ⟨#[]⟩) := hP 1 (by decide)
    have f2 := e2
    replace Ar := Ar.rl hr
    replace Sr := Sr.rl hr
    replace Dr := Dr.rl hr
    replace HB := HB.trans (hBt.below HB.size (UpOld.all (bx := [⟨R3, some 0, 0, 1, .agg #[.bool nr, .slice ar mr cr, .slice br kr dr], none, []⟩]) ⟨someNe, trivial⟩))
    clear hBt hr hR hP hX hU
    refine wp_seq ?_
    refine region4 [some 5, some 6, some 3, none] [Eqs (.agg #[.bool nr, .slice ar mr cr, .slice br kr dr]), OutR ((nm (tp pr qr) (tq qr))) ((dn (tp pr qr) (tq qr))) (2 * ((Br) + 2)), (fun _ _ => True), (fun _ _ => True)] [⟨R3, some 2, 0, 3, .agg #[.bool false, .slice none 0 0, .slice none 0 0], some (3, 6, 1), []⟩] [] (by kernel_rfl) hn rfl (by kernel_rfl) (by kernel_rfl) (by kernel_rfl) (by kernel_rfl) (by kernel_rfl) (by kernel_rfl) ⟨Eqs.mono4 _, OutR.mono4 _ _ _, True.mono4, True.mono4, trivial⟩ (ok_cons R3ok ok_nil) (IsOld.all (bx := [⟨R3, some 2, 0, 3, .agg #[.bool false, .slice none 0 0, .slice none 0 0], some (3, 6, 1), []⟩]) ⟨someNe, trivial⟩) (DisOld.all (bx := [⟨R3, some 2, 0, 3, .agg #[.bool false, .slice none 0 0, .slice none 0 0], some (3, 6, 1), []⟩]) ⟨someNe, trivial⟩) ?_ ?_
    · exact ⟨.norm 5 rfl rfl rfl (fun a_ w_ hn_ hBt hr hR hD hO hS => op_loadv R3ok ((hR 1 rfl).trans f1) (b1.keep hBt ⟨someNe, trivial⟩)),
        .norm 6 rfl rfl rfl (fun a_ w_ hn_ hBt hr hR hD hO hS => op_rtrim (isr_eq (show a_.eval (.tmp 5) = .agg #[.bool nr, .slice ar mr cr, .slice br kr dr] from hD 0 rfl) (Ar.rl hr) (Sr.rl hr) Vr Lr Mr) (by omega)),
        .alloc 0 _ rfl rfl (.inl ⟨rfl, rfl⟩) rfl rfl rfl rfl rfl,
        .store 0 _ _ _ rfl rfl rfl rfl rfl rfl rfl (fun ia h => by cases h; rfl) rfl rfl rfl OutR.cs,
        trivial⟩
    · intro a2 w2 gs2 hn2 hd2 hBt hr hR hP hX hU
      replace hn := hn2; replace hd := hd2.trans hd
      obtain ⟨n_3, a_3, c_3, r_3, b_3, d_3, s_3, e6, G3, K3, l3, k3⟩ : OutR ((nm (tp pr qr) (tq qr))) ((dn (tp pr qr) (tq qr))) (2 * ((Br) + 2)) (a2.eval (.tmp 6)) w2 := hP 1 (by decide)
      have A3 := G3.ag; have S3 := K3.sl; have V3 := K3.val
      have b3 : BoxV R3 w2 (gs2 0) (.agg #[.bool n_3, .slice a_3 r_3.length c_3, .slice b_3 s_3.length d_3]) := boxv_of (hX 0 _ rfl).2.2.2 e6
      have f3 := (hX 0 _ rfl).1
      have u3 : w.heap.size ≤ gs2 0 := Nat.le_trans HB.size ((hX 0 _ rfl).2.2.1 (by simp))
      replace f2 := (hR 2 rfl).trans f2
      replace Ar := Ar.rl hr
      replace Sr := Sr.rl hr
      replace Dr := Dr.rl hr
      replace HB := HB.trans (hBt.below HB.size (UpOld.all (bx := [⟨R3, some 2, 0, 3, .agg #[.bool false, .slice none 0 0, .slice none 0 0], some (3, 6, 1), []⟩]) ⟨someNe, trivial⟩))
      clear hBt hr hR hP hX hU
      refine wp_seq ?_
      refine region4 [some 7, some 8, some 9, some 4] [Eqs (.pointer (some ⟨gs2 0, 0, none⟩)), Eqs (.agg #[.bool n_3, .slice a_3 r_3.length c_3]), Eqs (.string ⟨#[45, 51]⟩), Eqs (.string ⟨#[45, 51]⟩)] [] [] (by kernel_rfl) hn rfl (by kernel_rfl) (by kernel_rfl) (by kernel_rfl) (by kernel_rfl) (by kernel_rfl) (by kernel_rfl) ⟨Eqs.mono4 _, Eqs.mono4 _, Eqs.mono4 _, Eqs.mono4 _, trivial⟩ ok_nil (IsOld.all (bx := []) trivial) (DisOld.all (bx := []) trivial) ?_ ?_
      · exact ⟨.norm 7 rfl rfl rfl (fun a_ w_ hn_ hBt hr hR hD hO hS => op_faR fa_num ((hR 3 rfl).trans f3)),
          .norm 8 rfl rfl rfl (fun a_ w_ hn_ hBt hr hR hD hO hS => op_ldnum (show a_.eval (.tmp 7) = .pointer (some ⟨gs2 0, 0, none⟩) from hD 0 rfl) (b3.keep hBt trivial)),
          .norm 9 rfl rfl rfl (fun a_ w_ hn_ hBt hr hR hD hO hS => op_text3 (outw_eq (show a_.eval (.tmp 8) = .agg #[.bool n_3, .slice a_3 r_3.length c_3] from hD 1 rfl) (G3.rl hr) l3) hp (by omega)),
          .norm 4 rfl rfl rfl (fun a_ w_ hn_ hBt hr hR hD hO hS => op_assign (show a_.eval (.tmp 9) = .string ⟨#[45, 51]⟩ from hD 2 rfl)),
          trivial⟩
      · intro a4 w4 gs4 hn4 hd4 hBt hr hR hP hX hU
        replace hn := hn4; replace hd := hd4.trans hd
        replace b3 := b3.keep hBt trivial
        replace f2 := (hR 2 rfl).trans f2
        replace f3 := (hR 3 rfl).trans f3
        have e4 : a4.eval (.tmp 4) = .string ⟨#[45, 51]⟩ := hP 3 (by decide)
        have f4 := e4
        replace Ar := Ar.rl hr
        replace Sr := Sr.rl hr
        replace Dr := Dr.rl hr
        replace G3 := G3.rl hr
        replace A3 := A3.rl hr
        replace K3 := K3.rl hr
        replace S3 := S3.rl hr
        replace HB := HB.trans (hBt.below HB.size (UpOld.all (bx := []) trivial))
        clear hBt hr hR hP hX hU
        refine wp_seq ?_
        refine wp_seq ?_
        refine region4 [some 10, some 11, some 12, some 13] [Eqs (.pointer (some ⟨gs2 0, 2, none⟩)), Eqs (.slice b_3 s_3.length d_3), BitsOf ((dn (tp pr qr) (tq qr))), Eqs (.bool (decide ((dn (tp pr qr) (tq qr)) = 1)))] [] [] (by kernel_rfl) hn rfl (by kernel_rfl) (by kernel_rfl) (by kernel_rfl) (by kernel_rfl) (by kernel_rfl) (by kernel_rfl) ⟨Eqs.mono4 _, Eqs.mono4 _, BitsOf.mono4 _, Eqs.mono4 _, trivial⟩ ok_nil (IsOld.all (bx := []) trivial) (DisOld.all (bx := []) trivial) ?_ ?_
        · exact ⟨.norm 10 rfl rfl rfl (fun a_ w_ hn_ hBt hr hR hD hO hS => op_faR fa_den ((hR 3 rfl).trans f3)),
            .norm 11 rfl rfl rfl (fun a_ w_ hn_ hBt hr hR hD hO hS => op_ldden (show a_.eval (.tmp 10) = .pointer (some ⟨gs2 0, 2, none⟩) from hD 0 rfl) (b3.keep hBt trivial)),
            .norm 12 rfl rfl rfl (fun a_ w_ hn_ hBt hr hR hD hO hS => op_lbits (isl_eq (show a_.eval (.tmp 11) = .slice b_3 s_3.length d_3 from hD 1 rfl) (S3.rl hr) V3 k3) (by omega)),
            .norm 13 rfl rfl rfl (fun a_ w_ hn_ hBt hr hR hD hO hS => op_bits1 (show BitsOf ((dn (tp pr qr) (tq qr))) (a_.eval (.tmp 12)) w_ from hD 2 rfl) (by rw [hq]; omega)),
            trivial⟩
        · intro a5 w5 gs5 hn5 hd5 hBt hr hR hP hX hU
          replace hn := hn5; replace hd := hd5.trans hd
          replace b3 := b3.keep hBt trivial
          replace f2 := (hR 2 rfl).trans f2
          replace f3 := (hR 3 rfl).trans f3
          replace f4 := (hR 4 rfl).trans f4
          have e13 : a5.eval (.tmp 13) = .bool (decide ((dn (tp pr qr) (tq qr)) = 1)) := hP 3 (by decide)
          have f13 := e13
          replace Ar := Ar.rl hr
          replace Sr := Sr.rl hr
          replace Dr := Dr.rl hr
          replace G3 := G3.rl hr
          replace A3 := A3.rl hr
          replace K3 := K3.rl hr
          replace S3 := S3.rl hr
          replace HB := HB.trans (hBt.below HB.size (UpOld.all (bx := []) trivial))
          clear hBt hr hR hP hX hU
          refine wp_cond_split f13 (fun hc13 => ?_) (fun hc13 => ?_)
          · skip
            exact absurd (of_decide_eq_true hc13) (by rw [hq]; omega)
          · skip
            refine wp_skip ?_
            refine wp_seq ?_
            refine region4 [some 15, some 16, some 17, some 18, some 19, some 20, some 2] [Eqs (.string ⟨#[45, 51]⟩), Eqs (.string ⟨#[45, 51, 47]⟩), Eqs (.pointer (some ⟨gs2 0, 2, none⟩)), Eqs (.slice b_3 s_3.length d_3), Eqs (.string ⟨#[50]⟩), Eqs (.string ⟨#[45, 51, 47, 50]⟩), Eqs (.string ⟨#[45, 51, 47, 50]⟩)] [] [] (by kernel_rfl) hn rfl (by kernel_rfl) (by kernel_rfl) (by kernel_rfl) (by kernel_rfl) (by kernel_rfl) (by kernel_rfl) ⟨Eqs.mono4 _, Eqs.mono4 _, Eqs.mono4 _, Eqs.mono4 _, Eqs.mono4 _, Eqs.mono4 _, Eqs.mono4 _, trivial⟩ ok_nil (IsOld.all (bx := []) trivial) (DisOld.all (bx := []) trivial) ?_ ?_
            · exact ⟨.norm 15 rfl rfl rfl (fun a_ w_ hn_ hBt hr hR hD hO hS => op_mv ((hR 4 rfl).trans f4)),
                .norm 16 rfl rfl rfl (fun a_ w_ hn_ hBt hr hR hD hO hS => op_cat (show a_.eval (.tmp 15) = .string ⟨#[45, 51]⟩ from hD 0 rfl) rfl (by decide) rfl),
                .norm 17 rfl rfl rfl (fun a_ w_ hn_ hBt hr hR hD hO hS => op_faR fa_den ((hR 3 rfl).trans f3)),
                .norm 18 rfl rfl rfl (fun a_ w_ hn_ hBt hr hR hD hO hS => op_ldden (show a_.eval (.tmp 17) = .pointer (some ⟨gs2 0, 2, none⟩) from hD 2 rfl) (b3.keep hBt trivial)),
                .norm 19 rfl rfl rfl (fun a_ w_ hn_ hBt hr hR hD hO hS => op_text2 (isl_eq (show a_.eval (.tmp 18) = .slice b_3 s_3.length d_3 from hD 3 rfl) (S3.rl hr) V3 k3) hq (by omega)),
                .norm 20 rfl rfl rfl (fun a_ w_ hn_ hBt hr hR hD hO hS => op_cat (show a_.eval (.tmp 16) = .string ⟨#[45, 51, 47]⟩ from hD 1 rfl) (show a_.eval (.tmp 19) = .string ⟨#[50]⟩ from hD 4 rfl) (by decide) rfl),
                .norm 2 rfl rfl rfl (fun a_ w_ hn_ hBt hr hR hD hO hS => op_assign (show a_.eval (.tmp 20) = .string ⟨#[45, 51, 47, 50]⟩ from hD 5 rfl)),
                trivial⟩
            · intro a6 w6 gs6 hn6 hd6 hBt hr hR hP hX hU
              replace hn := hn6; replace hd := hd6.trans hd
              have e2 : a6.eval (.tmp 2) = .string ⟨#[45, 51, 47, 50]⟩ := hP 6 (by decide)
              have f2 := e2
              replace Ar := Ar.rl hr
              replace Sr := Sr.rl hr
              replace Dr := Dr.rl hr
              replace G3 := G3.rl hr
              replace A3 := A3.rl hr
              replace K3 := K3.rl hr
              replace S3 := S3.rl hr
              replace HB := HB.trans (hBt.below HB.size (UpOld.all (bx := []) trivial))
              clear hBt hr hR hP hX hU
              refine wp_ret ?_
              repeat (first | refine then_ret ?_ | refine scope_ret ?_ | refine block_ret ?_)
              exact bodyPost_ret (v := .string ⟨#[45, 51, 47, 50]⟩) (res_t rfl f2) hd ⟨_, rfl, rfl, HB⟩

theorem has_rtext32 : Has Try.prog 39 := by unfold Has; kernel_rfl
theorem op_rtext32 {dst : Option Tmp} {ty : TypeId} {pos : String} {after : Array Edge} {guard : Option (Nat × Bool)} {a : Act} {w : World} {ats : Array TypeId} {i : Nat} {Br : Nat} {pr qr : Int} (Hr : IsR pr qr Br (a.eval (.tmp i)) w) (hL : Br ≤ 1000) (hp : nm (tp pr qr) (tq qr) = -3) (hq : dn (tp pr qr) (tq qr) = 2) :
    Does Try.prog { dst, op := .call { callee := .value (.func 39), args := #[.tmp i], argTypes := ats }, type := ty, pos, after, guard } a.eval w fun v w' => Below w.heap.size w w' ∧ (Eqs (.string ⟨#[45, 51, 47, 50]⟩)) v w' := by
  obtain ⟨nr, ar, mr, cr, rs, br, kr, dr, rt, er, Ar, Sr, Vr, Lr, Mr⟩ := Hr
  refine does_call has_rtext32 _ (by simp only [List.map_toArray, List.map_cons, List.map_nil, er]) ((rtext32_z w Br _ _ _ _ _ _ Ar Lr _ _ _ _ _ Sr Vr Mr hL hp hq).mono ?_)
  rintro e w' ⟨v, rfl, h1, hb⟩
  exact ⟨_, rfl, hb, h1⟩

set_option maxRecDepth 20000 in
set_option maxHeartbeats 1000000 in
theorem rawake_z (w : World) : Calls Try.prog 6 #[] w fun e w' => ∃ v, e = .returned v ∧ (Eqs (.bool true)) v w' ∧ Below w.heap.size w w' := by
  go_enter Try.func6, Try.ntmps6
  generalize hA : (Act.mk _ _) = aa
  have hn : aa.tmps.size = 16 := by rw [← hA]; rfl
  have hd : aa.defers = [] := by rw [← hA]
  clear hA
  have HB : Below w.heap.size w w := Below.refl _ _
  refine wp_seq ?_
  refine region4 [some 0] [Eqs ((.bool false))] [] [] (by kernel_rfl) hn rfl (by kernel_rfl) (by kernel_rfl) (by kernel_rfl) (by kernel_rfl) (by kernel_rfl) (by kernel_rfl) ⟨Eqs.mono4 _, trivial⟩ ok_nil (IsOld.all (bx := []) trivial) (DisOld.all (bx := []) trivial) ?_ ?_
  · exact ⟨.norm 0 rfl rfl rfl (fun a_ w_ hn_ hBt hr hR hD hO hS => op_assign rfl),
      trivial⟩
  · intro a1 w1 gs1 hn1 hd1 hBt hr hR hP hX hU
    replace hn := hn1; replace hd := hd1.trans hd
    have e0 : a1.eval (.tmp 0) = (.bool false) := hP 0 (by decide)
    have f0 := e0
    replace HB := HB.trans (hBt.below HB.size (UpOld.all (bx := []) trivial))
    clear hBt hr hR hP hX hU
    refine wp_seq ?_
    refine region4 [some 4, some 5, some 6, some 3, some 7, some 8, some 1, none, some 2] [OutW (6) (2), OutW ((-4)) (2), Tup2 (OutR ((nm 6 (-4))) ((dn 6 (-4))) ((2) + (2))) (Eqs (.int .i64 0)), Tup2 (OutR ((nm 6 (-4))) ((dn 6 (-4))) ((2) + (2))) (Eqs (.int .i64 0)), OutR ((nm 6 (-4))) ((dn 6 (-4))) ((2) + (2)), Eqs (.int .i64 0), (fun _ _ => True), (fun _ _ => True), Eqs (.int .i64 0)] [⟨R3, some 6, 0, 1, .agg #[.bool false, .slice none 0 0, .slice none 0 0], some (7, 7, 4), []⟩] [] (by kernel_rfl) hn rfl (by kernel_rfl) (by kernel_rfl) (by kernel_rfl) (by kernel_rfl) (by kernel_rfl) (by kernel_rfl) ⟨OutW.mono4 _ _, OutW.mono4 _ _, Tup2.mono4 (OutR.mono4 _ _ _) (Eqs.mono4 _), Tup2.mono4 (OutR.mono4 _ _ _) (Eqs.mono4 _), OutR.mono4 _ _ _, Eqs.mono4 _, True.mono4, True.mono4, Eqs.mono4 _, trivial⟩ (ok_cons R3ok ok_nil) (IsOld.all (bx := [⟨R3, some 6, 0, 1, .agg #[.bool false, .slice none 0 0, .slice none 0 0], some (7, 7, 4), []⟩]) ⟨someNe, trivial⟩) (DisOld.all (bx := [⟨R3, some 6, 0, 1, .agg #[.bool false, .slice none 0 0, .slice none 0 0], some (7, 7, 4), []⟩]) ⟨someNe, trivial⟩) ?_ ?_
    · exact ⟨.norm 4 rfl rfl rfl (fun a_ w_ hn_ hBt hr hR hD hO hS => op_lsmall (by omega) (by omega)),
        .norm 5 rfl rfl rfl (fun a_ w_ hn_ hBt hr hR hD hO hS => op_lsmall (by omega) (by omega)),
        .norm 6 rfl rfl rfl (fun a_ w_ hn_ hBt hr hR hD hO hS => op_rof (show OutW (6) (2) (a_.eval (.tmp 4)) w_ from hD 0 rfl).is (show OutW ((-4)) (2) (a_.eval (.tmp 5)) w_ from hD 1 rfl).is (by omega) (by omega)),
        .norm 3 rfl rfl rfl (fun a_ w_ hn_ hBt hr hR hD hO hS => op_mvp (p := Tup2 (OutR ((nm 6 (-4))) ((dn 6 (-4))) ((2) + (2))) (Eqs (.int .i64 0))) (show Tup2 (OutR ((nm 6 (-4))) ((dn 6 (-4))) ((2) + (2))) (Eqs (.int .i64 0)) (a_.eval (.tmp 6)) w_ from hD 2 rfl)),
        .norm 7 rfl rfl rfl (fun a_ w_ hn_ hBt hr hR hD hO hS => op_ex20 (show Tup2 (OutR ((nm 6 (-4))) ((dn 6 (-4))) ((2) + (2))) (Eqs (.int .i64 0)) (a_.eval (.tmp 3)) w_ from hD 3 rfl)),
        .norm 8 rfl rfl rfl (fun a_ w_ hn_ hBt hr hR hD hO hS => op_ex21 (show Tup2 (OutR ((nm 6 (-4))) ((dn 6 (-4))) ((2) + (2))) (Eqs (.int .i64 0)) (a_.eval (.tmp 3)) w_ from hD 3 rfl)),
        .alloc 0 _ rfl rfl (.inl ⟨rfl, rfl⟩) rfl rfl rfl rfl rfl,
        .store 0 _ _ _ rfl rfl rfl rfl rfl rfl rfl (fun ia h => by cases h; rfl) rfl rfl rfl OutR.cs,
        .norm 2 rfl rfl rfl (fun a_ w_ hn_ hBt hr hR hD hO hS => op_assign (show a_.eval (.tmp 8) = .int .i64 0 from hD 5 rfl)),
        trivial⟩
    · intro a2 w2 gs2 hn2 hd2 hBt hr hR hP hX hU
      replace hn := hn2; replace hd := hd2.trans hd
      obtain ⟨n_3, a_3, c_3, r_3, b_3, d_3, s_3, e7, G3, K3, l3, k3⟩ : OutR ((nm 6 (-4))) ((dn 6 (-4))) ((2) + (2)) (a2.eval (.tmp 7)) w2 := hP 4 (by decide)
      have A3 := G3.ag; have S3 := K3.sl; have V3 := K3.val
      have b1 : BoxV R3 w2 (gs2 0) (.agg #[.bool n_3, .slice a_3 r_3.length c_3, .slice b_3 s_3.length d_3]) := boxv_of (hX 0 _ rfl).2.2.2 e7
      have f1 := (hX 0 _ rfl).1
      have u1 : w.heap.size ≤ gs2 0 := Nat.le_trans HB.size ((hX 0 _ rfl).2.2.1 (by simp))
      replace f0 := (hR 0 rfl).trans f0
      have e2 : a2.eval (.tmp 2) = .int .i64 0 := hP 8 (by decide)
      have f2 := e2
      replace HB := HB.trans (hBt.below HB.size (UpOld.all (bx := [⟨R3, some 6, 0, 1, .agg #[.bool false, .slice none 0 0, .slice none 0 0], some (7, 7, 4), []⟩]) ⟨someNe, trivial⟩))
      clear hBt hr hR hP hX hU
      refine wp_seq ?_
      refine region4 [some 9, some 10, some 11, some 12, some 13, some 14, some 15, some 0] [Eqs (.int .i64 0), Eqs (.bool true), Eqs (.bool true), Eqs (.agg #[.bool n_3, .slice a_3 r_3.length c_3, .slice b_3 s_3.length d_3]), Eqs (.string ⟨#[45, 51, 47, 50]⟩), Eqs (.bool true), Eqs (.bool true), Eqs (.bool true)] [] [] (by kernel_rfl) hn rfl (by kernel_rfl) (by kernel_rfl) (by kernel_rfl) (by kernel_rfl) (by kernel_rfl) (by kernel_rfl) ⟨Eqs.mono4 _, Eqs.mono4 _, Eqs.mono4 _, Eqs.mono4 _, Eqs.mono4 _, Eqs.mono4 _, Eqs.mono4 _, Eqs.mono4 _, trivial⟩ ok_nil (IsOld.all (bx := []) trivial) (DisOld.all (bx := []) trivial) ?_ ?_
      · exact ⟨.norm 9 rfl rfl rfl (fun a_ w_ hn_ hBt hr hR hD hO hS => op_mv ((hR 2 rfl).trans f2)),
          .norm 10 rfl rfl rfl (fun a_ w_ hn_ hBt hr hR hD hO hS => op_eqle (show a_.eval (.tmp 9) = .int .i64 0 from hD 0 rfl)),
          .norm 11 rfl rfl rfl (fun a_ w_ hn_ hBt hr hR hD hO hS => op_mv (show a_.eval (.tmp 10) = .bool true from hD 1 rfl)),
          .norm 12 rfl rfl rfl (fun a_ w_ hn_ hBt hr hR hD hO hS => ⟨⟨_, rfl⟩, fun _ => op_loadv R3ok ((hR 1 rfl).trans f1) (b1.keep hBt trivial), fun hne => absurd (hD 2 rfl) hne⟩),
          .norm 13 rfl rfl rfl (fun a_ w_ hn_ hBt hr hR hD hO hS => ⟨⟨_, rfl⟩, fun _ => op_rtext32 (isr_eq (show a_.eval (.tmp 12) = .agg #[.bool n_3, .slice a_3 r_3.length c_3, .slice b_3 s_3.length d_3] from hD 3 rfl) (A3.rl hr) (S3.rl hr) V3 l3 k3) (by omega) (by decide) (by decide), fun hne => absurd (hD 2 rfl) hne⟩),
          .norm 14 rfl rfl rfl (fun a_ w_ hn_ hBt hr hR hD hO hS => ⟨⟨_, rfl⟩, fun _ => op_eqls (show a_.eval (.tmp 13) = .string ⟨#[45, 51, 47, 50]⟩ from hD 4 rfl) rfl, fun hne => absurd (hD 2 rfl) hne⟩),
          .norm 15 rfl rfl rfl (fun a_ w_ hn_ hBt hr hR hD hO hS => op_pickb (show a_.eval (.tmp 11) = .bool true from hD 2 rfl) (show a_.eval (.tmp 14) = .bool true from hD 5 rfl)),
          .norm 0 rfl rfl rfl (fun a_ w_ hn_ hBt hr hR hD hO hS => op_assign (show a_.eval (.tmp 15) = .bool true from hD 6 rfl)),
          trivial⟩
      · intro a4 w4 gs4 hn4 hd4 hBt hr hR hP hX hU
        replace hn := hn4; replace hd := hd4.trans hd
        have e0 : a4.eval (.tmp 0) = .bool true := hP 7 (by decide)
        have f0 := e0
        replace G3 := G3.rl hr
        replace A3 := A3.rl hr
        replace K3 := K3.rl hr
        replace S3 := S3.rl hr
        replace HB := HB.trans (hBt.below HB.size (UpOld.all (bx := []) trivial))
        clear hBt hr hR hP hX hU
        refine wp_ret ?_
        repeat (first | refine then_ret ?_ | refine scope_ret ?_ | refine block_ret ?_)
        exact bodyPost_ret (v := .bool true) (res_t rfl f0) hd ⟨_, rfl, rfl, HB⟩

theorem has_rawake : Has Try.prog 6 := by unfold Has; kernel_rfl
theorem op_rawake {dst : Option Tmp} {ty : TypeId} {pos : String} {after : Array Edge} {guard : Option (Nat × Bool)} {a : Act} {w : World} {ats : Array TypeId} : Does Try.prog { dst, op := .call { callee := .value (.func 6), args := #[], argTypes := ats }, type := ty, pos, after, guard } a.eval w fun v w' => Below w.heap.size w w' ∧ Eqs (.bool true) v w' := by
  refine does_call has_rawake _ (by simp only [List.map_toArray, List.map_nil]) ((rawake_z w).mono ?_)
  rintro e w' ⟨v, rfl, h1, hb⟩
  exact ⟨_, rfl, hb, h1⟩

end Lm
end Go.Proofs.Ytkdcgnooeojjgab

namespace Go.Proofs.Ytkdcgnooeojjgab
namespace Lm

/-- Both by the greatest common divisor. -/
theorem low_parts (p : Int) {q : Int} (hq : q ≠ 0) : ∃ g a b : Int, 0 < g ∧ p = g * a ∧ q = g * b ∧ b ≠ 0 ∧ Int.gcd a b = 1 ∧ nm p q = Int.sign b * a ∧ dn p q = Int.sign b * b := by
  have hg := gcd_pos_right (p := p) hq
  obtain ⟨a, ha⟩ : ((Int.gcd p q : Nat) : Int) ∣ p := Int.gcd_dvd_left p q
  obtain ⟨b, hb⟩ : ((Int.gcd p q : Nat) : Int) ∣ q := Int.gcd_dvd_right p q
  have ea : p / ((Int.gcd p q : Nat) : Int) = a := by
    conv => lhs; lhs; rw [ha]
    exact Int.mul_ediv_cancel_left _ (by omega)
  have eb : q / ((Int.gcd p q : Nat) : Int) = b := by
    conv => lhs; lhs; rw [hb]
    exact Int.mul_ediv_cancel_left _ (by omega)
  have hs : Int.sign q = Int.sign b := by
    rw [hb, Int.sign_mul, Int.sign_eq_one_of_pos hg, Int.one_mul]
  have hc : Int.gcd a b = 1 := by
    have := Int.gcd_ediv_gcd_ediv_gcd (i := p) (j := q) (by omega)
    rwa [ea, eb] at this
  refine ⟨_, a, b, hg, ha, hb, ?_, hc, ?_, ?_⟩
  · rintro rfl
    rw [Int.mul_zero] at hb
    exact hq hb
  · unfold nm
    rw [ea, hs]
  · unfold dn
    rw [eb, hs]

theorem sign_self_pos {b : Int} (h : b ≠ 0) : 0 < Int.sign b * b := by
  rcases Int.lt_trichotomy b 0 with h1 | h1 | h1
  · rw [Int.sign_eq_neg_one_of_neg h1]; omega
  · exact absurd h1 h
  · rw [Int.sign_eq_one_of_pos h1]; omega

theorem dn_pos (p : Int) {q : Int} (hq : q ≠ 0) : 0 < dn p q := by
  obtain ⟨g, a, b, _, _, _, hb, _, _, e⟩ := low_parts p hq
  rw [e]
  exact sign_self_pos hb
theorem dn_ne (p : Int) {q : Int} (hq : q ≠ 0) : dn p q ≠ 0 := by
  have := dn_pos p hq
  omega
theorem low_cross (p : Int) {q : Int} (hq : q ≠ 0) : nm p q * q = p * dn p q := by
  obtain ⟨g, a, b, _, hp, hq', _, _, e1, e2⟩ := low_parts p hq
  rw [e1, e2]
  grind
theorem low_cop (p : Int) {q : Int} (hq : q ≠ 0) : Int.gcd (nm p q) (dn p q) = 1 := by
  obtain ⟨g, a, b, _, _, _, hb, hc, e1, e2⟩ := low_parts p hq
  rw [e1, e2]
  rcases Int.lt_trichotomy b 0 with h1 | h1 | h1
  · rw [Int.sign_eq_neg_one_of_neg h1]; simpa using hc
  · exact absurd h1 hb
  · rw [Int.sign_eq_one_of_pos h1]; simpa using hc

theorem dvd_cop {n d k : Int} (hc : Int.gcd n d = 1) (h : d ∣ n * k) : d ∣ k := by
  have h1 : d.natAbs ∣ n.natAbs * k.natAbs := by rw [← Int.natAbs_mul]; exact Int.natAbs_dvd_natAbs.2 h
  have hc' : Nat.Coprime d.natAbs n.natAbs := by
    unfold Nat.Coprime
    rw [Nat.gcd_comm]
    exact hc
  exact Int.natAbs_dvd_natAbs.1 (hc'.dvd_of_dvd_mul_left h1)

/-- Fractions that are one number are told alike. -/
theorem low_eq {p q p' q' : Int} (hq : q ≠ 0) (hq' : q' ≠ 0) (h : p * q' = p' * q) : nm p q = nm p' q' ∧ dn p q = dn p' q' := by
  have c1 := low_cross p hq
  have c2 := low_cross p' hq'
  have d1 := dn_pos p hq
  have d2 := dn_pos p' hq'
  have hx : nm p q * dn p' q' = nm p' q' * dn p q := by
    apply Int.eq_of_mul_eq_mul_right (Int.mul_ne_zero hq hq')
    grind
  have e1 : dn p q ∣ dn p' q' := dvd_cop (low_cop p hq) ⟨nm p' q', by rw [hx, Int.mul_comm]⟩
  have e2 : dn p' q' ∣ dn p q := dvd_cop (low_cop p' hq') ⟨nm p q, by rw [← hx, Int.mul_comm]⟩
  have e : dn p q = dn p' q' := Int.dvd_antisymm (by omega) (by omega) e1 e2
  refine ⟨?_, e⟩
  rw [e] at hx
  exact Int.eq_of_mul_eq_mul_right (by omega) hx

theorem low_eq_iff {p q p' q' : Int} (hq : q ≠ 0) (hq' : q' ≠ 0) : (nm p q = nm p' q' ∧ dn p q = dn p' q') ↔ p * q' = p' * q := by
  refine ⟨fun ⟨h1, h2⟩ => ?_, low_eq hq hq'⟩
  have c1 := low_cross p hq
  have c2 := low_cross p' hq'
  have d2 := dn_ne p' hq'
  rw [h1, h2] at c1
  apply Int.eq_of_mul_eq_mul_right d2
  grind

theorem tp_low (p : Int) {q : Int} (hq : q ≠ 0) : tp (nm p q) (dn p q) = nm p q := by rw [tp, if_neg (dn_ne p hq)]
theorem tq_low (p : Int) {q : Int} (hq : q ≠ 0) : tq (dn p q) = dn p q := by rw [tq, if_neg (dn_ne p hq)]

end Lm
end Go.Proofs.Ytkdcgnooeojjgab

namespace Go.Proofs.Ytkdcgnooeojjgab
namespace Lm

theorem fld_addc {P1 Q1 P2 Q2 : Int} (h1 : Q1 ≠ 0) (h2 : Q2 ≠ 0) : nm (P1 * Q2 + P2 * Q1) (Q1 * Q2) = nm (P2 * Q1 + P1 * Q2) (Q2 * Q1) ∧ dn (P1 * Q2 + P2 * Q1) (Q1 * Q2) = dn (P2 * Q1 + P1 * Q2) (Q2 * Q1) := by
  refine low_eq (by simp_all) (by simp_all) ?_
  grind

theorem fld_mulc {P1 Q1 P2 Q2 : Int} (h1 : Q1 ≠ 0) (h2 : Q2 ≠ 0) : nm (P1 * P2) (Q1 * Q2) = nm (P2 * P1) (Q2 * Q1) ∧ dn (P1 * P2) (Q1 * Q2) = dn (P2 * P1) (Q2 * Q1) := by
  refine low_eq (by simp_all) (by simp_all) ?_
  grind

theorem fld_adda {P1 Q1 P2 Q2 P3 Q3 : Int} (h1 : Q1 ≠ 0) (h2 : Q2 ≠ 0) (h3 : Q3 ≠ 0) : nm (tp (nm (P1 * Q2 + P2 * Q1) (Q1 * Q2)) (dn (P1 * Q2 + P2 * Q1) (Q1 * Q2)) * Q3 + P3 * tq (dn (P1 * Q2 + P2 * Q1) (Q1 * Q2))) (tq (dn (P1 * Q2 + P2 * Q1) (Q1 * Q2)) * Q3) = nm (P1 * tq (dn (P2 * Q3 + P3 * Q2) (Q2 * Q3)) + tp (nm (P2 * Q3 + P3 * Q2) (Q2 * Q3)) (dn (P2 * Q3 + P3 * Q2) (Q2 * Q3)) * Q1) (Q1 * tq (dn (P2 * Q3 + P3 * Q2) (Q2 * Q3))) ∧ dn (tp (nm (P1 * Q2 + P2 * Q1) (Q1 * Q2)) (dn (P1 * Q2 + P2 * Q1) (Q1 * Q2)) * Q3 + P3 * tq (dn (P1 * Q2 + P2 * Q1) (Q1 * Q2))) (tq (dn (P1 * Q2 + P2 * Q1) (Q1 * Q2)) * Q3) = dn (P1 * tq (dn (P2 * Q3 + P3 * Q2) (Q2 * Q3)) + tp (nm (P2 * Q3 + P3 * Q2) (Q2 * Q3)) (dn (P2 * Q3 + P3 * Q2) (Q2 * Q3)) * Q1) (Q1 * tq (dn (P2 * Q3 + P3 * Q2) (Q2 * Q3))) := by
  have b0 : Q1 * Q2 ≠ 0 := (Int.mul_ne_zero h1 h2)
  have c0 := low_cross (P1 * Q2 + P2 * Q1) b0
  have d0 := dn_ne (P1 * Q2 + P2 * Q1) b0
  rw [tp_low (P1 * Q2 + P2 * Q1) b0, tq_low (P1 * Q2 + P2 * Q1) b0]
  have b1 : Q2 * Q3 ≠ 0 := (Int.mul_ne_zero h2 h3)
  have c1 := low_cross (P2 * Q3 + P3 * Q2) b1
  have d1 := dn_ne (P2 * Q3 + P3 * Q2) b1
  rw [tp_low (P2 * Q3 + P3 * Q2) b1, tq_low (P2 * Q3 + P3 * Q2) b1]
  generalize nm (P1 * Q2 + P2 * Q1) (Q1 * Q2) = N0 at *
  generalize dn (P1 * Q2 + P2 * Q1) (Q1 * Q2) = D0 at *
  generalize nm (P2 * Q3 + P3 * Q2) (Q2 * Q3) = N1 at *
  generalize dn (P2 * Q3 + P3 * Q2) (Q2 * Q3) = D1 at *
  refine low_eq (by simp_all) (by simp_all) ?_
  apply Int.eq_of_mul_eq_mul_right (show Q1 * Q2 * Q3 ≠ 0 from (Int.mul_ne_zero (Int.mul_ne_zero h1 h2) h3))
  grind

theorem fld_mula {P1 Q1 P2 Q2 P3 Q3 : Int} (h1 : Q1 ≠ 0) (h2 : Q2 ≠ 0) (h3 : Q3 ≠ 0) : nm (tp (nm (P1 * P2) (Q1 * Q2)) (dn (P1 * P2) (Q1 * Q2)) * P3) (tq (dn (P1 * P2) (Q1 * Q2)) * Q3) = nm (P1 * tp (nm (P2 * P3) (Q2 * Q3)) (dn (P2 * P3) (Q2 * Q3))) (Q1 * tq (dn (P2 * P3) (Q2 * Q3))) ∧ dn (tp (nm (P1 * P2) (Q1 * Q2)) (dn (P1 * P2) (Q1 * Q2)) * P3) (tq (dn (P1 * P2) (Q1 * Q2)) * Q3) = dn (P1 * tp (nm (P2 * P3) (Q2 * Q3)) (dn (P2 * P3) (Q2 * Q3))) (Q1 * tq (dn (P2 * P3) (Q2 * Q3))) := by
  have b0 : Q1 * Q2 ≠ 0 := (Int.mul_ne_zero h1 h2)
  have c0 := low_cross (P1 * P2) b0
  have d0 := dn_ne (P1 * P2) b0
  rw [tp_low (P1 * P2) b0, tq_low (P1 * P2) b0]
  have b1 : Q2 * Q3 ≠ 0 := (Int.mul_ne_zero h2 h3)
  have c1 := low_cross (P2 * P3) b1
  have d1 := dn_ne (P2 * P3) b1
  rw [tp_low (P2 * P3) b1, tq_low (P2 * P3) b1]
  generalize nm (P1 * P2) (Q1 * Q2) = N0 at *
  generalize dn (P1 * P2) (Q1 * Q2) = D0 at *
  generalize nm (P2 * P3) (Q2 * Q3) = N1 at *
  generalize dn (P2 * P3) (Q2 * Q3) = D1 at *
  refine low_eq (by simp_all) (by simp_all) ?_
  apply Int.eq_of_mul_eq_mul_right (show Q1 * Q2 * Q3 ≠ 0 from (Int.mul_ne_zero (Int.mul_ne_zero h1 h2) h3))
  grind

theorem fld_dist {P1 Q1 P2 Q2 P3 Q3 : Int} (h1 : Q1 ≠ 0) (h2 : Q2 ≠ 0) (h3 : Q3 ≠ 0) : nm (P1 * tp (nm (P2 * Q3 + P3 * Q2) (Q2 * Q3)) (dn (P2 * Q3 + P3 * Q2) (Q2 * Q3))) (Q1 * tq (dn (P2 * Q3 + P3 * Q2) (Q2 * Q3))) = nm (tp (nm (P1 * P2) (Q1 * Q2)) (dn (P1 * P2) (Q1 * Q2)) * tq (dn (P1 * P3) (Q1 * Q3)) + tp (nm (P1 * P3) (Q1 * Q3)) (dn (P1 * P3) (Q1 * Q3)) * tq (dn (P1 * P2) (Q1 * Q2))) (tq (dn (P1 * P2) (Q1 * Q2)) * tq (dn (P1 * P3) (Q1 * Q3))) ∧ dn (P1 * tp (nm (P2 * Q3 + P3 * Q2) (Q2 * Q3)) (dn (P2 * Q3 + P3 * Q2) (Q2 * Q3))) (Q1 * tq (dn (P2 * Q3 + P3 * Q2) (Q2 * Q3))) = dn (tp (nm (P1 * P2) (Q1 * Q2)) (dn (P1 * P2) (Q1 * Q2)) * tq (dn (P1 * P3) (Q1 * Q3)) + tp (nm (P1 * P3) (Q1 * Q3)) (dn (P1 * P3) (Q1 * Q3)) * tq (dn (P1 * P2) (Q1 * Q2))) (tq (dn (P1 * P2) (Q1 * Q2)) * tq (dn (P1 * P3) (Q1 * Q3))) := by
  have b0 : Q2 * Q3 ≠ 0 := (Int.mul_ne_zero h2 h3)
  have c0 := low_cross (P2 * Q3 + P3 * Q2) b0
  have d0 := dn_ne (P2 * Q3 + P3 * Q2) b0
  rw [tp_low (P2 * Q3 + P3 * Q2) b0, tq_low (P2 * Q3 + P3 * Q2) b0]
  have b1 : Q1 * Q2 ≠ 0 := (Int.mul_ne_zero h1 h2)
  have c1 := low_cross (P1 * P2) b1
  have d1 := dn_ne (P1 * P2) b1
  rw [tp_low (P1 * P2) b1, tq_low (P1 * P2) b1]
  have b2 : Q1 * Q3 ≠ 0 := (Int.mul_ne_zero h1 h3)
  have c2 := low_cross (P1 * P3) b2
  have d2 := dn_ne (P1 * P3) b2
  rw [tp_low (P1 * P3) b2, tq_low (P1 * P3) b2]
  generalize nm (P2 * Q3 + P3 * Q2) (Q2 * Q3) = N0 at *
  generalize dn (P2 * Q3 + P3 * Q2) (Q2 * Q3) = D0 at *
  generalize nm (P1 * P2) (Q1 * Q2) = N1 at *
  generalize dn (P1 * P2) (Q1 * Q2) = D1 at *
  generalize nm (P1 * P3) (Q1 * Q3) = N2 at *
  generalize dn (P1 * P3) (Q1 * Q3) = D2 at *
  refine low_eq (by simp_all) (by simp_all) ?_
  apply Int.eq_of_mul_eq_mul_right (show Q1 * Q2 * Q3 * Q1 ≠ 0 from (Int.mul_ne_zero (Int.mul_ne_zero (Int.mul_ne_zero h1 h2) h3) h1))
  grind

theorem fld_sub {P1 Q1 P2 Q2 : Int} (h1 : Q1 ≠ 0) (h2 : Q2 ≠ 0) : nm (tp (nm (P1 * Q2 + P2 * Q1) (Q1 * Q2)) (dn (P1 * Q2 + P2 * Q1) (Q1 * Q2)) * Q2 - P2 * tq (dn (P1 * Q2 + P2 * Q1) (Q1 * Q2))) (tq (dn (P1 * Q2 + P2 * Q1) (Q1 * Q2)) * Q2) = nm (P1) (Q1) ∧ dn (tp (nm (P1 * Q2 + P2 * Q1) (Q1 * Q2)) (dn (P1 * Q2 + P2 * Q1) (Q1 * Q2)) * Q2 - P2 * tq (dn (P1 * Q2 + P2 * Q1) (Q1 * Q2))) (tq (dn (P1 * Q2 + P2 * Q1) (Q1 * Q2)) * Q2) = dn (P1) (Q1) := by
  have b0 : Q1 * Q2 ≠ 0 := (Int.mul_ne_zero h1 h2)
  have c0 := low_cross (P1 * Q2 + P2 * Q1) b0
  have d0 := dn_ne (P1 * Q2 + P2 * Q1) b0
  rw [tp_low (P1 * Q2 + P2 * Q1) b0, tq_low (P1 * Q2 + P2 * Q1) b0]
  generalize nm (P1 * Q2 + P2 * Q1) (Q1 * Q2) = N0 at *
  generalize dn (P1 * Q2 + P2 * Q1) (Q1 * Q2) = D0 at *
  refine low_eq (by simp_all) (by simp_all) ?_
  apply Int.eq_of_mul_eq_mul_right (show Q1 * Q2 ≠ 0 from (Int.mul_ne_zero h1 h2))
  grind

theorem fld_div {P1 Q1 P2 Q2 : Int} (h1 : Q1 ≠ 0) (h2 : Q2 ≠ 0) (hp : P2 ≠ 0) : nm (tp (nm (P1 * P2) (Q1 * Q2)) (dn (P1 * P2) (Q1 * Q2)) * Q2) (tq (dn (P1 * P2) (Q1 * Q2)) * P2) = nm (P1) (Q1) ∧ dn (tp (nm (P1 * P2) (Q1 * Q2)) (dn (P1 * P2) (Q1 * Q2)) * Q2) (tq (dn (P1 * P2) (Q1 * Q2)) * P2) = dn (P1) (Q1) := by
  have b0 : Q1 * Q2 ≠ 0 := (Int.mul_ne_zero h1 h2)
  have c0 := low_cross (P1 * P2) b0
  have d0 := dn_ne (P1 * P2) b0
  rw [tp_low (P1 * P2) b0, tq_low (P1 * P2) b0]
  generalize nm (P1 * P2) (Q1 * Q2) = N0 at *
  generalize dn (P1 * P2) (Q1 * Q2) = D0 at *
  refine low_eq (by simp_all) (by simp_all) ?_
  apply Int.eq_of_mul_eq_mul_right (show Q1 * Q2 ≠ 0 from (Int.mul_ne_zero h1 h2))
  grind

theorem fld_neg {P1 Q1 : Int} (h1 : Q1 ≠ 0) : Int.sign (tp (nm (P1 * tq (dn (-(P1)) (Q1)) + tp (nm (-(P1)) (Q1)) (dn (-(P1)) (Q1)) * Q1) (Q1 * tq (dn (-(P1)) (Q1)))) (dn (P1 * tq (dn (-(P1)) (Q1)) + tp (nm (-(P1)) (Q1)) (dn (-(P1)) (Q1)) * Q1) (Q1 * tq (dn (-(P1)) (Q1))))) = 0 := by
  have c0 := low_cross (-P1) h1
  have d0 := dn_ne (-P1) h1
  rw [tp_low (-P1) h1, tq_low (-P1) h1]
  generalize nm (-P1) Q1 = N0 at *
  generalize dn (-P1) Q1 = D0 at *
  have b : Q1 * D0 ≠ 0 := Int.mul_ne_zero h1 d0
  rw [tp_low _ b]
  have e : P1 * D0 + N0 * Q1 = 0 := by grind
  rw [e]
  simp [nm]

end Lm
end Go.Proofs.Ytkdcgnooeojjgab

namespace Go.Proofs.Ytkdcgnooeojjgab
namespace Lm
open Go Go.RowKit

theorem op_neqz {dst : Option Tmp} {ty : TypeId} {pos : String} {after : Array Edge} {guard : Option (Nat × Bool)} {a : Act} {w : World} {i : Nat} {u : Int} (h1 : a.eval (.tmp i) = .int .i64 u) (h : u = 0) :
    Does Try.prog { dst, op := .binOp .neq 3 (.tmp i) (.const (.int .i64 0)) 3, type := ty, pos, after, guard } a.eval w fun v' w' => Below w.heap.size w w' ∧ Eqs (.bool false) v' w' :=
  (op_neqk h1).mono (fun v w' ⟨hb, e⟩ => ⟨hb, by rw [Eqs, show v = _ from e]; simp [h]⟩)

set_option maxRecDepth 20000 in
set_option maxHeartbeats 4000000 in
theorem rfield_law (w : World) (nr : Bool) (ar : Option Addr) (mr cr : Nat) (rs : List Int) (pr : Int) (br : Option Addr) (kr dr : Nat) (rt : List Int) (qr : Int) (nu : Bool) (au : Option Addr) (mu cu : Nat) (us : List Int) (pu : Int) (bu : Option Addr) (ku du : Nat) (ut : List Int) (qu : Int) (nv : Bool) (av : Option Addr) (mv cv : Nat) (vs : List Int) (pv : Int) (bv : Option Addr) (kv dv : Nat) (vt : List Int) (qv : Int) (Ar : Ag w nr ar mr cr rs pr) (Sr : Sl w (.slice br kr dr) rt) (Vr : val rt = qr) (Au : Ag w nu au mu cu us pu) (Su : Sl w (.slice bu ku du) ut) (Vu : val ut = qu) (Av : Ag w nv av mv cv vs pv) (Sv : Sl w (.slice bv kv dv) vt) (Vv : val vt = qv) (gr : mr ≤ 35184372088832) (jr : kr ≤ 35184372088832) (gu : mu ≤ 35184372088832) (ju : ku ≤ 35184372088832) (gv : mv ≤ 35184372088832) (jv : kv ≤ 35184372088832) :
    Calls Try.prog 5 #[.agg #[.bool nr, .slice ar mr cr, .slice br kr dr], .agg #[.bool nu, .slice au mu cu, .slice bu ku du], .agg #[.bool nv, .slice av mv cv, .slice bv kv dv]] w fun e w' => e = .returned (.bool true) ∧ Below w.heap.size w w' := by
  go_enter Try.func5, Try.ntmps5
  generalize hA : (Act.mk _ _) = aa
  have hn : aa.tmps.size = 119 := by rw [← hA]; rfl
  have hd : aa.defers = [] := by rw [← hA]
  have f0 : aa.eval (.tmp 0) = .agg #[.bool nr, .slice ar mr cr, .slice br kr dr] := by rw [← hA]; rfl
  have f1 : aa.eval (.tmp 1) = .agg #[.bool nu, .slice au mu cu, .slice bu ku du] := by rw [← hA]; rfl
  have f2 : aa.eval (.tmp 2) = .agg #[.bool nv, .slice av mv cv, .slice bv kv dv] := by rw [← hA]; rfl
  clear hA
  have HB : Below w.heap.size w w := Below.refl _ _
  have Dr : Ag w false br kr dr rt qr := ⟨Sr, Vr⟩
  have Du : Ag w false bu ku du ut qu := ⟨Su, Vu⟩
  have Dv : Ag w false bv kv dv vt qv := ⟨Sv, Vv⟩
  refine wp_seq ?_
  refine region4 [some 3, some 4, some 5, some 6] [(fun _ _ => True), (fun _ _ => True), (fun _ _ => True), Eqs ((.bool false))] [⟨R3, some 0, 0, 3, .agg #[.bool nr, .slice ar mr cr, .slice br kr dr], none, []⟩, ⟨R3, some 1, 0, 4, .agg #[.bool nu, .slice au mu cu, .slice bu ku du], none, []⟩, ⟨R3, some 2, 0, 5, .agg #[.bool nv, .slice av mv cv, .slice bv kv dv], none, []⟩] [] (by kernel_rfl) hn rfl (by kernel_rfl) (by kernel_rfl) (by kernel_rfl) (by kernel_rfl) (by kernel_rfl) (by kernel_rfl) ⟨True.mono4, True.mono4, True.mono4, Eqs.mono4 _, trivial⟩ (ok_cons R3ok (ok_cons R3ok (ok_cons R3ok ok_nil))) (IsOld.all (bx := [⟨R3, some 0, 0, 3, .agg #[.bool nr, .slice ar mr cr, .slice br kr dr], none, []⟩, ⟨R3, some 1, 0, 4, .agg #[.bool nu, .slice au mu cu, .slice bu ku du], none, []⟩, ⟨R3, some 2, 0, 5, .agg #[.bool nv, .slice av mv cv, .slice bv kv dv], none, []⟩]) ⟨someNe, someNe, someNe, trivial⟩) (DisOld.all (bx := [⟨R3, some 0, 0, 3, .agg #[.bool nr, .slice ar mr cr, .slice br kr dr], none, []⟩, ⟨R3, some 1, 0, 4, .agg #[.bool nu, .slice au mu cu, .slice bu ku du], none, []⟩, ⟨R3, some 2, 0, 5, .agg #[.bool nv, .slice av mv cv, .slice bv kv dv], none, []⟩]) ⟨someNe, someNe, someNe, trivial⟩) ?_ ?_
  · exact ⟨.alloc 0 _ rfl rfl (.inr ⟨_, rfl, r3_cs, fun a_ hR => (hR 0 rfl).trans f0⟩) rfl rfl rfl rfl rfl,
      .alloc 1 _ rfl rfl (.inr ⟨_, rfl, r3_cs, fun a_ hR => (hR 1 rfl).trans f1⟩) rfl rfl rfl rfl rfl,
      .alloc 2 _ rfl rfl (.inr ⟨_, rfl, r3_cs, fun a_ hR => (hR 2 rfl).trans f2⟩) rfl rfl rfl rfl rfl,
      .norm 6 rfl rfl rfl (fun a_ w_ hn_ hBt hr hR hD hO hS => op_assign rfl),
      trivial⟩
  · intro a1 w1 gs1 hn1 hd1 hBt hr hR hP hX hU
    replace hn := hn1; replace hd := hd1.trans hd
    have b3 : BoxV R3 w1 (gs1 0) (.agg #[.bool nr, .slice ar mr cr, .slice br kr dr]) := (hX 0 _ rfl).2.2.2
    have f3 := (hX 0 _ rfl).1
    have u3 : w.heap.size ≤ gs1 0 := Nat.le_trans HB.size ((hX 0 _ rfl).2.2.1 (by simp))
    have b4 : BoxV R3 w1 (gs1 1) (.agg #[.bool nu, .slice au mu cu, .slice bu ku du]) := (hX 1 _ rfl).2.2.2
    have f4 := (hX 1 _ rfl).1
    have u4 : w.heap.size ≤ gs1 1 := Nat.le_trans HB.size ((hX 1 _ rfl).2.2.1 (by simp))
    have b5 : BoxV R3 w1 (gs1 2) (.agg #[.bool nv, .slice av mv cv, .slice bv kv dv]) := (hX 2 _ rfl).2.2.2
    have f5 := (hX 2 _ rfl).1
    have u5 : w.heap.size ≤ gs1 2 := Nat.le_trans HB.size ((hX 2 _ rfl).2.2.1 (by simp))
    have e6 : a1.eval (.tmp 6) = (.bool false) := hP 3 (by decide)
    have f6 := e6
    replace Ar := Ar.rl hr
    replace Sr := Sr.rl hr
    replace Dr := Dr.rl hr
    replace Au := Au.rl hr
    replace Su := Su.rl hr
    replace Du := Du.rl hr
    replace Av := Av.rl hr
    replace Sv := Sv.rl hr
    replace Dv := Dv.rl hr
    replace HB := HB.trans (hBt.below HB.size (UpOld.all (bx := [⟨R3, some 0, 0, 3, .agg #[.bool nr, .slice ar mr cr, .slice br kr dr], none, []⟩, ⟨R3, some 1, 0, 4, .agg #[.bool nu, .slice au mu cu, .slice bu ku du], none, []⟩, ⟨R3, some 2, 0, 5, .agg #[.bool nv, .slice av mv cv, .slice bv kv dv], none, []⟩]) ⟨someNe, someNe, someNe, trivial⟩))
    clear hBt hr hR hP hX hU
    refine wp_seq ?_
    refine wp_seq ?_
    refine region4 [some 11, some 12] [Eqs (.bool true), Eqs (.bool false)] [] [] (by kernel_rfl) hn rfl (by kernel_rfl) (by kernel_rfl) (by kernel_rfl) (by kernel_rfl) (by kernel_rfl) (by kernel_rfl) ⟨Eqs.mono4 _, Eqs.mono4 _, trivial⟩ ok_nil (IsOld.all (bx := []) trivial) (DisOld.all (bx := []) trivial) ?_ ?_
    · exact ⟨.norm 11 rfl rfl rfl (fun a_ w_ hn_ hBt hr hR hD hO hS => op_rawake),
        .norm 12 rfl rfl rfl (fun a_ w_ hn_ hBt hr hR hD hO hS => op_not (show a_.eval (.tmp 11) = .bool true from hD 0 rfl)),
        trivial⟩
    · intro a2 w2 gs2 hn2 hd2 hBt hr hR hP hX hU
      replace hn := hn2; replace hd := hd2.trans hd
      replace b3 := b3.keep hBt trivial
      replace b4 := b4.keep hBt trivial
      replace b5 := b5.keep hBt trivial
      replace f3 := (hR 3 rfl).trans f3
      replace f4 := (hR 4 rfl).trans f4
      replace f5 := (hR 5 rfl).trans f5
      replace f6 := (hR 6 rfl).trans f6
      have e12 : a2.eval (.tmp 12) = .bool false := hP 1 (by decide)
      have f12 := e12
      replace Ar := Ar.rl hr
      replace Sr := Sr.rl hr
      replace Dr := Dr.rl hr
      replace Au := Au.rl hr
      replace Su := Su.rl hr
      replace Du := Du.rl hr
      replace Av := Av.rl hr
      replace Sv := Sv.rl hr
      replace Dv := Dv.rl hr
      replace HB := HB.trans (hBt.below HB.size (UpOld.all (bx := []) trivial))
      clear hBt hr hR hP hX hU
      refine wp_cond_false f12 ?_
      refine wp_skip ?_
      refine wp_seq ?_
      refine wp_seq ?_
      refine region4 [some 13, some 14, some 15, some 16, some 17, some 18, some 19, some 20, some 21] [Eqs (.agg #[.bool nr, .slice ar mr cr, .slice br kr dr]), Eqs (.int .i64 (1 + (mr : Int) + (kr : Int))), Eqs (.agg #[.bool nu, .slice au mu cu, .slice bu ku du]), Eqs (.int .i64 (1 + (mu : Int) + (ku : Int))), Eqs (.int .i64 ((1 + (mr : Int) + (kr : Int)) + (1 + (mu : Int) + (ku : Int)))), Eqs (.agg #[.bool nv, .slice av mv cv, .slice bv kv dv]), Eqs (.int .i64 (1 + (mv : Int) + (kv : Int))), Eqs (.int .i64 (((1 + (mr : Int) + (kr : Int)) + (1 + (mu : Int) + (ku : Int))) + (1 + (mv : Int) + (kv : Int)))), Eqs (.bool (decide (1500 < (((1 + (mr : Int) + (kr : Int)) + (1 + (mu : Int) + (ku : Int))) + (1 + (mv : Int) + (kv : Int))))))] [] [] (by kernel_rfl) hn rfl (by kernel_rfl) (by kernel_rfl) (by kernel_rfl) (by kernel_rfl) (by kernel_rfl) (by kernel_rfl) ⟨Eqs.mono4 _, Eqs.mono4 _, Eqs.mono4 _, Eqs.mono4 _, Eqs.mono4 _, Eqs.mono4 _, Eqs.mono4 _, Eqs.mono4 _, Eqs.mono4 _, trivial⟩ ok_nil (IsOld.all (bx := []) trivial) (DisOld.all (bx := []) trivial) ?_ ?_
      · exact ⟨.norm 13 rfl rfl rfl (fun a_ w_ hn_ hBt hr hR hD hO hS => op_loadv R3ok ((hR 3 rfl).trans f3) (b3.keep hBt trivial)),
          .norm 14 rfl rfl rfl (fun a_ w_ hn_ hBt hr hR hD hO hS => op_rlen (show a_.eval (.tmp 13) = .agg #[.bool nr, .slice ar mr cr, .slice br kr dr] from hD 0 rfl) (by omega) (by omega)),
          .norm 15 rfl rfl rfl (fun a_ w_ hn_ hBt hr hR hD hO hS => op_loadv R3ok ((hR 4 rfl).trans f4) (b4.keep hBt trivial)),
          .norm 16 rfl rfl rfl (fun a_ w_ hn_ hBt hr hR hD hO hS => op_rlen (show a_.eval (.tmp 15) = .agg #[.bool nu, .slice au mu cu, .slice bu ku du] from hD 2 rfl) (by omega) (by omega)),
          .norm 17 rfl rfl rfl (fun a_ w_ hn_ hBt hr hR hD hO hS => op_plus (show a_.eval (.tmp 14) = .int .i64 (1 + (mr : Int) + (kr : Int)) from hD 1 rfl) (show a_.eval (.tmp 16) = .int .i64 (1 + (mu : Int) + (ku : Int)) from hD 3 rfl) (by omega)),
          .norm 18 rfl rfl rfl (fun a_ w_ hn_ hBt hr hR hD hO hS => op_loadv R3ok ((hR 5 rfl).trans f5) (b5.keep hBt trivial)),
          .norm 19 rfl rfl rfl (fun a_ w_ hn_ hBt hr hR hD hO hS => op_rlen (show a_.eval (.tmp 18) = .agg #[.bool nv, .slice av mv cv, .slice bv kv dv] from hD 5 rfl) (by omega) (by omega)),
          .norm 20 rfl rfl rfl (fun a_ w_ hn_ hBt hr hR hD hO hS => op_plus (show a_.eval (.tmp 17) = .int .i64 ((1 + (mr : Int) + (kr : Int)) + (1 + (mu : Int) + (ku : Int))) from hD 4 rfl) (show a_.eval (.tmp 19) = .int .i64 (1 + (mv : Int) + (kv : Int)) from hD 6 rfl) (by omega)),
          .norm 21 rfl rfl rfl (fun a_ w_ hn_ hBt hr hR hD hO hS => op_gtrk (show a_.eval (.tmp 20) = .int .i64 (((1 + (mr : Int) + (kr : Int)) + (1 + (mu : Int) + (ku : Int))) + (1 + (mv : Int) + (kv : Int))) from hD 7 rfl)),
          trivial⟩
      · intro a3 w3 gs3 hn3 hd3 hBt hr hR hP hX hU
        replace hn := hn3; replace hd := hd3.trans hd
        replace b3 := b3.keep hBt trivial
        replace b4 := b4.keep hBt trivial
        replace b5 := b5.keep hBt trivial
        replace f3 := (hR 3 rfl).trans f3
        replace f4 := (hR 4 rfl).trans f4
        replace f5 := (hR 5 rfl).trans f5
        replace f6 := (hR 6 rfl).trans f6
        have e21 : a3.eval (.tmp 21) = .bool (decide (1500 < (((1 + (mr : Int) + (kr : Int)) + (1 + (mu : Int) + (ku : Int))) + (1 + (mv : Int) + (kv : Int))))) := hP 8 (by decide)
        have f21 := e21
        replace Ar := Ar.rl hr
        replace Sr := Sr.rl hr
        replace Dr := Dr.rl hr
        replace Au := Au.rl hr
        replace Su := Su.rl hr
        replace Du := Du.rl hr
        replace Av := Av.rl hr
        replace Sv := Sv.rl hr
        replace Dv := Dv.rl hr
        replace HB := HB.trans (hBt.below HB.size (UpOld.all (bx := []) trivial))
        clear hBt hr hR hP hX hU
        refine wp_cond_split f21 (fun hc21 => ?_) (fun hc21 => ?_)
        · skip
          refine wp_seq ?_
          refine region4 [some 6] [Eqs ((.bool true))] [] [] (by kernel_rfl) hn rfl (by kernel_rfl) (by kernel_rfl) (by kernel_rfl) (by kernel_rfl) (by kernel_rfl) (by kernel_rfl) ⟨Eqs.mono4 _, trivial⟩ ok_nil (IsOld.all (bx := []) trivial) (DisOld.all (bx := []) trivial) ?_ ?_
          · exact ⟨.norm 6 rfl rfl rfl (fun a_ w_ hn_ hBt hr hR hD hO hS => op_assign rfl),
              trivial⟩
          · intro a4 w4 gs4 hn4 hd4 hBt hr hR hP hX hU
            replace hn := hn4; replace hd := hd4.trans hd
            replace b3 := b3.keep hBt trivial
            replace b4 := b4.keep hBt trivial
            replace b5 := b5.keep hBt trivial
            replace f3 := (hR 3 rfl).trans f3
            replace f4 := (hR 4 rfl).trans f4
            replace f5 := (hR 5 rfl).trans f5
            have e6 : a4.eval (.tmp 6) = (.bool true) := hP 0 (by decide)
            have f6 := e6
            replace Ar := Ar.rl hr
            replace Sr := Sr.rl hr
            replace Dr := Dr.rl hr
            replace Au := Au.rl hr
            replace Su := Su.rl hr
            replace Du := Du.rl hr
            replace Av := Av.rl hr
            replace Sv := Sv.rl hr
            replace Dv := Dv.rl hr
            replace HB := HB.trans (hBt.below HB.size (UpOld.all (bx := []) trivial))
            clear hBt hr hR hP hX hU
            refine wp_ret ?_
            repeat (first | refine then_ret ?_ | refine scope_ret ?_ | refine block_ret ?_)
            exact bodyPost_ret (v := .bool true) (res_t rfl f6) hd ⟨rfl, HB⟩
        · skip
          have hlen := of_decide_eq_false hc21
          have or := Ar.sl.parts.1; have Lr : rs.length ≤ 1500 := by omega
          have yr := Sr.parts.1; have Mr : rt.length ≤ 1500 := by omega
          have ou := Au.sl.parts.1; have Lu : us.length ≤ 1500 := by omega
          have yu := Su.parts.1; have Mu : ut.length ≤ 1500 := by omega
          have ov := Av.sl.parts.1; have Lv : vs.length ≤ 1500 := by omega
          have yv := Sv.parts.1; have Mv : vt.length ≤ 1500 := by omega
          refine wp_skip ?_
          refine wp_seq ?_
          refine region4 [some 22, some 23, some 24, some 7, none] [Eqs (.agg #[.bool nr, .slice ar mr cr, .slice br kr dr]), Eqs (.agg #[.bool nu, .slice au mu cu, .slice bu ku du]), OutR ((nm (tp pr qr * tq qu + tp pu qu * tq qr) (tq qr * tq qu))) ((dn (tp pr qr * tq qu + tp pu qu * tq qr) (tq qr * tq qu))) (3 * ((1500) + (1500) + 4) + 1), (fun _ _ => True), (fun _ _ => True)] [⟨R3, some 3, 0, 7, .agg #[.bool false, .slice none 0 0, .slice none 0 0], some (4, 24, 2), []⟩] [] (by kernel_rfl) hn rfl (by kernel_rfl) (by kernel_rfl) (by kernel_rfl) (by kernel_rfl) (by kernel_rfl) (by kernel_rfl) ⟨Eqs.mono4 _, Eqs.mono4 _, OutR.mono4 _ _ _, True.mono4, True.mono4, trivial⟩ (ok_cons R3ok ok_nil) (IsOld.all (bx := [⟨R3, some 3, 0, 7, .agg #[.bool false, .slice none 0 0, .slice none 0 0], some (4, 24, 2), []⟩]) ⟨someNe, trivial⟩) (DisOld.all (bx := [⟨R3, some 3, 0, 7, .agg #[.bool false, .slice none 0 0, .slice none 0 0], some (4, 24, 2), []⟩]) ⟨someNe, trivial⟩) ?_ ?_
          · exact ⟨.norm 22 rfl rfl rfl (fun a_ w_ hn_ hBt hr hR hD hO hS => op_loadv R3ok ((hR 3 rfl).trans f3) (b3.keep hBt ⟨someNe, trivial⟩)),
              .norm 23 rfl rfl rfl (fun a_ w_ hn_ hBt hr hR hD hO hS => op_loadv R3ok ((hR 4 rfl).trans f4) (b4.keep hBt ⟨someNe, trivial⟩)),
              .norm 24 rfl rfl rfl (fun a_ w_ hn_ hBt hr hR hD hO hS => op_radd (isr_eq (show a_.eval (.tmp 22) = .agg #[.bool nr, .slice ar mr cr, .slice br kr dr] from hD 0 rfl) (Ar.rl hr) (Sr.rl hr) Vr Lr Mr) (isr_eq (show a_.eval (.tmp 23) = .agg #[.bool nu, .slice au mu cu, .slice bu ku du] from hD 1 rfl) (Au.rl hr) (Su.rl hr) Vu Lu Mu) (by omega)),
              .alloc 0 _ rfl rfl (.inl ⟨rfl, rfl⟩) rfl rfl rfl rfl rfl,
              .store 0 _ _ _ rfl rfl rfl rfl rfl rfl rfl (fun ia h => by cases h; rfl) rfl rfl rfl OutR.cs,
              trivial⟩
          · intro a5 w5 gs5 hn5 hd5 hBt hr hR hP hX hU
            replace hn := hn5; replace hd := hd5.trans hd
            replace b3 := b3.keep hBt ⟨someNe, trivial⟩
            replace b4 := b4.keep hBt ⟨someNe, trivial⟩
            replace b5 := b5.keep hBt ⟨someNe, trivial⟩
            obtain ⟨n_6, a_6, c_6, r_6, b_6, d_6, s_6, e24, G6, K6, l6, k6⟩ : OutR ((nm (tp pr qr * tq qu + tp pu qu * tq qr) (tq qr * tq qu))) ((dn (tp pr qr * tq qu + tp pu qu * tq qr) (tq qr * tq qu))) (3 * ((1500) + (1500) + 4) + 1) (a5.eval (.tmp 24)) w5 := hP 2 (by decide)
            have A6 := G6.ag; have S6 := K6.sl; have V6 := K6.val
            have b7 : BoxV R3 w5 (gs5 0) (.agg #[.bool n_6, .slice a_6 r_6.length c_6, .slice b_6 s_6.length d_6]) := boxv_of (hX 0 _ rfl).2.2.2 e24
            have f7 := (hX 0 _ rfl).1
            have u7 : w.heap.size ≤ gs5 0 := Nat.le_trans HB.size ((hX 0 _ rfl).2.2.1 (by simp))
            replace f3 := (hR 3 rfl).trans f3
            replace f4 := (hR 4 rfl).trans f4
            replace f5 := (hR 5 rfl).trans f5
            replace f6 := (hR 6 rfl).trans f6
            replace Ar := Ar.rl hr
            replace Sr := Sr.rl hr
            replace Dr := Dr.rl hr
            replace Au := Au.rl hr
            replace Su := Su.rl hr
            replace Du := Du.rl hr
            replace Av := Av.rl hr
            replace Sv := Sv.rl hr
            replace Dv := Dv.rl hr
            replace HB := HB.trans (hBt.below HB.size (UpOld.all (bx := [⟨R3, some 3, 0, 7, .agg #[.bool false, .slice none 0 0, .slice none 0 0], some (4, 24, 2), []⟩]) ⟨someNe, trivial⟩))
            clear hBt hr hR hP hX hU
            refine wp_seq ?_
            refine region4 [some 25, some 26, some 27, some 8, none] [Eqs (.agg #[.bool nr, .slice ar mr cr, .slice br kr dr]), Eqs (.agg #[.bool nu, .slice au mu cu, .slice bu ku du]), OutR ((nm (tp pr qr * tp pu qu) (tq qr * tq qu))) ((dn (tp pr qr * tp pu qu) (tq qr * tq qu))) (2 * ((1500) + (1500) + 4)), (fun _ _ => True), (fun _ _ => True)] [⟨R3, some 3, 0, 8, .agg #[.bool false, .slice none 0 0, .slice none 0 0], some (4, 27, 2), []⟩] [] (by kernel_rfl) hn rfl (by kernel_rfl) (by kernel_rfl) (by kernel_rfl) (by kernel_rfl) (by kernel_rfl) (by kernel_rfl) ⟨Eqs.mono4 _, Eqs.mono4 _, OutR.mono4 _ _ _, True.mono4, True.mono4, trivial⟩ (ok_cons R3ok ok_nil) (IsOld.all (bx := [⟨R3, some 3, 0, 8, .agg #[.bool false, .slice none 0 0, .slice none 0 0], some (4, 27, 2), []⟩]) ⟨someNe, trivial⟩) (DisOld.all (bx := [⟨R3, some 3, 0, 8, .agg #[.bool false, .slice none 0 0, .slice none 0 0], some (4, 27, 2), []⟩]) ⟨someNe, trivial⟩) ?_ ?_
            · exact ⟨.norm 25 rfl rfl rfl (fun a_ w_ hn_ hBt hr hR hD hO hS => op_loadv R3ok ((hR 3 rfl).trans f3) (b3.keep hBt ⟨someNe, trivial⟩)),
                .norm 26 rfl rfl rfl (fun a_ w_ hn_ hBt hr hR hD hO hS => op_loadv R3ok ((hR 4 rfl).trans f4) (b4.keep hBt ⟨someNe, trivial⟩)),
                .norm 27 rfl rfl rfl (fun a_ w_ hn_ hBt hr hR hD hO hS => op_rmul (isr_eq (show a_.eval (.tmp 25) = .agg #[.bool nr, .slice ar mr cr, .slice br kr dr] from hD 0 rfl) (Ar.rl hr) (Sr.rl hr) Vr Lr Mr) (isr_eq (show a_.eval (.tmp 26) = .agg #[.bool nu, .slice au mu cu, .slice bu ku du] from hD 1 rfl) (Au.rl hr) (Su.rl hr) Vu Lu Mu) (by omega)),
                .alloc 0 _ rfl rfl (.inl ⟨rfl, rfl⟩) rfl rfl rfl rfl rfl,
                .store 0 _ _ _ rfl rfl rfl rfl rfl rfl rfl (fun ia h => by cases h; rfl) rfl rfl rfl OutR.cs,
                trivial⟩
            · intro a7 w7 gs7 hn7 hd7 hBt hr hR hP hX hU
              replace hn := hn7; replace hd := hd7.trans hd
              replace b3 := b3.keep hBt ⟨someNe, trivial⟩
              replace b4 := b4.keep hBt ⟨someNe, trivial⟩
              replace b5 := b5.keep hBt ⟨someNe, trivial⟩
              replace b7 := b7.keep hBt ⟨someNe, trivial⟩
              obtain ⟨n_8, a_8, c_8, r_8, b_8, d_8, s_8, e27, G8, K8, l8, k8⟩ : OutR ((nm (tp pr qr * tp pu qu) (tq qr * tq qu))) ((dn (tp pr qr * tp pu qu) (tq qr * tq qu))) (2 * ((1500) + (1500) + 4)) (a7.eval (.tmp 27)) w7 := hP 2 (by decide)
              have A8 := G8.ag; have S8 := K8.sl; have V8 := K8.val
              have b8 : BoxV R3 w7 (gs7 0) (.agg #[.bool n_8, .slice a_8 r_8.length c_8, .slice b_8 s_8.length d_8]) := boxv_of (hX 0 _ rfl).2.2.2 e27
              have f8 := (hX 0 _ rfl).1
              have u8 : w.heap.size ≤ gs7 0 := Nat.le_trans HB.size ((hX 0 _ rfl).2.2.1 (by simp))
              replace f3 := (hR 3 rfl).trans f3
              replace f4 := (hR 4 rfl).trans f4
              replace f5 := (hR 5 rfl).trans f5
              replace f6 := (hR 6 rfl).trans f6
              replace f7 := (hR 7 rfl).trans f7
              replace Ar := Ar.rl hr
              replace Sr := Sr.rl hr
              replace Dr := Dr.rl hr
              replace Au := Au.rl hr
              replace Su := Su.rl hr
              replace Du := Du.rl hr
              replace Av := Av.rl hr
              replace Sv := Sv.rl hr
              replace Dv := Dv.rl hr
              replace G6 := G6.rl hr
              replace A6 := A6.rl hr
              replace K6 := K6.rl hr
              replace S6 := S6.rl hr
              replace HB := HB.trans (hBt.below HB.size (UpOld.all (bx := [⟨R3, some 3, 0, 8, .agg #[.bool false, .slice none 0 0, .slice none 0 0], some (4, 27, 2), []⟩]) ⟨someNe, trivial⟩))
              clear hBt hr hR hP hX hU
              refine wp_seq ?_
              refine wp_seq ?_
              refine region4 [some 28, some 29, some 30, some 31, some 32, some 33, some 34, some 35, some 36, some 37, some 38, some 39, some 40, some 41, some 42, some 43, some 44, some 45, some 46, some 47, some 48, some 49, some 50, some 51, some 52, some 53, some 54, some 55, some 56, some 57, some 58, some 59, some 60, some 61, some 62, some 63, some 64, some 65] [Eqs (.agg #[.bool n_6, .slice a_6 r_6.length c_6, .slice b_6 s_6.length d_6]), Eqs (.agg #[.bool nu, .slice au mu cu, .slice bu ku du]), Eqs (.agg #[.bool nr, .slice ar mr cr, .slice br kr dr]), OutR ((nm (tp pu qu * tq qr + tp pr qr * tq qu) (tq qu * tq qr))) ((dn (tp pu qu * tq qr + tp pr qr * tq qu) (tq qu * tq qr))) (3 * ((1500) + (1500) + 4) + 1), Eqs (.bool true), Eqs (.bool false), Eqs (.bool false), Eqs (.agg #[.bool n_8, .slice a_8 r_8.length c_8, .slice b_8 s_8.length d_8]), Eqs (.agg #[.bool nu, .slice au mu cu, .slice bu ku du]), Eqs (.agg #[.bool nr, .slice ar mr cr, .slice br kr dr]), OutR ((nm (tp pu qu * tp pr qr) (tq qu * tq qr))) ((dn (tp pu qu * tp pr qr) (tq qu * tq qr))) (2 * ((1500) + (1500) + 4)), Eqs (.bool true), Eqs (.bool false), Eqs (.bool false), Eqs (.bool false), Eqs (.agg #[.bool n_6, .slice a_6 r_6.length c_6, .slice b_6 s_6.length d_6]), Eqs (.agg #[.bool nv, .slice av mv cv, .slice bv kv dv]), OutR ((nm (tp (nm (tp pr qr * tq qu + tp pu qu * tq qr) (tq qr * tq qu)) (dn (tp pr qr * tq qu + tp pu qu * tq qr) (tq qr * tq qu)) * tq qv + tp pv qv * tq (dn (tp pr qr * tq qu + tp pu qu * tq qr) (tq qr * tq qu))) (tq (dn (tp pr qr * tq qu + tp pu qu * tq qr) (tq qr * tq qu)) * tq qv))) ((dn (tp (nm (tp pr qr * tq qu + tp pu qu * tq qr) (tq qr * tq qu)) (dn (tp pr qr * tq qu + tp pu qu * tq qr) (tq qr * tq qu)) * tq qv + tp pv qv * tq (dn (tp pr qr * tq qu + tp pu qu * tq qr) (tq qr * tq qu))) (tq (dn (tp pr qr * tq qu + tp pu qu * tq qr) (tq qr * tq qu)) * tq qv))) (3 * ((3 * ((1500) + (1500) + 4) + 1) + (1500) + 4) + 1), Eqs (.agg #[.bool nr, .slice ar mr cr, .slice br kr dr]), Eqs (.agg #[.bool nu, .slice au mu cu, .slice bu ku du]), Eqs (.agg #[.bool nv, .slice av mv cv, .slice bv kv dv]), OutR ((nm (tp pu qu * tq qv + tp pv qv * tq qu) (tq qu * tq qv))) ((dn (tp pu qu * tq qv + tp pv qv * tq qu) (tq qu * tq qv))) (3 * ((1500) + (1500) + 4) + 1), OutR ((nm (tp pr qr * tq (dn (tp pu qu * tq qv + tp pv qv * tq qu) (tq qu * tq qv)) + tp (nm (tp pu qu * tq qv + tp pv qv * tq qu) (tq qu * tq qv)) (dn (tp pu qu * tq qv + tp pv qv * tq qu) (tq qu * tq qv)) * tq qr) (tq qr * tq (dn (tp pu qu * tq qv + tp pv qv * tq qu) (tq qu * tq qv))))) ((dn (tp pr qr * tq (dn (tp pu qu * tq qv + tp pv qv * tq qu) (tq qu * tq qv)) + tp (nm (tp pu qu * tq qv + tp pv qv * tq qu) (tq qu * tq qv)) (dn (tp pu qu * tq qv + tp pv qv * tq qu) (tq qu * tq qv)) * tq qr) (tq qr * tq (dn (tp pu qu * tq qv + tp pv qv * tq qu) (tq qu * tq qv))))) (3 * ((1500) + (3 * ((1500) + (1500) + 4) + 1) + 4) + 1), Eqs (.bool true), Eqs (.bool false), Eqs (.bool false), Eqs (.bool false), Eqs (.agg #[.bool n_8, .slice a_8 r_8.length c_8, .slice b_8 s_8.length d_8]), Eqs (.agg #[.bool nv, .slice av mv cv, .slice bv kv dv]), OutR ((nm (tp (nm (tp pr qr * tp pu qu) (tq qr * tq qu)) (dn (tp pr qr * tp pu qu) (tq qr * tq qu)) * tp pv qv) (tq (dn (tp pr qr * tp pu qu) (tq qr * tq qu)) * tq qv))) ((dn (tp (nm (tp pr qr * tp pu qu) (tq qr * tq qu)) (dn (tp pr qr * tp pu qu) (tq qr * tq qu)) * tp pv qv) (tq (dn (tp pr qr * tp pu qu) (tq qr * tq qu)) * tq qv))) (2 * ((2 * ((1500) + (1500) + 4)) + (1500) + 4)), Eqs (.agg #[.bool nr, .slice ar mr cr, .slice br kr dr]), Eqs (.agg #[.bool nu, .slice au mu cu, .slice bu ku du]), Eqs (.agg #[.bool nv, .slice av mv cv, .slice bv kv dv]), OutR ((nm (tp pu qu * tp pv qv) (tq qu * tq qv))) ((dn (tp pu qu * tp pv qv) (tq qu * tq qv))) (2 * ((1500) + (1500) + 4)), OutR ((nm (tp pr qr * tp (nm (tp pu qu * tp pv qv) (tq qu * tq qv)) (dn (tp pu qu * tp pv qv) (tq qu * tq qv))) (tq qr * tq (dn (tp pu qu * tp pv qv) (tq qu * tq qv))))) ((dn (tp pr qr * tp (nm (tp pu qu * tp pv qv) (tq qu * tq qv)) (dn (tp pu qu * tp pv qv) (tq qu * tq qv))) (tq qr * tq (dn (tp pu qu * tp pv qv) (tq qu * tq qv))))) (2 * ((1500) + (2 * ((1500) + (1500) + 4)) + 4)), Eqs (.bool true), Eqs (.bool false), Eqs (.bool false)] [] [] (by kernel_rfl) hn rfl (by kernel_rfl) (by kernel_rfl) (by kernel_rfl) (by kernel_rfl) (by kernel_rfl) (by kernel_rfl) ⟨Eqs.mono4 _, Eqs.mono4 _, Eqs.mono4 _, OutR.mono4 _ _ _, Eqs.mono4 _, Eqs.mono4 _, Eqs.mono4 _, Eqs.mono4 _, Eqs.mono4 _, Eqs.mono4 _, OutR.mono4 _ _ _, Eqs.mono4 _, Eqs.mono4 _, Eqs.mono4 _, Eqs.mono4 _, Eqs.mono4 _, Eqs.mono4 _, OutR.mono4 _ _ _, Eqs.mono4 _, Eqs.mono4 _, Eqs.mono4 _, OutR.mono4 _ _ _, OutR.mono4 _ _ _, Eqs.mono4 _, Eqs.mono4 _, Eqs.mono4 _, Eqs.mono4 _, Eqs.mono4 _, Eqs.mono4 _, OutR.mono4 _ _ _, Eqs.mono4 _, Eqs.mono4 _, Eqs.mono4 _, OutR.mono4 _ _ _, OutR.mono4 _ _ _, Eqs.mono4 _, Eqs.mono4 _, Eqs.mono4 _, trivial⟩ ok_nil (IsOld.all (bx := []) trivial) (DisOld.all (bx := []) trivial) ?_ ?_
              · exact ⟨.norm 28 rfl rfl rfl (fun a_ w_ hn_ hBt hr hR hD hO hS => op_loadv R3ok ((hR 7 rfl).trans f7) (b7.keep hBt trivial)),
                  .norm 29 rfl rfl rfl (fun a_ w_ hn_ hBt hr hR hD hO hS => op_loadv R3ok ((hR 4 rfl).trans f4) (b4.keep hBt trivial)),
                  .norm 30 rfl rfl rfl (fun a_ w_ hn_ hBt hr hR hD hO hS => op_loadv R3ok ((hR 3 rfl).trans f3) (b3.keep hBt trivial)),
                  .norm 31 rfl rfl rfl (fun a_ w_ hn_ hBt hr hR hD hO hS => op_radd (isr_eq (show a_.eval (.tmp 29) = .agg #[.bool nu, .slice au mu cu, .slice bu ku du] from hD 1 rfl) (Au.rl hr) (Su.rl hr) Vu Lu Mu) (isr_eq (show a_.eval (.tmp 30) = .agg #[.bool nr, .slice ar mr cr, .slice br kr dr] from hD 2 rfl) (Ar.rl hr) (Sr.rl hr) Vr Lr Mr) (by omega)),
                  .norm 32 rfl rfl rfl (fun a_ w_ hn_ hBt hr hR hD hO hS => op_samer (outr_eq (show a_.eval (.tmp 28) = .agg #[.bool n_6, .slice a_6 r_6.length c_6, .slice b_6 s_6.length d_6] from hD 0 rfl) (G6.rl hr) (K6.rl hr) l6 k6) (show OutR ((nm (tp pu qu * tq qr + tp pr qr * tq qu) (tq qu * tq qr))) ((dn (tp pu qu * tq qr + tp pr qr * tq qu) (tq qu * tq qr))) (3 * ((1500) + (1500) + 4) + 1) (a_.eval (.tmp 31)) w_ from hD 3 rfl) (fld_addc (tq_ne _) (tq_ne _))),
                  .norm 33 rfl rfl rfl (fun a_ w_ hn_ hBt hr hR hD hO hS => op_not (show a_.eval (.tmp 32) = .bool true from hD 4 rfl)),
                  .norm 34 rfl rfl rfl (fun a_ w_ hn_ hBt hr hR hD hO hS => op_mv (show a_.eval (.tmp 33) = .bool false from hD 5 rfl)),
                  .norm 35 rfl rfl rfl (fun a_ w_ hn_ hBt hr hR hD hO hS => ⟨⟨_, rfl⟩, fun _ => op_loadv R3ok ((hR 8 rfl).trans f8) (b8.keep hBt trivial), fun hne => absurd (hD 6 rfl) hne⟩),
                  .norm 36 rfl rfl rfl (fun a_ w_ hn_ hBt hr hR hD hO hS => ⟨⟨_, rfl⟩, fun _ => op_loadv R3ok ((hR 4 rfl).trans f4) (b4.keep hBt trivial), fun hne => absurd (hD 6 rfl) hne⟩),
                  .norm 37 rfl rfl rfl (fun a_ w_ hn_ hBt hr hR hD hO hS => ⟨⟨_, rfl⟩, fun _ => op_loadv R3ok ((hR 3 rfl).trans f3) (b3.keep hBt trivial), fun hne => absurd (hD 6 rfl) hne⟩),
                  .norm 38 rfl rfl rfl (fun a_ w_ hn_ hBt hr hR hD hO hS => ⟨⟨_, rfl⟩, fun _ => op_rmul (isr_eq (show a_.eval (.tmp 36) = .agg #[.bool nu, .slice au mu cu, .slice bu ku du] from hD 8 rfl) (Au.rl hr) (Su.rl hr) Vu Lu Mu) (isr_eq (show a_.eval (.tmp 37) = .agg #[.bool nr, .slice ar mr cr, .slice br kr dr] from hD 9 rfl) (Ar.rl hr) (Sr.rl hr) Vr Lr Mr) (by omega), fun hne => absurd (hD 6 rfl) hne⟩),
                  .norm 39 rfl rfl rfl (fun a_ w_ hn_ hBt hr hR hD hO hS => ⟨⟨_, rfl⟩, fun _ => op_samer (outr_eq (show a_.eval (.tmp 35) = .agg #[.bool n_8, .slice a_8 r_8.length c_8, .slice b_8 s_8.length d_8] from hD 7 rfl) (G8.rl hr) (K8.rl hr) l8 k8) (show OutR ((nm (tp pu qu * tp pr qr) (tq qu * tq qr))) ((dn (tp pu qu * tp pr qr) (tq qu * tq qr))) (2 * ((1500) + (1500) + 4)) (a_.eval (.tmp 38)) w_ from hD 10 rfl) (fld_mulc (tq_ne _) (tq_ne _)), fun hne => absurd (hD 6 rfl) hne⟩),
                  .norm 40 rfl rfl rfl (fun a_ w_ hn_ hBt hr hR hD hO hS => ⟨⟨_, rfl⟩, fun _ => op_not (show a_.eval (.tmp 39) = .bool true from hD 11 rfl), fun hne => absurd (hD 6 rfl) hne⟩),
                  .norm 41 rfl rfl rfl (fun a_ w_ hn_ hBt hr hR hD hO hS => op_pickb (show a_.eval (.tmp 34) = .bool false from hD 6 rfl) (show a_.eval (.tmp 40) = .bool false from hD 12 rfl)),
                  .norm 42 rfl rfl rfl (fun a_ w_ hn_ hBt hr hR hD hO hS => op_mv (show a_.eval (.tmp 41) = .bool false from hD 13 rfl)),
                  .norm 43 rfl rfl rfl (fun a_ w_ hn_ hBt hr hR hD hO hS => ⟨⟨_, rfl⟩, fun _ => op_loadv R3ok ((hR 7 rfl).trans f7) (b7.keep hBt trivial), fun hne => absurd (hD 14 rfl) hne⟩),
                  .norm 44 rfl rfl rfl (fun a_ w_ hn_ hBt hr hR hD hO hS => ⟨⟨_, rfl⟩, fun _ => op_loadv R3ok ((hR 5 rfl).trans f5) (b5.keep hBt trivial), fun hne => absurd (hD 14 rfl) hne⟩),
                  .norm 45 rfl rfl rfl (fun a_ w_ hn_ hBt hr hR hD hO hS => ⟨⟨_, rfl⟩, fun _ => op_radd (isr_eq (show a_.eval (.tmp 43) = .agg #[.bool n_6, .slice a_6 r_6.length c_6, .slice b_6 s_6.length d_6] from hD 15 rfl) (A6.rl hr) (S6.rl hr) V6 l6 k6) (isr_eq (show a_.eval (.tmp 44) = .agg #[.bool nv, .slice av mv cv, .slice bv kv dv] from hD 16 rfl) (Av.rl hr) (Sv.rl hr) Vv Lv Mv) (by omega), fun hne => absurd (hD 14 rfl) hne⟩),
                  .norm 46 rfl rfl rfl (fun a_ w_ hn_ hBt hr hR hD hO hS => ⟨⟨_, rfl⟩, fun _ => op_loadv R3ok ((hR 3 rfl).trans f3) (b3.keep hBt trivial), fun hne => absurd (hD 14 rfl) hne⟩),
                  .norm 47 rfl rfl rfl (fun a_ w_ hn_ hBt hr hR hD hO hS => ⟨⟨_, rfl⟩, fun _ => op_loadv R3ok ((hR 4 rfl).trans f4) (b4.keep hBt trivial), fun hne => absurd (hD 14 rfl) hne⟩),
                  .norm 48 rfl rfl rfl (fun a_ w_ hn_ hBt hr hR hD hO hS => ⟨⟨_, rfl⟩, fun _ => op_loadv R3ok ((hR 5 rfl).trans f5) (b5.keep hBt trivial), fun hne => absurd (hD 14 rfl) hne⟩),
                  .norm 49 rfl rfl rfl (fun a_ w_ hn_ hBt hr hR hD hO hS => ⟨⟨_, rfl⟩, fun _ => op_radd (isr_eq (show a_.eval (.tmp 47) = .agg #[.bool nu, .slice au mu cu, .slice bu ku du] from hD 19 rfl) (Au.rl hr) (Su.rl hr) Vu Lu Mu) (isr_eq (show a_.eval (.tmp 48) = .agg #[.bool nv, .slice av mv cv, .slice bv kv dv] from hD 20 rfl) (Av.rl hr) (Sv.rl hr) Vv Lv Mv) (by omega), fun hne => absurd (hD 14 rfl) hne⟩),
                  .norm 50 rfl rfl rfl (fun a_ w_ hn_ hBt hr hR hD hO hS => ⟨⟨_, rfl⟩, fun _ => op_radd (isr_eq (show a_.eval (.tmp 46) = .agg #[.bool nr, .slice ar mr cr, .slice br kr dr] from hD 18 rfl) (Ar.rl hr) (Sr.rl hr) Vr Lr Mr) (show OutR ((nm (tp pu qu * tq qv + tp pv qv * tq qu) (tq qu * tq qv))) ((dn (tp pu qu * tq qv + tp pv qv * tq qu) (tq qu * tq qv))) (3 * ((1500) + (1500) + 4) + 1) (a_.eval (.tmp 49)) w_ from hD 21 rfl).is (by omega), fun hne => absurd (hD 14 rfl) hne⟩),
                  .norm 51 rfl rfl rfl (fun a_ w_ hn_ hBt hr hR hD hO hS => ⟨⟨_, rfl⟩, fun _ => op_samer (show OutR ((nm (tp (nm (tp pr qr * tq qu + tp pu qu * tq qr) (tq qr * tq qu)) (dn (tp pr qr * tq qu + tp pu qu * tq qr) (tq qr * tq qu)) * tq qv + tp pv qv * tq (dn (tp pr qr * tq qu + tp pu qu * tq qr) (tq qr * tq qu))) (tq (dn (tp pr qr * tq qu + tp pu qu * tq qr) (tq qr * tq qu)) * tq qv))) ((dn (tp (nm (tp pr qr * tq qu + tp pu qu * tq qr) (tq qr * tq qu)) (dn (tp pr qr * tq qu + tp pu qu * tq qr) (tq qr * tq qu)) * tq qv + tp pv qv * tq (dn (tp pr qr * tq qu + tp pu qu * tq qr) (tq qr * tq qu))) (tq (dn (tp pr qr * tq qu + tp pu qu * tq qr) (tq qr * tq qu)) * tq qv))) (3 * ((3 * ((1500) + (1500) + 4) + 1) + (1500) + 4) + 1) (a_.eval (.tmp 45)) w_ from hD 17 rfl) (show OutR ((nm (tp pr qr * tq (dn (tp pu qu * tq qv + tp pv qv * tq qu) (tq qu * tq qv)) + tp (nm (tp pu qu * tq qv + tp pv qv * tq qu) (tq qu * tq qv)) (dn (tp pu qu * tq qv + tp pv qv * tq qu) (tq qu * tq qv)) * tq qr) (tq qr * tq (dn (tp pu qu * tq qv + tp pv qv * tq qu) (tq qu * tq qv))))) ((dn (tp pr qr * tq (dn (tp pu qu * tq qv + tp pv qv * tq qu) (tq qu * tq qv)) + tp (nm (tp pu qu * tq qv + tp pv qv * tq qu) (tq qu * tq qv)) (dn (tp pu qu * tq qv + tp pv qv * tq qu) (tq qu * tq qv)) * tq qr) (tq qr * tq (dn (tp pu qu * tq qv + tp pv qv * tq qu) (tq qu * tq qv))))) (3 * ((1500) + (3 * ((1500) + (1500) + 4) + 1) + 4) + 1) (a_.eval (.tmp 50)) w_ from hD 22 rfl) (fld_adda (tq_ne _) (tq_ne _) (tq_ne _)), fun hne => absurd (hD 14 rfl) hne⟩),
                  .norm 52 rfl rfl rfl (fun a_ w_ hn_ hBt hr hR hD hO hS => ⟨⟨_, rfl⟩, fun _ => op_not (show a_.eval (.tmp 51) = .bool true from hD 23 rfl), fun hne => absurd (hD 14 rfl) hne⟩),
                  .norm 53 rfl rfl rfl (fun a_ w_ hn_ hBt hr hR hD hO hS => op_pickb (show a_.eval (.tmp 42) = .bool false from hD 14 rfl) (show a_.eval (.tmp 52) = .bool false from hD 24 rfl)),
                  .norm 54 rfl rfl rfl (fun a_ w_ hn_ hBt hr hR hD hO hS => op_mv (show a_.eval (.tmp 53) = .bool false from hD 25 rfl)),
                  .norm 55 rfl rfl rfl (fun a_ w_ hn_ hBt hr hR hD hO hS => ⟨⟨_, rfl⟩, fun _ => op_loadv R3ok ((hR 8 rfl).trans f8) (b8.keep hBt trivial), fun hne => absurd (hD 26 rfl) hne⟩),
                  .norm 56 rfl rfl rfl (fun a_ w_ hn_ hBt hr hR hD hO hS => ⟨⟨_, rfl⟩, fun _ => op_loadv R3ok ((hR 5 rfl).trans f5) (b5.keep hBt trivial), fun hne => absurd (hD 26 rfl) hne⟩),
                  .norm 57 rfl rfl rfl (fun a_ w_ hn_ hBt hr hR hD hO hS => ⟨⟨_, rfl⟩, fun _ => op_rmul (isr_eq (show a_.eval (.tmp 55) = .agg #[.bool n_8, .slice a_8 r_8.length c_8, .slice b_8 s_8.length d_8] from hD 27 rfl) (A8.rl hr) (S8.rl hr) V8 l8 k8) (isr_eq (show a_.eval (.tmp 56) = .agg #[.bool nv, .slice av mv cv, .slice bv kv dv] from hD 28 rfl) (Av.rl hr) (Sv.rl hr) Vv Lv Mv) (by omega), fun hne => absurd (hD 26 rfl) hne⟩),
                  .norm 58 rfl rfl rfl (fun a_ w_ hn_ hBt hr hR hD hO hS => ⟨⟨_, rfl⟩, fun _ => op_loadv R3ok ((hR 3 rfl).trans f3) (b3.keep hBt trivial), fun hne => absurd (hD 26 rfl) hne⟩),
                  .norm 59 rfl rfl rfl (fun a_ w_ hn_ hBt hr hR hD hO hS => ⟨⟨_, rfl⟩, fun _ => op_loadv R3ok ((hR 4 rfl).trans f4) (b4.keep hBt trivial), fun hne => absurd (hD 26 rfl) hne⟩),
                  .norm 60 rfl rfl rfl (fun a_ w_ hn_ hBt hr hR hD hO hS => ⟨⟨_, rfl⟩, fun _ => op_loadv R3ok ((hR 5 rfl).trans f5) (b5.keep hBt trivial), fun hne => absurd (hD 26 rfl) hne⟩),
                  .norm 61 rfl rfl rfl (fun a_ w_ hn_ hBt hr hR hD hO hS => ⟨⟨_, rfl⟩, fun _ => op_rmul (isr_eq (show a_.eval (.tmp 59) = .agg #[.bool nu, .slice au mu cu, .slice bu ku du] from hD 31 rfl) (Au.rl hr) (Su.rl hr) Vu Lu Mu) (isr_eq (show a_.eval (.tmp 60) = .agg #[.bool nv, .slice av mv cv, .slice bv kv dv] from hD 32 rfl) (Av.rl hr) (Sv.rl hr) Vv Lv Mv) (by omega), fun hne => absurd (hD 26 rfl) hne⟩),
                  .norm 62 rfl rfl rfl (fun a_ w_ hn_ hBt hr hR hD hO hS => ⟨⟨_, rfl⟩, fun _ => op_rmul (isr_eq (show a_.eval (.tmp 58) = .agg #[.bool nr, .slice ar mr cr, .slice br kr dr] from hD 30 rfl) (Ar.rl hr) (Sr.rl hr) Vr Lr Mr) (show OutR ((nm (tp pu qu * tp pv qv) (tq qu * tq qv))) ((dn (tp pu qu * tp pv qv) (tq qu * tq qv))) (2 * ((1500) + (1500) + 4)) (a_.eval (.tmp 61)) w_ from hD 33 rfl).is (by omega), fun hne => absurd (hD 26 rfl) hne⟩),
                  .norm 63 rfl rfl rfl (fun a_ w_ hn_ hBt hr hR hD hO hS => ⟨⟨_, rfl⟩, fun _ => op_samer (show OutR ((nm (tp (nm (tp pr qr * tp pu qu) (tq qr * tq qu)) (dn (tp pr qr * tp pu qu) (tq qr * tq qu)) * tp pv qv) (tq (dn (tp pr qr * tp pu qu) (tq qr * tq qu)) * tq qv))) ((dn (tp (nm (tp pr qr * tp pu qu) (tq qr * tq qu)) (dn (tp pr qr * tp pu qu) (tq qr * tq qu)) * tp pv qv) (tq (dn (tp pr qr * tp pu qu) (tq qr * tq qu)) * tq qv))) (2 * ((2 * ((1500) + (1500) + 4)) + (1500) + 4)) (a_.eval (.tmp 57)) w_ from hD 29 rfl) (show OutR ((nm (tp pr qr * tp (nm (tp pu qu * tp pv qv) (tq qu * tq qv)) (dn (tp pu qu * tp pv qv) (tq qu * tq qv))) (tq qr * tq (dn (tp pu qu * tp pv qv) (tq qu * tq qv))))) ((dn (tp pr qr * tp (nm (tp pu qu * tp pv qv) (tq qu * tq qv)) (dn (tp pu qu * tp pv qv) (tq qu * tq qv))) (tq qr * tq (dn (tp pu qu * tp pv qv) (tq qu * tq qv))))) (2 * ((1500) + (2 * ((1500) + (1500) + 4)) + 4)) (a_.eval (.tmp 62)) w_ from hD 34 rfl) (fld_mula (tq_ne _) (tq_ne _) (tq_ne _)), fun hne => absurd (hD 26 rfl) hne⟩),
                  .norm 64 rfl rfl rfl (fun a_ w_ hn_ hBt hr hR hD hO hS => ⟨⟨_, rfl⟩, fun _ => op_not (show a_.eval (.tmp 63) = .bool true from hD 35 rfl), fun hne => absurd (hD 26 rfl) hne⟩),
                  .norm 65 rfl rfl rfl (fun a_ w_ hn_ hBt hr hR hD hO hS => op_pickb (show a_.eval (.tmp 54) = .bool false from hD 26 rfl) (show a_.eval (.tmp 64) = .bool false from hD 36 rfl)),
                  trivial⟩
              · intro a9 w9 gs9 hn9 hd9 hBt hr hR hP hX hU
                replace hn := hn9; replace hd := hd9.trans hd
                replace b3 := b3.keep hBt trivial
                replace b4 := b4.keep hBt trivial
                replace b5 := b5.keep hBt trivial
                replace b7 := b7.keep hBt trivial
                replace b8 := b8.keep hBt trivial
                replace f3 := (hR 3 rfl).trans f3
                replace f4 := (hR 4 rfl).trans f4
                replace f5 := (hR 5 rfl).trans f5
                replace f6 := (hR 6 rfl).trans f6
                replace f7 := (hR 7 rfl).trans f7
                replace f8 := (hR 8 rfl).trans f8
                have e65 : a9.eval (.tmp 65) = .bool false := hP 37 (by decide)
                have f65 := e65
                replace Ar := Ar.rl hr
                replace Sr := Sr.rl hr
                replace Dr := Dr.rl hr
                replace Au := Au.rl hr
                replace Su := Su.rl hr
                replace Du := Du.rl hr
                replace Av := Av.rl hr
                replace Sv := Sv.rl hr
                replace Dv := Dv.rl hr
                replace G6 := G6.rl hr
                replace A6 := A6.rl hr
                replace K6 := K6.rl hr
                replace S6 := S6.rl hr
                replace G8 := G8.rl hr
                replace A8 := A8.rl hr
                replace K8 := K8.rl hr
                replace S8 := S8.rl hr
                replace HB := HB.trans (hBt.below HB.size (UpOld.all (bx := []) trivial))
                clear hBt hr hR hP hX hU
                refine wp_cond_false f65 ?_
                refine wp_skip ?_
                refine wp_seq ?_
                refine wp_seq ?_
                refine region4 [some 66, some 67, some 68, some 69, some 70, some 71, some 72, some 73, some 74, some 75, some 76, some 77, some 78, some 79, some 80, some 81, some 82, some 83, some 84, some 85, some 86, some 87, some 88, some 89, some 90, some 91, some 92, some 93, some 94] [Eqs (.agg #[.bool nr, .slice ar mr cr, .slice br kr dr]), Eqs (.agg #[.bool nu, .slice au mu cu, .slice bu ku du]), Eqs (.agg #[.bool nv, .slice av mv cv, .slice bv kv dv]), OutR ((nm (tp pu qu * tq qv + tp pv qv * tq qu) (tq qu * tq qv))) ((dn (tp pu qu * tq qv + tp pv qv * tq qu) (tq qu * tq qv))) (3 * ((1500) + (1500) + 4) + 1), OutR ((nm (tp pr qr * tp (nm (tp pu qu * tq qv + tp pv qv * tq qu) (tq qu * tq qv)) (dn (tp pu qu * tq qv + tp pv qv * tq qu) (tq qu * tq qv))) (tq qr * tq (dn (tp pu qu * tq qv + tp pv qv * tq qu) (tq qu * tq qv))))) ((dn (tp pr qr * tp (nm (tp pu qu * tq qv + tp pv qv * tq qu) (tq qu * tq qv)) (dn (tp pu qu * tq qv + tp pv qv * tq qu) (tq qu * tq qv))) (tq qr * tq (dn (tp pu qu * tq qv + tp pv qv * tq qu) (tq qu * tq qv))))) (2 * ((1500) + (3 * ((1500) + (1500) + 4) + 1) + 4)), Eqs (.agg #[.bool n_8, .slice a_8 r_8.length c_8, .slice b_8 s_8.length d_8]), Eqs (.agg #[.bool nr, .slice ar mr cr, .slice br kr dr]), Eqs (.agg #[.bool nv, .slice av mv cv, .slice bv kv dv]), OutR ((nm (tp pr qr * tp pv qv) (tq qr * tq qv))) ((dn (tp pr qr * tp pv qv) (tq qr * tq qv))) (2 * ((1500) + (1500) + 4)), OutR ((nm (tp (nm (tp pr qr * tp pu qu) (tq qr * tq qu)) (dn (tp pr qr * tp pu qu) (tq qr * tq qu)) * tq (dn (tp pr qr * tp pv qv) (tq qr * tq qv)) + tp (nm (tp pr qr * tp pv qv) (tq qr * tq qv)) (dn (tp pr qr * tp pv qv) (tq qr * tq qv)) * tq (dn (tp pr qr * tp pu qu) (tq qr * tq qu))) (tq (dn (tp pr qr * tp pu qu) (tq qr * tq qu)) * tq (dn (tp pr qr * tp pv qv) (tq qr * tq qv))))) ((dn (tp (nm (tp pr qr * tp pu qu) (tq qr * tq qu)) (dn (tp pr qr * tp pu qu) (tq qr * tq qu)) * tq (dn (tp pr qr * tp pv qv) (tq qr * tq qv)) + tp (nm (tp pr qr * tp pv qv) (tq qr * tq qv)) (dn (tp pr qr * tp pv qv) (tq qr * tq qv)) * tq (dn (tp pr qr * tp pu qu) (tq qr * tq qu))) (tq (dn (tp pr qr * tp pu qu) (tq qr * tq qu)) * tq (dn (tp pr qr * tp pv qv) (tq qr * tq qv))))) (3 * ((2 * ((1500) + (1500) + 4)) + (2 * ((1500) + (1500) + 4)) + 4) + 1), Eqs (.bool true), Eqs (.bool false), Eqs (.bool false), Eqs (.agg #[.bool n_6, .slice a_6 r_6.length c_6, .slice b_6 s_6.length d_6]), Eqs (.agg #[.bool nu, .slice au mu cu, .slice bu ku du]), OutR ((nm (tp (nm (tp pr qr * tq qu + tp pu qu * tq qr) (tq qr * tq qu)) (dn (tp pr qr * tq qu + tp pu qu * tq qr) (tq qr * tq qu)) * tq qu - tp pu qu * tq (dn (tp pr qr * tq qu + tp pu qu * tq qr) (tq qr * tq qu))) (tq (dn (tp pr qr * tq qu + tp pu qu * tq qr) (tq qr * tq qu)) * tq qu))) ((dn (tp (nm (tp pr qr * tq qu + tp pu qu * tq qr) (tq qr * tq qu)) (dn (tp pr qr * tq qu + tp pu qu * tq qr) (tq qr * tq qu)) * tq qu - tp pu qu * tq (dn (tp pr qr * tq qu + tp pu qu * tq qr) (tq qr * tq qu))) (tq (dn (tp pr qr * tq qu + tp pu qu * tq qr) (tq qr * tq qu)) * tq qu))) (3 * ((3 * ((1500) + (1500) + 4) + 1) + (1500) + 4) + 1), Eqs (.agg #[.bool nr, .slice ar mr cr, .slice br kr dr]), OutR ((nm (tp pr qr) (tq qr))) ((dn (tp pr qr) (tq qr))) (2 * ((1500) + 2)), Eqs (.bool true), Eqs (.bool false), Eqs (.bool false), Eqs (.bool false), Eqs (.agg #[.bool nr, .slice ar mr cr, .slice br kr dr]), Eqs (.agg #[.bool nr, .slice ar mr cr, .slice br kr dr]), OutR ((nm (-(tp pr qr)) (tq qr))) ((dn (-(tp pr qr)) (tq qr))) (2 * ((1500) + 2)), OutR ((nm (tp pr qr * tq (dn (-(tp pr qr)) (tq qr)) + tp (nm (-(tp pr qr)) (tq qr)) (dn (-(tp pr qr)) (tq qr)) * tq qr) (tq qr * tq (dn (-(tp pr qr)) (tq qr))))) ((dn (tp pr qr * tq (dn (-(tp pr qr)) (tq qr)) + tp (nm (-(tp pr qr)) (tq qr)) (dn (-(tp pr qr)) (tq qr)) * tq qr) (tq qr * tq (dn (-(tp pr qr)) (tq qr))))) (3 * ((1500) + (2 * ((1500) + 2)) + 4) + 1), Eqs (.int .i64 (Int.sign (tp (nm (tp pr qr * tq (dn (-(tp pr qr)) (tq qr)) + tp (nm (-(tp pr qr)) (tq qr)) (dn (-(tp pr qr)) (tq qr)) * tq qr) (tq qr * tq (dn (-(tp pr qr)) (tq qr)))) (dn (tp pr qr * tq (dn (-(tp pr qr)) (tq qr)) + tp (nm (-(tp pr qr)) (tq qr)) (dn (-(tp pr qr)) (tq qr)) * tq qr) (tq qr * tq (dn (-(tp pr qr)) (tq qr))))))), Eqs (.bool false), Eqs (.bool false)] [] [] (by kernel_rfl) hn rfl (by kernel_rfl) (by kernel_rfl) (by kernel_rfl) (by kernel_rfl) (by kernel_rfl) (by kernel_rfl) ⟨Eqs.mono4 _, Eqs.mono4 _, Eqs.mono4 _, OutR.mono4 _ _ _, OutR.mono4 _ _ _, Eqs.mono4 _, Eqs.mono4 _, Eqs.mono4 _, OutR.mono4 _ _ _, OutR.mono4 _ _ _, Eqs.mono4 _, Eqs.mono4 _, Eqs.mono4 _, Eqs.mono4 _, Eqs.mono4 _, OutR.mono4 _ _ _, Eqs.mono4 _, OutR.mono4 _ _ _, Eqs.mono4 _, Eqs.mono4 _, Eqs.mono4 _, Eqs.mono4 _, Eqs.mono4 _, Eqs.mono4 _, OutR.mono4 _ _ _, OutR.mono4 _ _ _, Eqs.mono4 _, Eqs.mono4 _, Eqs.mono4 _, trivial⟩ ok_nil (IsOld.all (bx := []) trivial) (DisOld.all (bx := []) trivial) ?_ ?_
                · exact ⟨.norm 66 rfl rfl rfl (fun a_ w_ hn_ hBt hr hR hD hO hS => op_loadv R3ok ((hR 3 rfl).trans f3) (b3.keep hBt trivial)),
                    .norm 67 rfl rfl rfl (fun a_ w_ hn_ hBt hr hR hD hO hS => op_loadv R3ok ((hR 4 rfl).trans f4) (b4.keep hBt trivial)),
                    .norm 68 rfl rfl rfl (fun a_ w_ hn_ hBt hr hR hD hO hS => op_loadv R3ok ((hR 5 rfl).trans f5) (b5.keep hBt trivial)),
                    .norm 69 rfl rfl rfl (fun a_ w_ hn_ hBt hr hR hD hO hS => op_radd (isr_eq (show a_.eval (.tmp 67) = .agg #[.bool nu, .slice au mu cu, .slice bu ku du] from hD 1 rfl) (Au.rl hr) (Su.rl hr) Vu Lu Mu) (isr_eq (show a_.eval (.tmp 68) = .agg #[.bool nv, .slice av mv cv, .slice bv kv dv] from hD 2 rfl) (Av.rl hr) (Sv.rl hr) Vv Lv Mv) (by omega)),
                    .norm 70 rfl rfl rfl (fun a_ w_ hn_ hBt hr hR hD hO hS => op_rmul (isr_eq (show a_.eval (.tmp 66) = .agg #[.bool nr, .slice ar mr cr, .slice br kr dr] from hD 0 rfl) (Ar.rl hr) (Sr.rl hr) Vr Lr Mr) (show OutR ((nm (tp pu qu * tq qv + tp pv qv * tq qu) (tq qu * tq qv))) ((dn (tp pu qu * tq qv + tp pv qv * tq qu) (tq qu * tq qv))) (3 * ((1500) + (1500) + 4) + 1) (a_.eval (.tmp 69)) w_ from hD 3 rfl).is (by omega)),
                    .norm 71 rfl rfl rfl (fun a_ w_ hn_ hBt hr hR hD hO hS => op_loadv R3ok ((hR 8 rfl).trans f8) (b8.keep hBt trivial)),
                    .norm 72 rfl rfl rfl (fun a_ w_ hn_ hBt hr hR hD hO hS => op_loadv R3ok ((hR 3 rfl).trans f3) (b3.keep hBt trivial)),
                    .norm 73 rfl rfl rfl (fun a_ w_ hn_ hBt hr hR hD hO hS => op_loadv R3ok ((hR 5 rfl).trans f5) (b5.keep hBt trivial)),
                    .norm 74 rfl rfl rfl (fun a_ w_ hn_ hBt hr hR hD hO hS => op_rmul (isr_eq (show a_.eval (.tmp 72) = .agg #[.bool nr, .slice ar mr cr, .slice br kr dr] from hD 6 rfl) (Ar.rl hr) (Sr.rl hr) Vr Lr Mr) (isr_eq (show a_.eval (.tmp 73) = .agg #[.bool nv, .slice av mv cv, .slice bv kv dv] from hD 7 rfl) (Av.rl hr) (Sv.rl hr) Vv Lv Mv) (by omega)),
                    .norm 75 rfl rfl rfl (fun a_ w_ hn_ hBt hr hR hD hO hS => op_radd (isr_eq (show a_.eval (.tmp 71) = .agg #[.bool n_8, .slice a_8 r_8.length c_8, .slice b_8 s_8.length d_8] from hD 5 rfl) (A8.rl hr) (S8.rl hr) V8 l8 k8) (show OutR ((nm (tp pr qr * tp pv qv) (tq qr * tq qv))) ((dn (tp pr qr * tp pv qv) (tq qr * tq qv))) (2 * ((1500) + (1500) + 4)) (a_.eval (.tmp 74)) w_ from hD 8 rfl).is (by omega)),
                    .norm 76 rfl rfl rfl (fun a_ w_ hn_ hBt hr hR hD hO hS => op_samer (show OutR ((nm (tp pr qr * tp (nm (tp pu qu * tq qv + tp pv qv * tq qu) (tq qu * tq qv)) (dn (tp pu qu * tq qv + tp pv qv * tq qu) (tq qu * tq qv))) (tq qr * tq (dn (tp pu qu * tq qv + tp pv qv * tq qu) (tq qu * tq qv))))) ((dn (tp pr qr * tp (nm (tp pu qu * tq qv + tp pv qv * tq qu) (tq qu * tq qv)) (dn (tp pu qu * tq qv + tp pv qv * tq qu) (tq qu * tq qv))) (tq qr * tq (dn (tp pu qu * tq qv + tp pv qv * tq qu) (tq qu * tq qv))))) (2 * ((1500) + (3 * ((1500) + (1500) + 4) + 1) + 4)) (a_.eval (.tmp 70)) w_ from hD 4 rfl) (show OutR ((nm (tp (nm (tp pr qr * tp pu qu) (tq qr * tq qu)) (dn (tp pr qr * tp pu qu) (tq qr * tq qu)) * tq (dn (tp pr qr * tp pv qv) (tq qr * tq qv)) + tp (nm (tp pr qr * tp pv qv) (tq qr * tq qv)) (dn (tp pr qr * tp pv qv) (tq qr * tq qv)) * tq (dn (tp pr qr * tp pu qu) (tq qr * tq qu))) (tq (dn (tp pr qr * tp pu qu) (tq qr * tq qu)) * tq (dn (tp pr qr * tp pv qv) (tq qr * tq qv))))) ((dn (tp (nm (tp pr qr * tp pu qu) (tq qr * tq qu)) (dn (tp pr qr * tp pu qu) (tq qr * tq qu)) * tq (dn (tp pr qr * tp pv qv) (tq qr * tq qv)) + tp (nm (tp pr qr * tp pv qv) (tq qr * tq qv)) (dn (tp pr qr * tp pv qv) (tq qr * tq qv)) * tq (dn (tp pr qr * tp pu qu) (tq qr * tq qu))) (tq (dn (tp pr qr * tp pu qu) (tq qr * tq qu)) * tq (dn (tp pr qr * tp pv qv) (tq qr * tq qv))))) (3 * ((2 * ((1500) + (1500) + 4)) + (2 * ((1500) + (1500) + 4)) + 4) + 1) (a_.eval (.tmp 75)) w_ from hD 9 rfl) (fld_dist (tq_ne _) (tq_ne _) (tq_ne _))),
                    .norm 77 rfl rfl rfl (fun a_ w_ hn_ hBt hr hR hD hO hS => op_not (show a_.eval (.tmp 76) = .bool true from hD 10 rfl)),
                    .norm 78 rfl rfl rfl (fun a_ w_ hn_ hBt hr hR hD hO hS => op_mv (show a_.eval (.tmp 77) = .bool false from hD 11 rfl)),
                    .norm 79 rfl rfl rfl (fun a_ w_ hn_ hBt hr hR hD hO hS => ⟨⟨_, rfl⟩, fun _ => op_loadv R3ok ((hR 7 rfl).trans f7) (b7.keep hBt trivial), fun hne => absurd (hD 12 rfl) hne⟩),
                    .norm 80 rfl rfl rfl (fun a_ w_ hn_ hBt hr hR hD hO hS => ⟨⟨_, rfl⟩, fun _ => op_loadv R3ok ((hR 4 rfl).trans f4) (b4.keep hBt trivial), fun hne => absurd (hD 12 rfl) hne⟩),
                    .norm 81 rfl rfl rfl (fun a_ w_ hn_ hBt hr hR hD hO hS => ⟨⟨_, rfl⟩, fun _ => op_rsub (isr_eq (show a_.eval (.tmp 79) = .agg #[.bool n_6, .slice a_6 r_6.length c_6, .slice b_6 s_6.length d_6] from hD 13 rfl) (A6.rl hr) (S6.rl hr) V6 l6 k6) (isr_eq (show a_.eval (.tmp 80) = .agg #[.bool nu, .slice au mu cu, .slice bu ku du] from hD 14 rfl) (Au.rl hr) (Su.rl hr) Vu Lu Mu) (by omega), fun hne => absurd (hD 12 rfl) hne⟩),
                    .norm 82 rfl rfl rfl (fun a_ w_ hn_ hBt hr hR hD hO hS => ⟨⟨_, rfl⟩, fun _ => op_loadv R3ok ((hR 3 rfl).trans f3) (b3.keep hBt trivial), fun hne => absurd (hD 12 rfl) hne⟩),
                    .norm 83 rfl rfl rfl (fun a_ w_ hn_ hBt hr hR hD hO hS => ⟨⟨_, rfl⟩, fun _ => op_rtrim (isr_eq (show a_.eval (.tmp 82) = .agg #[.bool nr, .slice ar mr cr, .slice br kr dr] from hD 16 rfl) (Ar.rl hr) (Sr.rl hr) Vr Lr Mr) (by omega), fun hne => absurd (hD 12 rfl) hne⟩),
                    .norm 84 rfl rfl rfl (fun a_ w_ hn_ hBt hr hR hD hO hS => ⟨⟨_, rfl⟩, fun _ => op_samer (show OutR ((nm (tp (nm (tp pr qr * tq qu + tp pu qu * tq qr) (tq qr * tq qu)) (dn (tp pr qr * tq qu + tp pu qu * tq qr) (tq qr * tq qu)) * tq qu - tp pu qu * tq (dn (tp pr qr * tq qu + tp pu qu * tq qr) (tq qr * tq qu))) (tq (dn (tp pr qr * tq qu + tp pu qu * tq qr) (tq qr * tq qu)) * tq qu))) ((dn (tp (nm (tp pr qr * tq qu + tp pu qu * tq qr) (tq qr * tq qu)) (dn (tp pr qr * tq qu + tp pu qu * tq qr) (tq qr * tq qu)) * tq qu - tp pu qu * tq (dn (tp pr qr * tq qu + tp pu qu * tq qr) (tq qr * tq qu))) (tq (dn (tp pr qr * tq qu + tp pu qu * tq qr) (tq qr * tq qu)) * tq qu))) (3 * ((3 * ((1500) + (1500) + 4) + 1) + (1500) + 4) + 1) (a_.eval (.tmp 81)) w_ from hD 15 rfl) (show OutR ((nm (tp pr qr) (tq qr))) ((dn (tp pr qr) (tq qr))) (2 * ((1500) + 2)) (a_.eval (.tmp 83)) w_ from hD 17 rfl) (fld_sub (tq_ne _) (tq_ne _)), fun hne => absurd (hD 12 rfl) hne⟩),
                    .norm 85 rfl rfl rfl (fun a_ w_ hn_ hBt hr hR hD hO hS => ⟨⟨_, rfl⟩, fun _ => op_not (show a_.eval (.tmp 84) = .bool true from hD 18 rfl), fun hne => absurd (hD 12 rfl) hne⟩),
                    .norm 86 rfl rfl rfl (fun a_ w_ hn_ hBt hr hR hD hO hS => op_pickb (show a_.eval (.tmp 78) = .bool false from hD 12 rfl) (show a_.eval (.tmp 85) = .bool false from hD 19 rfl)),
                    .norm 87 rfl rfl rfl (fun a_ w_ hn_ hBt hr hR hD hO hS => op_mv (show a_.eval (.tmp 86) = .bool false from hD 20 rfl)),
                    .norm 88 rfl rfl rfl (fun a_ w_ hn_ hBt hr hR hD hO hS => ⟨⟨_, rfl⟩, fun _ => op_loadv R3ok ((hR 3 rfl).trans f3) (b3.keep hBt trivial), fun hne => absurd (hD 21 rfl) hne⟩),
                    .norm 89 rfl rfl rfl (fun a_ w_ hn_ hBt hr hR hD hO hS => ⟨⟨_, rfl⟩, fun _ => op_loadv R3ok ((hR 3 rfl).trans f3) (b3.keep hBt trivial), fun hne => absurd (hD 21 rfl) hne⟩),
                    .norm 90 rfl rfl rfl (fun a_ w_ hn_ hBt hr hR hD hO hS => ⟨⟨_, rfl⟩, fun _ => op_rneg (isr_eq (show a_.eval (.tmp 89) = .agg #[.bool nr, .slice ar mr cr, .slice br kr dr] from hD 23 rfl) (Ar.rl hr) (Sr.rl hr) Vr Lr Mr) (by omega), fun hne => absurd (hD 21 rfl) hne⟩),
                    .norm 91 rfl rfl rfl (fun a_ w_ hn_ hBt hr hR hD hO hS => ⟨⟨_, rfl⟩, fun _ => op_radd (isr_eq (show a_.eval (.tmp 88) = .agg #[.bool nr, .slice ar mr cr, .slice br kr dr] from hD 22 rfl) (Ar.rl hr) (Sr.rl hr) Vr Lr Mr) (show OutR ((nm (-(tp pr qr)) (tq qr))) ((dn (-(tp pr qr)) (tq qr))) (2 * ((1500) + 2)) (a_.eval (.tmp 90)) w_ from hD 24 rfl).is (by omega), fun hne => absurd (hD 21 rfl) hne⟩),
                    .norm 92 rfl rfl rfl (fun a_ w_ hn_ hBt hr hR hD hO hS => ⟨⟨_, rfl⟩, fun _ => op_rsign (show OutR ((nm (tp pr qr * tq (dn (-(tp pr qr)) (tq qr)) + tp (nm (-(tp pr qr)) (tq qr)) (dn (-(tp pr qr)) (tq qr)) * tq qr) (tq qr * tq (dn (-(tp pr qr)) (tq qr))))) ((dn (tp pr qr * tq (dn (-(tp pr qr)) (tq qr)) + tp (nm (-(tp pr qr)) (tq qr)) (dn (-(tp pr qr)) (tq qr)) * tq qr) (tq qr * tq (dn (-(tp pr qr)) (tq qr))))) (3 * ((1500) + (2 * ((1500) + 2)) + 4) + 1) (a_.eval (.tmp 91)) w_ from hD 25 rfl).is (by omega), fun hne => absurd (hD 21 rfl) hne⟩),
                    .norm 93 rfl rfl rfl (fun a_ w_ hn_ hBt hr hR hD hO hS => ⟨⟨_, rfl⟩, fun _ => op_neqz (show a_.eval (.tmp 92) = .int .i64 (Int.sign (tp (nm (tp pr qr * tq (dn (-(tp pr qr)) (tq qr)) + tp (nm (-(tp pr qr)) (tq qr)) (dn (-(tp pr qr)) (tq qr)) * tq qr) (tq qr * tq (dn (-(tp pr qr)) (tq qr)))) (dn (tp pr qr * tq (dn (-(tp pr qr)) (tq qr)) + tp (nm (-(tp pr qr)) (tq qr)) (dn (-(tp pr qr)) (tq qr)) * tq qr) (tq qr * tq (dn (-(tp pr qr)) (tq qr)))))) from hD 26 rfl) (fld_neg (tq_ne _)), fun hne => absurd (hD 21 rfl) hne⟩),
                    .norm 94 rfl rfl rfl (fun a_ w_ hn_ hBt hr hR hD hO hS => op_pickb (show a_.eval (.tmp 87) = .bool false from hD 21 rfl) (show a_.eval (.tmp 93) = .bool false from hD 27 rfl)),
                    trivial⟩
                · intro a10 w10 gs10 hn10 hd10 hBt hr hR hP hX hU
                  replace hn := hn10; replace hd := hd10.trans hd
                  replace b3 := b3.keep hBt trivial
                  replace b4 := b4.keep hBt trivial
                  replace b8 := b8.keep hBt trivial
                  replace f3 := (hR 3 rfl).trans f3
                  replace f4 := (hR 4 rfl).trans f4
                  replace f6 := (hR 6 rfl).trans f6
                  replace f8 := (hR 8 rfl).trans f8
                  have e94 : a10.eval (.tmp 94) = .bool false := hP 28 (by decide)
                  have f94 := e94
                  replace Ar := Ar.rl hr
                  replace Sr := Sr.rl hr
                  replace Dr := Dr.rl hr
                  replace Au := Au.rl hr
                  replace Su := Su.rl hr
                  replace Du := Du.rl hr
                  replace Av := Av.rl hr
                  replace Sv := Sv.rl hr
                  replace Dv := Dv.rl hr
                  replace G6 := G6.rl hr
                  replace A6 := A6.rl hr
                  replace K6 := K6.rl hr
                  replace S6 := S6.rl hr
                  replace G8 := G8.rl hr
                  replace A8 := A8.rl hr
                  replace K8 := K8.rl hr
                  replace S8 := S8.rl hr
                  replace HB := HB.trans (hBt.below HB.size (UpOld.all (bx := []) trivial))
                  clear hBt hr hR hP hX hU
                  refine wp_cond_false f94 ?_
                  refine wp_skip ?_
                  by_cases hs0 : tp pu qu = 0
                  · skip
                    refine wp_seq ?_
                    refine region4 [some 96, some 97, some 98, some 95, some 99, some 100, some 9, none, some 10] [Eqs (.agg #[.bool n_8, .slice a_8 r_8.length c_8, .slice b_8 s_8.length d_8]), Eqs (.agg #[.bool nu, .slice au mu cu, .slice bu ku du]), Tup2 (Eqs (.agg #[.bool false, .slice none 0 0, .slice none 0 0])) (Eqs (.int .i64 20)), Tup2 (Eqs (.agg #[.bool false, .slice none 0 0, .slice none 0 0])) (Eqs (.int .i64 20)), Eqs (.agg #[.bool false, .slice none 0 0, .slice none 0 0]), Eqs (.int .i64 20), (fun _ _ => True), (fun _ _ => True), Eqs (.int .i64 20)] [⟨R3, some 6, 0, 9, .agg #[.bool false, .slice none 0 0, .slice none 0 0], some (7, 99, 4), []⟩] [] (by kernel_rfl) hn rfl (by kernel_rfl) (by kernel_rfl) (by kernel_rfl) (by kernel_rfl) (by kernel_rfl) (by kernel_rfl) ⟨Eqs.mono4 _, Eqs.mono4 _, Tup2.mono4 (Eqs.mono4 _) (Eqs.mono4 _), Tup2.mono4 (Eqs.mono4 _) (Eqs.mono4 _), Eqs.mono4 _, Eqs.mono4 _, True.mono4, True.mono4, Eqs.mono4 _, trivial⟩ (ok_cons R3ok ok_nil) (IsOld.all (bx := [⟨R3, some 6, 0, 9, .agg #[.bool false, .slice none 0 0, .slice none 0 0], some (7, 99, 4), []⟩]) ⟨someNe, trivial⟩) (DisOld.all (bx := [⟨R3, some 6, 0, 9, .agg #[.bool false, .slice none 0 0, .slice none 0 0], some (7, 99, 4), []⟩]) ⟨someNe, trivial⟩) ?_ ?_
                    · exact ⟨.norm 96 rfl rfl rfl (fun a_ w_ hn_ hBt hr hR hD hO hS => op_loadv R3ok ((hR 8 rfl).trans f8) (b8.keep hBt ⟨someNe, trivial⟩)),
                        .norm 97 rfl rfl rfl (fun a_ w_ hn_ hBt hr hR hD hO hS => op_loadv R3ok ((hR 4 rfl).trans f4) (b4.keep hBt ⟨someNe, trivial⟩)),
                        .norm 98 rfl rfl rfl (fun a_ w_ hn_ hBt hr hR hD hO hS => op_rdiv0 (isr_eq (show a_.eval (.tmp 96) = .agg #[.bool n_8, .slice a_8 r_8.length c_8, .slice b_8 s_8.length d_8] from hD 0 rfl) (A8.rl hr) (S8.rl hr) V8 l8 k8) (isr_eq (show a_.eval (.tmp 97) = .agg #[.bool nu, .slice au mu cu, .slice bu ku du] from hD 1 rfl) (Au.rl hr) (Su.rl hr) Vu Lu Mu) (by omega) hs0),
                        .norm 95 rfl rfl rfl (fun a_ w_ hn_ hBt hr hR hD hO hS => op_mvp (p := Tup2 (Eqs (.agg #[.bool false, .slice none 0 0, .slice none 0 0])) (Eqs (.int .i64 20))) (show Tup2 (Eqs (.agg #[.bool false, .slice none 0 0, .slice none 0 0])) (Eqs (.int .i64 20)) (a_.eval (.tmp 98)) w_ from hD 2 rfl)),
                        .norm 99 rfl rfl rfl (fun a_ w_ hn_ hBt hr hR hD hO hS => op_ex20 (show Tup2 (Eqs (.agg #[.bool false, .slice none 0 0, .slice none 0 0])) (Eqs (.int .i64 20)) (a_.eval (.tmp 95)) w_ from hD 3 rfl)),
                        .norm 100 rfl rfl rfl (fun a_ w_ hn_ hBt hr hR hD hO hS => op_ex21 (show Tup2 (Eqs (.agg #[.bool false, .slice none 0 0, .slice none 0 0])) (Eqs (.int .i64 20)) (a_.eval (.tmp 95)) w_ from hD 3 rfl)),
                        .alloc 0 _ rfl rfl (.inl ⟨rfl, rfl⟩) rfl rfl rfl rfl rfl,
                        .store 0 _ _ _ rfl rfl rfl rfl rfl rfl rfl (fun ia h => by cases h; rfl) rfl rfl rfl (eqs_cs r3_cs),
                        .norm 10 rfl rfl rfl (fun a_ w_ hn_ hBt hr hR hD hO hS => op_assign (show a_.eval (.tmp 100) = .int .i64 20 from hD 5 rfl)),
                        trivial⟩
                    · intro a11 w11 gs11 hn11 hd11 hBt hr hR hP hX hU
                      replace hn := hn11; replace hd := hd11.trans hd
                      replace b3 := b3.keep hBt ⟨someNe, trivial⟩
                      replace b4 := b4.keep hBt ⟨someNe, trivial⟩
                      have e99 : a11.eval (.tmp 99) = .agg #[.bool false, .slice none 0 0, .slice none 0 0] := hP 4 (by decide)
                      have b9 : BoxV R3 w11 (gs11 0) (.agg #[.bool false, .slice none 0 0, .slice none 0 0]) := boxv_of (hX 0 _ rfl).2.2.2 e99
                      have f9 := (hX 0 _ rfl).1
                      have u9 : w.heap.size ≤ gs11 0 := Nat.le_trans HB.size ((hX 0 _ rfl).2.2.1 (by simp))
                      replace f3 := (hR 3 rfl).trans f3
                      replace f4 := (hR 4 rfl).trans f4
                      replace f6 := (hR 6 rfl).trans f6
                      have e10 : a11.eval (.tmp 10) = .int .i64 20 := hP 8 (by decide)
                      have f10 := e10
                      replace Ar := Ar.rl hr
                      replace Sr := Sr.rl hr
                      replace Dr := Dr.rl hr
                      replace Au := Au.rl hr
                      replace Su := Su.rl hr
                      replace Du := Du.rl hr
                      replace Av := Av.rl hr
                      replace Sv := Sv.rl hr
                      replace Dv := Dv.rl hr
                      replace G6 := G6.rl hr
                      replace A6 := A6.rl hr
                      replace K6 := K6.rl hr
                      replace S6 := S6.rl hr
                      replace G8 := G8.rl hr
                      replace A8 := A8.rl hr
                      replace K8 := K8.rl hr
                      replace S8 := S8.rl hr
                      replace HB := HB.trans (hBt.below HB.size (UpOld.all (bx := [⟨R3, some 6, 0, 9, .agg #[.bool false, .slice none 0 0, .slice none 0 0], some (7, 99, 4), []⟩]) ⟨someNe, trivial⟩))
                      clear hBt hr hR hP hX hU
                      refine wp_seq ?_
                      refine wp_seq ?_
                      refine region4 [some 101, some 102, some 103] [Eqs (.agg #[.bool nu, .slice au mu cu, .slice bu ku du]), Eqs (.int .i64 (Int.sign (tp pu qu))), Eqs (.bool (decide ((Int.sign (tp pu qu)) = 0)))] [] [] (by kernel_rfl) hn rfl (by kernel_rfl) (by kernel_rfl) (by kernel_rfl) (by kernel_rfl) (by kernel_rfl) (by kernel_rfl) ⟨Eqs.mono4 _, Eqs.mono4 _, Eqs.mono4 _, trivial⟩ ok_nil (IsOld.all (bx := []) trivial) (DisOld.all (bx := []) trivial) ?_ ?_
                      · exact ⟨.norm 101 rfl rfl rfl (fun a_ w_ hn_ hBt hr hR hD hO hS => op_loadv R3ok ((hR 4 rfl).trans f4) (b4.keep hBt trivial)),
                          .norm 102 rfl rfl rfl (fun a_ w_ hn_ hBt hr hR hD hO hS => op_rsign (isr_eq (show a_.eval (.tmp 101) = .agg #[.bool nu, .slice au mu cu, .slice bu ku du] from hD 0 rfl) (Au.rl hr) (Su.rl hr) Vu Lu Mu) (by omega)),
                          .norm 103 rfl rfl rfl (fun a_ w_ hn_ hBt hr hR hD hO hS => op_eqlk (show a_.eval (.tmp 102) = .int .i64 (Int.sign (tp pu qu)) from hD 1 rfl)),
                          trivial⟩
                      · intro a12 w12 gs12 hn12 hd12 hBt hr hR hP hX hU
                        replace hn := hn12; replace hd := hd12.trans hd
                        replace b3 := b3.keep hBt trivial
                        replace b9 := b9.keep hBt trivial
                        replace f3 := (hR 3 rfl).trans f3
                        replace f6 := (hR 6 rfl).trans f6
                        replace f9 := (hR 9 rfl).trans f9
                        replace f10 := (hR 10 rfl).trans f10
                        have e103 : a12.eval (.tmp 103) = .bool (decide ((Int.sign (tp pu qu)) = 0)) := hP 2 (by decide)
                        have f103 := e103
                        replace Ar := Ar.rl hr
                        replace Sr := Sr.rl hr
                        replace Dr := Dr.rl hr
                        replace Au := Au.rl hr
                        replace Su := Su.rl hr
                        replace Du := Du.rl hr
                        replace Av := Av.rl hr
                        replace Sv := Sv.rl hr
                        replace Dv := Dv.rl hr
                        replace G6 := G6.rl hr
                        replace A6 := A6.rl hr
                        replace K6 := K6.rl hr
                        replace S6 := S6.rl hr
                        replace G8 := G8.rl hr
                        replace A8 := A8.rl hr
                        replace K8 := K8.rl hr
                        replace S8 := S8.rl hr
                        replace HB := HB.trans (hBt.below HB.size (UpOld.all (bx := []) trivial))
                        clear hBt hr hR hP hX hU
                        refine wp_cond_split f103 (fun hc103 => ?_) (fun hc103 => ?_)
                        · skip
                          refine wp_seq ?_
                          refine region4 [some 104, some 105, some 106, some 107, some 108, some 109, some 110, some 6] [Eqs (.int .i64 20), Eqs (.bool true), Eqs (.bool true), Eqs (.agg #[.bool false, .slice none 0 0, .slice none 0 0]), Eqs (.agg #[.bool false, .slice none 0 0, .slice none 0 0]), Eqs (.bool true), Eqs (.bool true), Eqs (.bool true)] [] [] (by kernel_rfl) hn rfl (by kernel_rfl) (by kernel_rfl) (by kernel_rfl) (by kernel_rfl) (by kernel_rfl) (by kernel_rfl) ⟨Eqs.mono4 _, Eqs.mono4 _, Eqs.mono4 _, Eqs.mono4 _, Eqs.mono4 _, Eqs.mono4 _, Eqs.mono4 _, Eqs.mono4 _, trivial⟩ ok_nil (IsOld.all (bx := []) trivial) (DisOld.all (bx := []) trivial) ?_ ?_
                          · exact ⟨.norm 104 rfl rfl rfl (fun a_ w_ hn_ hBt hr hR hD hO hS => op_mv ((hR 10 rfl).trans f10)),
                              .norm 105 rfl rfl rfl (fun a_ w_ hn_ hBt hr hR hD hO hS => op_eqle (show a_.eval (.tmp 104) = .int .i64 20 from hD 0 rfl)),
                              .norm 106 rfl rfl rfl (fun a_ w_ hn_ hBt hr hR hD hO hS => op_mv (show a_.eval (.tmp 105) = .bool true from hD 1 rfl)),
                              .norm 107 rfl rfl rfl (fun a_ w_ hn_ hBt hr hR hD hO hS => ⟨⟨_, rfl⟩, fun _ => op_loadv R3ok ((hR 9 rfl).trans f9) (b9.keep hBt trivial), fun hne => absurd (hD 2 rfl) hne⟩),
                              .norm 108 rfl rfl rfl (fun a_ w_ hn_ hBt hr hR hD hO hS => ⟨⟨_, rfl⟩, fun _ => op_bR0, fun hne => absurd (hD 2 rfl) hne⟩),
                              .norm 109 rfl rfl rfl (fun a_ w_ hn_ hBt hr hR hD hO hS => ⟨⟨_, rfl⟩, fun _ => op_samer (outr_zero _ (show a_.eval (.tmp 107) = .agg #[.bool false, .slice none 0 0, .slice none 0 0] from hD 3 rfl)) (outr_zero _ (show a_.eval (.tmp 108) = .agg #[.bool false, .slice none 0 0, .slice none 0 0] from hD 4 rfl)) ⟨rfl, rfl⟩, fun hne => absurd (hD 2 rfl) hne⟩),
                              .norm 110 rfl rfl rfl (fun a_ w_ hn_ hBt hr hR hD hO hS => op_pickb (show a_.eval (.tmp 106) = .bool true from hD 2 rfl) (show a_.eval (.tmp 109) = .bool true from hD 5 rfl)),
                              .norm 6 rfl rfl rfl (fun a_ w_ hn_ hBt hr hR hD hO hS => op_assign (show a_.eval (.tmp 110) = .bool true from hD 6 rfl)),
                              trivial⟩
                          · intro a13 w13 gs13 hn13 hd13 hBt hr hR hP hX hU
                            replace hn := hn13; replace hd := hd13.trans hd
                            replace b3 := b3.keep hBt trivial
                            replace b9 := b9.keep hBt trivial
                            replace f3 := (hR 3 rfl).trans f3
                            replace f9 := (hR 9 rfl).trans f9
                            replace f10 := (hR 10 rfl).trans f10
                            have e6 : a13.eval (.tmp 6) = .bool true := hP 7 (by decide)
                            have f6 := e6
                            replace Ar := Ar.rl hr
                            replace Sr := Sr.rl hr
                            replace Dr := Dr.rl hr
                            replace Au := Au.rl hr
                            replace Su := Su.rl hr
                            replace Du := Du.rl hr
                            replace Av := Av.rl hr
                            replace Sv := Sv.rl hr
                            replace Dv := Dv.rl hr
                            replace G6 := G6.rl hr
                            replace A6 := A6.rl hr
                            replace K6 := K6.rl hr
                            replace S6 := S6.rl hr
                            replace G8 := G8.rl hr
                            replace A8 := A8.rl hr
                            replace K8 := K8.rl hr
                            replace S8 := S8.rl hr
                            replace HB := HB.trans (hBt.below HB.size (UpOld.all (bx := []) trivial))
                            clear hBt hr hR hP hX hU
                            refine wp_ret ?_
                            repeat (first | refine then_ret ?_ | refine scope_ret ?_ | refine block_ret ?_)
                            exact bodyPost_ret (v := .bool true) (res_t rfl f6) hd ⟨rfl, HB⟩
                        · skip
                          exact absurd (sign_zero_iff.2 hs0) (of_decide_eq_false hc103)
                  · skip
                    refine wp_seq ?_
                    refine region4 [some 96, some 97, some 98, some 95, some 99, some 100, some 9, none, some 10] [Eqs (.agg #[.bool n_8, .slice a_8 r_8.length c_8, .slice b_8 s_8.length d_8]), Eqs (.agg #[.bool nu, .slice au mu cu, .slice bu ku du]), Tup2 (OutR ((nm (tp (nm (tp pr qr * tp pu qu) (tq qr * tq qu)) (dn (tp pr qr * tp pu qu) (tq qr * tq qu)) * tq qu) (tq (dn (tp pr qr * tp pu qu) (tq qr * tq qu)) * tp pu qu))) ((dn (tp (nm (tp pr qr * tp pu qu) (tq qr * tq qu)) (dn (tp pr qr * tp pu qu) (tq qr * tq qu)) * tq qu) (tq (dn (tp pr qr * tp pu qu) (tq qr * tq qu)) * tp pu qu))) (2 * ((2 * ((1500) + (1500) + 4)) + (1500) + 4))) (Eqs (.int .i64 0)), Tup2 (OutR ((nm (tp (nm (tp pr qr * tp pu qu) (tq qr * tq qu)) (dn (tp pr qr * tp pu qu) (tq qr * tq qu)) * tq qu) (tq (dn (tp pr qr * tp pu qu) (tq qr * tq qu)) * tp pu qu))) ((dn (tp (nm (tp pr qr * tp pu qu) (tq qr * tq qu)) (dn (tp pr qr * tp pu qu) (tq qr * tq qu)) * tq qu) (tq (dn (tp pr qr * tp pu qu) (tq qr * tq qu)) * tp pu qu))) (2 * ((2 * ((1500) + (1500) + 4)) + (1500) + 4))) (Eqs (.int .i64 0)), OutR ((nm (tp (nm (tp pr qr * tp pu qu) (tq qr * tq qu)) (dn (tp pr qr * tp pu qu) (tq qr * tq qu)) * tq qu) (tq (dn (tp pr qr * tp pu qu) (tq qr * tq qu)) * tp pu qu))) ((dn (tp (nm (tp pr qr * tp pu qu) (tq qr * tq qu)) (dn (tp pr qr * tp pu qu) (tq qr * tq qu)) * tq qu) (tq (dn (tp pr qr * tp pu qu) (tq qr * tq qu)) * tp pu qu))) (2 * ((2 * ((1500) + (1500) + 4)) + (1500) + 4)), Eqs (.int .i64 0), (fun _ _ => True), (fun _ _ => True), Eqs (.int .i64 0)] [⟨R3, some 6, 0, 9, .agg #[.bool false, .slice none 0 0, .slice none 0 0], some (7, 99, 4), []⟩] [] (by kernel_rfl) hn rfl (by kernel_rfl) (by kernel_rfl) (by kernel_rfl) (by kernel_rfl) (by kernel_rfl) (by kernel_rfl) ⟨Eqs.mono4 _, Eqs.mono4 _, Tup2.mono4 (OutR.mono4 _ _ _) (Eqs.mono4 _), Tup2.mono4 (OutR.mono4 _ _ _) (Eqs.mono4 _), OutR.mono4 _ _ _, Eqs.mono4 _, True.mono4, True.mono4, Eqs.mono4 _, trivial⟩ (ok_cons R3ok ok_nil) (IsOld.all (bx := [⟨R3, some 6, 0, 9, .agg #[.bool false, .slice none 0 0, .slice none 0 0], some (7, 99, 4), []⟩]) ⟨someNe, trivial⟩) (DisOld.all (bx := [⟨R3, some 6, 0, 9, .agg #[.bool false, .slice none 0 0, .slice none 0 0], some (7, 99, 4), []⟩]) ⟨someNe, trivial⟩) ?_ ?_
                    · exact ⟨.norm 96 rfl rfl rfl (fun a_ w_ hn_ hBt hr hR hD hO hS => op_loadv R3ok ((hR 8 rfl).trans f8) (b8.keep hBt ⟨someNe, trivial⟩)),
                        .norm 97 rfl rfl rfl (fun a_ w_ hn_ hBt hr hR hD hO hS => op_loadv R3ok ((hR 4 rfl).trans f4) (b4.keep hBt ⟨someNe, trivial⟩)),
                        .norm 98 rfl rfl rfl (fun a_ w_ hn_ hBt hr hR hD hO hS => op_rdiv (isr_eq (show a_.eval (.tmp 96) = .agg #[.bool n_8, .slice a_8 r_8.length c_8, .slice b_8 s_8.length d_8] from hD 0 rfl) (A8.rl hr) (S8.rl hr) V8 l8 k8) (isr_eq (show a_.eval (.tmp 97) = .agg #[.bool nu, .slice au mu cu, .slice bu ku du] from hD 1 rfl) (Au.rl hr) (Su.rl hr) Vu Lu Mu) (by omega) hs0),
                        .norm 95 rfl rfl rfl (fun a_ w_ hn_ hBt hr hR hD hO hS => op_mvp (p := Tup2 (OutR ((nm (tp (nm (tp pr qr * tp pu qu) (tq qr * tq qu)) (dn (tp pr qr * tp pu qu) (tq qr * tq qu)) * tq qu) (tq (dn (tp pr qr * tp pu qu) (tq qr * tq qu)) * tp pu qu))) ((dn (tp (nm (tp pr qr * tp pu qu) (tq qr * tq qu)) (dn (tp pr qr * tp pu qu) (tq qr * tq qu)) * tq qu) (tq (dn (tp pr qr * tp pu qu) (tq qr * tq qu)) * tp pu qu))) (2 * ((2 * ((1500) + (1500) + 4)) + (1500) + 4))) (Eqs (.int .i64 0))) (show Tup2 (OutR ((nm (tp (nm (tp pr qr * tp pu qu) (tq qr * tq qu)) (dn (tp pr qr * tp pu qu) (tq qr * tq qu)) * tq qu) (tq (dn (tp pr qr * tp pu qu) (tq qr * tq qu)) * tp pu qu))) ((dn (tp (nm (tp pr qr * tp pu qu) (tq qr * tq qu)) (dn (tp pr qr * tp pu qu) (tq qr * tq qu)) * tq qu) (tq (dn (tp pr qr * tp pu qu) (tq qr * tq qu)) * tp pu qu))) (2 * ((2 * ((1500) + (1500) + 4)) + (1500) + 4))) (Eqs (.int .i64 0)) (a_.eval (.tmp 98)) w_ from hD 2 rfl)),
                        .norm 99 rfl rfl rfl (fun a_ w_ hn_ hBt hr hR hD hO hS => op_ex20 (show Tup2 (OutR ((nm (tp (nm (tp pr qr * tp pu qu) (tq qr * tq qu)) (dn (tp pr qr * tp pu qu) (tq qr * tq qu)) * tq qu) (tq (dn (tp pr qr * tp pu qu) (tq qr * tq qu)) * tp pu qu))) ((dn (tp (nm (tp pr qr * tp pu qu) (tq qr * tq qu)) (dn (tp pr qr * tp pu qu) (tq qr * tq qu)) * tq qu) (tq (dn (tp pr qr * tp pu qu) (tq qr * tq qu)) * tp pu qu))) (2 * ((2 * ((1500) + (1500) + 4)) + (1500) + 4))) (Eqs (.int .i64 0)) (a_.eval (.tmp 95)) w_ from hD 3 rfl)),
                        .norm 100 rfl rfl rfl (fun a_ w_ hn_ hBt hr hR hD hO hS => op_ex21 (show Tup2 (OutR ((nm (tp (nm (tp pr qr * tp pu qu) (tq qr * tq qu)) (dn (tp pr qr * tp pu qu) (tq qr * tq qu)) * tq qu) (tq (dn (tp pr qr * tp pu qu) (tq qr * tq qu)) * tp pu qu))) ((dn (tp (nm (tp pr qr * tp pu qu) (tq qr * tq qu)) (dn (tp pr qr * tp pu qu) (tq qr * tq qu)) * tq qu) (tq (dn (tp pr qr * tp pu qu) (tq qr * tq qu)) * tp pu qu))) (2 * ((2 * ((1500) + (1500) + 4)) + (1500) + 4))) (Eqs (.int .i64 0)) (a_.eval (.tmp 95)) w_ from hD 3 rfl)),
                        .alloc 0 _ rfl rfl (.inl ⟨rfl, rfl⟩) rfl rfl rfl rfl rfl,
                        .store 0 _ _ _ rfl rfl rfl rfl rfl rfl rfl (fun ia h => by cases h; rfl) rfl rfl rfl OutR.cs,
                        .norm 10 rfl rfl rfl (fun a_ w_ hn_ hBt hr hR hD hO hS => op_assign (show a_.eval (.tmp 100) = .int .i64 0 from hD 5 rfl)),
                        trivial⟩
                    · intro a14 w14 gs14 hn14 hd14 hBt hr hR hP hX hU
                      replace hn := hn14; replace hd := hd14.trans hd
                      replace b3 := b3.keep hBt ⟨someNe, trivial⟩
                      replace b4 := b4.keep hBt ⟨someNe, trivial⟩
                      obtain ⟨n_15, a_15, c_15, r_15, b_15, d_15, s_15, e99, G15, K15, l15, k15⟩ : OutR ((nm (tp (nm (tp pr qr * tp pu qu) (tq qr * tq qu)) (dn (tp pr qr * tp pu qu) (tq qr * tq qu)) * tq qu) (tq (dn (tp pr qr * tp pu qu) (tq qr * tq qu)) * tp pu qu))) ((dn (tp (nm (tp pr qr * tp pu qu) (tq qr * tq qu)) (dn (tp pr qr * tp pu qu) (tq qr * tq qu)) * tq qu) (tq (dn (tp pr qr * tp pu qu) (tq qr * tq qu)) * tp pu qu))) (2 * ((2 * ((1500) + (1500) + 4)) + (1500) + 4)) (a14.eval (.tmp 99)) w14 := hP 4 (by decide)
                      have A15 := G15.ag; have S15 := K15.sl; have V15 := K15.val
                      have b9 : BoxV R3 w14 (gs14 0) (.agg #[.bool n_15, .slice a_15 r_15.length c_15, .slice b_15 s_15.length d_15]) := boxv_of (hX 0 _ rfl).2.2.2 e99
                      have f9 := (hX 0 _ rfl).1
                      have u9 : w.heap.size ≤ gs14 0 := Nat.le_trans HB.size ((hX 0 _ rfl).2.2.1 (by simp))
                      replace f3 := (hR 3 rfl).trans f3
                      replace f4 := (hR 4 rfl).trans f4
                      replace f6 := (hR 6 rfl).trans f6
                      have e10 : a14.eval (.tmp 10) = .int .i64 0 := hP 8 (by decide)
                      have f10 := e10
                      replace Ar := Ar.rl hr
                      replace Sr := Sr.rl hr
                      replace Dr := Dr.rl hr
                      replace Au := Au.rl hr
                      replace Su := Su.rl hr
                      replace Du := Du.rl hr
                      replace Av := Av.rl hr
                      replace Sv := Sv.rl hr
                      replace Dv := Dv.rl hr
                      replace G6 := G6.rl hr
                      replace A6 := A6.rl hr
                      replace K6 := K6.rl hr
                      replace S6 := S6.rl hr
                      replace G8 := G8.rl hr
                      replace A8 := A8.rl hr
                      replace K8 := K8.rl hr
                      replace S8 := S8.rl hr
                      replace HB := HB.trans (hBt.below HB.size (UpOld.all (bx := [⟨R3, some 6, 0, 9, .agg #[.bool false, .slice none 0 0, .slice none 0 0], some (7, 99, 4), []⟩]) ⟨someNe, trivial⟩))
                      clear hBt hr hR hP hX hU
                      refine wp_seq ?_
                      refine wp_seq ?_
                      refine region4 [some 101, some 102, some 103] [Eqs (.agg #[.bool nu, .slice au mu cu, .slice bu ku du]), Eqs (.int .i64 (Int.sign (tp pu qu))), Eqs (.bool (decide ((Int.sign (tp pu qu)) = 0)))] [] [] (by kernel_rfl) hn rfl (by kernel_rfl) (by kernel_rfl) (by kernel_rfl) (by kernel_rfl) (by kernel_rfl) (by kernel_rfl) ⟨Eqs.mono4 _, Eqs.mono4 _, Eqs.mono4 _, trivial⟩ ok_nil (IsOld.all (bx := []) trivial) (DisOld.all (bx := []) trivial) ?_ ?_
                      · exact ⟨.norm 101 rfl rfl rfl (fun a_ w_ hn_ hBt hr hR hD hO hS => op_loadv R3ok ((hR 4 rfl).trans f4) (b4.keep hBt trivial)),
                          .norm 102 rfl rfl rfl (fun a_ w_ hn_ hBt hr hR hD hO hS => op_rsign (isr_eq (show a_.eval (.tmp 101) = .agg #[.bool nu, .slice au mu cu, .slice bu ku du] from hD 0 rfl) (Au.rl hr) (Su.rl hr) Vu Lu Mu) (by omega)),
                          .norm 103 rfl rfl rfl (fun a_ w_ hn_ hBt hr hR hD hO hS => op_eqlk (show a_.eval (.tmp 102) = .int .i64 (Int.sign (tp pu qu)) from hD 1 rfl)),
                          trivial⟩
                      · intro a16 w16 gs16 hn16 hd16 hBt hr hR hP hX hU
                        replace hn := hn16; replace hd := hd16.trans hd
                        replace b3 := b3.keep hBt trivial
                        replace b9 := b9.keep hBt trivial
                        replace f3 := (hR 3 rfl).trans f3
                        replace f6 := (hR 6 rfl).trans f6
                        replace f9 := (hR 9 rfl).trans f9
                        replace f10 := (hR 10 rfl).trans f10
                        have e103 : a16.eval (.tmp 103) = .bool (decide ((Int.sign (tp pu qu)) = 0)) := hP 2 (by decide)
                        have f103 := e103
                        replace Ar := Ar.rl hr
                        replace Sr := Sr.rl hr
                        replace Dr := Dr.rl hr
                        replace Au := Au.rl hr
                        replace Su := Su.rl hr
                        replace Du := Du.rl hr
                        replace Av := Av.rl hr
                        replace Sv := Sv.rl hr
                        replace Dv := Dv.rl hr
                        replace G6 := G6.rl hr
                        replace A6 := A6.rl hr
                        replace K6 := K6.rl hr
                        replace S6 := S6.rl hr
                        replace G8 := G8.rl hr
                        replace A8 := A8.rl hr
                        replace K8 := K8.rl hr
                        replace S8 := S8.rl hr
                        replace G15 := G15.rl hr
                        replace A15 := A15.rl hr
                        replace K15 := K15.rl hr
                        replace S15 := S15.rl hr
                        replace HB := HB.trans (hBt.below HB.size (UpOld.all (bx := []) trivial))
                        clear hBt hr hR hP hX hU
                        refine wp_cond_split f103 (fun hc103 => ?_) (fun hc103 => ?_)
                        · skip
                          exact absurd (sign_zero_iff.1 (of_decide_eq_true hc103)) hs0
                        · skip
                          refine wp_skip ?_
                          refine wp_seq ?_
                          refine region4 [some 111, some 112, some 113, some 114, some 115, some 116, some 117, some 118, some 6] [Eqs (.int .i64 0), Eqs (.bool true), Eqs (.bool true), Eqs (.agg #[.bool n_15, .slice a_15 r_15.length c_15, .slice b_15 s_15.length d_15]), Eqs (.agg #[.bool nr, .slice ar mr cr, .slice br kr dr]), OutR ((nm (tp pr qr) (tq qr))) ((dn (tp pr qr) (tq qr))) (2 * ((1500) + 2)), Eqs (.bool true), Eqs (.bool true), Eqs (.bool true)] [] [] (by kernel_rfl) hn rfl (by kernel_rfl) (by kernel_rfl) (by kernel_rfl) (by kernel_rfl) (by kernel_rfl) (by kernel_rfl) ⟨Eqs.mono4 _, Eqs.mono4 _, Eqs.mono4 _, Eqs.mono4 _, Eqs.mono4 _, OutR.mono4 _ _ _, Eqs.mono4 _, Eqs.mono4 _, Eqs.mono4 _, trivial⟩ ok_nil (IsOld.all (bx := []) trivial) (DisOld.all (bx := []) trivial) ?_ ?_
                          · exact ⟨.norm 111 rfl rfl rfl (fun a_ w_ hn_ hBt hr hR hD hO hS => op_mv ((hR 10 rfl).trans f10)),
                              .norm 112 rfl rfl rfl (fun a_ w_ hn_ hBt hr hR hD hO hS => op_eqle (show a_.eval (.tmp 111) = .int .i64 0 from hD 0 rfl)),
                              .norm 113 rfl rfl rfl (fun a_ w_ hn_ hBt hr hR hD hO hS => op_mv (show a_.eval (.tmp 112) = .bool true from hD 1 rfl)),
                              .norm 114 rfl rfl rfl (fun a_ w_ hn_ hBt hr hR hD hO hS => ⟨⟨_, rfl⟩, fun _ => op_loadv R3ok ((hR 9 rfl).trans f9) (b9.keep hBt trivial), fun hne => absurd (hD 2 rfl) hne⟩),
                              .norm 115 rfl rfl rfl (fun a_ w_ hn_ hBt hr hR hD hO hS => ⟨⟨_, rfl⟩, fun _ => op_loadv R3ok ((hR 3 rfl).trans f3) (b3.keep hBt trivial), fun hne => absurd (hD 2 rfl) hne⟩),
                              .norm 116 rfl rfl rfl (fun a_ w_ hn_ hBt hr hR hD hO hS => ⟨⟨_, rfl⟩, fun _ => op_rtrim (isr_eq (show a_.eval (.tmp 115) = .agg #[.bool nr, .slice ar mr cr, .slice br kr dr] from hD 4 rfl) (Ar.rl hr) (Sr.rl hr) Vr Lr Mr) (by omega), fun hne => absurd (hD 2 rfl) hne⟩),
                              .norm 117 rfl rfl rfl (fun a_ w_ hn_ hBt hr hR hD hO hS => ⟨⟨_, rfl⟩, fun _ => op_samer (outr_eq (show a_.eval (.tmp 114) = .agg #[.bool n_15, .slice a_15 r_15.length c_15, .slice b_15 s_15.length d_15] from hD 3 rfl) (G15.rl hr) (K15.rl hr) l15 k15) (show OutR ((nm (tp pr qr) (tq qr))) ((dn (tp pr qr) (tq qr))) (2 * ((1500) + 2)) (a_.eval (.tmp 116)) w_ from hD 5 rfl) (fld_div (tq_ne _) (tq_ne _) hs0), fun hne => absurd (hD 2 rfl) hne⟩),
                              .norm 118 rfl rfl rfl (fun a_ w_ hn_ hBt hr hR hD hO hS => op_pickb (show a_.eval (.tmp 113) = .bool true from hD 2 rfl) (show a_.eval (.tmp 117) = .bool true from hD 6 rfl)),
                              .norm 6 rfl rfl rfl (fun a_ w_ hn_ hBt hr hR hD hO hS => op_assign (show a_.eval (.tmp 118) = .bool true from hD 7 rfl)),
                              trivial⟩
                          · intro a17 w17 gs17 hn17 hd17 hBt hr hR hP hX hU
                            replace hn := hn17; replace hd := hd17.trans hd
                            have e6 : a17.eval (.tmp 6) = .bool true := hP 8 (by decide)
                            have f6 := e6
                            replace Ar := Ar.rl hr
                            replace Sr := Sr.rl hr
                            replace Dr := Dr.rl hr
                            replace Au := Au.rl hr
                            replace Su := Su.rl hr
                            replace Du := Du.rl hr
                            replace Av := Av.rl hr
                            replace Sv := Sv.rl hr
                            replace Dv := Dv.rl hr
                            replace G6 := G6.rl hr
                            replace A6 := A6.rl hr
                            replace K6 := K6.rl hr
                            replace S6 := S6.rl hr
                            replace G8 := G8.rl hr
                            replace A8 := A8.rl hr
                            replace K8 := K8.rl hr
                            replace S8 := S8.rl hr
                            replace G15 := G15.rl hr
                            replace A15 := A15.rl hr
                            replace K15 := K15.rl hr
                            replace S15 := S15.rl hr
                            replace HB := HB.trans (hBt.below HB.size (UpOld.all (bx := []) trivial))
                            clear hBt hr hR hP hX hU
                            refine wp_ret ?_
                            repeat (first | refine then_ret ?_ | refine scope_ret ?_ | refine block_ret ?_)
                            exact bodyPost_ret (v := .bool true) (res_t rfl f6) hd ⟨rfl, HB⟩

end Lm
end Go.Proofs.Ytkdcgnooeojjgab

namespace Go.Proofs.Ytkdcgnooeojjgab
namespace ratioFieldLaw
open Go.ChangeShapes Go.WideShapes Go.ChangeAt Go.RowKit
open Go.ChangeMaps (open_string shut_string)

theorem own : ownKnob Try.prog.godebug = none := by kernel_rfl
theorem laidOut : laidOutB Try.prog = true := by kernel_rfl
theorem bytes4 : Try.prog.bytesOf 73 = 4 := by kernel_rfl

theorem sl_of {w : World} {x : Addr} {l c : Nat} {zs : List Int} (hl : l ≤ c) (hm : c ≤ maxLen) (hz : zs.length = c) (hcell : ∀ i, i < zs.length → w.cell? (x.add i) = some (.int .u32 (zs.getD i 0))) (hwz : ∀ n ∈ zs, (Lit.int .u32 n).wf = true) : Lm.Sl w (.slice (some x) l c) (zs.take l) := by
  have hll : (zs.take l).length = l := by rw [List.length_take]; omega
  refine ⟨some x, c, by rw [hll], by omega, hm, fun n hn => ?_, ?_⟩
  · have := bounds_u32 (hwz n (List.mem_of_mem_take hn))
    omega
  · by_cases h0 : l = 0
    · exact .inl (List.eq_nil_of_length_eq_zero (by omega))
    · obtain ⟨b, off, spot⟩ := x
      have h1 := hcell 0 (by omega)
      have hspot : spot = none := by simpa [Addr.add] using World.cell?_spot h1
      subst hspot
      refine .inr ⟨b, off, rfl, fun i hi => ?_⟩
      have h2 := hcell i (by omega)
      rw [Lm.getD_take _ _ _ (by omega)]
      have e : (⟨b, off, none⟩ : Addr).add i = ⟨b, off + i, none⟩ := by
        by_cases hi0 : i = 0
        · subst hi0; simp [Addr.add]
        · simp [Addr.add, hi0]
      rwa [e] at h2

set_option linter.unusedVariables false in
set_option maxRecDepth 100000 in
theorem lifted (os : Os) (started : os.Started) (H : Type) (enc : TypeId × Value → H) :
    ReturnsInHanded {} Try.checked os 5 .any (Rows.ratioFieldSpec.pre6 enc Try.prog Try.f5 Rows.ratioFieldRow.domain false) (Rows.ratioFieldSpec.post enc Try.prog Try.f5 false true false false) := by
  refine returnsInHanded_of_change_sized (C := Try.checked) own started (by kernel_rfl) Try.func5
    (ChangeSpec.witness6 (enc := enc) (C := Try.checked) false ⟨#[], #[.agg #[.bool false, .slice none 0 0, .slice none 0 0], .agg #[.bool false, .slice none 0 0, .slice none 0 0], .agg #[.bool false, .slice none 0 0, .slice none 0 0]], []⟩ 8 (by kernel_rfl) (by kernel_rfl) (by kernel_rfl) (by kernel_rfl)) ?_
  intro W base args ds gs before hval0 hW hcnd hsz0 _
  have hval : ∀ (j : Nat) t v, Try.f5.params[j]? = some t → args[j]? = some v → Value.okWide Try.prog W .any base t v := hval0
  have hW' := hW
  obtain ⟨p, q, hA0, hV, rfl, hfz, hnd⟩ := hW
  have hA : DataW.TrodAll enc Try.prog W 0 (fun _ => true) true Try.f5.params.toList args.toList ds p := hA0
  have hsz : (DataW.weightsEach Try.prog (Try.f5.params.toList ++ Rows.ratioFieldSpec.plain.varTypes Try.prog) (ds ++ gs)).all (· ≤ reachBytes) = true := hsz0
  rw [Try.params5] at hA hval hsz
  obtain ⟨v0, vs0, d0, ds0, p0, q0, hargs, rfl, rfl, h0, r0⟩ := trodAll_cons hA
  obtain ⟨v1, vs1, d1, ds1, p1, q1, rfl, rfl, rfl, h1, r1⟩ := trodAll_cons r0
  obtain ⟨v2, vs2, d2, ds2, p2, q2, rfl, rfl, rfl, h2, r2⟩ := trodAll_cons r1
  obtain ⟨rfl, rfl, rfl⟩ := trodAll_nil r2
  obtain rfl : args = #[v0, v1, v2] := by cases args; simp_all
  obtain ⟨rfl, rfl⟩ := trodVars_none hV
  have k0 := h0
  have lt0 : ∀ x ∈ p0, x.block < W.heap.size := by obtain ⟨m, hm⟩ := k0; exact DataW.trod_lt m _ _ _ hm
  obtain ⟨g0, a0, len0, cap0, z0, e0, l0, c0, y0, hv0, w0, b0, u0, m0⟩ : ∃ ng ao n cap zs bo m dap ys, v0 = .agg #[.bool ng, .slice ao n cap, .slice bo m dap] ∧ Lm.Sl W (.slice ao n cap) zs ∧ n ≤ 35184372088832 ∧ Lm.Sl W (.slice bo m dap) ys ∧ m ≤ 35184372088832 := by
    obtain ⟨cs, hv, hsz2⟩ := okWide_struct Try.underlying26 (hval 0 26 v0 rfl rfl)
    obtain ⟨c0, c1, c2, rfl⟩ := Go.Joins.array3 (hsz2.trans (by kernel_rfl : Try.prog.cellsOf 26 = 3))
    subst hv
    obtain ⟨fuel, hf⟩ := h0
    obtain ⟨y0, y1, n, hx, _, t0, t1⟩ := trod_struct2 Try.underlying26 hf
    obtain ⟨z0, z1, n2, hx2, _, s0, s1⟩ := trod_struct2 Try.underlying24 t0
    have kW : Try.prog.cellsOf 24 = 2 := by kernel_rfl
    have kS : Try.prog.cellsOf 22 = 1 := by kernel_rfl
    have kB : Try.prog.cellsOf 4 = 1 := by kernel_rfl
    have s0' : DataW.trod enc Try.prog W 0 (fun _ => true) true n2 4 [c0] = some z0 := by simpa [Value.cells, kW, kB] using s0
    have s1' : DataW.trod enc Try.prog W 0 (fun _ => true) true n2 22 [c1] = some z1 := by simpa [Value.cells, kW, kS] using s1
    have t1' : DataW.trod enc Try.prog W 0 (fun _ => true) true n 22 [c2] = some y1 := by simpa [Value.cells, kS] using t1
    have hd : d0 = .agg [.agg [z0.1, z1.1], y1.1] := by
      have h1 := congrArg Prod.fst hx
      have h2 := congrArg Prod.fst hx2
      simp only at h1 h2
      rw [h1, h2]
    clear s0 s1 t1 t0 hx hx2 hf
    obtain ⟨b, hb0, _⟩ := DataW.trod_bool Try.underlying4 s0'
    obtain rfl : c0 = .bool b := by simpa using hb0
    have num : ∃ ao n cap zs, c1 = .slice ao n cap ∧ Lm.Sl W (.slice ao n cap) zs ∧ n ≤ 35184372088832 := by
      rcases open_ints Try.underlying22 Try.underlying73 (by kernel_rfl) s1' with ⟨hcs, _⟩ | ⟨x, l, c, zs, hcs, _, hl, hm, hz, hx, hcell, hwz⟩
      · obtain rfl : c1 = .slice none 0 0 := by simpa using hcs
        exact ⟨none, 0, 0, [], rfl, ⟨none, 0, rfl, Nat.le_refl _, by simp [maxLen], Lm.limb_nil, .inl rfl⟩, by omega⟩
      · obtain rfl : c1 = .slice (some x) l c := by simpa using hcs
        have hz' : zs.length = c := by simpa using hz
        have hx1 : z1.1 = .slice (lits .u32 (zs.take l)) (lits .u32 (zs.drop l)) := congrArg Prod.fst hx
        refine ⟨some x, l, c, _, rfl, sl_of hl hm hz' hcell hwz, ?_⟩
        have hs := List.all_eq_true.1 hsz _ (DataW.weights_mem_each (j := 0) (t := 26) rfl (congrArg some hd) (((lits .u32 (zs.take l) : List (DataW H)).length + (lits .u32 (zs.drop l) : List (DataW H)).length) * Try.prog.bytesOf 73) (by rw [hx1]; simp [DataW.weights, DataW.weightsEach, Try.underlying26, Try.underlying24, Try.underlying22]))
        rw [bytes4] at hs
        simp only [lits, List.length_map, List.length_take, List.length_drop, reachBytes, decide_eq_true_eq] at hs
        omega
    have den : ∃ ao n cap zs, c2 = .slice ao n cap ∧ Lm.Sl W (.slice ao n cap) zs ∧ n ≤ 35184372088832 := by
      rcases open_ints Try.underlying22 Try.underlying73 (by kernel_rfl) t1' with ⟨hcs, _⟩ | ⟨x, l, c, zs, hcs, _, hl, hm, hz, hx, hcell, hwz⟩
      · obtain rfl : c2 = .slice none 0 0 := by simpa using hcs
        exact ⟨none, 0, 0, [], rfl, ⟨none, 0, rfl, Nat.le_refl _, by simp [maxLen], Lm.limb_nil, .inl rfl⟩, by omega⟩
      · obtain rfl : c2 = .slice (some x) l c := by simpa using hcs
        have hz' : zs.length = c := by simpa using hz
        have hx1 : y1.1 = .slice (lits .u32 (zs.take l)) (lits .u32 (zs.drop l)) := congrArg Prod.fst hx
        refine ⟨some x, l, c, _, rfl, sl_of hl hm hz' hcell hwz, ?_⟩
        have hs := List.all_eq_true.1 hsz _ (DataW.weights_mem_each (j := 0) (t := 26) rfl (congrArg some hd) (((lits .u32 (zs.take l) : List (DataW H)).length + (lits .u32 (zs.drop l) : List (DataW H)).length) * Try.prog.bytesOf 73) (by rw [hx1]; simp [DataW.weights, DataW.weightsEach, Try.underlying26, Try.underlying24, Try.underlying22]))
        rw [bytes4] at hs
        simp only [lits, List.length_map, List.length_take, List.length_drop, reachBytes, decide_eq_true_eq] at hs
        omega
    obtain ⟨ao, n1, cap, zs, rfl, hS1, hn1⟩ := num
    obtain ⟨bo, m1, dap, ys, rfl, hS2, hn2⟩ := den
    exact ⟨b, ao, n1, cap, zs, bo, m1, dap, ys, rfl, hS1, hn1, hS2, hn2⟩
  subst hv0
  have k1 := h1
  have lt1 : ∀ x ∈ p1, x.block < W.heap.size := by obtain ⟨m, hm⟩ := k1; exact DataW.trod_lt m _ _ _ hm
  obtain ⟨g1, a1, len1, cap1, z1, e1, l1, c1, y1, hv1, w1, b1, u1, m1⟩ : ∃ ng ao n cap zs bo m dap ys, v1 = .agg #[.bool ng, .slice ao n cap, .slice bo m dap] ∧ Lm.Sl W (.slice ao n cap) zs ∧ n ≤ 35184372088832 ∧ Lm.Sl W (.slice bo m dap) ys ∧ m ≤ 35184372088832 := by
    obtain ⟨cs, hv, hsz2⟩ := okWide_struct Try.underlying26 (hval 1 26 v1 rfl rfl)
    obtain ⟨c0, c1, c2, rfl⟩ := Go.Joins.array3 (hsz2.trans (by kernel_rfl : Try.prog.cellsOf 26 = 3))
    subst hv
    obtain ⟨fuel, hf⟩ := h1
    obtain ⟨y0, y1, n, hx, _, t0, t1⟩ := trod_struct2 Try.underlying26 hf
    obtain ⟨z0, z1, n2, hx2, _, s0, s1⟩ := trod_struct2 Try.underlying24 t0
    have kW : Try.prog.cellsOf 24 = 2 := by kernel_rfl
    have kS : Try.prog.cellsOf 22 = 1 := by kernel_rfl
    have kB : Try.prog.cellsOf 4 = 1 := by kernel_rfl
    have s0' : DataW.trod enc Try.prog W 0 (fun _ => true) true n2 4 [c0] = some z0 := by simpa [Value.cells, kW, kB] using s0
    have s1' : DataW.trod enc Try.prog W 0 (fun _ => true) true n2 22 [c1] = some z1 := by simpa [Value.cells, kW, kS] using s1
    have t1' : DataW.trod enc Try.prog W 0 (fun _ => true) true n 22 [c2] = some y1 := by simpa [Value.cells, kS] using t1
    have hd : d1 = .agg [.agg [z0.1, z1.1], y1.1] := by
      have h1 := congrArg Prod.fst hx
      have h2 := congrArg Prod.fst hx2
      simp only at h1 h2
      rw [h1, h2]
    clear s0 s1 t1 t0 hx hx2 hf
    obtain ⟨b, hb0, _⟩ := DataW.trod_bool Try.underlying4 s0'
    obtain rfl : c0 = .bool b := by simpa using hb0
    have num : ∃ ao n cap zs, c1 = .slice ao n cap ∧ Lm.Sl W (.slice ao n cap) zs ∧ n ≤ 35184372088832 := by
      rcases open_ints Try.underlying22 Try.underlying73 (by kernel_rfl) s1' with ⟨hcs, _⟩ | ⟨x, l, c, zs, hcs, _, hl, hm, hz, hx, hcell, hwz⟩
      · obtain rfl : c1 = .slice none 0 0 := by simpa using hcs
        exact ⟨none, 0, 0, [], rfl, ⟨none, 0, rfl, Nat.le_refl _, by simp [maxLen], Lm.limb_nil, .inl rfl⟩, by omega⟩
      · obtain rfl : c1 = .slice (some x) l c := by simpa using hcs
        have hz' : zs.length = c := by simpa using hz
        have hx1 : z1.1 = .slice (lits .u32 (zs.take l)) (lits .u32 (zs.drop l)) := congrArg Prod.fst hx
        refine ⟨some x, l, c, _, rfl, sl_of hl hm hz' hcell hwz, ?_⟩
        have hs := List.all_eq_true.1 hsz _ (DataW.weights_mem_each (j := 1) (t := 26) rfl (congrArg some hd) (((lits .u32 (zs.take l) : List (DataW H)).length + (lits .u32 (zs.drop l) : List (DataW H)).length) * Try.prog.bytesOf 73) (by rw [hx1]; simp [DataW.weights, DataW.weightsEach, Try.underlying26, Try.underlying24, Try.underlying22]))
        rw [bytes4] at hs
        simp only [lits, List.length_map, List.length_take, List.length_drop, reachBytes, decide_eq_true_eq] at hs
        omega
    have den : ∃ ao n cap zs, c2 = .slice ao n cap ∧ Lm.Sl W (.slice ao n cap) zs ∧ n ≤ 35184372088832 := by
      rcases open_ints Try.underlying22 Try.underlying73 (by kernel_rfl) t1' with ⟨hcs, _⟩ | ⟨x, l, c, zs, hcs, _, hl, hm, hz, hx, hcell, hwz⟩
      · obtain rfl : c2 = .slice none 0 0 := by simpa using hcs
        exact ⟨none, 0, 0, [], rfl, ⟨none, 0, rfl, Nat.le_refl _, by simp [maxLen], Lm.limb_nil, .inl rfl⟩, by omega⟩
      · obtain rfl : c2 = .slice (some x) l c := by simpa using hcs
        have hz' : zs.length = c := by simpa using hz
        have hx1 : y1.1 = .slice (lits .u32 (zs.take l)) (lits .u32 (zs.drop l)) := congrArg Prod.fst hx
        refine ⟨some x, l, c, _, rfl, sl_of hl hm hz' hcell hwz, ?_⟩
        have hs := List.all_eq_true.1 hsz _ (DataW.weights_mem_each (j := 1) (t := 26) rfl (congrArg some hd) (((lits .u32 (zs.take l) : List (DataW H)).length + (lits .u32 (zs.drop l) : List (DataW H)).length) * Try.prog.bytesOf 73) (by rw [hx1]; simp [DataW.weights, DataW.weightsEach, Try.underlying26, Try.underlying24, Try.underlying22]))
        rw [bytes4] at hs
        simp only [lits, List.length_map, List.length_take, List.length_drop, reachBytes, decide_eq_true_eq] at hs
        omega
    obtain ⟨ao, n1, cap, zs, rfl, hS1, hn1⟩ := num
    obtain ⟨bo, m1, dap, ys, rfl, hS2, hn2⟩ := den
    exact ⟨b, ao, n1, cap, zs, bo, m1, dap, ys, rfl, hS1, hn1, hS2, hn2⟩
  subst hv1
  have k2 := h2
  have lt2 : ∀ x ∈ p2, x.block < W.heap.size := by obtain ⟨m, hm⟩ := k2; exact DataW.trod_lt m _ _ _ hm
  obtain ⟨g2, a2, len2, cap2, z2, e2, l2, c2, y2, hv2, w2, b2, u2, m2⟩ : ∃ ng ao n cap zs bo m dap ys, v2 = .agg #[.bool ng, .slice ao n cap, .slice bo m dap] ∧ Lm.Sl W (.slice ao n cap) zs ∧ n ≤ 35184372088832 ∧ Lm.Sl W (.slice bo m dap) ys ∧ m ≤ 35184372088832 := by
    obtain ⟨cs, hv, hsz2⟩ := okWide_struct Try.underlying26 (hval 2 26 v2 rfl rfl)
    obtain ⟨c0, c1, c2, rfl⟩ := Go.Joins.array3 (hsz2.trans (by kernel_rfl : Try.prog.cellsOf 26 = 3))
    subst hv
    obtain ⟨fuel, hf⟩ := h2
    obtain ⟨y0, y1, n, hx, _, t0, t1⟩ := trod_struct2 Try.underlying26 hf
    obtain ⟨z0, z1, n2, hx2, _, s0, s1⟩ := trod_struct2 Try.underlying24 t0
    have kW : Try.prog.cellsOf 24 = 2 := by kernel_rfl
    have kS : Try.prog.cellsOf 22 = 1 := by kernel_rfl
    have kB : Try.prog.cellsOf 4 = 1 := by kernel_rfl
    have s0' : DataW.trod enc Try.prog W 0 (fun _ => true) true n2 4 [c0] = some z0 := by simpa [Value.cells, kW, kB] using s0
    have s1' : DataW.trod enc Try.prog W 0 (fun _ => true) true n2 22 [c1] = some z1 := by simpa [Value.cells, kW, kS] using s1
    have t1' : DataW.trod enc Try.prog W 0 (fun _ => true) true n 22 [c2] = some y1 := by simpa [Value.cells, kS] using t1
    have hd : d2 = .agg [.agg [z0.1, z1.1], y1.1] := by
      have h1 := congrArg Prod.fst hx
      have h2 := congrArg Prod.fst hx2
      simp only at h1 h2
      rw [h1, h2]
    clear s0 s1 t1 t0 hx hx2 hf
    obtain ⟨b, hb0, _⟩ := DataW.trod_bool Try.underlying4 s0'
    obtain rfl : c0 = .bool b := by simpa using hb0
    have num : ∃ ao n cap zs, c1 = .slice ao n cap ∧ Lm.Sl W (.slice ao n cap) zs ∧ n ≤ 35184372088832 := by
      rcases open_ints Try.underlying22 Try.underlying73 (by kernel_rfl) s1' with ⟨hcs, _⟩ | ⟨x, l, c, zs, hcs, _, hl, hm, hz, hx, hcell, hwz⟩
      · obtain rfl : c1 = .slice none 0 0 := by simpa using hcs
        exact ⟨none, 0, 0, [], rfl, ⟨none, 0, rfl, Nat.le_refl _, by simp [maxLen], Lm.limb_nil, .inl rfl⟩, by omega⟩
      · obtain rfl : c1 = .slice (some x) l c := by simpa using hcs
        have hz' : zs.length = c := by simpa using hz
        have hx1 : z1.1 = .slice (lits .u32 (zs.take l)) (lits .u32 (zs.drop l)) := congrArg Prod.fst hx
        refine ⟨some x, l, c, _, rfl, sl_of hl hm hz' hcell hwz, ?_⟩
        have hs := List.all_eq_true.1 hsz _ (DataW.weights_mem_each (j := 2) (t := 26) rfl (congrArg some hd) (((lits .u32 (zs.take l) : List (DataW H)).length + (lits .u32 (zs.drop l) : List (DataW H)).length) * Try.prog.bytesOf 73) (by rw [hx1]; simp [DataW.weights, DataW.weightsEach, Try.underlying26, Try.underlying24, Try.underlying22]))
        rw [bytes4] at hs
        simp only [lits, List.length_map, List.length_take, List.length_drop, reachBytes, decide_eq_true_eq] at hs
        omega
    have den : ∃ ao n cap zs, c2 = .slice ao n cap ∧ Lm.Sl W (.slice ao n cap) zs ∧ n ≤ 35184372088832 := by
      rcases open_ints Try.underlying22 Try.underlying73 (by kernel_rfl) t1' with ⟨hcs, _⟩ | ⟨x, l, c, zs, hcs, _, hl, hm, hz, hx, hcell, hwz⟩
      · obtain rfl : c2 = .slice none 0 0 := by simpa using hcs
        exact ⟨none, 0, 0, [], rfl, ⟨none, 0, rfl, Nat.le_refl _, by simp [maxLen], Lm.limb_nil, .inl rfl⟩, by omega⟩
      · obtain rfl : c2 = .slice (some x) l c := by simpa using hcs
        have hz' : zs.length = c := by simpa using hz
        have hx1 : y1.1 = .slice (lits .u32 (zs.take l)) (lits .u32 (zs.drop l)) := congrArg Prod.fst hx
        refine ⟨some x, l, c, _, rfl, sl_of hl hm hz' hcell hwz, ?_⟩
        have hs := List.all_eq_true.1 hsz _ (DataW.weights_mem_each (j := 2) (t := 26) rfl (congrArg some hd) (((lits .u32 (zs.take l) : List (DataW H)).length + (lits .u32 (zs.drop l) : List (DataW H)).length) * Try.prog.bytesOf 73) (by rw [hx1]; simp [DataW.weights, DataW.weightsEach, Try.underlying26, Try.underlying24, Try.underlying22]))
        rw [bytes4] at hs
        simp only [lits, List.length_map, List.length_take, List.length_drop, reachBytes, decide_eq_true_eq] at hs
        omega
    obtain ⟨ao, n1, cap, zs, rfl, hS1, hn1⟩ := num
    obtain ⟨bo, m1, dap, ys, rfl, hS2, hn2⟩ := den
    exact ⟨b, ao, n1, cap, zs, bo, m1, dap, ys, rfl, hS1, hn1, hS2, hn2⟩
  subst hv2
  clear hA0 hval0
  refine (Lm.rfield_law W g0 a0 len0 cap0 z0 _ e0 l0 c0 y0 _ g1 a1 len1 cap1 z1 _ e1 l1 c1 y1 _ g2 a2 len2 cap2 z2 _ e2 l2 c2 y2 _ ⟨w0, rfl⟩ u0 rfl ⟨w1, rfl⟩ u1 rfl ⟨w2, rfl⟩ u2 rfl b0 m0 b1 m1 b2 m2).mono fun e W' ⟨he, bel⟩ => ?_
  subst he
  exact ⟨_, rfl, _, _, _, [], _, [], hW', trodAll_mk1 (shut_bool Try.underlying4 _), (trodAll_cons_mk (Below.trod laidOut (by kernel_rfl) (of_decide_eq_true (by kernel_rfl)) k0 bel lt0) (trodAll_cons_mk (Below.trod laidOut (by kernel_rfl) (of_decide_eq_true (by kernel_rfl)) k1 bel lt1) (trodAll_cons_mk (Below.trod laidOut (by kernel_rfl) (of_decide_eq_true (by kernel_rfl)) k2 bel lt2) trodAll_mk0))), rfl, bel.frame _, fun h => by cases h⟩

theorem over : Rows.ratioFieldRow.holds Try.pinned (OpenSpec.ofChange Rows.ratioFieldSpec) :=
  OpenClaim.holds_of_wide 5 Try.f5 rfl rfl rfl rfl rfl rfl rfl ⟨rfl, rfl, rfl, rfl, rfl⟩ rfl rfl rfl rfl rfl (by kernel_rfl) Try.func5 (by kernel_rfl)
    (of_decide_eq_true (by kernel_rfl)) (by unfold Func.isWrapper; first | (rw [if_pos (by decide +kernel)]; kernel_rfl) | (rw [if_neg (by decide +kernel)]; exact ⟨rfl, rfl⟩))
    (fun os started H enc _ => lifted os started H enc)
end ratioFieldLaw

theorem ratioField_holds : Rows.RatioFieldSaid := ratioFieldLaw.over
#print axioms ratioField_holds
end Go.Proofs.Ytkdcgnooeojjgab
