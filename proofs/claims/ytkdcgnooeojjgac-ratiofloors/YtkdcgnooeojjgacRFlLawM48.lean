/-
  What the laws on fractions lean on. Fractions: their order. Lowest terms, as numbers: fractions that are one number have one numerator and one denominator. No program is named here. The laws of fractions in lowest terms, as numbers. No program is named here.
-/
import Derived.Test.YtkdcgnooeojjgacRFlLawM47
import Derived.Test.YtkdcgnooeojjgacRFlLawM45
namespace Go.Proofs.Ytkdcgnooeojjgac
namespace Lm
open Go Go.RowKit

section
variable {dst : Option Tmp} {ty : TypeId} {pos : String} {after : Array Edge} {guard : Option (Nat × Bool)} {a : Act} {w : World} {ats : Array TypeId} {i j : Nat} {x y : Int} {L L1 L2 : Nat}
theorem has_lenw : Has Try.prog 7 := by unfold Has; kernel_rfl
theorem op_lenw {ng : Bool} {ao : Option Addr} {n c : Nat} (h : a.eval (.tmp i) = .agg #[.bool ng, .slice ao n c]) (hn : n ≤ 35184372088832) :
    Does Try.prog { dst, op := .call { callee := .value (.func 7), args := #[.tmp i], argTypes := ats }, type := ty, pos, after, guard } a.eval w fun v w' => Below w.heap.size w w' ∧ Eqs (.int .i64 (1 + (n : Int))) v w' := by
  refine does_call has_lenw _ (by simp only [List.map_toArray, List.map_cons, List.map_nil, h]) ((wlen_any w ng ao n c hn).mono ?_)
  rintro e w' ⟨rfl, hb⟩
  exact ⟨_, rfl, hb, rfl⟩
theorem op_samef (hx : OutW x L1 (a.eval (.tmp i)) w) (hy : OutW y L2 (a.eval (.tmp j)) w) (h : x ≠ y) :
    Does Try.prog { dst, op := .call { callee := .value (.func 12), args := #[.tmp i, .tmp j], argTypes := ats }, type := ty, pos, after, guard } a.eval w fun v w' => Below w.heap.size w w' ∧ Eqs (.bool false) v w' := by
  obtain ⟨n1, a1, c1, xs, e1, A1, l1⟩ := hx
  obtain ⟨n2, a2, c2, ys, e2, A2, l2⟩ := hy
  refine does_call has_same _ (by simp only [List.map_toArray, List.map_cons, List.map_nil, e1, e2]) ((same_z _ _ _ _ _ _ _ _ _ _ _ A1 A2 false (decide_eq_false h)).mono ?_)
  rintro e w' ⟨rfl, hb⟩
  exact ⟨_, rfl, hb, rfl⟩
theorem has_samel : Has Try.prog 10 := by unfold Has; kernel_rfl
theorem op_samel (hx : OutL x L1 (a.eval (.tmp i)) w) (hy : OutL y L2 (a.eval (.tmp j)) w) :
    Does Try.prog { dst, op := .call { callee := .value (.func 10), args := #[.tmp i, .tmp j], argTypes := ats }, type := ty, pos, after, guard } a.eval w fun v w' => Below w.heap.size w w' ∧ Eqs (.bool (decide (x = y))) v w' := by
  obtain ⟨a1, c1, xs, e1, G1, l1⟩ := hx
  obtain ⟨a2, c2, ys, e2, G2, l2⟩ := hy
  refine does_call has_samel _ (by simp only [List.map_toArray, List.map_cons, List.map_nil, e1, e2]) ((same_any w _ _ _ _ _ _ xs ys G1.sl G2.sl).mono ?_)
  rintro e w' ⟨rfl, hb⟩
  refine ⟨_, rfl, hb, ?_⟩
  have v1 := G1.val
  have v2 := G2.val
  show Value.bool (sameB xs ys) = Value.bool (decide (x = y))
  by_cases h : x = y
  · rw [sameB_of (canon_one G1.canon G2.canon (by rw [v1, v2, h])), decide_eq_true h]
  · have : xs ≠ ys := fun e => h (by rw [← v1, ← v2, e])
    simp [sameB, h, this]
theorem dec3 : IsDec [51] 3 := by
  refine ⟨?_, by decide, .inr ⟨51, _, rfl, by decide⟩⟩
  intro c hc
  simp at hc
  omega
theorem dec2 : IsDec [50] 2 := by
  refine ⟨?_, by decide, .inr ⟨50, _, rfl, by decide⟩⟩
  intro c hc
  simp at hc
  omega
theorem has_wtext : Has Try.prog 49 := by unfold Has; kernel_rfl
theorem op_text3 (hx : OutW x L (a.eval (.tmp i)) w) (h : x = -3) (hl : L ≤ 100000) :
    Does Try.prog { dst, op := .call { callee := .value (.func 49), args := #[.tmp i], argTypes := ats }, type := ty, pos, after, guard } a.eval w fun v w' => Below w.heap.size w w' ∧ Eqs (.string ⟨#[45, 51]⟩) v w' := by
  subst h
  obtain ⟨n1, a1, c1, xs, e1, A1, l1⟩ := hx
  refine does_call has_wtext _ (by simp only [List.map_toArray, List.map_cons, List.map_nil, e1]) ((wtext_neg w n1 a1 _ c1 xs A1.sl (by omega) (by rw [A1.worth]; decide)).mono ?_)
  rintro e w' ⟨ds, rfl, hd, hb⟩
  have e2 := isDec_one hd (show IsDec [51] (val xs) by rw [A1.1.val]; exact dec3)
  subst e2
  exact ⟨_, rfl, hb, rfl⟩
theorem has_ltext : Has Try.prog 50 := by unfold Has; kernel_rfl
theorem op_text2 (hx : IsL x L (a.eval (.tmp i)) w) (h : x = 2) (hl : L ≤ 100000) :
    Does Try.prog { dst, op := .call { callee := .value (.func 50), args := #[.tmp i], argTypes := ats }, type := ty, pos, after, guard } a.eval w fun v w' => Below w.heap.size w w' ∧ Eqs (.string ⟨#[50]⟩) v w' := by
  subst h
  obtain ⟨a1, n1, c1, xs, e1, S1, V1, l1⟩ := hx
  refine does_call has_ltext _ (by simp only [List.map_toArray, List.map_cons, List.map_nil, e1]) ((text_any w a1 n1 c1 xs S1 (by omega)).mono ?_)
  rintro e w' ⟨ds, rfl, hd, hb⟩
  have e2 := isDec_one hd (show IsDec [50] (val xs) by rw [V1]; exact dec2)
  subst e2
  exact ⟨_, rfl, hb, rfl⟩
theorem op_cat {x y : Operand} {s t r : ByteArray} (h1 : a.eval x = .string s) (h2 : a.eval y = .string t) (hs : s.size + t.size ≤ 9223372036854775807) (h : s ++ t = r) :
    Does Try.prog { dst, op := .binOp .add 9 x y 9, type := ty, pos, after, guard } a.eval w fun v w' => Below w.heap.size w w' ∧ Eqs (.string r) v w' := by
  subst h
  refine does_bin (v := .string (s ++ t)) ?_ ?_ ⟨Below.refl _ _, rfl⟩
  · rw [h1, h2]; simp [go_sem]
  · rw [h1, h2]; simp [go_sem]; exact hs
theorem op_eqls {s t : ByteArray} (h1 : a.eval (.tmp i) = .string s) (h : s = t) :
    Does Try.prog { dst, op := .binOp .eql 9 (.tmp i) (.const (.string t)) 9, type := ty, pos, after, guard } a.eval w fun v w' => Below w.heap.size w w' ∧ Eqs (.bool true) v w' := by
  subst h
  refine does_bin (v := .bool true) ?_ ?_ ⟨Below.refl _ _, rfl⟩
  · rw [h1]; simp [go_sem, Act.eval]
  · rw [h1]; simp [go_sem, Act.eval]
theorem op_bits1 (h : BitsOf x (a.eval (.tmp i)) w) (hx : 0 < x) :
    Does Try.prog { dst, op := .binOp .eql 3 (.tmp i) (.const (.int .i64 1)) 3, type := ty, pos, after, guard } a.eval w fun v w' => Below w.heap.size w w' ∧ Eqs (.bool (decide (x = 1))) v w' := by
  obtain ⟨k, e, hb⟩ := h
  refine (op_eqlk e).mono (fun v w' ⟨h1, h2⟩ => ⟨h1, ?_⟩)
  show v = _
  rw [show v = _ from h2]
  congr 1
  exact decide_eq_decide.2 (bits_is_one hb hx)
theorem op_eqle {u : Int} (h1 : a.eval (.tmp i) = .int .i64 u) :
    Does Try.prog { dst, op := .binOp .eql 29 (.tmp i) (.const (.int .i64 u)) 29, type := ty, pos, after, guard } a.eval w fun v w' => Below w.heap.size w w' ∧ Eqs (.bool true) v w' := by
  refine does_bin (v := .bool true) ?_ ?_ ⟨Below.refl _ _, rfl⟩
  · rw [h1]; simp [go_sem, Act.eval]
  · rw [h1]; simp [go_sem, Act.eval]
theorem has_lsmall : Has Try.prog 29 := by unfold Has; kernel_rfl
theorem op_lsmall {v : Int} (h1 : -9223372036854775808 ≤ v) (h2 : v ≤ 9223372036854775807) :
    Does Try.prog { dst, op := .call { callee := .value (.func 29), args := #[.const (.int .i64 v)], argTypes := ats }, type := ty, pos, after, guard } a.eval w fun v' w' => Below w.heap.size w w' ∧ OutW v 2 v' w' := by
  refine does_call has_lsmall _ (by simp only [List.map_toArray, List.map_cons, List.map_nil, Act.eval]) ((lsmall_g _ v h1 h2).mono ?_)
  rintro e w' ⟨ng, ao, cap, rs, rfl, G, l, hb⟩
  exact ⟨_, rfl, hb, _, _, _, _, rfl, G, by omega⟩
end

set_option maxRecDepth 20000 in
set_option maxHeartbeats 1000000 in
theorem rlen_z (w : World) (nr : Bool) (ar : Option Addr) (mr cr : Nat) (br : Option Addr) (kr dr : Nat) (hm : mr ≤ 35184372088832) (hk : kr ≤ 35184372088832) :
    Calls Try.prog 19 #[.agg #[.bool nr, .slice ar mr cr, .slice br kr dr]] w fun e w' => ∃ v, e = .returned v ∧ (Eqs (.int .i64 (1 + (mr : Int) + (kr : Int)))) v w' ∧ Below w.heap.size w w' := by
  go_enter Try.func19, Try.ntmps19
  generalize hA : (Act.mk _ _) = aa
  have hn : aa.tmps.size = 10 := by rw [← hA]; rfl
  have hd : aa.defers = [] := by rw [← hA]
  have f0 : aa.eval (.tmp 0) = .agg #[.bool nr, .slice ar mr cr, .slice br kr dr] := by rw [← hA]; rfl
  clear hA
  have HB : Below w.heap.size w w := Below.refl _ _
  refine wp_seq ?_
  refine region4 [some 1, some 2] [(fun _ _ => True), Eqs ((.int .i64 0))] [⟨R3, some 0, 0, 1, .agg #[.bool nr, .slice ar mr cr, .slice br kr dr], none, []⟩] [] (by kernel_rfl) hn rfl (by kernel_rfl) (by kernel_rfl) (by kernel_rfl) (by kernel_rfl) (by kernel_rfl) (by kernel_rfl) ⟨True.mono4, Eqs.mono4 _, trivial⟩ (ok_cons R3ok ok_nil) (IsOld.all (bx := [⟨R3, some 0, 0, 1, .agg #[.bool nr, .slice ar mr cr, .slice br kr dr], none, []⟩]) ⟨someNe, trivial⟩) (DisOld.all (bx := [⟨R3, some 0, 0, 1, .agg #[.bool nr, .slice ar mr cr, .slice br kr dr], none, []⟩]) ⟨someNe, trivial⟩) ?_ ?_
  · exact ⟨.alloc 0 _ rfl rfl (.inr ⟨_, rfl, r3_cs, fun a_ hR => (hR 0 rfl).trans f0⟩) rfl rfl rfl rfl rfl,
      .norm 2 rfl rfl rfl (fun a_ w_ hn_ hBt hr hR hD hO hS => op_assign rfl),
      trivial⟩
  · intro a1 w1 gs1 hn1 hd1 hBt hr hR hP hX hU
    replace hn := hn1; replace hd := hd1.trans hd
    have b1 : BoxV R3 w1 (gs1 0) (.agg #[.bool nr, .slice ar mr cr, .slice br kr dr]) := (hX 0 _ rfl).2.2.2
    have f1 := (hX 0 _ rfl).1
    have u1 : w.heap.size ≤ gs1 0 := Nat.le_trans HB.size ((hX 0 _ rfl).2.2.1 (by simp))
    have e2 : a1.eval (.tmp 2) = (.int .i64 0) := hP 1 (by decide)
    have f2 := e2
    replace HB := HB.trans (hBt.below HB.size (UpOld.all (bx := [⟨R3, some 0, 0, 1, .agg #[.bool nr, .slice ar mr cr, .slice br kr dr], none, []⟩]) ⟨someNe, trivial⟩))
    clear hBt hr hR hP hX hU
    refine wp_seq ?_
    refine region4 [some 3, some 4, some 5, some 6, some 7, some 8, some 9, some 2] [Eqs (.pointer (some ⟨gs1 0, 0, none⟩)), Eqs (.agg #[.bool nr, .slice ar mr cr]), Eqs (.int .i64 (1 + (mr : Int))), Eqs (.pointer (some ⟨gs1 0, 2, none⟩)), Eqs (.slice br kr dr), Eqs (.int .i64 (kr : Int)), Eqs (.int .i64 ((1 + (mr : Int)) + (kr : Int))), Eqs (.int .i64 ((1 + (mr : Int)) + (kr : Int)))] [] [] (by kernel_rfl) hn rfl (by kernel_rfl) (by kernel_rfl) (by kernel_rfl) (by kernel_rfl) (by kernel_rfl) (by kernel_rfl) ⟨Eqs.mono4 _, Eqs.mono4 _, Eqs.mono4 _, Eqs.mono4 _, Eqs.mono4 _, Eqs.mono4 _, Eqs.mono4 _, Eqs.mono4 _, trivial⟩ ok_nil (IsOld.all (bx := []) trivial) (DisOld.all (bx := []) trivial) ?_ ?_
    · exact ⟨.norm 3 rfl rfl rfl (fun a_ w_ hn_ hBt hr hR hD hO hS => op_faR fa_num ((hR 1 rfl).trans f1)),
        .norm 4 rfl rfl rfl (fun a_ w_ hn_ hBt hr hR hD hO hS => op_ldnum (show a_.eval (.tmp 3) = .pointer (some ⟨gs1 0, 0, none⟩) from hD 0 rfl) (b1.keep hBt trivial)),
        .norm 5 rfl rfl rfl (fun a_ w_ hn_ hBt hr hR hD hO hS => op_lenw (show a_.eval (.tmp 4) = .agg #[.bool nr, .slice ar mr cr] from hD 1 rfl) (by omega)),
        .norm 6 rfl rfl rfl (fun a_ w_ hn_ hBt hr hR hD hO hS => op_faR fa_den ((hR 1 rfl).trans f1)),
        .norm 7 rfl rfl rfl (fun a_ w_ hn_ hBt hr hR hD hO hS => op_ldden (show a_.eval (.tmp 6) = .pointer (some ⟨gs1 0, 2, none⟩) from hD 3 rfl) (b1.keep hBt trivial)),
        .norm 8 rfl rfl rfl (fun a_ w_ hn_ hBt hr hR hD hO hS => op_len (show a_.eval (.tmp 7) = .slice br kr dr from hD 4 rfl)),
        .norm 9 rfl rfl rfl (fun a_ w_ hn_ hBt hr hR hD hO hS => op_plus (show a_.eval (.tmp 5) = .int .i64 (1 + (mr : Int)) from hD 2 rfl) (show a_.eval (.tmp 8) = .int .i64 (kr : Int) from hD 5 rfl) (by omega)),
        .norm 2 rfl rfl rfl (fun a_ w_ hn_ hBt hr hR hD hO hS => op_assign (show a_.eval (.tmp 9) = .int .i64 ((1 + (mr : Int)) + (kr : Int)) from hD 6 rfl)),
        trivial⟩
    · intro a2 w2 gs2 hn2 hd2 hBt hr hR hP hX hU
      replace hn := hn2; replace hd := hd2.trans hd
      have e2 : a2.eval (.tmp 2) = .int .i64 ((1 + (mr : Int)) + (kr : Int)) := hP 7 (by decide)
      have f2 := e2
      replace HB := HB.trans (hBt.below HB.size (UpOld.all (bx := []) trivial))
      clear hBt hr hR hP hX hU
      refine wp_ret ?_
      repeat (first | refine then_ret ?_ | refine scope_ret ?_ | refine block_ret ?_)
      exact bodyPost_ret (v := .int .i64 ((1 + (mr : Int)) + (kr : Int))) (res_t rfl f2) hd ⟨_, rfl, rfl, HB⟩

theorem has_rlen : Has Try.prog 19 := by unfold Has; kernel_rfl
theorem op_rlen {dst : Option Tmp} {ty : TypeId} {pos : String} {after : Array Edge} {guard : Option (Nat × Bool)} {a : Act} {w : World} {ats : Array TypeId} {i : Nat} {nr : Bool} {ar br : Option Addr} {mr cr kr dr : Nat} (h : a.eval (.tmp i) = .agg #[.bool nr, .slice ar mr cr, .slice br kr dr]) (hm : mr ≤ 35184372088832) (hk : kr ≤ 35184372088832) :
    Does Try.prog { dst, op := .call { callee := .value (.func 19), args := #[.tmp i], argTypes := ats }, type := ty, pos, after, guard } a.eval w fun v w' => Below w.heap.size w w' ∧ Eqs (.int .i64 (1 + (mr : Int) + (kr : Int))) v w' := by
  refine does_call has_rlen _ (by simp only [List.map_toArray, List.map_cons, List.map_nil, h]) ((rlen_z w nr ar mr cr br kr dr hm hk).mono ?_)
  rintro e w' ⟨v, rfl, h1, hb⟩
  exact ⟨_, rfl, hb, h1⟩

set_option maxRecDepth 20000 in
set_option maxHeartbeats 1000000 in
theorem samer_z (w : World) (nr : Bool) (ar : Option Addr) (cr : Nat) (rs : List Int) (pr : Int) (Gr : Wh w nr ar cr rs pr) (br : Option Addr) (dr : Nat) (rt : List Int) (qr : Int) (Kr : Got w br dr rt qr) (nu : Bool) (au : Option Addr) (cu : Nat) (us : List Int) (pu : Int) (Gu : Wh w nu au cu us pu) (bu : Option Addr) (du : Nat) (ut : List Int) (qu : Int) (Ku : Got w bu du ut qu) (hp : pr = pu) :
    Calls Try.prog 16 #[.agg #[.bool nr, .slice ar rs.length cr, .slice br rt.length dr], .agg #[.bool nu, .slice au us.length cu, .slice bu ut.length du]] w fun e w' => ∃ v, e = .returned v ∧ (Eqs (.bool (decide (qr = qu)))) v w' ∧ Below w.heap.size w w' := by
  go_enter Try.func16, Try.ntmps16
  generalize hA : (Act.mk _ _) = aa
  have hn : aa.tmps.size = 17 := by rw [← hA]; rfl
  have hd : aa.defers = [] := by rw [← hA]
  have f0 : aa.eval (.tmp 0) = .agg #[.bool nr, .slice ar rs.length cr, .slice br rt.length dr] := by rw [← hA]; rfl
  have f1 : aa.eval (.tmp 1) = .agg #[.bool nu, .slice au us.length cu, .slice bu ut.length du] := by rw [← hA]; rfl
  clear hA
  have HB : Below w.heap.size w w := Below.refl _ _
  refine wp_seq ?_
  refine region4 [some 2, some 3, some 4] [(fun _ _ => True), (fun _ _ => True), Eqs ((.bool false))] [⟨R3, some 0, 0, 2, .agg #[.bool nr, .slice ar rs.length cr, .slice br rt.length dr], none, []⟩, ⟨R3, some 1, 0, 3, .agg #[.bool nu, .slice au us.length cu, .slice bu ut.length du], none, []⟩] [] (by kernel_rfl) hn rfl (by kernel_rfl) (by kernel_rfl) (by kernel_rfl) (by kernel_rfl) (by kernel_rfl) (by kernel_rfl) ⟨True.mono4, True.mono4, Eqs.mono4 _, trivial⟩ (ok_cons R3ok (ok_cons R3ok ok_nil)) (IsOld.all (bx := [⟨R3, some 0, 0, 2, .agg #[.bool nr, .slice ar rs.length cr, .slice br rt.length dr], none, []⟩, ⟨R3, some 1, 0, 3, .agg #[.bool nu, .slice au us.length cu, .slice bu ut.length du], none, []⟩]) ⟨someNe, someNe, trivial⟩) (DisOld.all (bx := [⟨R3, some 0, 0, 2, .agg #[.bool nr, .slice ar rs.length cr, .slice br rt.length dr], none, []⟩, ⟨R3, some 1, 0, 3, .agg #[.bool nu, .slice au us.length cu, .slice bu ut.length du], none, []⟩]) ⟨someNe, someNe, trivial⟩) ?_ ?_
  · exact ⟨.alloc 0 _ rfl rfl (.inr ⟨_, rfl, r3_cs, fun a_ hR => (hR 0 rfl).trans f0⟩) rfl rfl rfl rfl rfl,
      .alloc 1 _ rfl rfl (.inr ⟨_, rfl, r3_cs, fun a_ hR => (hR 1 rfl).trans f1⟩) rfl rfl rfl rfl rfl,
      .norm 4 rfl rfl rfl (fun a_ w_ hn_ hBt hr hR hD hO hS => op_assign rfl),
      trivial⟩
  · intro a1 w1 gs1 hn1 hd1 hBt hr hR hP hX hU
    replace hn := hn1; replace hd := hd1.trans hd
    have b2 : BoxV R3 w1 (gs1 0) (.agg #[.bool nr, .slice ar rs.length cr, .slice br rt.length dr]) := (hX 0 _ rfl).2.2.2
    have f2 := (hX 0 _ rfl).1
    have u2 : w.heap.size ≤ gs1 0 := Nat.le_trans HB.size ((hX 0 _ rfl).2.2.1 (by simp))
    have b3 : BoxV R3 w1 (gs1 1) (.agg #[.bool nu, .slice au us.length cu, .slice bu ut.length du]) := (hX 1 _ rfl).2.2.2
    have f3 := (hX 1 _ rfl).1
    have u3 : w.heap.size ≤ gs1 1 := Nat.le_trans HB.size ((hX 1 _ rfl).2.2.1 (by simp))
    have e4 : a1.eval (.tmp 4) = (.bool false) := hP 2 (by decide)
    have f4 := e4
    replace Gr := Gr.rl hr
    replace Kr := Kr.rl hr
    replace Gu := Gu.rl hr
    replace Ku := Ku.rl hr
    replace HB := HB.trans (hBt.below HB.size (UpOld.all (bx := [⟨R3, some 0, 0, 2, .agg #[.bool nr, .slice ar rs.length cr, .slice br rt.length dr], none, []⟩, ⟨R3, some 1, 0, 3, .agg #[.bool nu, .slice au us.length cu, .slice bu ut.length du], none, []⟩]) ⟨someNe, someNe, trivial⟩))
    clear hBt hr hR hP hX hU
    refine wp_seq ?_
    refine region4 [some 5, some 6, some 7, some 8, some 9, some 10, some 11, some 12, some 13, some 14, some 15, some 16, some 4] [Eqs (.pointer (some ⟨gs1 0, 0, none⟩)), Eqs (.agg #[.bool nr, .slice ar rs.length cr]), Eqs (.pointer (some ⟨gs1 1, 0, none⟩)), Eqs (.agg #[.bool nu, .slice au us.length cu]), Eqs (.bool true), Eqs (.bool true), Eqs (.pointer (some ⟨gs1 0, 2, none⟩)), Eqs (.slice br rt.length dr), Eqs (.pointer (some ⟨gs1 1, 2, none⟩)), Eqs (.slice bu ut.length du), Eqs (.bool (decide (qr = qu))), Eqs (.bool (decide (qr = qu))), Eqs (.bool (decide (qr = qu)))] [] [] (by kernel_rfl) hn rfl (by kernel_rfl) (by kernel_rfl) (by kernel_rfl) (by kernel_rfl) (by kernel_rfl) (by kernel_rfl) ⟨Eqs.mono4 _, Eqs.mono4 _, Eqs.mono4 _, Eqs.mono4 _, Eqs.mono4 _, Eqs.mono4 _, Eqs.mono4 _, Eqs.mono4 _, Eqs.mono4 _, Eqs.mono4 _, Eqs.mono4 _, Eqs.mono4 _, Eqs.mono4 _, trivial⟩ ok_nil (IsOld.all (bx := []) trivial) (DisOld.all (bx := []) trivial) ?_ ?_
    · exact ⟨.norm 5 rfl rfl rfl (fun a_ w_ hn_ hBt hr hR hD hO hS => op_faR fa_num ((hR 2 rfl).trans f2)),
        .norm 6 rfl rfl rfl (fun a_ w_ hn_ hBt hr hR hD hO hS => op_ldnum (show a_.eval (.tmp 5) = .pointer (some ⟨gs1 0, 0, none⟩) from hD 0 rfl) (b2.keep hBt trivial)),
        .norm 7 rfl rfl rfl (fun a_ w_ hn_ hBt hr hR hD hO hS => op_faR fa_num ((hR 3 rfl).trans f3)),
        .norm 8 rfl rfl rfl (fun a_ w_ hn_ hBt hr hR hD hO hS => op_ldnum (show a_.eval (.tmp 7) = .pointer (some ⟨gs1 1, 0, none⟩) from hD 2 rfl) (b3.keep hBt trivial)),
        .norm 9 rfl rfl rfl (fun a_ w_ hn_ hBt hr hR hD hO hS => op_same (outw_eq (show a_.eval (.tmp 6) = .agg #[.bool nr, .slice ar rs.length cr] from hD 1 rfl) (Gr.rl hr) (Nat.le_refl _)) (outw_eq (show a_.eval (.tmp 8) = .agg #[.bool nu, .slice au us.length cu] from hD 3 rfl) (Gu.rl hr) (Nat.le_refl _)) hp),
        .norm 10 rfl rfl rfl (fun a_ w_ hn_ hBt hr hR hD hO hS => op_mv (show a_.eval (.tmp 9) = .bool true from hD 4 rfl)),
        .norm 11 rfl rfl rfl (fun a_ w_ hn_ hBt hr hR hD hO hS => ⟨⟨_, rfl⟩, fun _ => op_faR fa_den ((hR 2 rfl).trans f2), fun hne => absurd (hD 5 rfl) hne⟩),
        .norm 12 rfl rfl rfl (fun a_ w_ hn_ hBt hr hR hD hO hS => ⟨⟨_, rfl⟩, fun _ => op_ldden (show a_.eval (.tmp 11) = .pointer (some ⟨gs1 0, 2, none⟩) from hD 6 rfl) (b2.keep hBt trivial), fun hne => absurd (hD 5 rfl) hne⟩),
        .norm 13 rfl rfl rfl (fun a_ w_ hn_ hBt hr hR hD hO hS => ⟨⟨_, rfl⟩, fun _ => op_faR fa_den ((hR 3 rfl).trans f3), fun hne => absurd (hD 5 rfl) hne⟩),
        .norm 14 rfl rfl rfl (fun a_ w_ hn_ hBt hr hR hD hO hS => ⟨⟨_, rfl⟩, fun _ => op_ldden (show a_.eval (.tmp 13) = .pointer (some ⟨gs1 1, 2, none⟩) from hD 8 rfl) (b3.keep hBt trivial), fun hne => absurd (hD 5 rfl) hne⟩),
        .norm 15 rfl rfl rfl (fun a_ w_ hn_ hBt hr hR hD hO hS => ⟨⟨_, rfl⟩, fun _ => op_samel (outl_eq (show a_.eval (.tmp 12) = .slice br rt.length dr from hD 7 rfl) (Kr.rl hr) (Nat.le_refl _)) (outl_eq (show a_.eval (.tmp 14) = .slice bu ut.length du from hD 9 rfl) (Ku.rl hr) (Nat.le_refl _)), fun hne => absurd (hD 5 rfl) hne⟩),
        .norm 16 rfl rfl rfl (fun a_ w_ hn_ hBt hr hR hD hO hS => op_pickb (show a_.eval (.tmp 10) = .bool true from hD 5 rfl) (show a_.eval (.tmp 15) = .bool (decide (qr = qu)) from hD 10 rfl)),
        .norm 4 rfl rfl rfl (fun a_ w_ hn_ hBt hr hR hD hO hS => op_assign (show a_.eval (.tmp 16) = .bool (decide (qr = qu)) from hD 11 rfl)),
        trivial⟩
    · intro a2 w2 gs2 hn2 hd2 hBt hr hR hP hX hU
      replace hn := hn2; replace hd := hd2.trans hd
      have e4 : a2.eval (.tmp 4) = .bool (decide (qr = qu)) := hP 12 (by decide)
      have f4 := e4
      replace Gr := Gr.rl hr
      replace Kr := Kr.rl hr
      replace Gu := Gu.rl hr
      replace Ku := Ku.rl hr
      replace HB := HB.trans (hBt.below HB.size (UpOld.all (bx := []) trivial))
      clear hBt hr hR hP hX hU
      refine wp_ret ?_
      repeat (first | refine then_ret ?_ | refine scope_ret ?_ | refine block_ret ?_)
      exact bodyPost_ret (v := .bool (decide (qr = qu))) (res_t rfl f4) hd ⟨_, rfl, rfl, HB⟩

set_option maxRecDepth 20000 in
set_option maxHeartbeats 1000000 in
theorem samerf_z (w : World) (nr : Bool) (ar : Option Addr) (cr : Nat) (rs : List Int) (pr : Int) (Gr : Wh w nr ar cr rs pr) (br : Option Addr) (dr : Nat) (rt : List Int) (qr : Int) (Kr : Got w br dr rt qr) (nu : Bool) (au : Option Addr) (cu : Nat) (us : List Int) (pu : Int) (Gu : Wh w nu au cu us pu) (bu : Option Addr) (du : Nat) (ut : List Int) (qu : Int) (Ku : Got w bu du ut qu) (hp : pr ≠ pu) :
    Calls Try.prog 16 #[.agg #[.bool nr, .slice ar rs.length cr, .slice br rt.length dr], .agg #[.bool nu, .slice au us.length cu, .slice bu ut.length du]] w fun e w' => ∃ v, e = .returned v ∧ (Eqs (.bool false)) v w' ∧ Below w.heap.size w w' := by
  go_enter Try.func16, Try.ntmps16
  generalize hA : (Act.mk _ _) = aa
  have hn : aa.tmps.size = 17 := by rw [← hA]; rfl
  have hd : aa.defers = [] := by rw [← hA]
  have f0 : aa.eval (.tmp 0) = .agg #[.bool nr, .slice ar rs.length cr, .slice br rt.length dr] := by rw [← hA]; rfl
  have f1 : aa.eval (.tmp 1) = .agg #[.bool nu, .slice au us.length cu, .slice bu ut.length du] := by rw [← hA]; rfl
  clear hA
  have HB : Below w.heap.size w w := Below.refl _ _
  refine wp_seq ?_
  refine region4 [some 2, some 3, some 4] [(fun _ _ => True), (fun _ _ => True), Eqs ((.bool false))] [⟨R3, some 0, 0, 2, .agg #[.bool nr, .slice ar rs.length cr, .slice br rt.length dr], none, []⟩, ⟨R3, some 1, 0, 3, .agg #[.bool nu, .slice au us.length cu, .slice bu ut.length du], none, []⟩] [] (by kernel_rfl) hn rfl (by kernel_rfl) (by kernel_rfl) (by kernel_rfl) (by kernel_rfl) (by kernel_rfl) (by kernel_rfl) ⟨True.mono4, True.mono4, Eqs.mono4 _, trivial⟩ (ok_cons R3ok (ok_cons R3ok ok_nil)) (IsOld.all (bx := [⟨R3, some 0, 0, 2, .agg #[.bool nr, .slice ar rs.length cr, .slice br rt.length dr], none, []⟩, ⟨R3, some 1, 0, 3, .agg #[.bool nu, .slice au us.length cu, .slice bu ut.length du], none, []⟩]) ⟨someNe, someNe, trivial⟩) (DisOld.all (bx := [⟨R3, some 0, 0, 2, .agg #[.bool nr, .slice ar rs.length cr, .slice br rt.length dr], none, []⟩, ⟨R3, some 1, 0, 3, .agg #[.bool nu, .slice au us.length cu, .slice bu ut.length du], none, []⟩]) ⟨someNe, someNe, trivial⟩) ?_ ?_
  · exact ⟨.alloc 0 _ rfl rfl (.inr ⟨_, rfl, r3_cs, fun a_ hR => (hR 0 rfl).trans f0⟩) rfl rfl rfl rfl rfl,
      .alloc 1 _ rfl rfl (.inr ⟨_, rfl, r3_cs, fun a_ hR => (hR 1 rfl).trans f1⟩) rfl rfl rfl rfl rfl,
      .norm 4 rfl rfl rfl (fun a_ w_ hn_ hBt hr hR hD hO hS => op_assign rfl),
      trivial⟩
  · intro a1 w1 gs1 hn1 hd1 hBt hr hR hP hX hU
    replace hn := hn1; replace hd := hd1.trans hd
    have b2 : BoxV R3 w1 (gs1 0) (.agg #[.bool nr, .slice ar rs.length cr, .slice br rt.length dr]) := (hX 0 _ rfl).2.2.2
    have f2 := (hX 0 _ rfl).1
    have u2 : w.heap.size ≤ gs1 0 := Nat.le_trans HB.size ((hX 0 _ rfl).2.2.1 (by simp))
    have b3 : BoxV R3 w1 (gs1 1) (.agg #[.bool nu, .slice au us.length cu, .slice bu ut.length du]) := (hX 1 _ rfl).2.2.2
    have f3 := (hX 1 _ rfl).1
    have u3 : w.heap.size ≤ gs1 1 := Nat.le_trans HB.size ((hX 1 _ rfl).2.2.1 (by simp))
    have e4 : a1.eval (.tmp 4) = (.bool false) := hP 2 (by decide)
    have f4 := e4
    replace Gr := Gr.rl hr
    replace Kr := Kr.rl hr
    replace Gu := Gu.rl hr
    replace Ku := Ku.rl hr
    replace HB := HB.trans (hBt.below HB.size (UpOld.all (bx := [⟨R3, some 0, 0, 2, .agg #[.bool nr, .slice ar rs.length cr, .slice br rt.length dr], none, []⟩, ⟨R3, some 1, 0, 3, .agg #[.bool nu, .slice au us.length cu, .slice bu ut.length du], none, []⟩]) ⟨someNe, someNe, trivial⟩))
    clear hBt hr hR hP hX hU
    refine wp_seq ?_
    refine region4 [some 5, some 6, some 7, some 8, some 9, some 10, some 11, some 12, some 13, some 14, some 15, some 16, some 4] [Eqs (.pointer (some ⟨gs1 0, 0, none⟩)), Eqs (.agg #[.bool nr, .slice ar rs.length cr]), Eqs (.pointer (some ⟨gs1 1, 0, none⟩)), Eqs (.agg #[.bool nu, .slice au us.length cu]), Eqs (.bool false), Eqs (.bool false), (fun _ _ => True), (fun _ _ => True), (fun _ _ => True), (fun _ _ => True), (fun _ _ => True), Eqs (.bool false), Eqs (.bool false)] [] [] (by kernel_rfl) hn rfl (by kernel_rfl) (by kernel_rfl) (by kernel_rfl) (by kernel_rfl) (by kernel_rfl) (by kernel_rfl) ⟨Eqs.mono4 _, Eqs.mono4 _, Eqs.mono4 _, Eqs.mono4 _, Eqs.mono4 _, Eqs.mono4 _, True.mono4, True.mono4, True.mono4, True.mono4, True.mono4, Eqs.mono4 _, Eqs.mono4 _, trivial⟩ ok_nil (IsOld.all (bx := []) trivial) (DisOld.all (bx := []) trivial) ?_ ?_
    · exact ⟨.norm 5 rfl rfl rfl (fun a_ w_ hn_ hBt hr hR hD hO hS => op_faR fa_num ((hR 2 rfl).trans f2)),
        .norm 6 rfl rfl rfl (fun a_ w_ hn_ hBt hr hR hD hO hS => op_ldnum (show a_.eval (.tmp 5) = .pointer (some ⟨gs1 0, 0, none⟩) from hD 0 rfl) (b2.keep hBt trivial)),
        .norm 7 rfl rfl rfl (fun a_ w_ hn_ hBt hr hR hD hO hS => op_faR fa_num ((hR 3 rfl).trans f3)),
        .norm 8 rfl rfl rfl (fun a_ w_ hn_ hBt hr hR hD hO hS => op_ldnum (show a_.eval (.tmp 7) = .pointer (some ⟨gs1 1, 0, none⟩) from hD 2 rfl) (b3.keep hBt trivial)),
        .norm 9 rfl rfl rfl (fun a_ w_ hn_ hBt hr hR hD hO hS => op_samef (outw_eq (show a_.eval (.tmp 6) = .agg #[.bool nr, .slice ar rs.length cr] from hD 1 rfl) (Gr.rl hr) (Nat.le_refl _)) (outw_eq (show a_.eval (.tmp 8) = .agg #[.bool nu, .slice au us.length cu] from hD 3 rfl) (Gu.rl hr) (Nat.le_refl _)) hp),
        .norm 10 rfl rfl rfl (fun a_ w_ hn_ hBt hr hR hD hO hS => op_mv (show a_.eval (.tmp 9) = .bool false from hD 4 rfl)),
        .norm 11 rfl rfl rfl (fun a_ w_ hn_ hBt hr hR hD hO hS => ⟨⟨_, rfl⟩, fun h => absurd ((show _ = Value.bool false from hD 5 rfl).symm.trans h) (by simp), fun _ => trivial⟩),
        .norm 12 rfl rfl rfl (fun a_ w_ hn_ hBt hr hR hD hO hS => ⟨⟨_, rfl⟩, fun h => absurd ((show _ = Value.bool false from hD 5 rfl).symm.trans h) (by simp), fun _ => trivial⟩),
        .norm 13 rfl rfl rfl (fun a_ w_ hn_ hBt hr hR hD hO hS => ⟨⟨_, rfl⟩, fun h => absurd ((show _ = Value.bool false from hD 5 rfl).symm.trans h) (by simp), fun _ => trivial⟩),
        .norm 14 rfl rfl rfl (fun a_ w_ hn_ hBt hr hR hD hO hS => ⟨⟨_, rfl⟩, fun h => absurd ((show _ = Value.bool false from hD 5 rfl).symm.trans h) (by simp), fun _ => trivial⟩),
        .norm 15 rfl rfl rfl (fun a_ w_ hn_ hBt hr hR hD hO hS => ⟨⟨_, rfl⟩, fun h => absurd ((show _ = Value.bool false from hD 5 rfl).symm.trans h) (by simp), fun _ => trivial⟩),
        .norm 16 rfl rfl rfl (fun a_ w_ hn_ hBt hr hR hD hO hS => op_pickb (show a_.eval (.tmp 10) = .bool false from hD 5 rfl) rfl),
        .norm 4 rfl rfl rfl (fun a_ w_ hn_ hBt hr hR hD hO hS => op_assign (show a_.eval (.tmp 16) = .bool false from hD 11 rfl)),
        trivial⟩
    · intro a2 w2 gs2 hn2 hd2 hBt hr hR hP hX hU
      replace hn := hn2; replace hd := hd2.trans hd
      have e4 : a2.eval (.tmp 4) = .bool false := hP 12 (by decide)
      have f4 := e4
      replace Gr := Gr.rl hr
      replace Kr := Kr.rl hr
      replace Gu := Gu.rl hr
      replace Ku := Ku.rl hr
      replace HB := HB.trans (hBt.below HB.size (UpOld.all (bx := []) trivial))
      clear hBt hr hR hP hX hU
      refine wp_ret ?_
      repeat (first | refine then_ret ?_ | refine scope_ret ?_ | refine block_ret ?_)
      exact bodyPost_ret (v := .bool false) (res_t rfl f4) hd ⟨_, rfl, rfl, HB⟩

theorem has_samer : Has Try.prog 16 := by unfold Has; kernel_rfl
theorem op_samerb {dst : Option Tmp} {ty : TypeId} {pos : String} {after : Array Edge} {guard : Option (Nat × Bool)} {a : Act} {w : World} {ats : Array TypeId} {i j : Nat} {pr qr pu qu : Int} {Lr Lu : Nat} (h1 : OutR pr qr Lr (a.eval (.tmp i)) w) (h2 : OutR pu qu Lu (a.eval (.tmp j)) w) :
    Does Try.prog { dst, op := .call { callee := .value (.func 16), args := #[.tmp i, .tmp j], argTypes := ats }, type := ty, pos, after, guard } a.eval w fun v w' => Below w.heap.size w w' ∧ Eqs (.bool (decide (pr = pu ∧ qr = qu))) v w' := by
  obtain ⟨ng, ao, cap, rs, bo, dap, ss, e1, G1, K1, _, _⟩ := h1
  obtain ⟨ng2, ao2, cap2, rs2, bo2, dap2, ss2, e2, G2, K2, _, _⟩ := h2
  by_cases hp : pr = pu
  · refine does_call has_samer _ (by simp only [List.map_toArray, List.map_cons, List.map_nil, e1, e2]) ((samer_z w _ _ _ _ _ G1 _ _ _ _ K1 _ _ _ _ _ G2 _ _ _ _ K2 hp).mono ?_)
    rintro e w' ⟨v, rfl, h1, hb⟩
    exact ⟨_, rfl, hb, by simpa [hp] using h1⟩
  · refine does_call has_samer _ (by simp only [List.map_toArray, List.map_cons, List.map_nil, e1, e2]) ((samerf_z w _ _ _ _ _ G1 _ _ _ _ K1 _ _ _ _ _ G2 _ _ _ _ K2 hp).mono ?_)
    rintro e w' ⟨v, rfl, h1, hb⟩
    exact ⟨_, rfl, hb, by simpa [hp] using h1⟩
theorem op_samer {dst : Option Tmp} {ty : TypeId} {pos : String} {after : Array Edge} {guard : Option (Nat × Bool)} {a : Act} {w : World} {ats : Array TypeId} {i j : Nat} {pr qr pu qu : Int} {Lr Lu : Nat} (h1 : OutR pr qr Lr (a.eval (.tmp i)) w) (h2 : OutR pu qu Lu (a.eval (.tmp j)) w) (h : pr = pu ∧ qr = qu) :
    Does Try.prog { dst, op := .call { callee := .value (.func 16), args := #[.tmp i, .tmp j], argTypes := ats }, type := ty, pos, after, guard } a.eval w fun v w' => Below w.heap.size w w' ∧ Eqs (.bool true) v w' :=
  (op_samerb h1 h2).mono (fun v w' ⟨hb, e⟩ => ⟨hb, by rw [Eqs, e, decide_eq_true h]⟩)
theorem outr_zero {v : Value} (w : World) (h : v = .agg #[.bool false, .slice none 0 0, .slice none 0 0]) : OutR 0 0 0 v w := ⟨false, none, 0, [], none, 0, [], h, ⟨⟨sl_nil w, canon_nil, rfl⟩, rfl⟩, ⟨sl_nil w, canon_nil, rfl⟩, Nat.le_refl _, Nat.le_refl _⟩

set_option maxRecDepth 20000 in
set_option maxHeartbeats 2000000 in
theorem rtext32_z (w : World) (Br : Nat) (nr : Bool) (ar : Option Addr) (mr cr : Nat) (rs : List Int) (pr : Int) (Ar : Ag w nr ar mr cr rs pr) (Lr : rs.length ≤ Br) (br : Option Addr) (kr dr : Nat) (rt : List Int) (qr : Int) (Sr : Sl w (.slice br kr dr) rt) (Vr : val rt = qr) (Mr : rt.length ≤ Br) (hL : Br ≤ 1000) (hp : nm (tp pr qr) (tq qr) = -3) (hq : dn (tp pr qr) (tq qr) = 2) :
    Calls Try.prog 30 #[.agg #[.bool nr, .slice ar mr cr, .slice br kr dr]] w fun e w' => ∃ v, e = .returned v ∧ (Eqs (.string ⟨#[45, 51, 47, 50]⟩)) v w' ∧ Below w.heap.size w w' := by
  go_enter Try.func30, Try.ntmps30
  generalize hA : (Act.mk _ _) = aa
  have hn : aa.tmps.size = 21 := by rw [← hA]; rfl
  have hd : aa.defers = [] := by rw [← hA]
  have f0 : aa.eval (.tmp 0) = .agg #[.bool nr, .slice ar mr cr, .slice br kr dr] := by rw [← hA]; rfl
  clear hA
  have HB : Below w.heap.size w w := Below.refl _ _
  have Dr : Ag w false br kr dr rt qr := ⟨Sr, Vr⟩
  refine wp_seq ?_
  refine region4 [some 1, some 2] [(fun _ _ => True), Eqs ((.string ⟨#[]⟩))] [⟨R3, some 0, 0, 1, .agg #[.bool nr, .slice ar mr cr, .slice br kr dr], none, []⟩] [] (by kernel_rfl) hn rfl (by kernel_rfl) (by kernel_rfl) (by kernel_rfl) (by kernel_rfl) (by kernel_rfl) (by kernel_rfl) ⟨True.mono4, Eqs.mono4 _, trivial⟩ (ok_cons R3ok ok_nil) (IsOld.all (bx := [⟨R3, some 0, 0, 1, .agg #[.bool nr, .slice ar mr cr, .slice br kr dr], none, []⟩]) ⟨someNe, trivial⟩) (DisOld.all (bx := [⟨R3, some 0, 0, 1, .agg #[.bool nr, .slice ar mr cr, .slice br kr dr], none, []⟩]) ⟨someNe, trivial⟩) ?_ ?_
  · exact ⟨.alloc 0 _ rfl rfl (.inr ⟨_, rfl, r3_cs, fun a_ hR => (hR 0 rfl).trans f0⟩) rfl rfl rfl rfl rfl,
      .norm 2 rfl rfl rfl (fun a_ w_ hn_ hBt hr hR hD hO hS => op_assign rfl),
      trivial⟩
  · intro a1 w1 gs1 hn1 hd1 hBt hr hR hP hX hU
    replace hn := hn1; replace hd := hd1.trans hd
    have b1 : BoxV R3 w1 (gs1 0) (.agg #[.bool nr, .slice ar mr cr, .slice br kr dr]) := (hX 0 _ rfl).2.2.2
    have f1 := (hX 0 _ rfl).1
    have u1 : w.heap.size ≤ gs1 0 := Nat.le_trans HB.size ((hX 0 _ rfl).2.2.1 (by simp))
    have e2 : a1.eval (.tmp 2) = (.string ⟨#[]⟩) := hP 1 (by decide)
    have f2 := e2
    replace Ar := Ar.rl hr
    replace Sr := Sr.rl hr
    replace Dr := Dr.rl hr
    replace HB := HB.trans (hBt.below HB.size (UpOld.all (bx := [⟨R3, some 0, 0, 1, .agg #[.bool nr, .slice ar mr cr, .slice br kr dr], none, []⟩]) ⟨someNe, trivial⟩))
    clear hBt hr hR hP hX hU
    refine wp_seq ?_
    refine region4 [some 5, some 6, some 3, none] [Eqs (.agg #[.bool nr, .slice ar mr cr, .slice br kr dr]), OutR ((nm (tp pr qr) (tq qr))) ((dn (tp pr qr) (tq qr))) (2 * ((Br) + 2)), (fun _ _ => True), (fun _ _ => True)] [⟨R3, some 2, 0, 3, .agg #[.bool false, .slice none 0 0, .slice none 0 0], some (3, 6, 1), []⟩] [] (by kernel_rfl) hn rfl (by kernel_rfl) (by kernel_rfl) (by kernel_rfl) (by kernel_rfl) (by kernel_rfl) (by kernel_rfl) ⟨Eqs.mono4 _, OutR.mono4 _ _ _, True.mono4, True.mono4, trivial⟩ (ok_cons R3ok ok_nil) (IsOld.all (bx := [⟨R3, some 2, 0, 3, .agg #[.bool false, .slice none 0 0, .slice none 0 0], some (3, 6, 1), []⟩]) ⟨someNe, trivial⟩) (DisOld.all (bx := [⟨R3, some 2, 0, 3, .agg #[.bool false, .slice none 0 0, .slice none 0 0], some (3, 6, 1), []⟩]) ⟨someNe, trivial⟩) ?_ ?_
    · exact ⟨.norm 5 rfl rfl rfl (fun a_ w_ hn_ hBt hr hR hD hO hS => op_loadv R3ok ((hR 1 rfl).trans f1) (b1.keep hBt ⟨someNe, trivial⟩)),
        .norm 6 rfl rfl rfl (fun a_ w_ hn_ hBt hr hR hD hO hS => op_rtrim (isr_eq (show a_.eval (.tmp 5) = .agg #[.bool nr, .slice ar mr cr, .slice br kr dr] from hD 0 rfl) (Ar.rl hr) (Sr.rl hr) Vr Lr Mr) (by omega)),
        .alloc 0 _ rfl rfl (.inl ⟨rfl, rfl⟩) rfl rfl rfl rfl rfl,
        .store 0 _ _ _ rfl rfl rfl rfl rfl rfl rfl (fun ia h => by cases h; rfl) rfl rfl rfl OutR.cs,
        trivial⟩
    · intro a2 w2 gs2 hn2 hd2 hBt hr hR hP hX hU
      replace hn := hn2; replace hd := hd2.trans hd
      obtain ⟨n_3, a_3, c_3, r_3, b_3, d_3, s_3, e6, G3, K3, l3, k3⟩ : OutR ((nm (tp pr qr) (tq qr))) ((dn (tp pr qr) (tq qr))) (2 * ((Br) + 2)) (a2.eval (.tmp 6)) w2 := hP 1 (by decide)
      have A3 := G3.ag; have S3 := K3.sl; have V3 := K3.val
      have b3 : BoxV R3 w2 (gs2 0) (.agg #[.bool n_3, .slice a_3 r_3.length c_3, .slice b_3 s_3.length d_3]) := boxv_of (hX 0 _ rfl).2.2.2 e6
      have f3 := (hX 0 _ rfl).1
      have u3 : w.heap.size ≤ gs2 0 := Nat.le_trans HB.size ((hX 0 _ rfl).2.2.1 (by simp))
      replace f2 := (hR 2 rfl).trans f2
      replace Ar := Ar.rl hr
      replace Sr := Sr.rl hr
      replace Dr := Dr.rl hr
      replace HB := HB.trans (hBt.below HB.size (UpOld.all (bx := [⟨R3, some 2, 0, 3, .agg #[.bool false, .slice none 0 0, .slice none 0 0], some (3, 6, 1), []⟩]) ⟨someNe, trivial⟩))
      clear hBt hr hR hP hX hU
      refine wp_seq ?_
      refine region4 [some 7, some 8, some 9, some 4] [Eqs (.pointer (some ⟨gs2 0, 0, none⟩)), Eqs (.agg #[.bool n_3, .slice a_3 r_3.length c_3]), Eqs (.string ⟨#[45, 51]⟩), Eqs (.string ⟨#[45, 51]⟩)] [] [] (by kernel_rfl) hn rfl (by kernel_rfl) (by kernel_rfl) (by kernel_rfl) (by kernel_rfl) (by kernel_rfl) (by kernel_rfl) ⟨Eqs.mono4 _, Eqs.mono4 _, Eqs.mono4 _, Eqs.mono4 _, trivial⟩ ok_nil (IsOld.all (bx := []) trivial) (DisOld.all (bx := []) trivial) ?_ ?_
      · exact ⟨.norm 7 rfl rfl rfl (fun a_ w_ hn_ hBt hr hR hD hO hS => op_faR fa_num ((hR 3 rfl).trans f3)),
          .norm 8 rfl rfl rfl (fun a_ w_ hn_ hBt hr hR hD hO hS => op_ldnum (show a_.eval (.tmp 7) = .pointer (some ⟨gs2 0, 0, none⟩) from hD 0 rfl) (b3.keep hBt trivial)),
          .norm 9 rfl rfl rfl (fun a_ w_ hn_ hBt hr hR hD hO hS => op_text3 (outw_eq (show a_.eval (.tmp 8) = .agg #[.bool n_3, .slice a_3 r_3.length c_3] from hD 1 rfl) (G3.rl hr) l3) hp (by omega)),
          .norm 4 rfl rfl rfl (fun a_ w_ hn_ hBt hr hR hD hO hS => op_assign (show a_.eval (.tmp 9) = .string ⟨#[45, 51]⟩ from hD 2 rfl)),
          trivial⟩
      · intro a4 w4 gs4 hn4 hd4 hBt hr hR hP hX hU
        replace hn := hn4; replace hd := hd4.trans hd
        replace b3 := b3.keep hBt trivial
        replace f2 := (hR 2 rfl).trans f2
        replace f3 := (hR 3 rfl).trans f3
        have e4 : a4.eval (.tmp 4) = .string ⟨#[45, 51]⟩ := hP 3 (by decide)
        have f4 := e4
        replace Ar := Ar.rl hr
        replace Sr := Sr.rl hr
        replace Dr := Dr.rl hr
        replace G3 := G3.rl hr
        replace A3 := A3.rl hr
        replace K3 := K3.rl hr
        replace S3 := S3.rl hr
        replace HB := HB.trans (hBt.below HB.size (UpOld.all (bx := []) trivial))
        clear hBt hr hR hP hX hU
        refine wp_seq ?_
        refine wp_seq ?_
        refine region4 [some 10, some 11, some 12, some 13] [Eqs (.pointer (some ⟨gs2 0, 2, none⟩)), Eqs (.slice b_3 s_3.length d_3), BitsOf ((dn (tp pr qr) (tq qr))), Eqs (.bool (decide ((dn (tp pr qr) (tq qr)) = 1)))] [] [] (by kernel_rfl) hn rfl (by kernel_rfl) (by kernel_rfl) (by kernel_rfl) (by kernel_rfl) (by kernel_rfl) (by kernel_rfl) ⟨Eqs.mono4 _, Eqs.mono4 _, BitsOf.mono4 _, Eqs.mono4 _, trivial⟩ ok_nil (IsOld.all (bx := []) trivial) (DisOld.all (bx := []) trivial) ?_ ?_
        · exact ⟨.norm 10 rfl rfl rfl (fun a_ w_ hn_ hBt hr hR hD hO hS => op_faR fa_den ((hR 3 rfl).trans f3)),
            .norm 11 rfl rfl rfl (fun a_ w_ hn_ hBt hr hR hD hO hS => op_ldden (show a_.eval (.tmp 10) = .pointer (some ⟨gs2 0, 2, none⟩) from hD 0 rfl) (b3.keep hBt trivial)),
            .norm 12 rfl rfl rfl (fun a_ w_ hn_ hBt hr hR hD hO hS => op_lbits (isl_eq (show a_.eval (.tmp 11) = .slice b_3 s_3.length d_3 from hD 1 rfl) (S3.rl hr) V3 k3) (by omega)),
            .norm 13 rfl rfl rfl (fun a_ w_ hn_ hBt hr hR hD hO hS => op_bits1 (show BitsOf ((dn (tp pr qr) (tq qr))) (a_.eval (.tmp 12)) w_ from hD 2 rfl) (by rw [hq]; omega)),
            trivial⟩
        · intro a5 w5 gs5 hn5 hd5 hBt hr hR hP hX hU
          replace hn := hn5; replace hd := hd5.trans hd
          replace b3 := b3.keep hBt trivial
          replace f2 := (hR 2 rfl).trans f2
          replace f3 := (hR 3 rfl).trans f3
          replace f4 := (hR 4 rfl).trans f4
          have e13 : a5.eval (.tmp 13) = .bool (decide ((dn (tp pr qr) (tq qr)) = 1)) := hP 3 (by decide)
          have f13 := e13
          replace Ar := Ar.rl hr
          replace Sr := Sr.rl hr
          replace Dr := Dr.rl hr
          replace G3 := G3.rl hr
          replace A3 := A3.rl hr
          replace K3 := K3.rl hr
          replace S3 := S3.rl hr
          replace HB := HB.trans (hBt.below HB.size (UpOld.all (bx := []) trivial))
          clear hBt hr hR hP hX hU
          refine wp_cond_split f13 (fun hc13 => ?_) (fun hc13 => ?_)
          · skip
            exact absurd (of_decide_eq_true hc13) (by rw [hq]; omega)
          · skip
            refine wp_skip ?_
            refine wp_seq ?_
            refine region4 [some 15, some 16, some 17, some 18, some 19, some 20, some 2] [Eqs (.string ⟨#[45, 51]⟩), Eqs (.string ⟨#[45, 51, 47]⟩), Eqs (.pointer (some ⟨gs2 0, 2, none⟩)), Eqs (.slice b_3 s_3.length d_3), Eqs (.string ⟨#[50]⟩), Eqs (.string ⟨#[45, 51, 47, 50]⟩), Eqs (.string ⟨#[45, 51, 47, 50]⟩)] [] [] (by kernel_rfl) hn rfl (by kernel_rfl) (by kernel_rfl) (by kernel_rfl) (by kernel_rfl) (by kernel_rfl) (by kernel_rfl) ⟨Eqs.mono4 _, Eqs.mono4 _, Eqs.mono4 _, Eqs.mono4 _, Eqs.mono4 _, Eqs.mono4 _, Eqs.mono4 _, trivial⟩ ok_nil (IsOld.all (bx := []) trivial) (DisOld.all (bx := []) trivial) ?_ ?_
            · exact ⟨.norm 15 rfl rfl rfl (fun a_ w_ hn_ hBt hr hR hD hO hS => op_mv ((hR 4 rfl).trans f4)),
                .norm 16 rfl rfl rfl (fun a_ w_ hn_ hBt hr hR hD hO hS => op_cat (show a_.eval (.tmp 15) = .string ⟨#[45, 51]⟩ from hD 0 rfl) rfl (by decide) rfl),
                .norm 17 rfl rfl rfl (fun a_ w_ hn_ hBt hr hR hD hO hS => op_faR fa_den ((hR 3 rfl).trans f3)),
                .norm 18 rfl rfl rfl (fun a_ w_ hn_ hBt hr hR hD hO hS => op_ldden (show a_.eval (.tmp 17) = .pointer (some ⟨gs2 0, 2, none⟩) from hD 2 rfl) (b3.keep hBt trivial)),
                .norm 19 rfl rfl rfl (fun a_ w_ hn_ hBt hr hR hD hO hS => op_text2 (isl_eq (show a_.eval (.tmp 18) = .slice b_3 s_3.length d_3 from hD 3 rfl) (S3.rl hr) V3 k3) hq (by omega)),
                .norm 20 rfl rfl rfl (fun a_ w_ hn_ hBt hr hR hD hO hS => op_cat (show a_.eval (.tmp 16) = .string ⟨#[45, 51, 47]⟩ from hD 1 rfl) (show a_.eval (.tmp 19) = .string ⟨#[50]⟩ from hD 4 rfl) (by decide) rfl),
                .norm 2 rfl rfl rfl (fun a_ w_ hn_ hBt hr hR hD hO hS => op_assign (show a_.eval (.tmp 20) = .string ⟨#[45, 51, 47, 50]⟩ from hD 5 rfl)),
                trivial⟩
            · intro a6 w6 gs6 hn6 hd6 hBt hr hR hP hX hU
              replace hn := hn6; replace hd := hd6.trans hd
              have e2 : a6.eval (.tmp 2) = .string ⟨#[45, 51, 47, 50]⟩ := hP 6 (by decide)
              have f2 := e2
              replace Ar := Ar.rl hr
              replace Sr := Sr.rl hr
              replace Dr := Dr.rl hr
              replace G3 := G3.rl hr
              replace A3 := A3.rl hr
              replace K3 := K3.rl hr
              replace S3 := S3.rl hr
              replace HB := HB.trans (hBt.below HB.size (UpOld.all (bx := []) trivial))
              clear hBt hr hR hP hX hU
              refine wp_ret ?_
              repeat (first | refine then_ret ?_ | refine scope_ret ?_ | refine block_ret ?_)
              exact bodyPost_ret (v := .string ⟨#[45, 51, 47, 50]⟩) (res_t rfl f2) hd ⟨_, rfl, rfl, HB⟩

theorem has_rtext32 : Has Try.prog 30 := by unfold Has; kernel_rfl
theorem op_rtext32 {dst : Option Tmp} {ty : TypeId} {pos : String} {after : Array Edge} {guard : Option (Nat × Bool)} {a : Act} {w : World} {ats : Array TypeId} {i : Nat} {Br : Nat} {pr qr : Int} (Hr : IsR pr qr Br (a.eval (.tmp i)) w) (hL : Br ≤ 1000) (hp : nm (tp pr qr) (tq qr) = -3) (hq : dn (tp pr qr) (tq qr) = 2) :
    Does Try.prog { dst, op := .call { callee := .value (.func 30), args := #[.tmp i], argTypes := ats }, type := ty, pos, after, guard } a.eval w fun v w' => Below w.heap.size w w' ∧ (Eqs (.string ⟨#[45, 51, 47, 50]⟩)) v w' := by
  obtain ⟨nr, ar, mr, cr, rs, br, kr, dr, rt, er, Ar, Sr, Vr, Lr, Mr⟩ := Hr
  refine does_call has_rtext32 _ (by simp only [List.map_toArray, List.map_cons, List.map_nil, er]) ((rtext32_z w Br _ _ _ _ _ _ Ar Lr _ _ _ _ _ Sr Vr Mr hL hp hq).mono ?_)
  rintro e w' ⟨v, rfl, h1, hb⟩
  exact ⟨_, rfl, hb, h1⟩

set_option maxRecDepth 20000 in
set_option maxHeartbeats 1000000 in
theorem rawake_z (w : World) : Calls Try.prog 6 #[] w fun e w' => ∃ v, e = .returned v ∧ (Eqs (.bool true)) v w' ∧ Below w.heap.size w w' := by
  go_enter Try.func6, Try.ntmps6
  generalize hA : (Act.mk _ _) = aa
  have hn : aa.tmps.size = 16 := by rw [← hA]; rfl
  have hd : aa.defers = [] := by rw [← hA]
  clear hA
  have HB : Below w.heap.size w w := Below.refl _ _
  refine wp_seq ?_
  refine region4 [some 0] [Eqs ((.bool false))] [] [] (by kernel_rfl) hn rfl (by kernel_rfl) (by kernel_rfl) (by kernel_rfl) (by kernel_rfl) (by kernel_rfl) (by kernel_rfl) ⟨Eqs.mono4 _, trivial⟩ ok_nil (IsOld.all (bx := []) trivial) (DisOld.all (bx := []) trivial) ?_ ?_
  · exact ⟨.norm 0 rfl rfl rfl (fun a_ w_ hn_ hBt hr hR hD hO hS => op_assign rfl),
      trivial⟩
  · intro a1 w1 gs1 hn1 hd1 hBt hr hR hP hX hU
    replace hn := hn1; replace hd := hd1.trans hd
    have e0 : a1.eval (.tmp 0) = (.bool false) := hP 0 (by decide)
    have f0 := e0
    replace HB := HB.trans (hBt.below HB.size (UpOld.all (bx := []) trivial))
    clear hBt hr hR hP hX hU
    refine wp_seq ?_
    refine region4 [some 4, some 5, some 6, some 3, some 7, some 8, some 1, none, some 2] [OutW (6) (2), OutW ((-4)) (2), Tup2 (OutR ((nm 6 (-4))) ((dn 6 (-4))) ((2) + (2))) (Eqs (.int .i64 0)), Tup2 (OutR ((nm 6 (-4))) ((dn 6 (-4))) ((2) + (2))) (Eqs (.int .i64 0)), OutR ((nm 6 (-4))) ((dn 6 (-4))) ((2) + (2)), Eqs (.int .i64 0), (fun _ _ => True), (fun _ _ => True), Eqs (.int .i64 0)] [⟨R3, some 6, 0, 1, .agg #[.bool false, .slice none 0 0, .slice none 0 0], some (7, 7, 4), []⟩] [] (by kernel_rfl) hn rfl (by kernel_rfl) (by kernel_rfl) (by kernel_rfl) (by kernel_rfl) (by kernel_rfl) (by kernel_rfl) ⟨OutW.mono4 _ _, OutW.mono4 _ _, Tup2.mono4 (OutR.mono4 _ _ _) (Eqs.mono4 _), Tup2.mono4 (OutR.mono4 _ _ _) (Eqs.mono4 _), OutR.mono4 _ _ _, Eqs.mono4 _, True.mono4, True.mono4, Eqs.mono4 _, trivial⟩ (ok_cons R3ok ok_nil) (IsOld.all (bx := [⟨R3, some 6, 0, 1, .agg #[.bool false, .slice none 0 0, .slice none 0 0], some (7, 7, 4), []⟩]) ⟨someNe, trivial⟩) (DisOld.all (bx := [⟨R3, some 6, 0, 1, .agg #[.bool false, .slice none 0 0, .slice none 0 0], some (7, 7, 4), []⟩]) ⟨someNe, trivial⟩) ?_ ?_
    · exact ⟨.norm 4 rfl rfl rfl (fun a_ w_ hn_ hBt hr hR hD hO hS => op_lsmall (by omega) (by omega)),
        .norm 5 rfl rfl rfl (fun a_ w_ hn_ hBt hr hR hD hO hS => op_lsmall (by omega) (by omega)),
        .norm 6 rfl rfl rfl (fun a_ w_ hn_ hBt hr hR hD hO hS => op_rof (show OutW (6) (2) (a_.eval (.tmp 4)) w_ from hD 0 rfl).is (show OutW ((-4)) (2) (a_.eval (.tmp 5)) w_ from hD 1 rfl).is (by omega) (by omega)),
        .norm 3 rfl rfl rfl (fun a_ w_ hn_ hBt hr hR hD hO hS => op_mvp (p := Tup2 (OutR ((nm 6 (-4))) ((dn 6 (-4))) ((2) + (2))) (Eqs (.int .i64 0))) (show Tup2 (OutR ((nm 6 (-4))) ((dn 6 (-4))) ((2) + (2))) (Eqs (.int .i64 0)) (a_.eval (.tmp 6)) w_ from hD 2 rfl)),
        .norm 7 rfl rfl rfl (fun a_ w_ hn_ hBt hr hR hD hO hS => op_ex20 (show Tup2 (OutR ((nm 6 (-4))) ((dn 6 (-4))) ((2) + (2))) (Eqs (.int .i64 0)) (a_.eval (.tmp 3)) w_ from hD 3 rfl)),
        .norm 8 rfl rfl rfl (fun a_ w_ hn_ hBt hr hR hD hO hS => op_ex21 (show Tup2 (OutR ((nm 6 (-4))) ((dn 6 (-4))) ((2) + (2))) (Eqs (.int .i64 0)) (a_.eval (.tmp 3)) w_ from hD 3 rfl)),
        .alloc 0 _ rfl rfl (.inl ⟨rfl, rfl⟩) rfl rfl rfl rfl rfl,
        .store 0 _ _ _ rfl rfl rfl rfl rfl rfl rfl (fun ia h => by cases h; rfl) rfl rfl rfl OutR.cs,
        .norm 2 rfl rfl rfl (fun a_ w_ hn_ hBt hr hR hD hO hS => op_assign (show a_.eval (.tmp 8) = .int .i64 0 from hD 5 rfl)),
        trivial⟩
    · intro a2 w2 gs2 hn2 hd2 hBt hr hR hP hX hU
      replace hn := hn2; replace hd := hd2.trans hd
      obtain ⟨n_3, a_3, c_3, r_3, b_3, d_3, s_3, e7, G3, K3, l3, k3⟩ : OutR ((nm 6 (-4))) ((dn 6 (-4))) ((2) + (2)) (a2.eval (.tmp 7)) w2 := hP 4 (by decide)
      have A3 := G3.ag; have S3 := K3.sl; have V3 := K3.val
      have b1 : BoxV R3 w2 (gs2 0) (.agg #[.bool n_3, .slice a_3 r_3.length c_3, .slice b_3 s_3.length d_3]) := boxv_of (hX 0 _ rfl).2.2.2 e7
      have f1 := (hX 0 _ rfl).1
      have u1 : w.heap.size ≤ gs2 0 := Nat.le_trans HB.size ((hX 0 _ rfl).2.2.1 (by simp))
      replace f0 := (hR 0 rfl).trans f0
      have e2 : a2.eval (.tmp 2) = .int .i64 0 := hP 8 (by decide)
      have f2 := e2
      replace HB := HB.trans (hBt.below HB.size (UpOld.all (bx := [⟨R3, some 6, 0, 1, .agg #[.bool false, .slice none 0 0, .slice none 0 0], some (7, 7, 4), []⟩]) ⟨someNe, trivial⟩))
      clear hBt hr hR hP hX hU
      refine wp_seq ?_
      refine region4 [some 9, some 10, some 11, some 12, some 13, some 14, some 15, some 0] [Eqs (.int .i64 0), Eqs (.bool true), Eqs (.bool true), Eqs (.agg #[.bool n_3, .slice a_3 r_3.length c_3, .slice b_3 s_3.length d_3]), Eqs (.string ⟨#[45, 51, 47, 50]⟩), Eqs (.bool true), Eqs (.bool true), Eqs (.bool true)] [] [] (by kernel_rfl) hn rfl (by kernel_rfl) (by kernel_rfl) (by kernel_rfl) (by kernel_rfl) (by kernel_rfl) (by kernel_rfl) ⟨Eqs.mono4 _, Eqs.mono4 _, Eqs.mono4 _, Eqs.mono4 _, Eqs.mono4 _, Eqs.mono4 _, Eqs.mono4 _, Eqs.mono4 _, trivial⟩ ok_nil (IsOld.all (bx := []) trivial) (DisOld.all (bx := []) trivial) ?_ ?_
      · exact ⟨.norm 9 rfl rfl rfl (fun a_ w_ hn_ hBt hr hR hD hO hS => op_mv ((hR 2 rfl).trans f2)),
          .norm 10 rfl rfl rfl (fun a_ w_ hn_ hBt hr hR hD hO hS => op_eqle (show a_.eval (.tmp 9) = .int .i64 0 from hD 0 rfl)),
          .norm 11 rfl rfl rfl (fun a_ w_ hn_ hBt hr hR hD hO hS => op_mv (show a_.eval (.tmp 10) = .bool true from hD 1 rfl)),
          .norm 12 rfl rfl rfl (fun a_ w_ hn_ hBt hr hR hD hO hS => ⟨⟨_, rfl⟩, fun _ => op_loadv R3ok ((hR 1 rfl).trans f1) (b1.keep hBt trivial), fun hne => absurd (hD 2 rfl) hne⟩),
          .norm 13 rfl rfl rfl (fun a_ w_ hn_ hBt hr hR hD hO hS => ⟨⟨_, rfl⟩, fun _ => op_rtext32 (isr_eq (show a_.eval (.tmp 12) = .agg #[.bool n_3, .slice a_3 r_3.length c_3, .slice b_3 s_3.length d_3] from hD 3 rfl) (A3.rl hr) (S3.rl hr) V3 l3 k3) (by omega) (by decide) (by decide), fun hne => absurd (hD 2 rfl) hne⟩),
          .norm 14 rfl rfl rfl (fun a_ w_ hn_ hBt hr hR hD hO hS => ⟨⟨_, rfl⟩, fun _ => op_eqls (show a_.eval (.tmp 13) = .string ⟨#[45, 51, 47, 50]⟩ from hD 4 rfl) rfl, fun hne => absurd (hD 2 rfl) hne⟩),
          .norm 15 rfl rfl rfl (fun a_ w_ hn_ hBt hr hR hD hO hS => op_pickb (show a_.eval (.tmp 11) = .bool true from hD 2 rfl) (show a_.eval (.tmp 14) = .bool true from hD 5 rfl)),
          .norm 0 rfl rfl rfl (fun a_ w_ hn_ hBt hr hR hD hO hS => op_assign (show a_.eval (.tmp 15) = .bool true from hD 6 rfl)),
          trivial⟩
      · intro a4 w4 gs4 hn4 hd4 hBt hr hR hP hX hU
        replace hn := hn4; replace hd := hd4.trans hd
        have e0 : a4.eval (.tmp 0) = .bool true := hP 7 (by decide)
        have f0 := e0
        replace G3 := G3.rl hr
        replace A3 := A3.rl hr
        replace K3 := K3.rl hr
        replace S3 := S3.rl hr
        replace HB := HB.trans (hBt.below HB.size (UpOld.all (bx := []) trivial))
        clear hBt hr hR hP hX hU
        refine wp_ret ?_
        repeat (first | refine then_ret ?_ | refine scope_ret ?_ | refine block_ret ?_)
        exact bodyPost_ret (v := .bool true) (res_t rfl f0) hd ⟨_, rfl, rfl, HB⟩

theorem has_rawake : Has Try.prog 6 := by unfold Has; kernel_rfl
theorem op_rawake {dst : Option Tmp} {ty : TypeId} {pos : String} {after : Array Edge} {guard : Option (Nat × Bool)} {a : Act} {w : World} {ats : Array TypeId} : Does Try.prog { dst, op := .call { callee := .value (.func 6), args := #[], argTypes := ats }, type := ty, pos, after, guard } a.eval w fun v w' => Below w.heap.size w w' ∧ Eqs (.bool true) v w' := by
  refine does_call has_rawake _ (by simp only [List.map_toArray, List.map_nil]) ((rawake_z w).mono ?_)
  rintro e w' ⟨v, rfl, h1, hb⟩
  exact ⟨_, rfl, hb, h1⟩

end Lm
end Go.Proofs.Ytkdcgnooeojjgac

namespace Go.Proofs.Ytkdcgnooeojjgac
namespace Lm
open Go Go.RowKit

set_option maxRecDepth 20000 in
set_option maxHeartbeats 2000000 in
theorem rcmp_z (w : World) (Br : Nat) (nr : Bool) (ar : Option Addr) (mr cr : Nat) (rs : List Int) (pr : Int) (Ar : Ag w nr ar mr cr rs pr) (Lr : rs.length ≤ Br) (br : Option Addr) (kr dr : Nat) (rt : List Int) (qr : Int) (Sr : Sl w (.slice br kr dr) rt) (Vr : val rt = qr) (Mr : rt.length ≤ Br) (Bu : Nat) (nu : Bool) (au : Option Addr) (mu cu : Nat) (us : List Int) (pu : Int) (Au : Ag w nu au mu cu us pu) (Lu : us.length ≤ Bu) (bu : Option Addr) (ku du : Nat) (ut : List Int) (qu : Int) (Su : Sl w (.slice bu ku du) ut) (Vu : val ut = qu) (Mu : ut.length ≤ Bu) (hL : Br + Bu + 4 ≤ 100000) :
    Calls Try.prog 18 #[.agg #[.bool nr, .slice ar mr cr, .slice br kr dr], .agg #[.bool nu, .slice au mu cu, .slice bu ku du]] w fun e w' => ∃ v, e = .returned v ∧ (Eqs (.int .i64 (cmpI (tp pr qr * tq qu) (tp pu qu * tq qr)))) v w' ∧ Below w.heap.size w w' := by
  go_enter Try.func18, Try.ntmps18
  generalize hA : (Act.mk _ _) = aa
  have hn : aa.tmps.size = 26 := by rw [← hA]; rfl
  have hd : aa.defers = [] := by rw [← hA]
  have f0 : aa.eval (.tmp 0) = .agg #[.bool nr, .slice ar mr cr, .slice br kr dr] := by rw [← hA]; rfl
  have f1 : aa.eval (.tmp 1) = .agg #[.bool nu, .slice au mu cu, .slice bu ku du] := by rw [← hA]; rfl
  clear hA
  have HB : Below w.heap.size w w := Below.refl _ _
  have Dr : Ag w false br kr dr rt qr := ⟨Sr, Vr⟩
  have Du : Ag w false bu ku du ut qu := ⟨Su, Vu⟩
  refine wp_seq ?_
  refine region4 [some 2, some 3, some 4] [(fun _ _ => True), (fun _ _ => True), Eqs ((.int .i64 0))] [⟨R3, some 0, 0, 2, .agg #[.bool nr, .slice ar mr cr, .slice br kr dr], none, []⟩, ⟨R3, some 1, 0, 3, .agg #[.bool nu, .slice au mu cu, .slice bu ku du], none, []⟩] [] (by kernel_rfl) hn rfl (by kernel_rfl) (by kernel_rfl) (by kernel_rfl) (by kernel_rfl) (by kernel_rfl) (by kernel_rfl) ⟨True.mono4, True.mono4, Eqs.mono4 _, trivial⟩ (ok_cons R3ok (ok_cons R3ok ok_nil)) (IsOld.all (bx := [⟨R3, some 0, 0, 2, .agg #[.bool nr, .slice ar mr cr, .slice br kr dr], none, []⟩, ⟨R3, some 1, 0, 3, .agg #[.bool nu, .slice au mu cu, .slice bu ku du], none, []⟩]) ⟨someNe, someNe, trivial⟩) (DisOld.all (bx := [⟨R3, some 0, 0, 2, .agg #[.bool nr, .slice ar mr cr, .slice br kr dr], none, []⟩, ⟨R3, some 1, 0, 3, .agg #[.bool nu, .slice au mu cu, .slice bu ku du], none, []⟩]) ⟨someNe, someNe, trivial⟩) ?_ ?_
  · exact ⟨.alloc 0 _ rfl rfl (.inr ⟨_, rfl, r3_cs, fun a_ hR => (hR 0 rfl).trans f0⟩) rfl rfl rfl rfl rfl,
      .alloc 1 _ rfl rfl (.inr ⟨_, rfl, r3_cs, fun a_ hR => (hR 1 rfl).trans f1⟩) rfl rfl rfl rfl rfl,
      .norm 4 rfl rfl rfl (fun a_ w_ hn_ hBt hr hR hD hO hS => op_assign rfl),
      trivial⟩
  · intro a1 w1 gs1 hn1 hd1 hBt hr hR hP hX hU
    replace hn := hn1; replace hd := hd1.trans hd
    have b2 : BoxV R3 w1 (gs1 0) (.agg #[.bool nr, .slice ar mr cr, .slice br kr dr]) := (hX 0 _ rfl).2.2.2
    have f2 := (hX 0 _ rfl).1
    have u2 : w.heap.size ≤ gs1 0 := Nat.le_trans HB.size ((hX 0 _ rfl).2.2.1 (by simp))
    have b3 : BoxV R3 w1 (gs1 1) (.agg #[.bool nu, .slice au mu cu, .slice bu ku du]) := (hX 1 _ rfl).2.2.2
    have f3 := (hX 1 _ rfl).1
    have u3 : w.heap.size ≤ gs1 1 := Nat.le_trans HB.size ((hX 1 _ rfl).2.2.1 (by simp))
    have e4 : a1.eval (.tmp 4) = (.int .i64 0) := hP 2 (by decide)
    have f4 := e4
    replace Ar := Ar.rl hr
    replace Sr := Sr.rl hr
    replace Dr := Dr.rl hr
    replace Au := Au.rl hr
    replace Su := Su.rl hr
    replace Du := Du.rl hr
    replace HB := HB.trans (hBt.below HB.size (UpOld.all (bx := [⟨R3, some 0, 0, 2, .agg #[.bool nr, .slice ar mr cr, .slice br kr dr], none, []⟩, ⟨R3, some 1, 0, 3, .agg #[.bool nu, .slice au mu cu, .slice bu ku du], none, []⟩]) ⟨someNe, someNe, trivial⟩))
    clear hBt hr hR hP hX hU
    refine wp_seq ?_
    refine region4 [some 10, some 11, some 9, some 12, some 13, some 5, some 6, none, none] [Eqs (.agg #[.bool nr, .slice ar mr cr, .slice br kr dr]), Tup2 (IsW ((tp pr qr)) ((Br) + 2)) (IsW ((tq qr)) ((Br) + 2)), Tup2 (IsW ((tp pr qr)) ((Br) + 2)) (IsW ((tq qr)) ((Br) + 2)), IsW ((tp pr qr)) ((Br) + 2), IsW ((tq qr)) ((Br) + 2), (fun _ _ => True), (fun _ _ => True), (fun _ _ => True), (fun _ _ => True)] [⟨W2, some 5, 0, 5, .agg #[.bool false, .slice none 0 0], some (7, 12, 3), []⟩, ⟨W2, some 6, 0, 6, .agg #[.bool false, .slice none 0 0], some (8, 13, 4), []⟩] [] (by kernel_rfl) hn rfl (by kernel_rfl) (by kernel_rfl) (by kernel_rfl) (by kernel_rfl) (by kernel_rfl) (by kernel_rfl) ⟨Eqs.mono4 _, Tup2.mono4 (IsW.mono4 _ _) (IsW.mono4 _ _), Tup2.mono4 (IsW.mono4 _ _) (IsW.mono4 _ _), IsW.mono4 _ _, IsW.mono4 _ _, True.mono4, True.mono4, True.mono4, True.mono4, trivial⟩ (ok_cons W2ok (ok_cons W2ok ok_nil)) (IsOld.all (bx := [⟨W2, some 5, 0, 5, .agg #[.bool false, .slice none 0 0], some (7, 12, 3), []⟩, ⟨W2, some 6, 0, 6, .agg #[.bool false, .slice none 0 0], some (8, 13, 4), []⟩]) ⟨someNe, someNe, trivial⟩) (DisOld.all (bx := [⟨W2, some 5, 0, 5, .agg #[.bool false, .slice none 0 0], some (7, 12, 3), []⟩, ⟨W2, some 6, 0, 6, .agg #[.bool false, .slice none 0 0], some (8, 13, 4), []⟩]) ⟨someNe, someNe, trivial⟩) ?_ ?_
    · exact ⟨.norm 10 rfl rfl rfl (fun a_ w_ hn_ hBt hr hR hD hO hS => op_loadv R3ok ((hR 2 rfl).trans f2) (b2.keep hBt ⟨someNe, someNe, trivial⟩)),
        .norm 11 rfl rfl rfl (fun a_ w_ hn_ hBt hr hR hD hO hS => op_terms (isr_eq (show a_.eval (.tmp 10) = .agg #[.bool nr, .slice ar mr cr, .slice br kr dr] from hD 0 rfl) (Ar.rl hr) (Sr.rl hr) Vr Lr Mr) (by omega)),
        .norm 9 rfl rfl rfl (fun a_ w_ hn_ hBt hr hR hD hO hS => op_mvp (p := Tup2 (IsW ((tp pr qr)) ((Br) + 2)) (IsW ((tq qr)) ((Br) + 2))) (show Tup2 (IsW ((tp pr qr)) ((Br) + 2)) (IsW ((tq qr)) ((Br) + 2)) (a_.eval (.tmp 11)) w_ from hD 1 rfl)),
        .norm 12 rfl rfl rfl (fun a_ w_ hn_ hBt hr hR hD hO hS => op_ex20 (show Tup2 (IsW ((tp pr qr)) ((Br) + 2)) (IsW ((tq qr)) ((Br) + 2)) (a_.eval (.tmp 9)) w_ from hD 2 rfl)),
        .norm 13 rfl rfl rfl (fun a_ w_ hn_ hBt hr hR hD hO hS => op_ex21 (show Tup2 (IsW ((tp pr qr)) ((Br) + 2)) (IsW ((tq qr)) ((Br) + 2)) (a_.eval (.tmp 9)) w_ from hD 2 rfl)),
        .alloc 0 _ rfl rfl (.inl ⟨rfl, rfl⟩) rfl rfl rfl rfl rfl,
        .alloc 1 _ rfl rfl (.inl ⟨rfl, rfl⟩) rfl rfl rfl rfl rfl,
        .store 0 _ _ _ rfl rfl rfl rfl rfl rfl rfl (fun ia h => by cases h; rfl) rfl rfl rfl IsW.cs,
        .store 1 _ _ _ rfl rfl rfl rfl rfl rfl rfl (fun ia h => by cases h; rfl) rfl rfl rfl IsW.cs,
        trivial⟩
    · intro a2 w2 gs2 hn2 hd2 hBt hr hR hP hX hU
      replace hn := hn2; replace hd := hd2.trans hd
      replace b3 := b3.keep hBt ⟨someNe, someNe, trivial⟩
      obtain ⟨n_3, a_3, m_3, c_3, r_3, e12, A3, l3⟩ : IsW ((tp pr qr)) ((Br) + 2) (a2.eval (.tmp 12)) w2 := hP 3 (by decide)
      have b5 : BoxV W2 w2 (gs2 0) (.agg #[.bool n_3, .slice a_3 m_3 c_3]) := boxv_of (hX 0 _ rfl).2.2.2 e12
      have f5 := (hX 0 _ rfl).1
      have u5 : w.heap.size ≤ gs2 0 := Nat.le_trans HB.size ((hX 0 _ rfl).2.2.1 (by simp))
      obtain ⟨n_4, a_4, m_4, c_4, r_4, e13, A4, l4⟩ : IsW ((tq qr)) ((Br) + 2) (a2.eval (.tmp 13)) w2 := hP 4 (by decide)
      have b6 : BoxV W2 w2 (gs2 1) (.agg #[.bool n_4, .slice a_4 m_4 c_4]) := boxv_of (hX 1 _ rfl).2.2.2 e13
      have f6 := (hX 1 _ rfl).1
      have u6 : w.heap.size ≤ gs2 1 := Nat.le_trans HB.size ((hX 1 _ rfl).2.2.1 (by simp))
      replace f3 := (hR 3 rfl).trans f3
      replace f4 := (hR 4 rfl).trans f4
      replace Ar := Ar.rl hr
      replace Sr := Sr.rl hr
      replace Dr := Dr.rl hr
      replace Au := Au.rl hr
      replace Su := Su.rl hr
      replace Du := Du.rl hr
      replace HB := HB.trans (hBt.below HB.size (UpOld.all (bx := [⟨W2, some 5, 0, 5, .agg #[.bool false, .slice none 0 0], some (7, 12, 3), []⟩, ⟨W2, some 6, 0, 6, .agg #[.bool false, .slice none 0 0], some (8, 13, 4), []⟩]) ⟨someNe, someNe, trivial⟩))
      clear hBt hr hR hP hX hU
      refine wp_seq ?_
      refine region4 [some 15, some 16, some 14, some 17, some 18, some 7, some 8, none, none] [Eqs (.agg #[.bool nu, .slice au mu cu, .slice bu ku du]), Tup2 (IsW ((tp pu qu)) ((Bu) + 2)) (IsW ((tq qu)) ((Bu) + 2)), Tup2 (IsW ((tp pu qu)) ((Bu) + 2)) (IsW ((tq qu)) ((Bu) + 2)), IsW ((tp pu qu)) ((Bu) + 2), IsW ((tq qu)) ((Bu) + 2), (fun _ _ => True), (fun _ _ => True), (fun _ _ => True), (fun _ _ => True)] [⟨W2, some 5, 0, 7, .agg #[.bool false, .slice none 0 0], some (7, 17, 3), []⟩, ⟨W2, some 6, 0, 8, .agg #[.bool false, .slice none 0 0], some (8, 18, 4), []⟩] [] (by kernel_rfl) hn rfl (by kernel_rfl) (by kernel_rfl) (by kernel_rfl) (by kernel_rfl) (by kernel_rfl) (by kernel_rfl) ⟨Eqs.mono4 _, Tup2.mono4 (IsW.mono4 _ _) (IsW.mono4 _ _), Tup2.mono4 (IsW.mono4 _ _) (IsW.mono4 _ _), IsW.mono4 _ _, IsW.mono4 _ _, True.mono4, True.mono4, True.mono4, True.mono4, trivial⟩ (ok_cons W2ok (ok_cons W2ok ok_nil)) (IsOld.all (bx := [⟨W2, some 5, 0, 7, .agg #[.bool false, .slice none 0 0], some (7, 17, 3), []⟩, ⟨W2, some 6, 0, 8, .agg #[.bool false, .slice none 0 0], some (8, 18, 4), []⟩]) ⟨someNe, someNe, trivial⟩) (DisOld.all (bx := [⟨W2, some 5, 0, 7, .agg #[.bool false, .slice none 0 0], some (7, 17, 3), []⟩, ⟨W2, some 6, 0, 8, .agg #[.bool false, .slice none 0 0], some (8, 18, 4), []⟩]) ⟨someNe, someNe, trivial⟩) ?_ ?_
      · exact ⟨.norm 15 rfl rfl rfl (fun a_ w_ hn_ hBt hr hR hD hO hS => op_loadv R3ok ((hR 3 rfl).trans f3) (b3.keep hBt ⟨someNe, someNe, trivial⟩)),
          .norm 16 rfl rfl rfl (fun a_ w_ hn_ hBt hr hR hD hO hS => op_terms (isr_eq (show a_.eval (.tmp 15) = .agg #[.bool nu, .slice au mu cu, .slice bu ku du] from hD 0 rfl) (Au.rl hr) (Su.rl hr) Vu Lu Mu) (by omega)),
          .norm 14 rfl rfl rfl (fun a_ w_ hn_ hBt hr hR hD hO hS => op_mvp (p := Tup2 (IsW ((tp pu qu)) ((Bu) + 2)) (IsW ((tq qu)) ((Bu) + 2))) (show Tup2 (IsW ((tp pu qu)) ((Bu) + 2)) (IsW ((tq qu)) ((Bu) + 2)) (a_.eval (.tmp 16)) w_ from hD 1 rfl)),
          .norm 17 rfl rfl rfl (fun a_ w_ hn_ hBt hr hR hD hO hS => op_ex20 (show Tup2 (IsW ((tp pu qu)) ((Bu) + 2)) (IsW ((tq qu)) ((Bu) + 2)) (a_.eval (.tmp 14)) w_ from hD 2 rfl)),
          .norm 18 rfl rfl rfl (fun a_ w_ hn_ hBt hr hR hD hO hS => op_ex21 (show Tup2 (IsW ((tp pu qu)) ((Bu) + 2)) (IsW ((tq qu)) ((Bu) + 2)) (a_.eval (.tmp 14)) w_ from hD 2 rfl)),
          .alloc 0 _ rfl rfl (.inl ⟨rfl, rfl⟩) rfl rfl rfl rfl rfl,
          .alloc 1 _ rfl rfl (.inl ⟨rfl, rfl⟩) rfl rfl rfl rfl rfl,
          .store 0 _ _ _ rfl rfl rfl rfl rfl rfl rfl (fun ia h => by cases h; rfl) rfl rfl rfl IsW.cs,
          .store 1 _ _ _ rfl rfl rfl rfl rfl rfl rfl (fun ia h => by cases h; rfl) rfl rfl rfl IsW.cs,
          trivial⟩
      · intro a5 w5 gs5 hn5 hd5 hBt hr hR hP hX hU
        replace hn := hn5; replace hd := hd5.trans hd
        replace b5 := b5.keep hBt ⟨someNe, someNe, trivial⟩
        replace b6 := b6.keep hBt ⟨someNe, someNe, trivial⟩
        obtain ⟨n_6, a_6, m_6, c_6, r_6, e17, A6, l6⟩ : IsW ((tp pu qu)) ((Bu) + 2) (a5.eval (.tmp 17)) w5 := hP 3 (by decide)
        have b7 : BoxV W2 w5 (gs5 0) (.agg #[.bool n_6, .slice a_6 m_6 c_6]) := boxv_of (hX 0 _ rfl).2.2.2 e17
        have f7 := (hX 0 _ rfl).1
        have u7 : w.heap.size ≤ gs5 0 := Nat.le_trans HB.size ((hX 0 _ rfl).2.2.1 (by simp))
        obtain ⟨n_7, a_7, m_7, c_7, r_7, e18, A7, l7⟩ : IsW ((tq qu)) ((Bu) + 2) (a5.eval (.tmp 18)) w5 := hP 4 (by decide)
        have b8 : BoxV W2 w5 (gs5 1) (.agg #[.bool n_7, .slice a_7 m_7 c_7]) := boxv_of (hX 1 _ rfl).2.2.2 e18
        have f8 := (hX 1 _ rfl).1
        have u8 : w.heap.size ≤ gs5 1 := Nat.le_trans HB.size ((hX 1 _ rfl).2.2.1 (by simp))
        replace f4 := (hR 4 rfl).trans f4
        replace f5 := (hR 5 rfl).trans f5
        replace f6 := (hR 6 rfl).trans f6
        replace Ar := Ar.rl hr
        replace Sr := Sr.rl hr
        replace Dr := Dr.rl hr
        replace Au := Au.rl hr
        replace Su := Su.rl hr
        replace Du := Du.rl hr
        replace A3 := A3.rl hr
        replace A4 := A4.rl hr
        replace HB := HB.trans (hBt.below HB.size (UpOld.all (bx := [⟨W2, some 5, 0, 7, .agg #[.bool false, .slice none 0 0], some (7, 17, 3), []⟩, ⟨W2, some 6, 0, 8, .agg #[.bool false, .slice none 0 0], some (8, 18, 4), []⟩]) ⟨someNe, someNe, trivial⟩))
        clear hBt hr hR hP hX hU
        refine wp_seq ?_
        refine region4 [some 19, some 20, some 21, some 22, some 23, some 24, some 25, some 4] [Eqs (.agg #[.bool n_3, .slice a_3 m_3 c_3]), Eqs (.agg #[.bool n_7, .slice a_7 m_7 c_7]), OutW (((tp pr qr) * (tq qu))) (((Br) + 2) + ((Bu) + 2)), Eqs (.agg #[.bool n_6, .slice a_6 m_6 c_6]), Eqs (.agg #[.bool n_4, .slice a_4 m_4 c_4]), OutW (((tp pu qu) * (tq qr))) (((Bu) + 2) + ((Br) + 2)), Eqs (.int .i64 (cmpI ((tp pr qr) * (tq qu)) ((tp pu qu) * (tq qr)))), Eqs (.int .i64 (cmpI ((tp pr qr) * (tq qu)) ((tp pu qu) * (tq qr))))] [] [] (by kernel_rfl) hn rfl (by kernel_rfl) (by kernel_rfl) (by kernel_rfl) (by kernel_rfl) (by kernel_rfl) (by kernel_rfl) ⟨Eqs.mono4 _, Eqs.mono4 _, OutW.mono4 _ _, Eqs.mono4 _, Eqs.mono4 _, OutW.mono4 _ _, Eqs.mono4 _, Eqs.mono4 _, trivial⟩ ok_nil (IsOld.all (bx := []) trivial) (DisOld.all (bx := []) trivial) ?_ ?_
        · exact ⟨.norm 19 rfl rfl rfl (fun a_ w_ hn_ hBt hr hR hD hO hS => op_loadv W2ok ((hR 5 rfl).trans f5) (b5.keep hBt trivial)),
            .norm 20 rfl rfl rfl (fun a_ w_ hn_ hBt hr hR hD hO hS => op_loadv W2ok ((hR 8 rfl).trans f8) (b8.keep hBt trivial)),
            .norm 21 rfl rfl rfl (fun a_ w_ hn_ hBt hr hR hD hO hS => op_mul (isw_eq (show a_.eval (.tmp 19) = .agg #[.bool n_3, .slice a_3 m_3 c_3] from hD 0 rfl) (A3.rl hr) l3) (isw_eq (show a_.eval (.tmp 20) = .agg #[.bool n_7, .slice a_7 m_7 c_7] from hD 1 rfl) (A7.rl hr) l7) (by omega) (by omega)),
            .norm 22 rfl rfl rfl (fun a_ w_ hn_ hBt hr hR hD hO hS => op_loadv W2ok ((hR 7 rfl).trans f7) (b7.keep hBt trivial)),
            .norm 23 rfl rfl rfl (fun a_ w_ hn_ hBt hr hR hD hO hS => op_loadv W2ok ((hR 6 rfl).trans f6) (b6.keep hBt trivial)),
            .norm 24 rfl rfl rfl (fun a_ w_ hn_ hBt hr hR hD hO hS => op_mul (isw_eq (show a_.eval (.tmp 22) = .agg #[.bool n_6, .slice a_6 m_6 c_6] from hD 3 rfl) (A6.rl hr) l6) (isw_eq (show a_.eval (.tmp 23) = .agg #[.bool n_4, .slice a_4 m_4 c_4] from hD 4 rfl) (A4.rl hr) l4) (by omega) (by omega)),
            .norm 25 rfl rfl rfl (fun a_ w_ hn_ hBt hr hR hD hO hS => op_cmp (show OutW (((tp pr qr) * (tq qu))) (((Br) + 2) + ((Bu) + 2)) (a_.eval (.tmp 21)) w_ from hD 2 rfl).is (show OutW (((tp pu qu) * (tq qr))) (((Bu) + 2) + ((Br) + 2)) (a_.eval (.tmp 24)) w_ from hD 5 rfl).is (by omega) (by omega)),
            .norm 4 rfl rfl rfl (fun a_ w_ hn_ hBt hr hR hD hO hS => op_assign (show a_.eval (.tmp 25) = .int .i64 (cmpI ((tp pr qr) * (tq qu)) ((tp pu qu) * (tq qr))) from hD 6 rfl)),
            trivial⟩
        · intro a8 w8 gs8 hn8 hd8 hBt hr hR hP hX hU
          replace hn := hn8; replace hd := hd8.trans hd
          have e4 : a8.eval (.tmp 4) = .int .i64 (cmpI ((tp pr qr) * (tq qu)) ((tp pu qu) * (tq qr))) := hP 7 (by decide)
          have f4 := e4
          replace Ar := Ar.rl hr
          replace Sr := Sr.rl hr
          replace Dr := Dr.rl hr
          replace Au := Au.rl hr
          replace Su := Su.rl hr
          replace Du := Du.rl hr
          replace A3 := A3.rl hr
          replace A4 := A4.rl hr
          replace A6 := A6.rl hr
          replace A7 := A7.rl hr
          replace HB := HB.trans (hBt.below HB.size (UpOld.all (bx := []) trivial))
          clear hBt hr hR hP hX hU
          refine wp_ret ?_
          repeat (first | refine then_ret ?_ | refine scope_ret ?_ | refine block_ret ?_)
          exact bodyPost_ret (v := .int .i64 (cmpI ((tp pr qr) * (tq qu)) ((tp pu qu) * (tq qr)))) (res_t rfl f4) hd ⟨_, rfl, rfl, HB⟩

theorem has_rcmp : Has Try.prog 18 := by unfold Has; kernel_rfl
theorem op_rcmp {dst : Option Tmp} {ty : TypeId} {pos : String} {after : Array Edge} {guard : Option (Nat × Bool)} {a : Act} {w : World} {ats : Array TypeId} {i j : Nat} {Br : Nat} {pr qr : Int} (Hr : IsR pr qr Br (a.eval (.tmp i)) w) {Bu : Nat} {pu qu : Int} (Hu : IsR pu qu Bu (a.eval (.tmp j)) w) (hL : Br + Bu + 4 ≤ 100000) :
    Does Try.prog { dst, op := .call { callee := .value (.func 18), args := #[.tmp i, .tmp j], argTypes := ats }, type := ty, pos, after, guard } a.eval w fun v w' => Below w.heap.size w w' ∧ (Eqs (.int .i64 (cmpI (tp pr qr * tq qu) (tp pu qu * tq qr)))) v w' := by
  obtain ⟨nr, ar, mr, cr, rs, br, kr, dr, rt, er, Ar, Sr, Vr, Lr, Mr⟩ := Hr
  obtain ⟨nu, au, mu, cu, us, bu, ku, du, ut, eu, Au, Su, Vu, Lu, Mu⟩ := Hu
  refine does_call has_rcmp _ (by simp only [List.map_toArray, List.map_cons, List.map_nil, er, eu]) ((rcmp_z w Br _ _ _ _ _ _ Ar Lr _ _ _ _ _ Sr Vr Mr Bu _ _ _ _ _ _ Au Lu _ _ _ _ _ Su Vu Mu hL).mono ?_)
  rintro e w' ⟨v, rfl, h1, hb⟩
  exact ⟨_, rfl, hb, h1⟩

end Lm
end Go.Proofs.Ytkdcgnooeojjgac

namespace Go.Proofs.Ytkdcgnooeojjgac
namespace Lm

/-- Both by the greatest common divisor. -/
theorem low_parts (p : Int) {q : Int} (hq : q ≠ 0) : ∃ g a b : Int, 0 < g ∧ p = g * a ∧ q = g * b ∧ b ≠ 0 ∧ Int.gcd a b = 1 ∧ nm p q = Int.sign b * a ∧ dn p q = Int.sign b * b := by
  have hg := gcd_pos_right (p := p) hq
  obtain ⟨a, ha⟩ : ((Int.gcd p q : Nat) : Int) ∣ p := Int.gcd_dvd_left p q
  obtain ⟨b, hb⟩ : ((Int.gcd p q : Nat) : Int) ∣ q := Int.gcd_dvd_right p q
  have ea : p / ((Int.gcd p q : Nat) : Int) = a := by
    conv => lhs; lhs; rw [ha]
    exact Int.mul_ediv_cancel_left _ (by omega)
  have eb : q / ((Int.gcd p q : Nat) : Int) = b := by
    conv => lhs; lhs; rw [hb]
    exact Int.mul_ediv_cancel_left _ (by omega)
  have hs : Int.sign q = Int.sign b := by
    rw [hb, Int.sign_mul, Int.sign_eq_one_of_pos hg, Int.one_mul]
  have hc : Int.gcd a b = 1 := by
    have := Int.gcd_ediv_gcd_ediv_gcd (i := p) (j := q) (by omega)
    rwa [ea, eb] at this
  refine ⟨_, a, b, hg, ha, hb, ?_, hc, ?_, ?_⟩
  · rintro rfl
    rw [Int.mul_zero] at hb
    exact hq hb
  · unfold nm
    rw [ea, hs]
  · unfold dn
    rw [eb, hs]

theorem sign_self_pos {b : Int} (h : b ≠ 0) : 0 < Int.sign b * b := by
  rcases Int.lt_trichotomy b 0 with h1 | h1 | h1
  · rw [Int.sign_eq_neg_one_of_neg h1]; omega
  · exact absurd h1 h
  · rw [Int.sign_eq_one_of_pos h1]; omega

theorem dn_pos (p : Int) {q : Int} (hq : q ≠ 0) : 0 < dn p q := by
  obtain ⟨g, a, b, _, _, _, hb, _, _, e⟩ := low_parts p hq
  rw [e]
  exact sign_self_pos hb
theorem dn_ne (p : Int) {q : Int} (hq : q ≠ 0) : dn p q ≠ 0 := by
  have := dn_pos p hq
  omega
theorem low_cross (p : Int) {q : Int} (hq : q ≠ 0) : nm p q * q = p * dn p q := by
  obtain ⟨g, a, b, _, hp, hq', _, _, e1, e2⟩ := low_parts p hq
  rw [e1, e2]
  grind
theorem low_cop (p : Int) {q : Int} (hq : q ≠ 0) : Int.gcd (nm p q) (dn p q) = 1 := by
  obtain ⟨g, a, b, _, _, _, hb, hc, e1, e2⟩ := low_parts p hq
  rw [e1, e2]
  rcases Int.lt_trichotomy b 0 with h1 | h1 | h1
  · rw [Int.sign_eq_neg_one_of_neg h1]; simpa using hc
  · exact absurd h1 hb
  · rw [Int.sign_eq_one_of_pos h1]; simpa using hc

theorem dvd_cop {n d k : Int} (hc : Int.gcd n d = 1) (h : d ∣ n * k) : d ∣ k := by
  have h1 : d.natAbs ∣ n.natAbs * k.natAbs := by rw [← Int.natAbs_mul]; exact Int.natAbs_dvd_natAbs.2 h
  have hc' : Nat.Coprime d.natAbs n.natAbs := by
    unfold Nat.Coprime
    rw [Nat.gcd_comm]
    exact hc
  exact Int.natAbs_dvd_natAbs.1 (hc'.dvd_of_dvd_mul_left h1)

/-- Fractions that are one number are told alike. -/
theorem low_eq {p q p' q' : Int} (hq : q ≠ 0) (hq' : q' ≠ 0) (h : p * q' = p' * q) : nm p q = nm p' q' ∧ dn p q = dn p' q' := by
  have c1 := low_cross p hq
  have c2 := low_cross p' hq'
  have d1 := dn_pos p hq
  have d2 := dn_pos p' hq'
  have hx : nm p q * dn p' q' = nm p' q' * dn p q := by
    apply Int.eq_of_mul_eq_mul_right (Int.mul_ne_zero hq hq')
    grind
  have e1 : dn p q ∣ dn p' q' := dvd_cop (low_cop p hq) ⟨nm p' q', by rw [hx, Int.mul_comm]⟩
  have e2 : dn p' q' ∣ dn p q := dvd_cop (low_cop p' hq') ⟨nm p q, by rw [← hx, Int.mul_comm]⟩
  have e : dn p q = dn p' q' := Int.dvd_antisymm (by omega) (by omega) e1 e2
  refine ⟨?_, e⟩
  rw [e] at hx
  exact Int.eq_of_mul_eq_mul_right (by omega) hx

theorem low_eq_iff {p q p' q' : Int} (hq : q ≠ 0) (hq' : q' ≠ 0) : (nm p q = nm p' q' ∧ dn p q = dn p' q') ↔ p * q' = p' * q := by
  refine ⟨fun ⟨h1, h2⟩ => ?_, low_eq hq hq'⟩
  have c1 := low_cross p hq
  have c2 := low_cross p' hq'
  have d2 := dn_ne p' hq'
  rw [h1, h2] at c1
  apply Int.eq_of_mul_eq_mul_right d2
  grind

theorem tp_low (p : Int) {q : Int} (hq : q ≠ 0) : tp (nm p q) (dn p q) = nm p q := by rw [tp, if_neg (dn_ne p hq)]
theorem tq_low (p : Int) {q : Int} (hq : q ≠ 0) : tq (dn p q) = dn p q := by rw [tq, if_neg (dn_ne p hq)]

end Lm
end Go.Proofs.Ytkdcgnooeojjgac

namespace Go.Proofs.Ytkdcgnooeojjgac
namespace Lm

theorem fld_addc {P1 Q1 P2 Q2 : Int} (h1 : Q1 ≠ 0) (h2 : Q2 ≠ 0) : nm (P1 * Q2 + P2 * Q1) (Q1 * Q2) = nm (P2 * Q1 + P1 * Q2) (Q2 * Q1) ∧ dn (P1 * Q2 + P2 * Q1) (Q1 * Q2) = dn (P2 * Q1 + P1 * Q2) (Q2 * Q1) := by
  refine low_eq (by simp_all) (by simp_all) ?_
  grind

theorem fld_mulc {P1 Q1 P2 Q2 : Int} (h1 : Q1 ≠ 0) (h2 : Q2 ≠ 0) : nm (P1 * P2) (Q1 * Q2) = nm (P2 * P1) (Q2 * Q1) ∧ dn (P1 * P2) (Q1 * Q2) = dn (P2 * P1) (Q2 * Q1) := by
  refine low_eq (by simp_all) (by simp_all) ?_
  grind

theorem fld_adda {P1 Q1 P2 Q2 P3 Q3 : Int} (h1 : Q1 ≠ 0) (h2 : Q2 ≠ 0) (h3 : Q3 ≠ 0) : nm (tp (nm (P1 * Q2 + P2 * Q1) (Q1 * Q2)) (dn (P1 * Q2 + P2 * Q1) (Q1 * Q2)) * Q3 + P3 * tq (dn (P1 * Q2 + P2 * Q1) (Q1 * Q2))) (tq (dn (P1 * Q2 + P2 * Q1) (Q1 * Q2)) * Q3) = nm (P1 * tq (dn (P2 * Q3 + P3 * Q2) (Q2 * Q3)) + tp (nm (P2 * Q3 + P3 * Q2) (Q2 * Q3)) (dn (P2 * Q3 + P3 * Q2) (Q2 * Q3)) * Q1) (Q1 * tq (dn (P2 * Q3 + P3 * Q2) (Q2 * Q3))) ∧ dn (tp (nm (P1 * Q2 + P2 * Q1) (Q1 * Q2)) (dn (P1 * Q2 + P2 * Q1) (Q1 * Q2)) * Q3 + P3 * tq (dn (P1 * Q2 + P2 * Q1) (Q1 * Q2))) (tq (dn (P1 * Q2 + P2 * Q1) (Q1 * Q2)) * Q3) = dn (P1 * tq (dn (P2 * Q3 + P3 * Q2) (Q2 * Q3)) + tp (nm (P2 * Q3 + P3 * Q2) (Q2 * Q3)) (dn (P2 * Q3 + P3 * Q2) (Q2 * Q3)) * Q1) (Q1 * tq (dn (P2 * Q3 + P3 * Q2) (Q2 * Q3))) := by
  have b0 : Q1 * Q2 ≠ 0 := (Int.mul_ne_zero h1 h2)
  have c0 := low_cross (P1 * Q2 + P2 * Q1) b0
  have d0 := dn_ne (P1 * Q2 + P2 * Q1) b0
  rw [tp_low (P1 * Q2 + P2 * Q1) b0, tq_low (P1 * Q2 + P2 * Q1) b0]
  have b1 : Q2 * Q3 ≠ 0 := (Int.mul_ne_zero h2 h3)
  have c1 := low_cross (P2 * Q3 + P3 * Q2) b1
  have d1 := dn_ne (P2 * Q3 + P3 * Q2) b1
  rw [tp_low (P2 * Q3 + P3 * Q2) b1, tq_low (P2 * Q3 + P3 * Q2) b1]
  generalize nm (P1 * Q2 + P2 * Q1) (Q1 * Q2) = N0 at *
  generalize dn (P1 * Q2 + P2 * Q1) (Q1 * Q2) = D0 at *
  generalize nm (P2 * Q3 + P3 * Q2) (Q2 * Q3) = N1 at *
  generalize dn (P2 * Q3 + P3 * Q2) (Q2 * Q3) = D1 at *
  refine low_eq (by simp_all) (by simp_all) ?_
  apply Int.eq_of_mul_eq_mul_right (show Q1 * Q2 * Q3 ≠ 0 from (Int.mul_ne_zero (Int.mul_ne_zero h1 h2) h3))
  grind

theorem fld_mula {P1 Q1 P2 Q2 P3 Q3 : Int} (h1 : Q1 ≠ 0) (h2 : Q2 ≠ 0) (h3 : Q3 ≠ 0) : nm (tp (nm (P1 * P2) (Q1 * Q2)) (dn (P1 * P2) (Q1 * Q2)) * P3) (tq (dn (P1 * P2) (Q1 * Q2)) * Q3) = nm (P1 * tp (nm (P2 * P3) (Q2 * Q3)) (dn (P2 * P3) (Q2 * Q3))) (Q1 * tq (dn (P2 * P3) (Q2 * Q3))) ∧ dn (tp (nm (P1 * P2) (Q1 * Q2)) (dn (P1 * P2) (Q1 * Q2)) * P3) (tq (dn (P1 * P2) (Q1 * Q2)) * Q3) = dn (P1 * tp (nm (P2 * P3) (Q2 * Q3)) (dn (P2 * P3) (Q2 * Q3))) (Q1 * tq (dn (P2 * P3) (Q2 * Q3))) := by
  have b0 : Q1 * Q2 ≠ 0 := (Int.mul_ne_zero h1 h2)
  have c0 := low_cross (P1 * P2) b0
  have d0 := dn_ne (P1 * P2) b0
  rw [tp_low (P1 * P2) b0, tq_low (P1 * P2) b0]
  have b1 : Q2 * Q3 ≠ 0 := (Int.mul_ne_zero h2 h3)
  have c1 := low_cross (P2 * P3) b1
  have d1 := dn_ne (P2 * P3) b1
  rw [tp_low (P2 * P3) b1, tq_low (P2 * P3) b1]
  generalize nm (P1 * P2) (Q1 * Q2) = N0 at *
  generalize dn (P1 * P2) (Q1 * Q2) = D0 at *
  generalize nm (P2 * P3) (Q2 * Q3) = N1 at *
  generalize dn (P2 * P3) (Q2 * Q3) = D1 at *
  refine low_eq (by simp_all) (by simp_all) ?_
  apply Int.eq_of_mul_eq_mul_right (show Q1 * Q2 * Q3 ≠ 0 from (Int.mul_ne_zero (Int.mul_ne_zero h1 h2) h3))
  grind

theorem fld_dist {P1 Q1 P2 Q2 P3 Q3 : Int} (h1 : Q1 ≠ 0) (h2 : Q2 ≠ 0) (h3 : Q3 ≠ 0) : nm (P1 * tp (nm (P2 * Q3 + P3 * Q2) (Q2 * Q3)) (dn (P2 * Q3 + P3 * Q2) (Q2 * Q3))) (Q1 * tq (dn (P2 * Q3 + P3 * Q2) (Q2 * Q3))) = nm (tp (nm (P1 * P2) (Q1 * Q2)) (dn (P1 * P2) (Q1 * Q2)) * tq (dn (P1 * P3) (Q1 * Q3)) + tp (nm (P1 * P3) (Q1 * Q3)) (dn (P1 * P3) (Q1 * Q3)) * tq (dn (P1 * P2) (Q1 * Q2))) (tq (dn (P1 * P2) (Q1 * Q2)) * tq (dn (P1 * P3) (Q1 * Q3))) ∧ dn (P1 * tp (nm (P2 * Q3 + P3 * Q2) (Q2 * Q3)) (dn (P2 * Q3 + P3 * Q2) (Q2 * Q3))) (Q1 * tq (dn (P2 * Q3 + P3 * Q2) (Q2 * Q3))) = dn (tp (nm (P1 * P2) (Q1 * Q2)) (dn (P1 * P2) (Q1 * Q2)) * tq (dn (P1 * P3) (Q1 * Q3)) + tp (nm (P1 * P3) (Q1 * Q3)) (dn (P1 * P3) (Q1 * Q3)) * tq (dn (P1 * P2) (Q1 * Q2))) (tq (dn (P1 * P2) (Q1 * Q2)) * tq (dn (P1 * P3) (Q1 * Q3))) := by
  have b0 : Q2 * Q3 ≠ 0 := (Int.mul_ne_zero h2 h3)
  have c0 := low_cross (P2 * Q3 + P3 * Q2) b0
  have d0 := dn_ne (P2 * Q3 + P3 * Q2) b0
  rw [tp_low (P2 * Q3 + P3 * Q2) b0, tq_low (P2 * Q3 + P3 * Q2) b0]
  have b1 : Q1 * Q2 ≠ 0 := (Int.mul_ne_zero h1 h2)
  have c1 := low_cross (P1 * P2) b1
  have d1 := dn_ne (P1 * P2) b1
  rw [tp_low (P1 * P2) b1, tq_low (P1 * P2) b1]
  have b2 : Q1 * Q3 ≠ 0 := (Int.mul_ne_zero h1 h3)
  have c2 := low_cross (P1 * P3) b2
  have d2 := dn_ne (P1 * P3) b2
  rw [tp_low (P1 * P3) b2, tq_low (P1 * P3) b2]
  generalize nm (P2 * Q3 + P3 * Q2) (Q2 * Q3) = N0 at *
  generalize dn (P2 * Q3 + P3 * Q2) (Q2 * Q3) = D0 at *
  generalize nm (P1 * P2) (Q1 * Q2) = N1 at *
  generalize dn (P1 * P2) (Q1 * Q2) = D1 at *
  generalize nm (P1 * P3) (Q1 * Q3) = N2 at *
  generalize dn (P1 * P3) (Q1 * Q3) = D2 at *
  refine low_eq (by simp_all) (by simp_all) ?_
  apply Int.eq_of_mul_eq_mul_right (show Q1 * Q2 * Q3 * Q1 ≠ 0 from (Int.mul_ne_zero (Int.mul_ne_zero (Int.mul_ne_zero h1 h2) h3) h1))
  grind

theorem fld_sub {P1 Q1 P2 Q2 : Int} (h1 : Q1 ≠ 0) (h2 : Q2 ≠ 0) : nm (tp (nm (P1 * Q2 + P2 * Q1) (Q1 * Q2)) (dn (P1 * Q2 + P2 * Q1) (Q1 * Q2)) * Q2 - P2 * tq (dn (P1 * Q2 + P2 * Q1) (Q1 * Q2))) (tq (dn (P1 * Q2 + P2 * Q1) (Q1 * Q2)) * Q2) = nm (P1) (Q1) ∧ dn (tp (nm (P1 * Q2 + P2 * Q1) (Q1 * Q2)) (dn (P1 * Q2 + P2 * Q1) (Q1 * Q2)) * Q2 - P2 * tq (dn (P1 * Q2 + P2 * Q1) (Q1 * Q2))) (tq (dn (P1 * Q2 + P2 * Q1) (Q1 * Q2)) * Q2) = dn (P1) (Q1) := by
  have b0 : Q1 * Q2 ≠ 0 := (Int.mul_ne_zero h1 h2)
  have c0 := low_cross (P1 * Q2 + P2 * Q1) b0
  have d0 := dn_ne (P1 * Q2 + P2 * Q1) b0
  rw [tp_low (P1 * Q2 + P2 * Q1) b0, tq_low (P1 * Q2 + P2 * Q1) b0]
  generalize nm (P1 * Q2 + P2 * Q1) (Q1 * Q2) = N0 at *
  generalize dn (P1 * Q2 + P2 * Q1) (Q1 * Q2) = D0 at *
  refine low_eq (by simp_all) (by simp_all) ?_
  apply Int.eq_of_mul_eq_mul_right (show Q1 * Q2 ≠ 0 from (Int.mul_ne_zero h1 h2))
  grind

theorem fld_div {P1 Q1 P2 Q2 : Int} (h1 : Q1 ≠ 0) (h2 : Q2 ≠ 0) (hp : P2 ≠ 0) : nm (tp (nm (P1 * P2) (Q1 * Q2)) (dn (P1 * P2) (Q1 * Q2)) * Q2) (tq (dn (P1 * P2) (Q1 * Q2)) * P2) = nm (P1) (Q1) ∧ dn (tp (nm (P1 * P2) (Q1 * Q2)) (dn (P1 * P2) (Q1 * Q2)) * Q2) (tq (dn (P1 * P2) (Q1 * Q2)) * P2) = dn (P1) (Q1) := by
  have b0 : Q1 * Q2 ≠ 0 := (Int.mul_ne_zero h1 h2)
  have c0 := low_cross (P1 * P2) b0
  have d0 := dn_ne (P1 * P2) b0
  rw [tp_low (P1 * P2) b0, tq_low (P1 * P2) b0]
  generalize nm (P1 * P2) (Q1 * Q2) = N0 at *
  generalize dn (P1 * P2) (Q1 * Q2) = D0 at *
  refine low_eq (by simp_all) (by simp_all) ?_
  apply Int.eq_of_mul_eq_mul_right (show Q1 * Q2 ≠ 0 from (Int.mul_ne_zero h1 h2))
  grind

theorem fld_neg {P1 Q1 : Int} (h1 : Q1 ≠ 0) : Int.sign (tp (nm (P1 * tq (dn (-(P1)) (Q1)) + tp (nm (-(P1)) (Q1)) (dn (-(P1)) (Q1)) * Q1) (Q1 * tq (dn (-(P1)) (Q1)))) (dn (P1 * tq (dn (-(P1)) (Q1)) + tp (nm (-(P1)) (Q1)) (dn (-(P1)) (Q1)) * Q1) (Q1 * tq (dn (-(P1)) (Q1))))) = 0 := by
  have c0 := low_cross (-P1) h1
  have d0 := dn_ne (-P1) h1
  rw [tp_low (-P1) h1, tq_low (-P1) h1]
  generalize nm (-P1) Q1 = N0 at *
  generalize dn (-P1) Q1 = D0 at *
  have b : Q1 * D0 ≠ 0 := Int.mul_ne_zero h1 d0
  rw [tp_low _ b]
  have e : P1 * D0 + N0 * Q1 = 0 := by grind
  rw [e]
  simp [nm]

end Lm
end Go.Proofs.Ytkdcgnooeojjgac
