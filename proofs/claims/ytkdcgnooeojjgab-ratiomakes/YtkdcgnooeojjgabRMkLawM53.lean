/-
  RatioMakes answers true, whatever two numbers it is handed. The given statement on RatioMakes, for every input: the call answers true, and each argument reads behind it as it read before. No condition beyond the statement's own.
-/
import Derived.Test.YtkdcgnooeojjgabRMkLawM52
import Derived.Test.YtkdcgnooeojjgabRows
import Derived.ProofKit
import Derived.OpenShut
import Derived.ShutString
import Derived.ChangeOld
import Derived.SizedLaws
import Derived.Lib.SmallJoins
namespace Go.Proofs.Ytkdcgnooeojjgab
namespace Lm
open Go Go.RowKit

set_option maxRecDepth 20000 in
set_option maxHeartbeats 1000000 in
theorem num_z (w : World) (u : Int) : Calls Try.prog 31 #[.int .i64 u] w fun e w' => ∃ v, e = .returned v ∧ (Eqs (.int .i64 u)) v w' ∧ Below w.heap.size w w' := by
  go_enter Try.func31, Try.ntmps31
  generalize hA : (Act.mk _ _) = aa
  have hn : aa.tmps.size = 4 := by rw [← hA]; rfl
  have hd : aa.defers = [] := by rw [← hA]
  have f0 : aa.eval (.tmp 0) = .int .i64 u := by rw [← hA]; rfl
  clear hA
  have HB : Below w.heap.size w w := Below.refl _ _
  refine wp_seq ?_
  refine region4 [some 2] [Eqs ((.int .i64 0))] [] [] (by kernel_rfl) hn rfl (by kernel_rfl) (by kernel_rfl) (by kernel_rfl) (by kernel_rfl) (by kernel_rfl) (by kernel_rfl) ⟨Eqs.mono4 _, trivial⟩ ok_nil (IsOld.all (bx := []) trivial) (DisOld.all (bx := []) trivial) ?_ ?_
  · exact ⟨.norm 2 rfl rfl rfl (fun a_ w_ hn_ hBt hr hR hD hO hS => op_assign rfl),
      trivial⟩
  · intro a1 w1 gs1 hn1 hd1 hBt hr hR hP hX hU
    replace hn := hn1; replace hd := hd1.trans hd
    replace f0 := (hR 0 rfl).trans f0
    have e2 : a1.eval (.tmp 2) = (.int .i64 0) := hP 0 (by decide)
    have f2 := e2
    replace HB := HB.trans (hBt.below HB.size (UpOld.all (bx := []) trivial))
    clear hBt hr hR hP hX hU
    refine wp_seq ?_
    refine region4 [some 3, some 2] [Eqs (.int .i64 u), Eqs (.int .i64 u)] [] [] (by kernel_rfl) hn rfl (by kernel_rfl) (by kernel_rfl) (by kernel_rfl) (by kernel_rfl) (by kernel_rfl) (by kernel_rfl) ⟨Eqs.mono4 _, Eqs.mono4 _, trivial⟩ ok_nil (IsOld.all (bx := []) trivial) (DisOld.all (bx := []) trivial) ?_ ?_
    · exact ⟨.norm 3 rfl rfl rfl (fun a_ w_ hn_ hBt hr hR hD hO hS => op_mv ((hR 0 rfl).trans f0)),
        .norm 2 rfl rfl rfl (fun a_ w_ hn_ hBt hr hR hD hO hS => op_assign (show a_.eval (.tmp 3) = .int .i64 u from hD 0 rfl)),
        trivial⟩
    · intro a2 w2 gs2 hn2 hd2 hBt hr hR hP hX hU
      replace hn := hn2; replace hd := hd2.trans hd
      have e2 : a2.eval (.tmp 2) = .int .i64 u := hP 1 (by decide)
      have f2 := e2
      replace HB := HB.trans (hBt.below HB.size (UpOld.all (bx := []) trivial))
      clear hBt hr hR hP hX hU
      refine wp_ret ?_
      repeat (first | refine then_ret ?_ | refine scope_ret ?_ | refine block_ret ?_)
      exact bodyPost_ret (v := .int .i64 u) (res_t rfl f2) hd ⟨_, rfl, rfl, HB⟩

theorem has_num : Has Try.prog 31 := by unfold Has; kernel_rfl
theorem op_num {dst : Option Tmp} {ty : TypeId} {pos : String} {after : Array Edge} {guard : Option (Nat × Bool)} {a : Act} {w : World} {ats : Array TypeId} {i : Nat} {u : Int} (h : a.eval (.tmp i) = .int .i64 u) :
    Does Try.prog { dst, op := .call { callee := .value (.func 31), args := #[.tmp i], argTypes := ats }, type := ty, pos, after, guard } a.eval w fun v w' => Below w.heap.size w w' ∧ Eqs (.int .i64 u) v w' := by
  refine does_call has_num _ (by simp only [List.map_toArray, List.map_cons, List.map_nil, h]) ((num_z w u).mono ?_)
  rintro e w' ⟨v, rfl, h1, hb⟩
  exact ⟨_, rfl, hb, h1⟩

set_option maxRecDepth 20000 in
set_option maxHeartbeats 4000000 in
theorem rmakes_law (w : World) (nx : Bool) (ax : Option Addr) (mx cx : Nat) (xs : List Int) (zx : Int) (ny : Bool) (ay : Option Addr) (my cy : Nat) (ys : List Int) (zy : Int) (Ax : Ag w nx ax mx cx xs zx) (Ay : Ag w ny ay my cy ys zy) (gx : mx ≤ 35184372088832) (gy : my ≤ 35184372088832) :
    Calls Try.prog 4 #[.agg #[.bool nx, .slice ax mx cx], .agg #[.bool ny, .slice ay my cy]] w fun e w' => e = .returned (.bool true) ∧ Below w.heap.size w w' := by
  go_enter Try.func4, Try.ntmps4
  generalize hA : (Act.mk _ _) = aa
  have hn : aa.tmps.size = 48 := by rw [← hA]; rfl
  have hd : aa.defers = [] := by rw [← hA]
  have f0 : aa.eval (.tmp 0) = .agg #[.bool nx, .slice ax mx cx] := by rw [← hA]; rfl
  have f1 : aa.eval (.tmp 1) = .agg #[.bool ny, .slice ay my cy] := by rw [← hA]; rfl
  clear hA
  have HB : Below w.heap.size w w := Below.refl _ _
  have Tx := Ax.sl
  have Ty := Ay.sl
  refine wp_seq ?_
  refine region4 [some 2, some 3, some 4] [(fun _ _ => True), (fun _ _ => True), Eqs ((.bool false))] [⟨W2, some 0, 0, 2, .agg #[.bool nx, .slice ax mx cx], none, []⟩, ⟨W2, some 1, 0, 3, .agg #[.bool ny, .slice ay my cy], none, []⟩] [] (by kernel_rfl) hn rfl (by kernel_rfl) (by kernel_rfl) (by kernel_rfl) (by kernel_rfl) (by kernel_rfl) (by kernel_rfl) ⟨True.mono4, True.mono4, Eqs.mono4 _, trivial⟩ (ok_cons W2ok (ok_cons W2ok ok_nil)) (IsOld.all (bx := [⟨W2, some 0, 0, 2, .agg #[.bool nx, .slice ax mx cx], none, []⟩, ⟨W2, some 1, 0, 3, .agg #[.bool ny, .slice ay my cy], none, []⟩]) ⟨someNe, someNe, trivial⟩) (DisOld.all (bx := [⟨W2, some 0, 0, 2, .agg #[.bool nx, .slice ax mx cx], none, []⟩, ⟨W2, some 1, 0, 3, .agg #[.bool ny, .slice ay my cy], none, []⟩]) ⟨someNe, someNe, trivial⟩) ?_ ?_
  · exact ⟨.alloc 0 _ rfl rfl (.inr ⟨_, rfl, w2_cs, fun a_ hR => (hR 0 rfl).trans f0⟩) rfl rfl rfl rfl rfl,
      .alloc 1 _ rfl rfl (.inr ⟨_, rfl, w2_cs, fun a_ hR => (hR 1 rfl).trans f1⟩) rfl rfl rfl rfl rfl,
      .norm 4 rfl rfl rfl (fun a_ w_ hn_ hBt hr hR hD hO hS => op_assign rfl),
      trivial⟩
  · intro a1 w1 gs1 hn1 hd1 hBt hr hR hP hX hU
    replace hn := hn1; replace hd := hd1.trans hd
    have b2 : BoxV W2 w1 (gs1 0) (.agg #[.bool nx, .slice ax mx cx]) := (hX 0 _ rfl).2.2.2
    have f2 := (hX 0 _ rfl).1
    have u2 : w.heap.size ≤ gs1 0 := Nat.le_trans HB.size ((hX 0 _ rfl).2.2.1 (by simp))
    have b3 : BoxV W2 w1 (gs1 1) (.agg #[.bool ny, .slice ay my cy]) := (hX 1 _ rfl).2.2.2
    have f3 := (hX 1 _ rfl).1
    have u3 : w.heap.size ≤ gs1 1 := Nat.le_trans HB.size ((hX 1 _ rfl).2.2.1 (by simp))
    have e4 : a1.eval (.tmp 4) = (.bool false) := hP 2 (by decide)
    have f4 := e4
    replace Ax := Ax.rl hr
    replace Tx := Tx.rl hr
    replace Ay := Ay.rl hr
    replace Ty := Ty.rl hr
    replace HB := HB.trans (hBt.below HB.size (UpOld.all (bx := [⟨W2, some 0, 0, 2, .agg #[.bool nx, .slice ax mx cx], none, []⟩, ⟨W2, some 1, 0, 3, .agg #[.bool ny, .slice ay my cy], none, []⟩]) ⟨someNe, someNe, trivial⟩))
    clear hBt hr hR hP hX hU
    refine wp_seq ?_
    refine wp_seq ?_
    refine region4 [some 9, some 10] [Eqs (.bool true), Eqs (.bool false)] [] [] (by kernel_rfl) hn rfl (by kernel_rfl) (by kernel_rfl) (by kernel_rfl) (by kernel_rfl) (by kernel_rfl) (by kernel_rfl) ⟨Eqs.mono4 _, Eqs.mono4 _, trivial⟩ ok_nil (IsOld.all (bx := []) trivial) (DisOld.all (bx := []) trivial) ?_ ?_
    · exact ⟨.norm 9 rfl rfl rfl (fun a_ w_ hn_ hBt hr hR hD hO hS => op_rawake),
        .norm 10 rfl rfl rfl (fun a_ w_ hn_ hBt hr hR hD hO hS => op_not (show a_.eval (.tmp 9) = .bool true from hD 0 rfl)),
        trivial⟩
    · intro a2 w2 gs2 hn2 hd2 hBt hr hR hP hX hU
      replace hn := hn2; replace hd := hd2.trans hd
      replace b2 := b2.keep hBt trivial
      replace b3 := b3.keep hBt trivial
      replace f2 := (hR 2 rfl).trans f2
      replace f3 := (hR 3 rfl).trans f3
      replace f4 := (hR 4 rfl).trans f4
      have e10 : a2.eval (.tmp 10) = .bool false := hP 1 (by decide)
      have f10 := e10
      replace Ax := Ax.rl hr
      replace Tx := Tx.rl hr
      replace Ay := Ay.rl hr
      replace Ty := Ty.rl hr
      replace HB := HB.trans (hBt.below HB.size (UpOld.all (bx := []) trivial))
      clear hBt hr hR hP hX hU
      refine wp_cond_false f10 ?_
      refine wp_skip ?_
      refine wp_seq ?_
      refine wp_seq ?_
      refine region4 [some 11, some 12, some 13, some 14, some 15, some 16] [Eqs (.agg #[.bool nx, .slice ax mx cx]), Eqs (.int .i64 (1 + (mx : Int))), Eqs (.agg #[.bool ny, .slice ay my cy]), Eqs (.int .i64 (1 + (my : Int))), Eqs (.int .i64 ((1 + (mx : Int)) + (1 + (my : Int)))), Eqs (.bool (decide (1500 < ((1 + (mx : Int)) + (1 + (my : Int))))))] [] [] (by kernel_rfl) hn rfl (by kernel_rfl) (by kernel_rfl) (by kernel_rfl) (by kernel_rfl) (by kernel_rfl) (by kernel_rfl) ⟨Eqs.mono4 _, Eqs.mono4 _, Eqs.mono4 _, Eqs.mono4 _, Eqs.mono4 _, Eqs.mono4 _, trivial⟩ ok_nil (IsOld.all (bx := []) trivial) (DisOld.all (bx := []) trivial) ?_ ?_
      · exact ⟨.norm 11 rfl rfl rfl (fun a_ w_ hn_ hBt hr hR hD hO hS => op_loadv W2ok ((hR 2 rfl).trans f2) (b2.keep hBt trivial)),
          .norm 12 rfl rfl rfl (fun a_ w_ hn_ hBt hr hR hD hO hS => op_lenw (show a_.eval (.tmp 11) = .agg #[.bool nx, .slice ax mx cx] from hD 0 rfl) (by omega)),
          .norm 13 rfl rfl rfl (fun a_ w_ hn_ hBt hr hR hD hO hS => op_loadv W2ok ((hR 3 rfl).trans f3) (b3.keep hBt trivial)),
          .norm 14 rfl rfl rfl (fun a_ w_ hn_ hBt hr hR hD hO hS => op_lenw (show a_.eval (.tmp 13) = .agg #[.bool ny, .slice ay my cy] from hD 2 rfl) (by omega)),
          .norm 15 rfl rfl rfl (fun a_ w_ hn_ hBt hr hR hD hO hS => op_plus (show a_.eval (.tmp 12) = .int .i64 (1 + (mx : Int)) from hD 1 rfl) (show a_.eval (.tmp 14) = .int .i64 (1 + (my : Int)) from hD 3 rfl) (by omega)),
          .norm 16 rfl rfl rfl (fun a_ w_ hn_ hBt hr hR hD hO hS => op_gtrk (show a_.eval (.tmp 15) = .int .i64 ((1 + (mx : Int)) + (1 + (my : Int))) from hD 4 rfl)),
          trivial⟩
      · intro a3 w3 gs3 hn3 hd3 hBt hr hR hP hX hU
        replace hn := hn3; replace hd := hd3.trans hd
        replace b2 := b2.keep hBt trivial
        replace b3 := b3.keep hBt trivial
        replace f2 := (hR 2 rfl).trans f2
        replace f3 := (hR 3 rfl).trans f3
        replace f4 := (hR 4 rfl).trans f4
        have e16 : a3.eval (.tmp 16) = .bool (decide (1500 < ((1 + (mx : Int)) + (1 + (my : Int))))) := hP 5 (by decide)
        have f16 := e16
        replace Ax := Ax.rl hr
        replace Tx := Tx.rl hr
        replace Ay := Ay.rl hr
        replace Ty := Ty.rl hr
        replace HB := HB.trans (hBt.below HB.size (UpOld.all (bx := []) trivial))
        clear hBt hr hR hP hX hU
        refine wp_cond_split f16 (fun hc16 => ?_) (fun hc16 => ?_)
        · skip
          refine wp_seq ?_
          refine region4 [some 4] [Eqs ((.bool true))] [] [] (by kernel_rfl) hn rfl (by kernel_rfl) (by kernel_rfl) (by kernel_rfl) (by kernel_rfl) (by kernel_rfl) (by kernel_rfl) ⟨Eqs.mono4 _, trivial⟩ ok_nil (IsOld.all (bx := []) trivial) (DisOld.all (bx := []) trivial) ?_ ?_
          · exact ⟨.norm 4 rfl rfl rfl (fun a_ w_ hn_ hBt hr hR hD hO hS => op_assign rfl),
              trivial⟩
          · intro a4 w4 gs4 hn4 hd4 hBt hr hR hP hX hU
            replace hn := hn4; replace hd := hd4.trans hd
            replace b2 := b2.keep hBt trivial
            replace b3 := b3.keep hBt trivial
            replace f2 := (hR 2 rfl).trans f2
            replace f3 := (hR 3 rfl).trans f3
            have e4 : a4.eval (.tmp 4) = (.bool true) := hP 0 (by decide)
            have f4 := e4
            replace Ax := Ax.rl hr
            replace Tx := Tx.rl hr
            replace Ay := Ay.rl hr
            replace Ty := Ty.rl hr
            replace HB := HB.trans (hBt.below HB.size (UpOld.all (bx := []) trivial))
            clear hBt hr hR hP hX hU
            refine wp_ret ?_
            repeat (first | refine then_ret ?_ | refine scope_ret ?_ | refine block_ret ?_)
            exact bodyPost_ret (v := .bool true) (res_t rfl f4) hd ⟨rfl, HB⟩
        · skip
          have hlen := of_decide_eq_false hc16
          have ox := Ax.sl.parts.1; have Lx : xs.length ≤ 1500 := by omega
          have oy := Ay.sl.parts.1; have Ly : ys.length ≤ 1500 := by omega
          refine wp_skip ?_
          by_cases hy0 : zy = 0
          · skip
            refine wp_seq ?_
            refine region4 [some 18, some 19, some 20, some 21, some 22, some 17, some 23, some 24, some 5, none, some 6] [Eqs (.agg #[.bool nx, .slice ax mx cx]), IsW (zx) (1500), Eqs (.agg #[.bool ny, .slice ay my cy]), IsW (zy) (1500), Tup2 (Eqs (.agg #[.bool false, .slice none 0 0, .slice none 0 0])) (Eqs (.int .i64 20)), Tup2 (Eqs (.agg #[.bool false, .slice none 0 0, .slice none 0 0])) (Eqs (.int .i64 20)), Eqs (.agg #[.bool false, .slice none 0 0, .slice none 0 0]), Eqs (.int .i64 20), (fun _ _ => True), (fun _ _ => True), Eqs (.int .i64 20)] [⟨R3, some 8, 0, 5, .agg #[.bool false, .slice none 0 0, .slice none 0 0], some (9, 23, 6), []⟩] [] (by kernel_rfl) hn rfl (by kernel_rfl) (by kernel_rfl) (by kernel_rfl) (by kernel_rfl) (by kernel_rfl) (by kernel_rfl) ⟨Eqs.mono4 _, IsW.mono4 _ _, Eqs.mono4 _, IsW.mono4 _ _, Tup2.mono4 (Eqs.mono4 _) (Eqs.mono4 _), Tup2.mono4 (Eqs.mono4 _) (Eqs.mono4 _), Eqs.mono4 _, Eqs.mono4 _, True.mono4, True.mono4, Eqs.mono4 _, trivial⟩ (ok_cons R3ok ok_nil) (IsOld.all (bx := [⟨R3, some 8, 0, 5, .agg #[.bool false, .slice none 0 0, .slice none 0 0], some (9, 23, 6), []⟩]) ⟨someNe, trivial⟩) (DisOld.all (bx := [⟨R3, some 8, 0, 5, .agg #[.bool false, .slice none 0 0, .slice none 0 0], some (9, 23, 6), []⟩]) ⟨someNe, trivial⟩) ?_ ?_
            · exact ⟨.norm 18 rfl rfl rfl (fun a_ w_ hn_ hBt hr hR hD hO hS => op_loadv W2ok ((hR 2 rfl).trans f2) (b2.keep hBt ⟨someNe, trivial⟩)),
                .norm 19 rfl rfl rfl (fun a_ w_ hn_ hBt hr hR hD hO hS => op_copyw (isw_eq (show a_.eval (.tmp 18) = .agg #[.bool nx, .slice ax mx cx] from hD 0 rfl) (Ax.rl hr) Lx) (by omega)),
                .norm 20 rfl rfl rfl (fun a_ w_ hn_ hBt hr hR hD hO hS => op_loadv W2ok ((hR 3 rfl).trans f3) (b3.keep hBt ⟨someNe, trivial⟩)),
                .norm 21 rfl rfl rfl (fun a_ w_ hn_ hBt hr hR hD hO hS => op_copyw (isw_eq (show a_.eval (.tmp 20) = .agg #[.bool ny, .slice ay my cy] from hD 2 rfl) (Ay.rl hr) Ly) (by omega)),
                .norm 22 rfl rfl rfl (fun a_ w_ hn_ hBt hr hR hD hO hS => op_rof0 (show IsW (zx) (1500) (a_.eval (.tmp 19)) w_ from hD 1 rfl) (show IsW (zy) (1500) (a_.eval (.tmp 21)) w_ from hD 3 rfl) (by omega) hy0),
                .norm 17 rfl rfl rfl (fun a_ w_ hn_ hBt hr hR hD hO hS => op_mvp (p := Tup2 (Eqs (.agg #[.bool false, .slice none 0 0, .slice none 0 0])) (Eqs (.int .i64 20))) (show Tup2 (Eqs (.agg #[.bool false, .slice none 0 0, .slice none 0 0])) (Eqs (.int .i64 20)) (a_.eval (.tmp 22)) w_ from hD 4 rfl)),
                .norm 23 rfl rfl rfl (fun a_ w_ hn_ hBt hr hR hD hO hS => op_ex20 (show Tup2 (Eqs (.agg #[.bool false, .slice none 0 0, .slice none 0 0])) (Eqs (.int .i64 20)) (a_.eval (.tmp 17)) w_ from hD 5 rfl)),
                .norm 24 rfl rfl rfl (fun a_ w_ hn_ hBt hr hR hD hO hS => op_ex21 (show Tup2 (Eqs (.agg #[.bool false, .slice none 0 0, .slice none 0 0])) (Eqs (.int .i64 20)) (a_.eval (.tmp 17)) w_ from hD 5 rfl)),
                .alloc 0 _ rfl rfl (.inl ⟨rfl, rfl⟩) rfl rfl rfl rfl rfl,
                .store 0 _ _ _ rfl rfl rfl rfl rfl rfl rfl (fun ia h => by cases h; rfl) rfl rfl rfl (eqs_cs r3_cs),
                .norm 6 rfl rfl rfl (fun a_ w_ hn_ hBt hr hR hD hO hS => op_assign (show a_.eval (.tmp 24) = .int .i64 20 from hD 7 rfl)),
                trivial⟩
            · intro a5 w5 gs5 hn5 hd5 hBt hr hR hP hX hU
              replace hn := hn5; replace hd := hd5.trans hd
              replace b2 := b2.keep hBt ⟨someNe, trivial⟩
              replace b3 := b3.keep hBt ⟨someNe, trivial⟩
              have e23 : a5.eval (.tmp 23) = .agg #[.bool false, .slice none 0 0, .slice none 0 0] := hP 6 (by decide)
              have b5 : BoxV R3 w5 (gs5 0) (.agg #[.bool false, .slice none 0 0, .slice none 0 0]) := boxv_of (hX 0 _ rfl).2.2.2 e23
              have f5 := (hX 0 _ rfl).1
              have u5 : w.heap.size ≤ gs5 0 := Nat.le_trans HB.size ((hX 0 _ rfl).2.2.1 (by simp))
              replace f2 := (hR 2 rfl).trans f2
              replace f3 := (hR 3 rfl).trans f3
              replace f4 := (hR 4 rfl).trans f4
              have e6 : a5.eval (.tmp 6) = .int .i64 20 := hP 10 (by decide)
              have f6 := e6
              replace Ax := Ax.rl hr
              replace Tx := Tx.rl hr
              replace Ay := Ay.rl hr
              replace Ty := Ty.rl hr
              replace HB := HB.trans (hBt.below HB.size (UpOld.all (bx := [⟨R3, some 8, 0, 5, .agg #[.bool false, .slice none 0 0, .slice none 0 0], some (9, 23, 6), []⟩]) ⟨someNe, trivial⟩))
              clear hBt hr hR hP hX hU
              refine wp_seq ?_
              refine region4 [some 26, some 27, some 28, some 25, some 29, some 30, some 7, none, some 8] [Eqs (.agg #[.bool nx, .slice ax mx cx]), Eqs (.agg #[.bool ny, .slice ay my cy]), Tup2 (Eqs (.agg #[.bool false, .slice none 0 0, .slice none 0 0])) (Eqs (.int .i64 20)), Tup2 (Eqs (.agg #[.bool false, .slice none 0 0, .slice none 0 0])) (Eqs (.int .i64 20)), Eqs (.agg #[.bool false, .slice none 0 0, .slice none 0 0]), Eqs (.int .i64 20), (fun _ _ => True), (fun _ _ => True), Eqs (.int .i64 20)] [⟨R3, some 6, 0, 7, .agg #[.bool false, .slice none 0 0, .slice none 0 0], some (7, 29, 4), []⟩] [] (by kernel_rfl) hn rfl (by kernel_rfl) (by kernel_rfl) (by kernel_rfl) (by kernel_rfl) (by kernel_rfl) (by kernel_rfl) ⟨Eqs.mono4 _, Eqs.mono4 _, Tup2.mono4 (Eqs.mono4 _) (Eqs.mono4 _), Tup2.mono4 (Eqs.mono4 _) (Eqs.mono4 _), Eqs.mono4 _, Eqs.mono4 _, True.mono4, True.mono4, Eqs.mono4 _, trivial⟩ (ok_cons R3ok ok_nil) (IsOld.all (bx := [⟨R3, some 6, 0, 7, .agg #[.bool false, .slice none 0 0, .slice none 0 0], some (7, 29, 4), []⟩]) ⟨someNe, trivial⟩) (DisOld.all (bx := [⟨R3, some 6, 0, 7, .agg #[.bool false, .slice none 0 0, .slice none 0 0], some (7, 29, 4), []⟩]) ⟨someNe, trivial⟩) ?_ ?_
              · exact ⟨.norm 26 rfl rfl rfl (fun a_ w_ hn_ hBt hr hR hD hO hS => op_loadv W2ok ((hR 2 rfl).trans f2) (b2.keep hBt ⟨someNe, trivial⟩)),
                  .norm 27 rfl rfl rfl (fun a_ w_ hn_ hBt hr hR hD hO hS => op_loadv W2ok ((hR 3 rfl).trans f3) (b3.keep hBt ⟨someNe, trivial⟩)),
                  .norm 28 rfl rfl rfl (fun a_ w_ hn_ hBt hr hR hD hO hS => op_qof0 (isw_eq (show a_.eval (.tmp 26) = .agg #[.bool nx, .slice ax mx cx] from hD 0 rfl) (Ax.rl hr) Lx) (isw_eq (show a_.eval (.tmp 27) = .agg #[.bool ny, .slice ay my cy] from hD 1 rfl) (Ay.rl hr) Ly) (by omega) hy0),
                  .norm 25 rfl rfl rfl (fun a_ w_ hn_ hBt hr hR hD hO hS => op_mvp (p := Tup2 (Eqs (.agg #[.bool false, .slice none 0 0, .slice none 0 0])) (Eqs (.int .i64 20))) (show Tup2 (Eqs (.agg #[.bool false, .slice none 0 0, .slice none 0 0])) (Eqs (.int .i64 20)) (a_.eval (.tmp 28)) w_ from hD 2 rfl)),
                  .norm 29 rfl rfl rfl (fun a_ w_ hn_ hBt hr hR hD hO hS => op_ex20 (show Tup2 (Eqs (.agg #[.bool false, .slice none 0 0, .slice none 0 0])) (Eqs (.int .i64 20)) (a_.eval (.tmp 25)) w_ from hD 3 rfl)),
                  .norm 30 rfl rfl rfl (fun a_ w_ hn_ hBt hr hR hD hO hS => op_ex21 (show Tup2 (Eqs (.agg #[.bool false, .slice none 0 0, .slice none 0 0])) (Eqs (.int .i64 20)) (a_.eval (.tmp 25)) w_ from hD 3 rfl)),
                  .alloc 0 _ rfl rfl (.inl ⟨rfl, rfl⟩) rfl rfl rfl rfl rfl,
                  .store 0 _ _ _ rfl rfl rfl rfl rfl rfl rfl (fun ia h => by cases h; rfl) rfl rfl rfl (eqs_cs r3_cs),
                  .norm 8 rfl rfl rfl (fun a_ w_ hn_ hBt hr hR hD hO hS => op_assign (show a_.eval (.tmp 30) = .int .i64 20 from hD 5 rfl)),
                  trivial⟩
              · intro a6 w6 gs6 hn6 hd6 hBt hr hR hP hX hU
                replace hn := hn6; replace hd := hd6.trans hd
                replace b2 := b2.keep hBt ⟨someNe, trivial⟩
                replace b5 := b5.keep hBt ⟨someNe, trivial⟩
                have e29 : a6.eval (.tmp 29) = .agg #[.bool false, .slice none 0 0, .slice none 0 0] := hP 4 (by decide)
                have b7 : BoxV R3 w6 (gs6 0) (.agg #[.bool false, .slice none 0 0, .slice none 0 0]) := boxv_of (hX 0 _ rfl).2.2.2 e29
                have f7 := (hX 0 _ rfl).1
                have u7 : w.heap.size ≤ gs6 0 := Nat.le_trans HB.size ((hX 0 _ rfl).2.2.1 (by simp))
                replace f2 := (hR 2 rfl).trans f2
                replace f4 := (hR 4 rfl).trans f4
                replace f5 := (hR 5 rfl).trans f5
                replace f6 := (hR 6 rfl).trans f6
                have e8 : a6.eval (.tmp 8) = .int .i64 20 := hP 8 (by decide)
                have f8 := e8
                replace Ax := Ax.rl hr
                replace Tx := Tx.rl hr
                replace Ay := Ay.rl hr
                replace Ty := Ty.rl hr
                replace HB := HB.trans (hBt.below HB.size (UpOld.all (bx := [⟨R3, some 6, 0, 7, .agg #[.bool false, .slice none 0 0, .slice none 0 0], some (7, 29, 4), []⟩]) ⟨someNe, trivial⟩))
                clear hBt hr hR hP hX hU
                refine wp_seq ?_
                refine region4 [some 31, some 32, some 33, some 34, some 35, some 36, some 37, some 38, some 39, some 40, some 41, some 42, some 43, some 44, some 45, some 46, some 47, some 4] [Eqs (.int .i64 20), Eqs (.int .i64 20), Eqs (.int .i64 20), Eqs (.bool true), Eqs (.bool true), Eqs (.agg #[.bool false, .slice none 0 0, .slice none 0 0]), Eqs (.agg #[.bool false, .slice none 0 0, .slice none 0 0]), Eqs (.bool true), Eqs (.bool true), Eqs (.bool true), Eqs (.agg #[.bool nx, .slice ax mx cx]), IsW (zx) (1500), OutR (zx) (1) ((1500) + 2), Eqs (.agg #[.bool nx, .slice ax mx cx]), OutR (zx) (1) (6 * (1500) + 10), Eqs (.bool true), Eqs (.bool true), Eqs (.bool true)] [] [] (by kernel_rfl) hn rfl (by kernel_rfl) (by kernel_rfl) (by kernel_rfl) (by kernel_rfl) (by kernel_rfl) (by kernel_rfl) ⟨Eqs.mono4 _, Eqs.mono4 _, Eqs.mono4 _, Eqs.mono4 _, Eqs.mono4 _, Eqs.mono4 _, Eqs.mono4 _, Eqs.mono4 _, Eqs.mono4 _, Eqs.mono4 _, Eqs.mono4 _, IsW.mono4 _ _, OutR.mono4 _ _ _, Eqs.mono4 _, OutR.mono4 _ _ _, Eqs.mono4 _, Eqs.mono4 _, Eqs.mono4 _, trivial⟩ ok_nil (IsOld.all (bx := []) trivial) (DisOld.all (bx := []) trivial) ?_ ?_
                · exact ⟨.norm 31 rfl rfl rfl (fun a_ w_ hn_ hBt hr hR hD hO hS => op_mv ((hR 6 rfl).trans f6)),
                    .norm 32 rfl rfl rfl (fun a_ w_ hn_ hBt hr hR hD hO hS => op_num (show a_.eval (.tmp 31) = .int .i64 20 from hD 0 rfl)),
                    .norm 33 rfl rfl rfl (fun a_ w_ hn_ hBt hr hR hD hO hS => op_mv ((hR 8 rfl).trans f8)),
                    .norm 34 rfl rfl rfl (fun a_ w_ hn_ hBt hr hR hD hO hS => op_eql (show a_.eval (.tmp 32) = .int .i64 20 from hD 1 rfl) (show a_.eval (.tmp 33) = .int .i64 20 from hD 2 rfl) rfl),
                    .norm 35 rfl rfl rfl (fun a_ w_ hn_ hBt hr hR hD hO hS => op_mv (show a_.eval (.tmp 34) = .bool true from hD 3 rfl)),
                    .norm 36 rfl rfl rfl (fun a_ w_ hn_ hBt hr hR hD hO hS => ⟨⟨_, rfl⟩, fun _ => op_loadv R3ok ((hR 5 rfl).trans f5) (b5.keep hBt trivial), fun hne => absurd (hD 4 rfl) hne⟩),
                    .norm 37 rfl rfl rfl (fun a_ w_ hn_ hBt hr hR hD hO hS => ⟨⟨_, rfl⟩, fun _ => op_loadv R3ok ((hR 7 rfl).trans f7) (b7.keep hBt trivial), fun hne => absurd (hD 4 rfl) hne⟩),
                    .norm 38 rfl rfl rfl (fun a_ w_ hn_ hBt hr hR hD hO hS => ⟨⟨_, rfl⟩, fun _ => op_samer (outr_zero _ (show a_.eval (.tmp 36) = .agg #[.bool false, .slice none 0 0, .slice none 0 0] from hD 5 rfl)) (outr_zero _ (show a_.eval (.tmp 37) = .agg #[.bool false, .slice none 0 0, .slice none 0 0] from hD 6 rfl)) ⟨rfl, rfl⟩, fun hne => absurd (hD 4 rfl) hne⟩),
                    .norm 39 rfl rfl rfl (fun a_ w_ hn_ hBt hr hR hD hO hS => op_pickb (show a_.eval (.tmp 35) = .bool true from hD 4 rfl) (show a_.eval (.tmp 38) = .bool true from hD 7 rfl)),
                    .norm 40 rfl rfl rfl (fun a_ w_ hn_ hBt hr hR hD hO hS => op_mv (show a_.eval (.tmp 39) = .bool true from hD 8 rfl)),
                    .norm 41 rfl rfl rfl (fun a_ w_ hn_ hBt hr hR hD hO hS => ⟨⟨_, rfl⟩, fun _ => op_loadv W2ok ((hR 2 rfl).trans f2) (b2.keep hBt trivial), fun hne => absurd (hD 9 rfl) hne⟩),
                    .norm 42 rfl rfl rfl (fun a_ w_ hn_ hBt hr hR hD hO hS => ⟨⟨_, rfl⟩, fun _ => op_copyw (isw_eq (show a_.eval (.tmp 41) = .agg #[.bool nx, .slice ax mx cx] from hD 10 rfl) (Ax.rl hr) Lx) (by omega), fun hne => absurd (hD 9 rfl) hne⟩),
                    .norm 43 rfl rfl rfl (fun a_ w_ hn_ hBt hr hR hD hO hS => ⟨⟨_, rfl⟩, fun _ => op_from (show IsW (zx) (1500) (a_.eval (.tmp 42)) w_ from hD 11 rfl) (by omega), fun hne => absurd (hD 9 rfl) hne⟩),
                    .norm 44 rfl rfl rfl (fun a_ w_ hn_ hBt hr hR hD hO hS => ⟨⟨_, rfl⟩, fun _ => op_loadv W2ok ((hR 2 rfl).trans f2) (b2.keep hBt trivial), fun hne => absurd (hD 9 rfl) hne⟩),
                    .norm 45 rfl rfl rfl (fun a_ w_ hn_ hBt hr hR hD hO hS => ⟨⟨_, rfl⟩, fun _ => op_qfrom (isw_eq (show a_.eval (.tmp 44) = .agg #[.bool nx, .slice ax mx cx] from hD 13 rfl) (Ax.rl hr) Lx) (by omega), fun hne => absurd (hD 9 rfl) hne⟩),
                    .norm 46 rfl rfl rfl (fun a_ w_ hn_ hBt hr hR hD hO hS => ⟨⟨_, rfl⟩, fun _ => op_samer (show OutR (zx) (1) ((1500) + 2) (a_.eval (.tmp 43)) w_ from hD 12 rfl) (show OutR (zx) (1) (6 * (1500) + 10) (a_.eval (.tmp 45)) w_ from hD 14 rfl) ⟨rfl, rfl⟩, fun hne => absurd (hD 9 rfl) hne⟩),
                    .norm 47 rfl rfl rfl (fun a_ w_ hn_ hBt hr hR hD hO hS => op_pickb (show a_.eval (.tmp 40) = .bool true from hD 9 rfl) (show a_.eval (.tmp 46) = .bool true from hD 15 rfl)),
                    .norm 4 rfl rfl rfl (fun a_ w_ hn_ hBt hr hR hD hO hS => op_assign (show a_.eval (.tmp 47) = .bool true from hD 16 rfl)),
                    trivial⟩
                · intro a7 w7 gs7 hn7 hd7 hBt hr hR hP hX hU
                  replace hn := hn7; replace hd := hd7.trans hd
                  have e4 : a7.eval (.tmp 4) = .bool true := hP 17 (by decide)
                  have f4 := e4
                  replace Ax := Ax.rl hr
                  replace Tx := Tx.rl hr
                  replace Ay := Ay.rl hr
                  replace Ty := Ty.rl hr
                  replace HB := HB.trans (hBt.below HB.size (UpOld.all (bx := []) trivial))
                  clear hBt hr hR hP hX hU
                  refine wp_ret ?_
                  repeat (first | refine then_ret ?_ | refine scope_ret ?_ | refine block_ret ?_)
                  exact bodyPost_ret (v := .bool true) (res_t rfl f4) hd ⟨rfl, HB⟩
          · skip
            refine wp_seq ?_
            refine region4 [some 18, some 19, some 20, some 21, some 22, some 17, some 23, some 24, some 5, none, some 6] [Eqs (.agg #[.bool nx, .slice ax mx cx]), IsW (zx) (1500), Eqs (.agg #[.bool ny, .slice ay my cy]), IsW (zy) (1500), Tup2 (OutR ((nm zx zy)) ((dn zx zy)) ((1500) + (1500))) (Eqs (.int .i64 0)), Tup2 (OutR ((nm zx zy)) ((dn zx zy)) ((1500) + (1500))) (Eqs (.int .i64 0)), OutR ((nm zx zy)) ((dn zx zy)) ((1500) + (1500)), Eqs (.int .i64 0), (fun _ _ => True), (fun _ _ => True), Eqs (.int .i64 0)] [⟨R3, some 8, 0, 5, .agg #[.bool false, .slice none 0 0, .slice none 0 0], some (9, 23, 6), []⟩] [] (by kernel_rfl) hn rfl (by kernel_rfl) (by kernel_rfl) (by kernel_rfl) (by kernel_rfl) (by kernel_rfl) (by kernel_rfl) ⟨Eqs.mono4 _, IsW.mono4 _ _, Eqs.mono4 _, IsW.mono4 _ _, Tup2.mono4 (OutR.mono4 _ _ _) (Eqs.mono4 _), Tup2.mono4 (OutR.mono4 _ _ _) (Eqs.mono4 _), OutR.mono4 _ _ _, Eqs.mono4 _, True.mono4, True.mono4, Eqs.mono4 _, trivial⟩ (ok_cons R3ok ok_nil) (IsOld.all (bx := [⟨R3, some 8, 0, 5, .agg #[.bool false, .slice none 0 0, .slice none 0 0], some (9, 23, 6), []⟩]) ⟨someNe, trivial⟩) (DisOld.all (bx := [⟨R3, some 8, 0, 5, .agg #[.bool false, .slice none 0 0, .slice none 0 0], some (9, 23, 6), []⟩]) ⟨someNe, trivial⟩) ?_ ?_
            · exact ⟨.norm 18 rfl rfl rfl (fun a_ w_ hn_ hBt hr hR hD hO hS => op_loadv W2ok ((hR 2 rfl).trans f2) (b2.keep hBt ⟨someNe, trivial⟩)),
                .norm 19 rfl rfl rfl (fun a_ w_ hn_ hBt hr hR hD hO hS => op_copyw (isw_eq (show a_.eval (.tmp 18) = .agg #[.bool nx, .slice ax mx cx] from hD 0 rfl) (Ax.rl hr) Lx) (by omega)),
                .norm 20 rfl rfl rfl (fun a_ w_ hn_ hBt hr hR hD hO hS => op_loadv W2ok ((hR 3 rfl).trans f3) (b3.keep hBt ⟨someNe, trivial⟩)),
                .norm 21 rfl rfl rfl (fun a_ w_ hn_ hBt hr hR hD hO hS => op_copyw (isw_eq (show a_.eval (.tmp 20) = .agg #[.bool ny, .slice ay my cy] from hD 2 rfl) (Ay.rl hr) Ly) (by omega)),
                .norm 22 rfl rfl rfl (fun a_ w_ hn_ hBt hr hR hD hO hS => op_rof (Bx := 1500) (By := 1500) (show IsW (zx) (1500) (a_.eval (.tmp 19)) w_ from hD 1 rfl) (show IsW (zy) (1500) (a_.eval (.tmp 21)) w_ from hD 3 rfl) (by omega) hy0),
                .norm 17 rfl rfl rfl (fun a_ w_ hn_ hBt hr hR hD hO hS => op_mvp (p := Tup2 (OutR ((nm zx zy)) ((dn zx zy)) ((1500) + (1500))) (Eqs (.int .i64 0))) (show Tup2 (OutR ((nm zx zy)) ((dn zx zy)) ((1500) + (1500))) (Eqs (.int .i64 0)) (a_.eval (.tmp 22)) w_ from hD 4 rfl)),
                .norm 23 rfl rfl rfl (fun a_ w_ hn_ hBt hr hR hD hO hS => op_ex20 (show Tup2 (OutR ((nm zx zy)) ((dn zx zy)) ((1500) + (1500))) (Eqs (.int .i64 0)) (a_.eval (.tmp 17)) w_ from hD 5 rfl)),
                .norm 24 rfl rfl rfl (fun a_ w_ hn_ hBt hr hR hD hO hS => op_ex21 (show Tup2 (OutR ((nm zx zy)) ((dn zx zy)) ((1500) + (1500))) (Eqs (.int .i64 0)) (a_.eval (.tmp 17)) w_ from hD 5 rfl)),
                .alloc 0 _ rfl rfl (.inl ⟨rfl, rfl⟩) rfl rfl rfl rfl rfl,
                .store 0 _ _ _ rfl rfl rfl rfl rfl rfl rfl (fun ia h => by cases h; rfl) rfl rfl rfl OutR.cs,
                .norm 6 rfl rfl rfl (fun a_ w_ hn_ hBt hr hR hD hO hS => op_assign (show a_.eval (.tmp 24) = .int .i64 0 from hD 7 rfl)),
                trivial⟩
            · intro a8 w8 gs8 hn8 hd8 hBt hr hR hP hX hU
              replace hn := hn8; replace hd := hd8.trans hd
              replace b2 := b2.keep hBt ⟨someNe, trivial⟩
              replace b3 := b3.keep hBt ⟨someNe, trivial⟩
              obtain ⟨n_9, a_9, c_9, r_9, b_9, d_9, s_9, e23, G9, K9, l9, k9⟩ : OutR ((nm zx zy)) ((dn zx zy)) ((1500) + (1500)) (a8.eval (.tmp 23)) w8 := hP 6 (by decide)
              have A9 := G9.ag; have S9 := K9.sl; have V9 := K9.val
              have b5 : BoxV R3 w8 (gs8 0) (.agg #[.bool n_9, .slice a_9 r_9.length c_9, .slice b_9 s_9.length d_9]) := boxv_of (hX 0 _ rfl).2.2.2 e23
              have f5 := (hX 0 _ rfl).1
              have u5 : w.heap.size ≤ gs8 0 := Nat.le_trans HB.size ((hX 0 _ rfl).2.2.1 (by simp))
              replace f2 := (hR 2 rfl).trans f2
              replace f3 := (hR 3 rfl).trans f3
              replace f4 := (hR 4 rfl).trans f4
              have e6 : a8.eval (.tmp 6) = .int .i64 0 := hP 10 (by decide)
              have f6 := e6
              replace Ax := Ax.rl hr
              replace Tx := Tx.rl hr
              replace Ay := Ay.rl hr
              replace Ty := Ty.rl hr
              replace HB := HB.trans (hBt.below HB.size (UpOld.all (bx := [⟨R3, some 8, 0, 5, .agg #[.bool false, .slice none 0 0, .slice none 0 0], some (9, 23, 6), []⟩]) ⟨someNe, trivial⟩))
              clear hBt hr hR hP hX hU
              refine wp_seq ?_
              refine region4 [some 26, some 27, some 28, some 25, some 29, some 30, some 7, none, some 8] [Eqs (.agg #[.bool nx, .slice ax mx cx]), Eqs (.agg #[.bool ny, .slice ay my cy]), Tup2 (OutR ((nm zx zy)) ((dn zx zy)) (6 * ((1500) + (1500)))) (Eqs (.int .i64 0)), Tup2 (OutR ((nm zx zy)) ((dn zx zy)) (6 * ((1500) + (1500)))) (Eqs (.int .i64 0)), OutR ((nm zx zy)) ((dn zx zy)) (6 * ((1500) + (1500))), Eqs (.int .i64 0), (fun _ _ => True), (fun _ _ => True), Eqs (.int .i64 0)] [⟨R3, some 6, 0, 7, .agg #[.bool false, .slice none 0 0, .slice none 0 0], some (7, 29, 4), []⟩] [] (by kernel_rfl) hn rfl (by kernel_rfl) (by kernel_rfl) (by kernel_rfl) (by kernel_rfl) (by kernel_rfl) (by kernel_rfl) ⟨Eqs.mono4 _, Eqs.mono4 _, Tup2.mono4 (OutR.mono4 _ _ _) (Eqs.mono4 _), Tup2.mono4 (OutR.mono4 _ _ _) (Eqs.mono4 _), OutR.mono4 _ _ _, Eqs.mono4 _, True.mono4, True.mono4, Eqs.mono4 _, trivial⟩ (ok_cons R3ok ok_nil) (IsOld.all (bx := [⟨R3, some 6, 0, 7, .agg #[.bool false, .slice none 0 0, .slice none 0 0], some (7, 29, 4), []⟩]) ⟨someNe, trivial⟩) (DisOld.all (bx := [⟨R3, some 6, 0, 7, .agg #[.bool false, .slice none 0 0, .slice none 0 0], some (7, 29, 4), []⟩]) ⟨someNe, trivial⟩) ?_ ?_
              · exact ⟨.norm 26 rfl rfl rfl (fun a_ w_ hn_ hBt hr hR hD hO hS => op_loadv W2ok ((hR 2 rfl).trans f2) (b2.keep hBt ⟨someNe, trivial⟩)),
                  .norm 27 rfl rfl rfl (fun a_ w_ hn_ hBt hr hR hD hO hS => op_loadv W2ok ((hR 3 rfl).trans f3) (b3.keep hBt ⟨someNe, trivial⟩)),
                  .norm 28 rfl rfl rfl (fun a_ w_ hn_ hBt hr hR hD hO hS => op_qof (Bx := 1500) (By := 1500) (isw_eq (show a_.eval (.tmp 26) = .agg #[.bool nx, .slice ax mx cx] from hD 0 rfl) (Ax.rl hr) Lx) (isw_eq (show a_.eval (.tmp 27) = .agg #[.bool ny, .slice ay my cy] from hD 1 rfl) (Ay.rl hr) Ly) (by omega) hy0),
                  .norm 25 rfl rfl rfl (fun a_ w_ hn_ hBt hr hR hD hO hS => op_mvp (p := Tup2 (OutR ((nm zx zy)) ((dn zx zy)) (6 * ((1500) + (1500)))) (Eqs (.int .i64 0))) (show Tup2 (OutR ((nm zx zy)) ((dn zx zy)) (6 * ((1500) + (1500)))) (Eqs (.int .i64 0)) (a_.eval (.tmp 28)) w_ from hD 2 rfl)),
                  .norm 29 rfl rfl rfl (fun a_ w_ hn_ hBt hr hR hD hO hS => op_ex20 (show Tup2 (OutR ((nm zx zy)) ((dn zx zy)) (6 * ((1500) + (1500)))) (Eqs (.int .i64 0)) (a_.eval (.tmp 25)) w_ from hD 3 rfl)),
                  .norm 30 rfl rfl rfl (fun a_ w_ hn_ hBt hr hR hD hO hS => op_ex21 (show Tup2 (OutR ((nm zx zy)) ((dn zx zy)) (6 * ((1500) + (1500)))) (Eqs (.int .i64 0)) (a_.eval (.tmp 25)) w_ from hD 3 rfl)),
                  .alloc 0 _ rfl rfl (.inl ⟨rfl, rfl⟩) rfl rfl rfl rfl rfl,
                  .store 0 _ _ _ rfl rfl rfl rfl rfl rfl rfl (fun ia h => by cases h; rfl) rfl rfl rfl OutR.cs,
                  .norm 8 rfl rfl rfl (fun a_ w_ hn_ hBt hr hR hD hO hS => op_assign (show a_.eval (.tmp 30) = .int .i64 0 from hD 5 rfl)),
                  trivial⟩
              · intro a10 w10 gs10 hn10 hd10 hBt hr hR hP hX hU
                replace hn := hn10; replace hd := hd10.trans hd
                replace b2 := b2.keep hBt ⟨someNe, trivial⟩
                replace b5 := b5.keep hBt ⟨someNe, trivial⟩
                obtain ⟨n_11, a_11, c_11, r_11, b_11, d_11, s_11, e29, G11, K11, l11, k11⟩ : OutR ((nm zx zy)) ((dn zx zy)) (6 * ((1500) + (1500))) (a10.eval (.tmp 29)) w10 := hP 4 (by decide)
                have A11 := G11.ag; have S11 := K11.sl; have V11 := K11.val
                have b7 : BoxV R3 w10 (gs10 0) (.agg #[.bool n_11, .slice a_11 r_11.length c_11, .slice b_11 s_11.length d_11]) := boxv_of (hX 0 _ rfl).2.2.2 e29
                have f7 := (hX 0 _ rfl).1
                have u7 : w.heap.size ≤ gs10 0 := Nat.le_trans HB.size ((hX 0 _ rfl).2.2.1 (by simp))
                replace f2 := (hR 2 rfl).trans f2
                replace f4 := (hR 4 rfl).trans f4
                replace f5 := (hR 5 rfl).trans f5
                replace f6 := (hR 6 rfl).trans f6
                have e8 : a10.eval (.tmp 8) = .int .i64 0 := hP 8 (by decide)
                have f8 := e8
                replace Ax := Ax.rl hr
                replace Tx := Tx.rl hr
                replace Ay := Ay.rl hr
                replace Ty := Ty.rl hr
                replace G9 := G9.rl hr
                replace A9 := A9.rl hr
                replace K9 := K9.rl hr
                replace S9 := S9.rl hr
                replace HB := HB.trans (hBt.below HB.size (UpOld.all (bx := [⟨R3, some 6, 0, 7, .agg #[.bool false, .slice none 0 0, .slice none 0 0], some (7, 29, 4), []⟩]) ⟨someNe, trivial⟩))
                clear hBt hr hR hP hX hU
                refine wp_seq ?_
                refine region4 [some 31, some 32, some 33, some 34, some 35, some 36, some 37, some 38, some 39, some 40, some 41, some 42, some 43, some 44, some 45, some 46, some 47, some 4] [Eqs (.int .i64 0), Eqs (.int .i64 0), Eqs (.int .i64 0), Eqs (.bool true), Eqs (.bool true), Eqs (.agg #[.bool n_9, .slice a_9 r_9.length c_9, .slice b_9 s_9.length d_9]), Eqs (.agg #[.bool n_11, .slice a_11 r_11.length c_11, .slice b_11 s_11.length d_11]), Eqs (.bool true), Eqs (.bool true), Eqs (.bool true), Eqs (.agg #[.bool nx, .slice ax mx cx]), IsW (zx) (1500), OutR (zx) (1) ((1500) + 2), Eqs (.agg #[.bool nx, .slice ax mx cx]), OutR (zx) (1) (6 * (1500) + 10), Eqs (.bool true), Eqs (.bool true), Eqs (.bool true)] [] [] (by kernel_rfl) hn rfl (by kernel_rfl) (by kernel_rfl) (by kernel_rfl) (by kernel_rfl) (by kernel_rfl) (by kernel_rfl) ⟨Eqs.mono4 _, Eqs.mono4 _, Eqs.mono4 _, Eqs.mono4 _, Eqs.mono4 _, Eqs.mono4 _, Eqs.mono4 _, Eqs.mono4 _, Eqs.mono4 _, Eqs.mono4 _, Eqs.mono4 _, IsW.mono4 _ _, OutR.mono4 _ _ _, Eqs.mono4 _, OutR.mono4 _ _ _, Eqs.mono4 _, Eqs.mono4 _, Eqs.mono4 _, trivial⟩ ok_nil (IsOld.all (bx := []) trivial) (DisOld.all (bx := []) trivial) ?_ ?_
                · exact ⟨.norm 31 rfl rfl rfl (fun a_ w_ hn_ hBt hr hR hD hO hS => op_mv ((hR 6 rfl).trans f6)),
                    .norm 32 rfl rfl rfl (fun a_ w_ hn_ hBt hr hR hD hO hS => op_num (show a_.eval (.tmp 31) = .int .i64 0 from hD 0 rfl)),
                    .norm 33 rfl rfl rfl (fun a_ w_ hn_ hBt hr hR hD hO hS => op_mv ((hR 8 rfl).trans f8)),
                    .norm 34 rfl rfl rfl (fun a_ w_ hn_ hBt hr hR hD hO hS => op_eql (show a_.eval (.tmp 32) = .int .i64 0 from hD 1 rfl) (show a_.eval (.tmp 33) = .int .i64 0 from hD 2 rfl) rfl),
                    .norm 35 rfl rfl rfl (fun a_ w_ hn_ hBt hr hR hD hO hS => op_mv (show a_.eval (.tmp 34) = .bool true from hD 3 rfl)),
                    .norm 36 rfl rfl rfl (fun a_ w_ hn_ hBt hr hR hD hO hS => ⟨⟨_, rfl⟩, fun _ => op_loadv R3ok ((hR 5 rfl).trans f5) (b5.keep hBt trivial), fun hne => absurd (hD 4 rfl) hne⟩),
                    .norm 37 rfl rfl rfl (fun a_ w_ hn_ hBt hr hR hD hO hS => ⟨⟨_, rfl⟩, fun _ => op_loadv R3ok ((hR 7 rfl).trans f7) (b7.keep hBt trivial), fun hne => absurd (hD 4 rfl) hne⟩),
                    .norm 38 rfl rfl rfl (fun a_ w_ hn_ hBt hr hR hD hO hS => ⟨⟨_, rfl⟩, fun _ => op_samer (outr_eq (show a_.eval (.tmp 36) = .agg #[.bool n_9, .slice a_9 r_9.length c_9, .slice b_9 s_9.length d_9] from hD 5 rfl) (G9.rl hr) (K9.rl hr) l9 k9) (outr_eq (show a_.eval (.tmp 37) = .agg #[.bool n_11, .slice a_11 r_11.length c_11, .slice b_11 s_11.length d_11] from hD 6 rfl) (G11.rl hr) (K11.rl hr) l11 k11) ⟨rfl, rfl⟩, fun hne => absurd (hD 4 rfl) hne⟩),
                    .norm 39 rfl rfl rfl (fun a_ w_ hn_ hBt hr hR hD hO hS => op_pickb (show a_.eval (.tmp 35) = .bool true from hD 4 rfl) (show a_.eval (.tmp 38) = .bool true from hD 7 rfl)),
                    .norm 40 rfl rfl rfl (fun a_ w_ hn_ hBt hr hR hD hO hS => op_mv (show a_.eval (.tmp 39) = .bool true from hD 8 rfl)),
                    .norm 41 rfl rfl rfl (fun a_ w_ hn_ hBt hr hR hD hO hS => ⟨⟨_, rfl⟩, fun _ => op_loadv W2ok ((hR 2 rfl).trans f2) (b2.keep hBt trivial), fun hne => absurd (hD 9 rfl) hne⟩),
                    .norm 42 rfl rfl rfl (fun a_ w_ hn_ hBt hr hR hD hO hS => ⟨⟨_, rfl⟩, fun _ => op_copyw (isw_eq (show a_.eval (.tmp 41) = .agg #[.bool nx, .slice ax mx cx] from hD 10 rfl) (Ax.rl hr) Lx) (by omega), fun hne => absurd (hD 9 rfl) hne⟩),
                    .norm 43 rfl rfl rfl (fun a_ w_ hn_ hBt hr hR hD hO hS => ⟨⟨_, rfl⟩, fun _ => op_from (show IsW (zx) (1500) (a_.eval (.tmp 42)) w_ from hD 11 rfl) (by omega), fun hne => absurd (hD 9 rfl) hne⟩),
                    .norm 44 rfl rfl rfl (fun a_ w_ hn_ hBt hr hR hD hO hS => ⟨⟨_, rfl⟩, fun _ => op_loadv W2ok ((hR 2 rfl).trans f2) (b2.keep hBt trivial), fun hne => absurd (hD 9 rfl) hne⟩),
                    .norm 45 rfl rfl rfl (fun a_ w_ hn_ hBt hr hR hD hO hS => ⟨⟨_, rfl⟩, fun _ => op_qfrom (isw_eq (show a_.eval (.tmp 44) = .agg #[.bool nx, .slice ax mx cx] from hD 13 rfl) (Ax.rl hr) Lx) (by omega), fun hne => absurd (hD 9 rfl) hne⟩),
                    .norm 46 rfl rfl rfl (fun a_ w_ hn_ hBt hr hR hD hO hS => ⟨⟨_, rfl⟩, fun _ => op_samer (show OutR (zx) (1) ((1500) + 2) (a_.eval (.tmp 43)) w_ from hD 12 rfl) (show OutR (zx) (1) (6 * (1500) + 10) (a_.eval (.tmp 45)) w_ from hD 14 rfl) ⟨rfl, rfl⟩, fun hne => absurd (hD 9 rfl) hne⟩),
                    .norm 47 rfl rfl rfl (fun a_ w_ hn_ hBt hr hR hD hO hS => op_pickb (show a_.eval (.tmp 40) = .bool true from hD 9 rfl) (show a_.eval (.tmp 46) = .bool true from hD 15 rfl)),
                    .norm 4 rfl rfl rfl (fun a_ w_ hn_ hBt hr hR hD hO hS => op_assign (show a_.eval (.tmp 47) = .bool true from hD 16 rfl)),
                    trivial⟩
                · intro a12 w12 gs12 hn12 hd12 hBt hr hR hP hX hU
                  replace hn := hn12; replace hd := hd12.trans hd
                  have e4 : a12.eval (.tmp 4) = .bool true := hP 17 (by decide)
                  have f4 := e4
                  replace Ax := Ax.rl hr
                  replace Tx := Tx.rl hr
                  replace Ay := Ay.rl hr
                  replace Ty := Ty.rl hr
                  replace G9 := G9.rl hr
                  replace A9 := A9.rl hr
                  replace K9 := K9.rl hr
                  replace S9 := S9.rl hr
                  replace G11 := G11.rl hr
                  replace A11 := A11.rl hr
                  replace K11 := K11.rl hr
                  replace S11 := S11.rl hr
                  replace HB := HB.trans (hBt.below HB.size (UpOld.all (bx := []) trivial))
                  clear hBt hr hR hP hX hU
                  refine wp_ret ?_
                  repeat (first | refine then_ret ?_ | refine scope_ret ?_ | refine block_ret ?_)
                  exact bodyPost_ret (v := .bool true) (res_t rfl f4) hd ⟨rfl, HB⟩

end Lm
end Go.Proofs.Ytkdcgnooeojjgab

namespace Go.Proofs.Ytkdcgnooeojjgab
namespace ratioMakesLaw
open Go.ChangeShapes Go.WideShapes Go.ChangeAt Go.RowKit
open Go.ChangeMaps (open_string shut_string)

theorem own : ownKnob Try.prog.godebug = none := by kernel_rfl
theorem laidOut : laidOutB Try.prog = true := by kernel_rfl
theorem bytes4 : Try.prog.bytesOf 73 = 4 := by kernel_rfl

theorem sl_of {w : World} {x : Addr} {l c : Nat} {zs : List Int} (hl : l ≤ c) (hm : c ≤ maxLen) (hz : zs.length = c) (hcell : ∀ i, i < zs.length → w.cell? (x.add i) = some (.int .u32 (zs.getD i 0))) (hwz : ∀ n ∈ zs, (Lit.int .u32 n).wf = true) : Lm.Sl w (.slice (some x) l c) (zs.take l) := by
  have hll : (zs.take l).length = l := by rw [List.length_take]; omega
  refine ⟨some x, c, by rw [hll], by omega, hm, fun n hn => ?_, ?_⟩
  · have := bounds_u32 (hwz n (List.mem_of_mem_take hn))
    omega
  · by_cases h0 : l = 0
    · exact .inl (List.eq_nil_of_length_eq_zero (by omega))
    · obtain ⟨b, off, spot⟩ := x
      have h1 := hcell 0 (by omega)
      have hspot : spot = none := by simpa [Addr.add] using World.cell?_spot h1
      subst hspot
      refine .inr ⟨b, off, rfl, fun i hi => ?_⟩
      have h2 := hcell i (by omega)
      rw [Lm.getD_take _ _ _ (by omega)]
      have e : (⟨b, off, none⟩ : Addr).add i = ⟨b, off + i, none⟩ := by
        by_cases hi0 : i = 0
        · subst hi0; simp [Addr.add]
        · simp [Addr.add, hi0]
      rwa [e] at h2

set_option linter.unusedVariables false in
set_option maxRecDepth 100000 in
theorem lifted (os : Os) (started : os.Started) (H : Type) (enc : TypeId × Value → H) :
    ReturnsInHanded {} Try.checked os 4 .any (Rows.ratioMakesSpec.pre6 enc Try.prog Try.f4 Rows.ratioMakesRow.domain false) (Rows.ratioMakesSpec.post enc Try.prog Try.f4 false true false false) := by
  refine returnsInHanded_of_change_sized (C := Try.checked) own started (by kernel_rfl) Try.func4
    (ChangeSpec.witness6 (enc := enc) (C := Try.checked) false ⟨#[], #[.agg #[.bool false, .slice none 0 0], .agg #[.bool false, .slice none 0 0]], []⟩ 8 (by kernel_rfl) (by kernel_rfl) (by kernel_rfl) (by kernel_rfl)) ?_
  intro W base args ds gs before hval0 hW hcnd hsz0 _
  have hval : ∀ (j : Nat) t v, Try.f4.params[j]? = some t → args[j]? = some v → Value.okWide Try.prog W .any base t v := hval0
  have hW' := hW
  obtain ⟨p, q, hA0, hV, rfl, hfz, hnd⟩ := hW
  have hA : DataW.TrodAll enc Try.prog W 0 (fun _ => true) true Try.f4.params.toList args.toList ds p := hA0
  have hsz : (DataW.weightsEach Try.prog (Try.f4.params.toList ++ Rows.ratioMakesSpec.plain.varTypes Try.prog) (ds ++ gs)).all (· ≤ reachBytes) = true := hsz0
  rw [Try.params4] at hA hval hsz
  obtain ⟨v0, vs0, d0, ds0, p0, q0, hargs, rfl, rfl, h0, r0⟩ := trodAll_cons hA
  obtain ⟨v1, vs1, d1, ds1, p1, q1, rfl, rfl, rfl, h1, r1⟩ := trodAll_cons r0
  obtain ⟨rfl, rfl, rfl⟩ := trodAll_nil r1
  obtain rfl : args = #[v0, v1] := by cases args; simp_all
  obtain ⟨rfl, rfl⟩ := trodVars_none hV
  have k0 := h0
  have lt0 : ∀ x ∈ p0, x.block < W.heap.size := by obtain ⟨m, hm⟩ := k0; exact DataW.trod_lt m _ _ _ hm
  obtain ⟨g0, a0, len0, cap0, z0, hv0, w0, b0⟩ : ∃ ng ao n cap zs, v0 = .agg #[.bool ng, .slice ao n cap] ∧ Lm.Sl W (.slice ao n cap) zs ∧ n ≤ 35184372088832 := by
    obtain ⟨x0, x1, y0, y1, m, hv, hd, _, t0, t1⟩ := Go.Joins.open_agg2 Try.underlying24 (by kernel_rfl) (by kernel_rfl) (hval 0 24 v0 rfl rfl) h0
    obtain ⟨b, hb0, _⟩ := DataW.trod_bool Try.underlying4 t0
    obtain rfl : x0 = .bool b := by simpa using hb0
    rcases open_ints Try.underlying22 Try.underlying73 (by kernel_rfl) t1 with ⟨hcs, _⟩ | ⟨x, l, c, zs, hcs, _, hl, hm, hz, hx, hcell, hwz⟩
    · obtain rfl : x1 = .slice none 0 0 := by simpa using hcs
      exact ⟨b, none, 0, 0, [], hv, ⟨none, 0, rfl, Nat.le_refl _, by simp [maxLen], Lm.limb_nil, .inl rfl⟩, by omega⟩
    · obtain rfl : x1 = .slice (some x) l c := by simpa using hcs
      have hz' : zs.length = c := by simpa using hz
      have hx1 : y1.1 = .slice (lits .u32 (zs.take l)) (lits .u32 (zs.drop l)) := congrArg Prod.fst hx
      refine ⟨b, some x, l, c, _, hv, sl_of hl hm hz' hcell hwz, ?_⟩
      have hs := List.all_eq_true.1 hsz _ (DataW.weights_mem_each (j := 0) (t := 24) rfl (congrArg some hd) (((lits .u32 (zs.take l) : List (DataW H)).length + (lits .u32 (zs.drop l) : List (DataW H)).length) * Try.prog.bytesOf 73) (by rw [hx1]; simp [DataW.weights, DataW.weightsEach, Try.underlying24, Try.underlying22]))
      rw [bytes4] at hs
      simp only [lits, List.length_map, List.length_take, List.length_drop, reachBytes, decide_eq_true_eq] at hs
      omega
  subst hv0
  have k1 := h1
  have lt1 : ∀ x ∈ p1, x.block < W.heap.size := by obtain ⟨m, hm⟩ := k1; exact DataW.trod_lt m _ _ _ hm
  obtain ⟨g1, a1, len1, cap1, z1, hv1, w1, b1⟩ : ∃ ng ao n cap zs, v1 = .agg #[.bool ng, .slice ao n cap] ∧ Lm.Sl W (.slice ao n cap) zs ∧ n ≤ 35184372088832 := by
    obtain ⟨x0, x1, y0, y1, m, hv, hd, _, t0, t1⟩ := Go.Joins.open_agg2 Try.underlying24 (by kernel_rfl) (by kernel_rfl) (hval 1 24 v1 rfl rfl) h1
    obtain ⟨b, hb0, _⟩ := DataW.trod_bool Try.underlying4 t0
    obtain rfl : x0 = .bool b := by simpa using hb0
    rcases open_ints Try.underlying22 Try.underlying73 (by kernel_rfl) t1 with ⟨hcs, _⟩ | ⟨x, l, c, zs, hcs, _, hl, hm, hz, hx, hcell, hwz⟩
    · obtain rfl : x1 = .slice none 0 0 := by simpa using hcs
      exact ⟨b, none, 0, 0, [], hv, ⟨none, 0, rfl, Nat.le_refl _, by simp [maxLen], Lm.limb_nil, .inl rfl⟩, by omega⟩
    · obtain rfl : x1 = .slice (some x) l c := by simpa using hcs
      have hz' : zs.length = c := by simpa using hz
      have hx1 : y1.1 = .slice (lits .u32 (zs.take l)) (lits .u32 (zs.drop l)) := congrArg Prod.fst hx
      refine ⟨b, some x, l, c, _, hv, sl_of hl hm hz' hcell hwz, ?_⟩
      have hs := List.all_eq_true.1 hsz _ (DataW.weights_mem_each (j := 1) (t := 24) rfl (congrArg some hd) (((lits .u32 (zs.take l) : List (DataW H)).length + (lits .u32 (zs.drop l) : List (DataW H)).length) * Try.prog.bytesOf 73) (by rw [hx1]; simp [DataW.weights, DataW.weightsEach, Try.underlying24, Try.underlying22]))
      rw [bytes4] at hs
      simp only [lits, List.length_map, List.length_take, List.length_drop, reachBytes, decide_eq_true_eq] at hs
      omega
  subst hv1
  clear hA0 hval0
  refine (Lm.rmakes_law W g0 a0 len0 cap0 z0 _ g1 a1 len1 cap1 z1 _ ⟨w0, rfl⟩ ⟨w1, rfl⟩ b0 b1).mono fun e W' ⟨he, bel⟩ => ?_
  subst he
  exact ⟨_, rfl, _, _, _, [], _, [], hW', trodAll_mk1 (shut_bool Try.underlying4 _), (trodAll_cons_mk (Below.trod laidOut (by kernel_rfl) (of_decide_eq_true (by kernel_rfl)) k0 bel lt0) (trodAll_cons_mk (Below.trod laidOut (by kernel_rfl) (of_decide_eq_true (by kernel_rfl)) k1 bel lt1) trodAll_mk0)), rfl, bel.frame _, fun h => by cases h⟩

theorem over : Rows.ratioMakesRow.holds Try.pinned (OpenSpec.ofChange Rows.ratioMakesSpec) :=
  OpenClaim.holds_of_wide 4 Try.f4 rfl rfl rfl rfl rfl rfl rfl ⟨rfl, rfl, rfl, rfl, rfl⟩ rfl rfl rfl rfl rfl (by kernel_rfl) Try.func4 (by kernel_rfl)
    (of_decide_eq_true (by kernel_rfl)) (by unfold Func.isWrapper; first | (rw [if_pos (by decide +kernel)]; kernel_rfl) | (rw [if_neg (by decide +kernel)]; exact ⟨rfl, rfl⟩))
    (fun os started H enc _ => lifted os started H enc)
end ratioMakesLaw

theorem ratioMakes_holds : Rows.RatioMakesSaid := ratioMakesLaw.over
#print axioms ratioMakes_holds
end Go.Proofs.Ytkdcgnooeojjgab
