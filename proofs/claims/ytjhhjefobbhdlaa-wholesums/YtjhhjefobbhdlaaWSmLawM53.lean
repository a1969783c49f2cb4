/-
  WholeSums answers true, whatever two numbers it is handed. The given statement on WholeSums, for every input: the call answers true, and each argument reads behind it as it read before. No condition beyond the statement's own.
-/
import Derived.Test.YtjhhjefobbhdlaaWSmLawM51
import Derived.Test.YtjhhjefobbhdlaaWSmLawM52
import Derived.Deep.LoopGhost
import Derived.Test.YtjhhjefobbhdlaaRows
import Derived.ProofKit
import Derived.OpenShut
import Derived.ShutString
import Derived.ChangeOld
import Derived.SizedLaws
import Derived.Lib.SmallJoins
namespace Go.Proofs.Ytjhhjefobbhdlaa
namespace Lm
open Go Go.RowKit

set_option maxRecDepth 20000 in
set_option maxHeartbeats 8000000 in
theorem wsums_law (w : World) (nx : Bool) (ax : Option Addr) (mx cx : Nat) (xs : List Int) (zx : Int) (ny : Bool) (ay : Option Addr) (my cy : Nat) (ys : List Int) (zy : Int) (Ax : Ag w nx ax mx cx xs zx) (Ay : Ag w ny ay my cy ys zy) (hx35 : mx ≤ 35184372088832) (hy35 : my ≤ 35184372088832) :
    Calls Try.prog 4 #[.agg #[.bool nx, .slice ax mx cx], .agg #[.bool ny, .slice ay my cy]] w fun e w' => e = .returned (.bool true) ∧ Below w.heap.size w w' := by
  go_enter Try.func4, Try.ntmps4
  generalize hA : (Act.mk _ _) = aa
  have hn : aa.tmps.size = 136 := by rw [← hA]; rfl
  have hd : aa.defers = [] := by rw [← hA]
  have f0 : aa.eval (.tmp 0) = .agg #[.bool nx, .slice ax mx cx] := by rw [← hA]; rfl
  have f1 : aa.eval (.tmp 1) = .agg #[.bool ny, .slice ay my cy] := by rw [← hA]; rfl
  clear hA
  have HB : Below w.heap.size w w := Below.refl _ _
  have Tx := Ax.sl; have Ty := Ay.sl
  have Ax0 := Ax; have Ay0 := Ay
  refine wp_seq ?_
  refine region4 [some 2, some 3, some 4] [(fun _ _ => True), (fun _ _ => True), Eqs ((.bool false))] [⟨W2, some 0, 0, 2, .agg #[.bool nx, .slice ax mx cx], none, []⟩, ⟨W2, some 1, 0, 3, .agg #[.bool ny, .slice ay my cy], none, []⟩] [] (by kernel_rfl) hn rfl (by kernel_rfl) (by kernel_rfl) (by kernel_rfl) (by kernel_rfl) (by kernel_rfl) (by kernel_rfl) ⟨True.mono4, True.mono4, Eqs.mono4 _, trivial⟩ (ok_cons W2ok (ok_cons W2ok ok_nil)) (IsOld.all (bx := [⟨W2, some 0, 0, 2, .agg #[.bool nx, .slice ax mx cx], none, []⟩, ⟨W2, some 1, 0, 3, .agg #[.bool ny, .slice ay my cy], none, []⟩]) ⟨someNe, someNe, trivial⟩) (DisOld.all (bx := [⟨W2, some 0, 0, 2, .agg #[.bool nx, .slice ax mx cx], none, []⟩, ⟨W2, some 1, 0, 3, .agg #[.bool ny, .slice ay my cy], none, []⟩]) ⟨someNe, someNe, trivial⟩) ?_ ?_
  · exact ⟨.alloc 0 _ rfl rfl (.inr ⟨_, rfl, w2_cs, fun a_ hR => (hR 0 rfl).trans f0⟩) rfl rfl rfl rfl rfl,
      .alloc 1 _ rfl rfl (.inr ⟨_, rfl, w2_cs, fun a_ hR => (hR 1 rfl).trans f1⟩) rfl rfl rfl rfl rfl,
      .norm 4 rfl rfl rfl (fun a_ w_ hn_ hBt hr hR hD hO hS => op_assign rfl),
      trivial⟩
  · intro a1 w1 gs1 hn1 hd1 hBt hr hR hP hX hU
    replace hn := hn1; replace hd := hd1.trans hd
    have b2 : BoxV W2 w1 (gs1 0) (.agg #[.bool nx, .slice ax mx cx]) := (hX 0 _ rfl).2.2.2
    have f2 := (hX 0 _ rfl).1
    have u2 : w.heap.size ≤ gs1 0 := Nat.le_trans HB.size ((hX 0 _ rfl).2.2.1 (by simp))
    have b3 : BoxV W2 w1 (gs1 1) (.agg #[.bool ny, .slice ay my cy]) := (hX 1 _ rfl).2.2.2
    have f3 := (hX 1 _ rfl).1
    have u3 : w.heap.size ≤ gs1 1 := Nat.le_trans HB.size ((hX 1 _ rfl).2.2.1 (by simp))
    have e4 : a1.eval (.tmp 4) = (.bool false) := hP 2 (by decide)
    have f4 := e4
    replace Ax := Ax.rl hr
    replace Tx := Tx.rl hr
    replace Ay := Ay.rl hr
    replace Ty := Ty.rl hr
    replace HB := HB.trans (hBt.below HB.size (UpOld.all (bx := [⟨W2, some 0, 0, 2, .agg #[.bool nx, .slice ax mx cx], none, []⟩, ⟨W2, some 1, 0, 3, .agg #[.bool ny, .slice ay my cy], none, []⟩]) ⟨someNe, someNe, trivial⟩))
    clear hBt hr hR hP hX hU
    refine wp_seq ?_
    refine wp_seq ?_
    refine region4 [some 20, some 21] [Eqs (.bool true), Eqs (.bool false)] [] [] (by kernel_rfl) hn rfl (by kernel_rfl) (by kernel_rfl) (by kernel_rfl) (by kernel_rfl) (by kernel_rfl) (by kernel_rfl) ⟨Eqs.mono4 _, Eqs.mono4 _, trivial⟩ ok_nil (IsOld.all (bx := []) trivial) (DisOld.all (bx := []) trivial) ?_ ?_
    · exact ⟨.norm 20 rfl rfl rfl (fun a_ w_ hn_ hBt hr hR hD hO hS => op_wawake),
        .norm 21 rfl rfl rfl (fun a_ w_ hn_ hBt hr hR hD hO hS => op_not (show a_.eval (.tmp 20) = .bool true from hD 0 rfl)),
        trivial⟩
    · intro a2 w2 gs2 hn2 hd2 hBt hr hR hP hX hU
      replace hn := hn2; replace hd := hd2.trans hd
      replace b2 := b2.keep hBt trivial
      replace b3 := b3.keep hBt trivial
      replace f2 := (hR 2 rfl).trans f2
      replace f3 := (hR 3 rfl).trans f3
      replace f4 := (hR 4 rfl).trans f4
      have e21 : a2.eval (.tmp 21) = .bool false := hP 1 (by decide)
      have f21 := e21
      replace Ax := Ax.rl hr
      replace Tx := Tx.rl hr
      replace Ay := Ay.rl hr
      replace Ty := Ty.rl hr
      replace HB := HB.trans (hBt.below HB.size (UpOld.all (bx := []) trivial))
      clear hBt hr hR hP hX hU
      refine wp_cond_false f21 ?_
      refine wp_skip ?_
      refine wp_seq ?_
      refine wp_seq ?_
      refine region4 [some 22, some 23, some 24, some 25, some 26, some 27] [Eqs (.agg #[.bool nx, .slice ax mx cx]), Eqs (.int .i64 (1 + (mx : Int))), Eqs (.agg #[.bool ny, .slice ay my cy]), Eqs (.int .i64 (1 + (my : Int))), Eqs (.int .i64 ((1 + (mx : Int)) + (1 + (my : Int)))), Eqs (.bool (decide (1500 < ((1 + (mx : Int)) + (1 + (my : Int))))))] [] [] (by kernel_rfl) hn rfl (by kernel_rfl) (by kernel_rfl) (by kernel_rfl) (by kernel_rfl) (by kernel_rfl) (by kernel_rfl) ⟨Eqs.mono4 _, Eqs.mono4 _, Eqs.mono4 _, Eqs.mono4 _, Eqs.mono4 _, Eqs.mono4 _, trivial⟩ ok_nil (IsOld.all (bx := []) trivial) (DisOld.all (bx := []) trivial) ?_ ?_
      · exact ⟨.norm 22 rfl rfl rfl (fun a_ w_ hn_ hBt hr hR hD hO hS => op_loadv W2ok ((hR 2 rfl).trans f2) (b2.keep hBt trivial)),
          .norm 23 rfl rfl rfl (fun a_ w_ hn_ hBt hr hR hD hO hS => op_lenw (show a_.eval (.tmp 22) = .agg #[.bool nx, .slice ax mx cx] from hD 0 rfl) (by omega)),
          .norm 24 rfl rfl rfl (fun a_ w_ hn_ hBt hr hR hD hO hS => op_loadv W2ok ((hR 3 rfl).trans f3) (b3.keep hBt trivial)),
          .norm 25 rfl rfl rfl (fun a_ w_ hn_ hBt hr hR hD hO hS => op_lenw (show a_.eval (.tmp 24) = .agg #[.bool ny, .slice ay my cy] from hD 2 rfl) (by omega)),
          .norm 26 rfl rfl rfl (fun a_ w_ hn_ hBt hr hR hD hO hS => op_plus (show a_.eval (.tmp 23) = .int .i64 (1 + (mx : Int)) from hD 1 rfl) (show a_.eval (.tmp 25) = .int .i64 (1 + (my : Int)) from hD 3 rfl) (by omega)),
          .norm 27 rfl rfl rfl (fun a_ w_ hn_ hBt hr hR hD hO hS => op_gtrk (show a_.eval (.tmp 26) = .int .i64 ((1 + (mx : Int)) + (1 + (my : Int))) from hD 4 rfl)),
          trivial⟩
      · intro a3 w3 gs3 hn3 hd3 hBt hr hR hP hX hU
        replace hn := hn3; replace hd := hd3.trans hd
        replace b2 := b2.keep hBt trivial
        replace b3 := b3.keep hBt trivial
        replace f2 := (hR 2 rfl).trans f2
        replace f3 := (hR 3 rfl).trans f3
        replace f4 := (hR 4 rfl).trans f4
        have e27 : a3.eval (.tmp 27) = .bool (decide (1500 < ((1 + (mx : Int)) + (1 + (my : Int))))) := hP 5 (by decide)
        have f27 := e27
        replace Ax := Ax.rl hr
        replace Tx := Tx.rl hr
        replace Ay := Ay.rl hr
        replace Ty := Ty.rl hr
        replace HB := HB.trans (hBt.below HB.size (UpOld.all (bx := []) trivial))
        clear hBt hr hR hP hX hU
        refine wp_cond_split f27 (fun hc27 => ?_) (fun hc27 => ?_)
        · skip
          refine wp_seq ?_
          refine region4 [some 4] [Eqs ((.bool true))] [] [] (by kernel_rfl) hn rfl (by kernel_rfl) (by kernel_rfl) (by kernel_rfl) (by kernel_rfl) (by kernel_rfl) (by kernel_rfl) ⟨Eqs.mono4 _, trivial⟩ ok_nil (IsOld.all (bx := []) trivial) (DisOld.all (bx := []) trivial) ?_ ?_
          · exact ⟨.norm 4 rfl rfl rfl (fun a_ w_ hn_ hBt hr hR hD hO hS => op_assign rfl),
              trivial⟩
          · intro a4 w4 gs4 hn4 hd4 hBt hr hR hP hX hU
            replace hn := hn4; replace hd := hd4.trans hd
            replace b2 := b2.keep hBt trivial
            replace b3 := b3.keep hBt trivial
            replace f2 := (hR 2 rfl).trans f2
            replace f3 := (hR 3 rfl).trans f3
            have e4 : a4.eval (.tmp 4) = (.bool true) := hP 0 (by decide)
            have f4 := e4
            replace Ax := Ax.rl hr
            replace Tx := Tx.rl hr
            replace Ay := Ay.rl hr
            replace Ty := Ty.rl hr
            replace HB := HB.trans (hBt.below HB.size (UpOld.all (bx := []) trivial))
            clear hBt hr hR hP hX hU
            refine wp_ret ?_
            repeat (first | refine then_ret ?_ | refine scope_ret ?_ | refine block_ret ?_)
            exact bodyPost_ret (v := .bool true) (res_t rfl f4) hd ⟨rfl, HB⟩
        · skip
          have hlen := of_decide_eq_false hc27
          have ox := Ax.sl.parts.1; have Lx : xs.length ≤ 1500 := by omega
          have oy := Ay.sl.parts.1; have Ly : ys.length ≤ 1500 := by omega
          refine wp_skip ?_
          refine wp_seq ?_
          refine wp_of_good (by kernel_rfl) (by kernel_rfl) (fun w_0 hb_0 => ?_)
          replace b2 := b2.below hb_0
          replace b3 := b3.below hb_0
          replace Ax := Ax.below hb_0
          replace Tx := Tx.below hb_0
          replace Ay := Ay.below hb_0
          replace Ty := Ty.below hb_0
          replace HB := HB.trans (hb_0.mono HB.size); clear hb_0
          refine good6 0 1 (some 1) [some 28, some 29, some 5] [Eqs (.agg #[.slice none 0 0, .slice none 0 0]), (fun _ _ => True), (fun _ _ => True)] [] [] [] [] [] (by kernel_rfl) hn rfl (by kernel_rfl) (by kernel_rfl) (by kernel_rfl) (by kernel_rfl) (by kernel_rfl) (by kernel_rfl) (by kernel_rfl) (by kernel_rfl) (by kernel_rfl) (by decide) ⟨Eqs.mono5 _, True.mono5, True.mono5, trivial⟩ trivial xok_nil ok_nil (IsOld.all (bx := []) trivial) (DisOld.all (bx := []) trivial) trivial ?_ ?_ ?_
          · exact ⟨.inr (.norm 28 rfl rfl (nxt rfl) rfl (fun a_ w_ hn_ hBt hr hR hD hO hS => d6 rfl op_bBook)),
              .inl rfl,
              .inl rfl,
              trivial⟩
          rotate_left
          · exact fun h => by cases h
          · intro t_ o_ ht_ ho_ a5 w5 gs5 B5 T5 F_
            obtain rfl := Option.some.inj ht_; obtain rfl := Option.some.inj ho_; clear ht_ ho_
            obtain ⟨hn5, hd5, hBt, hr, hR, hP, hTs, hLi, hX, hU, hRel, hSl⟩ := F_
            replace hn := hn5; replace hd := hd5.trans hd
            replace b2 := b2.keep5 hBt trivial trivial
            replace b3 := b3.keep5 hBt trivial trivial
            replace f2 := (hR 2 rfl).trans f2
            replace f3 := (hR 3 rfl).trans f3
            replace f4 := (hR 4 rfl).trans f4
            have e28 : a5.eval (.tmp 28) = .agg #[.slice none 0 0, .slice none 0 0] := hP 0 (by decide)
            have f28 := e28
            replace Ax := Ax.ru hr
            replace Tx := Tx.ru hr
            replace Ay := Ay.ru hr
            replace Ty := Ty.ru hr
            replace HB := HB.trans (hBt.below HB.size (UpOld.all (bx := []) trivial) (UpX.all (bx := []) trivial))
            clear hBt hr hR hP hTs hLi hX hU hRel hSl
            refine ⟨trivial, (op_bookn (Q := w.heap.size) f28).mono ?_⟩
            rintro v_ w6 ⟨rfl, BK, hbN⟩
            obtain ⟨pB, hpB⟩ : ∃ g, g = w5.heap.size := ⟨_, rfl⟩
            rw [← hpB] at BK ⊢
            have upB : w.heap.size ≤ pB := by rw [hpB]; exact HB.size
            replace b2 := b2.below hbN
            replace b3 := b3.below hbN
            replace Ax := Ax.below hbN
            replace Tx := Tx.below hbN
            replace Ay := Ay.below hbN
            replace Ty := Ty.below hbN
            replace HB := HB.trans (hbN.mono HB.size); clear hbN
            change Good _ _ _ _ _ (Act.put a5 (some 29) (.pointer (some ⟨pB, 0, none⟩))) _
            have q_ : 29 < a5.tmps.size := by rw [hn]; decide
            generalize hA_ : Act.put a5 (some 29) (.pointer (some ⟨pB, 0, none⟩)) = a7
            replace hn : a7.tmps.size = 136 := by rw [← hA_, put_tmps]; simp [hn]
            replace hd : a7.defers = [] := by rw [← hA_]; exact hd
            replace f2 : a7.eval (.tmp 2) = .pointer (some ⟨gs1 0, 0, none⟩) := by rw [← hA_]; exact (eval_put_ne (by decide)).trans f2
            replace f3 : a7.eval (.tmp 3) = .pointer (some ⟨gs1 1, 0, none⟩) := by rw [← hA_]; exact (eval_put_ne (by decide)).trans f3
            replace f4 : a7.eval (.tmp 4) = (.bool false) := by rw [← hA_]; exact (eval_put_ne (by decide)).trans f4
            replace f28 : a7.eval (.tmp 28) = .agg #[.slice none 0 0, .slice none 0 0] := by rw [← hA_]; exact (eval_put_ne (by decide)).trans f28
            have f29 : a7.eval (.tmp 29) = .pointer (some ⟨pB, 0, none⟩) := by rw [← hA_]; exact eval_put_same q_
            clear q_
            clear hA_
            refine good6 2 3 none [some 28, some 29, some 5] [Eqs (.agg #[.slice none 0 0, .slice none 0 0]), Eqs (.pointer (some ⟨pB, 0, none⟩)), Eqs (.pointer (some ⟨pB, 0, none⟩))] [] [] [] [] [] (by kernel_rfl) hn rfl (by kernel_rfl) (by kernel_rfl) (by kernel_rfl) (by kernel_rfl) (by kernel_rfl) (by kernel_rfl) (by kernel_rfl) (by kernel_rfl) (by kernel_rfl) (by decide) ⟨Eqs.mono5 _, Eqs.mono5 _, Eqs.mono5 _, trivial⟩ trivial xok_nil ok_nil (IsOld.all (bx := []) trivial) (DisOld.all (bx := []) trivial) ⟨⟨trivial, f28⟩, f29⟩ ?_ ?_ ?_
            · exact ⟨.inl rfl,
                .inl rfl,
                .inr (.norm 5 rfl rfl (nxt rfl) rfl (fun a_ w_ hn_ hBt hr hR hD hO hS => d6 rfl (op_assign (show a_.eval (.tmp 29) = .pointer (some ⟨pB, 0, none⟩) from hD 1 rfl)))),
                trivial⟩
            · exact fun _ _ h => by cases h
            · intro _ a8 w8 gs8 B8 T8 F_
              obtain ⟨hn8, hd8, hBt, hr, hR, hP, hTs, hLi, hX, hU, hRel, hSl⟩ := F_
              replace hn := hn8; replace hd := hd8.trans hd
              have lq8BK := BK.lt.2
              replace b2 := b2.keep5 hBt trivial trivial
              replace b3 := b3.keep5 hBt trivial trivial
              replace f2 := (hR 2 rfl).trans f2
              replace f3 := (hR 3 rfl).trans f3
              replace f4 := (hR 4 rfl).trans f4
              have e5 : a8.eval (.tmp 5) = .pointer (some ⟨pB, 0, none⟩) := hP 2 (by decide)
              have f5 := e5
              have hBl_ := hBt.below (Nat.le_refl _) (UpOld.all (bx := []) trivial) (UpX.all (bx := []) trivial)
              replace Ax := Ax.ru hr
              replace Tx := Tx.ru hr
              replace Ay := Ay.ru hr
              replace Ty := Ty.ru hr
              replace BK := BK.below hBl_
              replace HB := HB.trans (hBt.below HB.size (UpOld.all (bx := []) trivial) (UpX.all (bx := []) trivial))
              clear hBt hr hR hP hTs hLi hX hU hRel hSl
              refine wp_seq ?_
              refine wp_of_good (by kernel_rfl) (by kernel_rfl) (fun w_0 hb_0 => ?_)
              replace b2 := b2.below hb_0
              replace b3 := b3.below hb_0
              replace Ax := Ax.below hb_0
              replace Tx := Tx.below hb_0
              replace Ay := Ay.below hb_0
              replace Ty := Ty.below hb_0
              replace BK := BK.below hb_0
              replace HB := HB.trans (hb_0.mono HB.size); clear hb_0
              refine good6 0 19 none [some 30, some 31, some 32, some 33, some 34, some 35, some 36, some 37, some 38, some 39, some 40, some 6, some 7, some 8, some 9, none, none, none, none] [Eqs (.agg #[.bool nx, .slice ax mx cx]), Eqs (.agg #[.bool ny, .slice ay my cy]), OutW ((zx + zy)) (3 * (1500) + 3 * (1500) + 1), Eqs (.agg #[.bool nx, .slice ax mx cx]), Eqs (.agg #[.bool ny, .slice ay my cy]), OutW ((zx - zy)) (3 * (1500) + 3 * (1500) + 1), Eqs (.agg #[.bool nx, .slice ax mx cx]), Eqs (.agg #[.bool ny, .slice ay my cy]), OutW ((zx * zy)) (3 * (1500) + 3 * (1500) + 1), Eqs (.agg #[.bool nx, .slice ax mx cx]), OutW ((-zx)) (3 * (1500)), (fun _ _ => True), (fun _ _ => True), (fun _ _ => True), (fun _ _ => True), (fun _ _ => True), (fun _ _ => True), (fun _ _ => True), (fun _ _ => True)] [TrI, TrI, OwnWI ((zx + zy)) (3 * (1500) + 3 * (1500) + 1), TrI, TrI, OwnWI ((zx - zy)) (3 * (1500) + 3 * (1500) + 1), TrI, TrI, OwnWI ((zx * zy)) (3 * (1500) + 3 * (1500) + 1), TrI, OwnWI ((-zx)) (3 * (1500)), TrI, TrI, TrI, TrI, TrI, TrI, TrI, TrI] [] [⟨W2, some 11, 0, 6, .agg #[.bool false, .slice none 0 0], some (15, 32, 2), []⟩, ⟨W2, some 12, 0, 7, .agg #[.bool false, .slice none 0 0], some (16, 35, 5), []⟩, ⟨W2, some 13, 0, 8, .agg #[.bool false, .slice none 0 0], some (17, 38, 8), []⟩, ⟨W2, some 14, 0, 9, .agg #[.bool false, .slice none 0 0], some (18, 40, 10), []⟩] [] [] (by kernel_rfl) hn rfl (by kernel_rfl) (by kernel_rfl) (by kernel_rfl) (by kernel_rfl) (by kernel_rfl) (by kernel_rfl) (by kernel_rfl) (by kernel_rfl) (by kernel_rfl) (by decide) ⟨Eqs.mono5 _, Eqs.mono5 _, OutW.mono5 _ _, Eqs.mono5 _, Eqs.mono5 _, OutW.mono5 _ _, Eqs.mono5 _, Eqs.mono5 _, OutW.mono5 _ _, Eqs.mono5 _, OutW.mono5 _ _, True.mono5, True.mono5, True.mono5, True.mono5, True.mono5, True.mono5, True.mono5, True.mono5, trivial⟩ ⟨TrI.mono6, TrI.mono6, OwnWI.mono6 _ _, TrI.mono6, TrI.mono6, OwnWI.mono6 _ _, TrI.mono6, TrI.mono6, OwnWI.mono6 _ _, TrI.mono6, OwnWI.mono6 _ _, TrI.mono6, TrI.mono6, TrI.mono6, TrI.mono6, TrI.mono6, TrI.mono6, TrI.mono6, TrI.mono6, trivial⟩ xok_nil (ok_cons W2ok (ok_cons W2ok (ok_cons W2ok (ok_cons W2ok ok_nil)))) (IsOld.all (bx := [⟨W2, some 11, 0, 6, .agg #[.bool false, .slice none 0 0], some (15, 32, 2), []⟩, ⟨W2, some 12, 0, 7, .agg #[.bool false, .slice none 0 0], some (16, 35, 5), []⟩, ⟨W2, some 13, 0, 8, .agg #[.bool false, .slice none 0 0], some (17, 38, 8), []⟩, ⟨W2, some 14, 0, 9, .agg #[.bool false, .slice none 0 0], some (18, 40, 10), []⟩]) ⟨someNe, someNe, someNe, someNe, trivial⟩) (DisOld.all (bx := [⟨W2, some 11, 0, 6, .agg #[.bool false, .slice none 0 0], some (15, 32, 2), []⟩, ⟨W2, some 12, 0, 7, .agg #[.bool false, .slice none 0 0], some (16, 35, 5), []⟩, ⟨W2, some 13, 0, 8, .agg #[.bool false, .slice none 0 0], some (17, 38, 8), []⟩, ⟨W2, some 14, 0, 9, .agg #[.bool false, .slice none 0 0], some (18, 40, 10), []⟩]) ⟨someNe, someNe, someNe, someNe, trivial⟩) trivial ?_ ?_ ?_
              · exact ⟨.inr (.norm 30 rfl rfl (nxt rfl) rfl (fun a_ w_ hn_ hBt hr hR hD hO hS => d6 rfl (op_loadv W2ok ((hR 2 rfl).trans f2) (b2.keep5 hBt ⟨someNe, someNe, someNe, someNe, trivial⟩ trivial)))),
                  .inr (.norm 31 rfl rfl (nxt rfl) rfl (fun a_ w_ hn_ hBt hr hR hD hO hS => d6 rfl (op_loadv W2ok ((hR 3 rfl).trans f3) (b3.keep5 hBt ⟨someNe, someNe, someNe, someNe, trivial⟩ trivial)))),
                  .inr (.norm 32 rfl rfl (nxt rfl) rfl (fun a_ w_ hn_ hBt hr hR hD hO hS => d6q (fun _ _ _ _ h => h.out) rfl (FrW.own (op_r2addF (Bx := 1500) (By := 1500) (isw_eq (show a_.eval (.tmp 30) = .agg #[.bool nx, .slice ax mx cx] from hD 0 rfl) (Ax.ru hr) Lx) (isw_eq (show a_.eval (.tmp 31) = .agg #[.bool ny, .slice ay my cy] from hD 1 rfl) (Ay.ru hr) Ly) (by omega))))),
                  .inr (.norm 33 rfl rfl (nxt rfl) rfl (fun a_ w_ hn_ hBt hr hR hD hO hS => d6 rfl (op_loadv W2ok ((hR 2 rfl).trans f2) (b2.keep5 hBt ⟨someNe, someNe, someNe, someNe, trivial⟩ trivial)))),
                  .inr (.norm 34 rfl rfl (nxt rfl) rfl (fun a_ w_ hn_ hBt hr hR hD hO hS => d6 rfl (op_loadv W2ok ((hR 3 rfl).trans f3) (b3.keep5 hBt ⟨someNe, someNe, someNe, someNe, trivial⟩ trivial)))),
                  .inr (.norm 35 rfl rfl (nxt rfl) rfl (fun a_ w_ hn_ hBt hr hR hD hO hS => d6q (fun _ _ _ _ h => h.out) rfl (FrW.own (op_r2subF (Bx := 1500) (By := 1500) (isw_eq (show a_.eval (.tmp 33) = .agg #[.bool nx, .slice ax mx cx] from hD 3 rfl) (Ax.ru hr) Lx) (isw_eq (show a_.eval (.tmp 34) = .agg #[.bool ny, .slice ay my cy] from hD 4 rfl) (Ay.ru hr) Ly) (by omega))))),
                  .inr (.norm 36 rfl rfl (nxt rfl) rfl (fun a_ w_ hn_ hBt hr hR hD hO hS => d6 rfl (op_loadv W2ok ((hR 2 rfl).trans f2) (b2.keep5 hBt ⟨someNe, someNe, someNe, someNe, trivial⟩ trivial)))),
                  .inr (.norm 37 rfl rfl (nxt rfl) rfl (fun a_ w_ hn_ hBt hr hR hD hO hS => d6 rfl (op_loadv W2ok ((hR 3 rfl).trans f3) (b3.keep5 hBt ⟨someNe, someNe, someNe, someNe, trivial⟩ trivial)))),
                  .inr (.norm 38 rfl rfl (nxt rfl) rfl (fun a_ w_ hn_ hBt hr hR hD hO hS => d6q (fun _ _ _ _ h => h.out) rfl (FrW.own (op_r2mulF (Bx := 1500) (By := 1500) (isw_eq (show a_.eval (.tmp 36) = .agg #[.bool nx, .slice ax mx cx] from hD 6 rfl) (Ax.ru hr) Lx) (isw_eq (show a_.eval (.tmp 37) = .agg #[.bool ny, .slice ay my cy] from hD 7 rfl) (Ay.ru hr) Ly) (by omega))))),
                  .inr (.norm 39 rfl rfl (nxt rfl) rfl (fun a_ w_ hn_ hBt hr hR hD hO hS => d6 rfl (op_loadv W2ok ((hR 2 rfl).trans f2) (b2.keep5 hBt ⟨someNe, someNe, someNe, someNe, trivial⟩ trivial)))),
                  .inr (.norm 40 rfl rfl (nxt rfl) rfl (fun a_ w_ hn_ hBt hr hR hD hO hS => d6q (fun _ _ _ _ h => h.out) rfl (FrW.own (op_r2negF (Bx := 1500) (isw_eq (show a_.eval (.tmp 39) = .agg #[.bool nx, .slice ax mx cx] from hD 9 rfl) (Ax.ru hr) Lx) (by omega))))),
                  .inr (.alloc 0 _ rfl rfl (.inl ⟨rfl, rfl⟩) rfl rfl rfl rfl rfl (nxt rfl) rfl rfl),
                  .inr (.alloc 1 _ rfl rfl (.inl ⟨rfl, rfl⟩) rfl rfl rfl rfl rfl (nxt rfl) rfl rfl),
                  .inr (.alloc 2 _ rfl rfl (.inl ⟨rfl, rfl⟩) rfl rfl rfl rfl rfl (nxt rfl) rfl rfl),
                  .inr (.alloc 3 _ rfl rfl (.inl ⟨rfl, rfl⟩) rfl rfl rfl rfl rfl (nxt rfl) rfl rfl),
                  .inr (.store 0 _ _ _ rfl rfl rfl rfl rfl rfl rfl rfl rfl (nxt rfl) (fun ia h => by cases h; rfl) rfl rfl rfl OutW.cs),
                  .inr (.store 1 _ _ _ rfl rfl rfl rfl rfl rfl rfl rfl rfl (nxt rfl) (fun ia h => by cases h; rfl) rfl rfl rfl OutW.cs),
                  .inr (.store 2 _ _ _ rfl rfl rfl rfl rfl rfl rfl rfl rfl (nxt rfl) (fun ia h => by cases h; rfl) rfl rfl rfl OutW.cs),
                  .inr (.store 3 _ _ _ rfl rfl rfl rfl rfl rfl rfl rfl rfl (nxt rfl) (fun ia h => by cases h; rfl) rfl rfl rfl OutW.cs),
                  trivial⟩
              · exact fun _ _ h => by cases h
              · intro _ a9 w9 gs9 B9 T9 F_
                obtain ⟨hn9, hd9, hBt, hr, hR, hP, hTs, hLi, hX, hU, hRel, hSl⟩ := F_
                replace hn := hn9; replace hd := hd9.trans hd
                have lq9BK := BK.lt.2
                replace b2 := b2.keep5 hBt ⟨someNe, someNe, someNe, someNe, trivial⟩ trivial
                replace b3 := b3.keep5 hBt ⟨someNe, someNe, someNe, someNe, trivial⟩ trivial
                obtain ⟨lb10, lm10, lt10, ⟨n_10, a_10, c_10, r_10, e32', F10, l10⟩, lj10⟩ := hLi 2 (by decide) (by decide)
                have e32 : a9.eval (.tmp 32) = .agg #[.bool n_10, .slice a_10 r_10.length c_10] := e32'
                have G10 := F10.wh; have A10 := G10.ag
                have HT10 : SzGe (T9 2) w9 := lt10
                have b6 : BoxV W2 w9 (gs9 0) (.agg #[.bool n_10, .slice a_10 r_10.length c_10]) := boxv_of (hX 0 _ rfl).2.2.2 e32
                have f6 := (hX 0 _ rfl).1
                have v6 := (hX 0 _ rfl).2.2.1 (by simp)
                have u6 : w.heap.size ≤ gs9 0 := Nat.le_trans HB.size v6
                obtain ⟨lb11, lm11, lt11, ⟨n_11, a_11, c_11, r_11, e35', F11, l11⟩, lj11⟩ := hLi 5 (by decide) (by decide)
                have e35 : a9.eval (.tmp 35) = .agg #[.bool n_11, .slice a_11 r_11.length c_11] := e35'
                have G11 := F11.wh; have A11 := G11.ag
                have HT11 : SzGe (T9 5) w9 := lt11
                have b7 : BoxV W2 w9 (gs9 1) (.agg #[.bool n_11, .slice a_11 r_11.length c_11]) := boxv_of (hX 1 _ rfl).2.2.2 e35
                have f7 := (hX 1 _ rfl).1
                have v7 := (hX 1 _ rfl).2.2.1 (by simp)
                have u7 : w.heap.size ≤ gs9 1 := Nat.le_trans HB.size v7
                obtain ⟨lb12, lm12, lt12, ⟨n_12, a_12, c_12, r_12, e38', F12, l12⟩, lj12⟩ := hLi 8 (by decide) (by decide)
                have e38 : a9.eval (.tmp 38) = .agg #[.bool n_12, .slice a_12 r_12.length c_12] := e38'
                have G12 := F12.wh; have A12 := G12.ag
                have HT12 : SzGe (T9 8) w9 := lt12
                have b8 : BoxV W2 w9 (gs9 2) (.agg #[.bool n_12, .slice a_12 r_12.length c_12]) := boxv_of (hX 2 _ rfl).2.2.2 e38
                have f8 := (hX 2 _ rfl).1
                have v8 := (hX 2 _ rfl).2.2.1 (by simp)
                have u8 : w.heap.size ≤ gs9 2 := Nat.le_trans HB.size v8
                obtain ⟨lb13, lm13, lt13, ⟨n_13, a_13, c_13, r_13, e40', F13, l13⟩, lj13⟩ := hLi 10 (by decide) (by decide)
                have e40 : a9.eval (.tmp 40) = .agg #[.bool n_13, .slice a_13 r_13.length c_13] := e40'
                have G13 := F13.wh; have A13 := G13.ag
                have HT13 : SzGe (T9 10) w9 := lt13
                have b9 : BoxV W2 w9 (gs9 3) (.agg #[.bool n_13, .slice a_13 r_13.length c_13]) := boxv_of (hX 3 _ rfl).2.2.2 e40
                have f9 := (hX 3 _ rfl).1
                have v9 := (hX 3 _ rfl).2.2.1 (by simp)
                have u9 : w.heap.size ≤ gs9 3 := Nat.le_trans HB.size v9
                replace f2 := (hR 2 rfl).trans f2
                replace f3 := (hR 3 rfl).trans f3
                replace f4 := (hR 4 rfl).trans f4
                replace f5 := (hR 5 rfl).trans f5
                have hBl_ := hBt.below (Nat.le_refl _) (UpOld.all (bx := [⟨W2, some 11, 0, 6, .agg #[.bool false, .slice none 0 0], some (15, 32, 2), []⟩, ⟨W2, some 12, 0, 7, .agg #[.bool false, .slice none 0 0], some (16, 35, 5), []⟩, ⟨W2, some 13, 0, 8, .agg #[.bool false, .slice none 0 0], some (17, 38, 8), []⟩, ⟨W2, some 14, 0, 9, .agg #[.bool false, .slice none 0 0], some (18, 40, 10), []⟩]) ⟨someNe, someNe, someNe, someNe, trivial⟩) (UpX.all (bx := []) trivial)
                replace Ax := Ax.ru hr
                replace Tx := Tx.ru hr
                replace Ay := Ay.ru hr
                replace Ty := Ty.ru hr
                replace BK := BK.below hBl_
                replace HB := HB.trans (hBt.below HB.size (UpOld.all (bx := [⟨W2, some 11, 0, 6, .agg #[.bool false, .slice none 0 0], some (15, 32, 2), []⟩, ⟨W2, some 12, 0, 7, .agg #[.bool false, .slice none 0 0], some (16, 35, 5), []⟩, ⟨W2, some 13, 0, 8, .agg #[.bool false, .slice none 0 0], some (17, 38, 8), []⟩, ⟨W2, some 14, 0, 9, .agg #[.bool false, .slice none 0 0], some (18, 40, 10), []⟩]) ⟨someNe, someNe, someNe, someNe, trivial⟩) (UpX.all (bx := []) trivial))
                clear hBt hr hR hP hTs hLi hX hU hRel hSl
                refine wp_seq ?_
                refine wp_seq ?_
                refine region4 [some 10] [Eqs ((.int .i64 0))] [] [] (by kernel_rfl) hn rfl (by kernel_rfl) (by kernel_rfl) (by kernel_rfl) (by kernel_rfl) (by kernel_rfl) (by kernel_rfl) ⟨Eqs.mono4 _, trivial⟩ ok_nil (IsOld.all (bx := []) trivial) (DisOld.all (bx := []) trivial) ?_ ?_
                · exact ⟨.norm 10 rfl rfl rfl (fun a_ w_ hn_ hBt hr hR hD hO hS => op_assign rfl),
                    trivial⟩
                · intro a14 w14 gs14 hn14 hd14 hBt hr hR hP hX hU
                  replace hn := hn14; replace hd := hd14.trans hd
                  replace b2 := b2.keep hBt trivial
                  replace b3 := b3.keep hBt trivial
                  replace b6 := b6.keep hBt trivial
                  replace b7 := b7.keep hBt trivial
                  replace b8 := b8.keep hBt trivial
                  replace b9 := b9.keep hBt trivial
                  replace f2 := (hR 2 rfl).trans f2
                  replace f3 := (hR 3 rfl).trans f3
                  replace f4 := (hR 4 rfl).trans f4
                  replace f5 := (hR 5 rfl).trans f5
                  replace f6 := (hR 6 rfl).trans f6
                  replace f7 := (hR 7 rfl).trans f7
                  replace f8 := (hR 8 rfl).trans f8
                  replace f9 := (hR 9 rfl).trans f9
                  have e10 : a14.eval (.tmp 10) = (.int .i64 0) := hP 0 (by decide)
                  have f10 := e10
                  replace Ax := Ax.rl hr
                  replace Tx := Tx.rl hr
                  replace Ay := Ay.rl hr
                  replace Ty := Ty.rl hr
                  replace F10 := F10.rl hr
                  replace G10 := G10.rl hr
                  replace A10 := A10.rl hr
                  replace HT10 := HT10.rl hr
                  replace F11 := F11.rl hr
                  replace G11 := G11.rl hr
                  replace A11 := A11.rl hr
                  replace HT11 := HT11.rl hr
                  replace F12 := F12.rl hr
                  replace G12 := G12.rl hr
                  replace A12 := A12.rl hr
                  replace HT12 := HT12.rl hr
                  replace F13 := F13.rl hr
                  replace G13 := G13.rl hr
                  replace A13 := A13.rl hr
                  replace HT13 := HT13.rl hr
                  replace HB := HB.trans (hBt.below HB.size (UpOld.all (bx := []) trivial))
                  have hBl_ := hBt.below (Nat.le_refl _) (UpOld.all (bx := []) trivial)
                  replace BK := BK.below hBl_
                  clear hBt hr hR hP hX hU
                  refine wp_block ?_
                  obtain ⟨K0, hK0⟩ : ∃ k, k = w14.heap.size := ⟨_, rfl⟩
                  have HK : SzGe K0 w14 := Nat.le_of_eq hK0
                  have hWK : w.heap.size ≤ K0 := by rw [hK0]; exact HB.size
                  have hpK : pB < K0 := by rw [hK0]; exact BK.lt.2
                  have rt10 : (T9 2) ≤ K0 := by rw [hK0]; exact HT10
                  have rb10 : pB < (B9 2) := by omega
                  have rt11 : (T9 5) ≤ K0 := by rw [hK0]; exact HT11
                  have rb11 : pB < (B9 5) := by omega
                  have rt12 : (T9 8) ≤ K0 := by rw [hK0]; exact HT12
                  have rb12 : pB < (B9 8) := by omega
                  have rt13 : (T9 10) ≤ K0 := by rw [hK0]; exact HT13
                  have rb13 : pB < (B9 10) := by omega
                  have k2 : (gs1 0) < K0 := by rw [hK0]; exact b2.lt
                  have k3 : (gs1 1) < K0 := by rw [hK0]; exact b3.lt
                  have k6 : (gs9 0) < K0 := by rw [hK0]; exact b6.lt
                  have k7 : (gs9 1) < K0 := by rw [hK0]; exact b7.lt
                  have k8 : (gs9 2) < K0 := by rw [hK0]; exact b8.lt
                  have k9 : (gs9 3) < K0 := by rw [hK0]; exact b9.lt
                  refine wp_loop_ghost (fun n a w' => a.tmps.size = 136 ∧ a.defers = [] ∧ a.eval (.tmp 2) = .pointer (some ⟨gs1 0, 0, none⟩) ∧ a.eval (.tmp 3) = .pointer (some ⟨gs1 1, 0, none⟩) ∧ a.eval (.tmp 5) = .pointer (some ⟨pB, 0, none⟩) ∧ a.eval (.tmp 6) = .pointer (some ⟨gs9 0, 0, none⟩) ∧ a.eval (.tmp 7) = .pointer (some ⟨gs9 1, 0, none⟩) ∧ a.eval (.tmp 8) = .pointer (some ⟨gs9 2, 0, none⟩) ∧ a.eval (.tmp 9) = .pointer (some ⟨gs9 3, 0, none⟩) ∧ BoxV W2 w' (gs1 0) (.agg #[.bool nx, .slice ax mx cx]) ∧ BoxV W2 w' (gs1 1) (.agg #[.bool ny, .slice ay my cy]) ∧ BoxV W2 w' (gs9 0) (.agg #[.bool n_10, .slice a_10 r_10.length c_10]) ∧ BoxV W2 w' (gs9 1) (.agg #[.bool n_11, .slice a_11 r_11.length c_11]) ∧ BoxV W2 w' (gs9 2) (.agg #[.bool n_12, .slice a_12 r_12.length c_12]) ∧ BoxV W2 w' (gs9 3) (.agg #[.bool n_13, .slice a_13 r_13.length c_13]) ∧ Below w.heap.size w w' ∧ SzGe K0 w' ∧ Dm.WFr (B9 2) (T9 2) w' n_10 a_10 c_10 r_10 ((zx + zy)) ∧ Dm.WFr (B9 5) (T9 5) w' n_11 a_11 c_11 r_11 ((zx - zy)) ∧ Dm.WFr (B9 8) (T9 8) w' n_12 a_12 c_12 r_12 ((zx * zy)) ∧ Dm.WFr (B9 10) (T9 10) w' n_13 a_13 c_13 r_13 ((-zx)) ∧ ∃ ii : Nat, n + ii = 2 ∧ a.eval (.tmp 10) = .int .i64 (ii : Int) ∧ ∃ bs, Bs w' pB w.heap.size bs (4 * ii) ∧ ∀ j ∈ bs, K0 ≤ j) 2 ⟨hn, hd, f2, f3, f5, f6, f7, f8, f9, b2, b3, b6, b7, b8, b9, HB, HK, F10, F11, F12, F13, 0, rfl, f10, [], BK, fun j hj => by cases hj⟩ ?_
                  clear hn hd f2 f3 f5 f6 f7 f8 f9 b2 b3 b6 b7 b8 b9 HB HK f10 BK Ax Tx Ay Ty F10 G10 A10 HT10 F11 G11 A11 HT11 F12 G12 A12 HT12 F13 G13 A13 HT13
                  rintro n a15 w15 ⟨hn, hd, f2, f3, f5, f6, f7, f8, f9, b2, b3, b6, b7, b8, b9, HB, HK, F10, F11, F12, F13, ii, hii, f10, bs, BK, hbs0⟩
                  obtain ⟨KR, hKR⟩ : ∃ k, k = w15.heap.size := ⟨_, rfl⟩
                  have HR : SzGe KR w15 := Nat.le_of_eq hKR
                  have hKKR : K0 ≤ KR := by rw [hKR]; exact HK
                  have hbs : ∀ j ∈ bs, K0 ≤ j ∧ j < KR := fun j hj => ⟨hbs0 j hj, by rw [hKR]; exact (BK.low j hj).2⟩
                  have Ax := Ax0.below HB; have Tx := Ax.sl
                  have Ay := Ay0.below HB; have Ty := Ay.sl
                  have G10 := F10.wh; have A10 := G10.ag
                  have G11 := F11.wh; have A11 := G11.ag
                  have G12 := F12.wh; have A12 := G12.ag
                  have G13 := F13.wh; have A13 := G13.ag
                  refine wp_seq ?_
                  refine wp_seq ?_
                  refine region4 [some 41, some 42] [Eqs (.int .i64 (ii : Int)), Eqs (.bool (decide ((ii : Int) < 2)))] [] [] (by kernel_rfl) hn rfl (by kernel_rfl) (by kernel_rfl) (by kernel_rfl) (by kernel_rfl) (by kernel_rfl) (by kernel_rfl) ⟨Eqs.mono4 _, Eqs.mono4 _, trivial⟩ ok_nil (IsOld.all (bx := []) trivial) (DisOld.all (bx := []) trivial) ?_ ?_
                  · exact ⟨.norm 41 rfl rfl rfl (fun a_ w_ hn_ hBt hr hR hD hO hS => op_mv ((hR 10 rfl).trans f10)),
                      .norm 42 rfl rfl rfl (fun a_ w_ hn_ hBt hr hR hD hO hS => op_lssk (show a_.eval (.tmp 41) = .int .i64 (ii : Int) from hD 0 rfl)),
                      trivial⟩
                  · intro a16 w16 gs16 hn16 hd16 hBt hr hR hP hX hU
                    replace hn := hn16; replace hd := hd16.trans hd
                    replace b2 := b2.keep hBt trivial
                    replace b3 := b3.keep hBt trivial
                    replace b6 := b6.keep hBt trivial
                    replace b7 := b7.keep hBt trivial
                    replace b8 := b8.keep hBt trivial
                    replace b9 := b9.keep hBt trivial
                    replace f2 := (hR 2 rfl).trans f2
                    replace f3 := (hR 3 rfl).trans f3
                    replace f5 := (hR 5 rfl).trans f5
                    replace f6 := (hR 6 rfl).trans f6
                    replace f7 := (hR 7 rfl).trans f7
                    replace f8 := (hR 8 rfl).trans f8
                    replace f9 := (hR 9 rfl).trans f9
                    replace f10 := (hR 10 rfl).trans f10
                    have e42 : a16.eval (.tmp 42) = .bool (decide ((ii : Int) < 2)) := hP 1 (by decide)
                    have f42 := e42
                    replace Ax := Ax.rl hr
                    replace Tx := Tx.rl hr
                    replace Ay := Ay.rl hr
                    replace Ty := Ty.rl hr
                    replace F10 := F10.rl hr
                    replace G10 := G10.rl hr
                    replace A10 := A10.rl hr
                    replace F11 := F11.rl hr
                    replace G11 := G11.rl hr
                    replace A11 := A11.rl hr
                    replace F12 := F12.rl hr
                    replace G12 := G12.rl hr
                    replace A12 := A12.rl hr
                    replace F13 := F13.rl hr
                    replace G13 := G13.rl hr
                    replace A13 := A13.rl hr
                    replace HK := HK.rl hr
                    replace HR := HR.rl hr
                    replace HB := HB.trans (hBt.below HB.size (UpOld.all (bx := []) trivial))
                    have hBl_ := hBt.below (Nat.le_refl _) (UpOld.all (bx := []) trivial)
                    replace BK := BK.below hBl_
                    clear hBt hr hR hP hX hU
                    refine wp_cond_split f42 (fun hc42 => ?_) (fun hc42 => ?_)
                    · skip
                      have hc42' := of_decide_eq_true hc42
                      refine wp_skip ?_
                      refine wp_seq ?_
                      refine wp_block ?_
                      refine wp_seq ?_
                      refine wp_of_good (by kernel_rfl) (by kernel_rfl) (fun w_0 hb_0 => ?_)
                      replace b2 := b2.below hb_0
                      replace b3 := b3.below hb_0
                      replace b6 := b6.below hb_0
                      replace b7 := b7.below hb_0
                      replace b8 := b8.below hb_0
                      replace b9 := b9.below hb_0
                      replace Ax := Ax.below hb_0
                      replace Tx := Tx.below hb_0
                      replace Ay := Ay.below hb_0
                      replace Ty := Ty.below hb_0
                      replace F10 := F10.below hb_0
                      replace G10 := G10.below hb_0
                      replace A10 := A10.below hb_0
                      replace F11 := F11.below hb_0
                      replace G11 := G11.below hb_0
                      replace A11 := A11.below hb_0
                      replace F12 := F12.below hb_0
                      replace G12 := G12.below hb_0
                      replace A12 := A12.below hb_0
                      replace F13 := F13.below hb_0
                      replace G13 := G13.below hb_0
                      replace A13 := A13.below hb_0
                      replace HK := HK.below hb_0
                      replace HR := HR.below hb_0
                      replace BK := BK.below hb_0
                      replace HB := HB.trans (hb_0.mono HB.size); clear hb_0
                      refine good6 0 0 (some 0) [some 11, some 12] [(fun _ _ => True), (fun _ _ => True)] [] [] [] [] [] (by kernel_rfl) hn rfl (by kernel_rfl) (by kernel_rfl) (by kernel_rfl) (by kernel_rfl) (by kernel_rfl) (by kernel_rfl) (by kernel_rfl) (by kernel_rfl) (by kernel_rfl) (by decide) ⟨True.mono5, True.mono5, trivial⟩ trivial xok_nil ok_nil (IsOld.all (bx := []) trivial) (DisOld.all (bx := []) trivial) trivial ?_ ?_ ?_
                      · exact ⟨.inl rfl,
                          .inl rfl,
                          trivial⟩
                      rotate_left
                      · exact fun h => by cases h
                      · intro t_ o_ ht_ ho_ a17 w17 gs17 B17 T17 F_
                        obtain rfl := Option.some.inj ht_; obtain rfl := Option.some.inj ho_; clear ht_ ho_
                        obtain ⟨hn17, hd17, hBt, hr, hR, hP, hTs, hLi, hX, hU, hRel, hSl⟩ := F_
                        replace hn := hn17; replace hd := hd17.trans hd
                        have lq17HK := HK.le
                        have lq17HR := HR.le
                        have lq17BK := BK.lt.2
                        replace b2 := b2.keep5 hBt trivial trivial
                        replace b3 := b3.keep5 hBt trivial trivial
                        replace b6 := b6.keep5 hBt trivial trivial
                        replace b7 := b7.keep5 hBt trivial trivial
                        replace b8 := b8.keep5 hBt trivial trivial
                        replace b9 := b9.keep5 hBt trivial trivial
                        replace f2 := (hR 2 rfl).trans f2
                        replace f3 := (hR 3 rfl).trans f3
                        replace f5 := (hR 5 rfl).trans f5
                        replace f6 := (hR 6 rfl).trans f6
                        replace f7 := (hR 7 rfl).trans f7
                        replace f8 := (hR 8 rfl).trans f8
                        replace f9 := (hR 9 rfl).trans f9
                        replace f10 := (hR 10 rfl).trans f10
                        have hBl_ := hBt.below (Nat.le_refl _) (UpOld.all (bx := []) trivial) (UpX.all (bx := []) trivial)
                        replace Ax := Ax.ru hr
                        replace Tx := Tx.ru hr
                        replace Ay := Ay.ru hr
                        replace Ty := Ty.ru hr
                        replace F10 := F10.ru hr
                        replace G10 := G10.ru hr
                        replace A10 := A10.ru hr
                        replace F11 := F11.ru hr
                        replace G11 := G11.ru hr
                        replace A11 := A11.ru hr
                        replace F12 := F12.ru hr
                        replace G12 := G12.ru hr
                        replace A12 := A12.ru hr
                        replace F13 := F13.ru hr
                        replace G13 := G13.ru hr
                        replace A13 := A13.ru hr
                        replace HK := HK.ru hr
                        replace HR := HR.ru hr
                        replace BK := BK.below hBl_
                        replace HB := HB.trans (hBt.below HB.size (UpOld.all (bx := []) trivial) (UpX.all (bx := []) trivial))
                        clear hBt hr hR hP hTs hLi hX hU hRel hSl
                        refine ⟨trivial, op_lendn.mono ?_⟩
                        rintro v_ w18 ⟨rfl, LNh, hbN⟩
                        obtain ⟨gLh, hgh⟩ : ∃ g, g = w17.heap.size := ⟨_, rfl⟩
                        rw [← hgh] at LNh ⊢
                        have uLh : w.heap.size ≤ gLh := by rw [hgh]; exact HB.size
                        have kLh : KR ≤ gLh := by rw [hgh]; exact HR
                        replace b2 := b2.below hbN
                        replace b3 := b3.below hbN
                        replace b6 := b6.below hbN
                        replace b7 := b7.below hbN
                        replace b8 := b8.below hbN
                        replace b9 := b9.below hbN
                        replace Ax := Ax.below hbN
                        replace Tx := Tx.below hbN
                        replace Ay := Ay.below hbN
                        replace Ty := Ty.below hbN
                        replace F10 := F10.below hbN
                        replace G10 := G10.below hbN
                        replace A10 := A10.below hbN
                        replace F11 := F11.below hbN
                        replace G11 := G11.below hbN
                        replace A11 := A11.below hbN
                        replace F12 := F12.below hbN
                        replace G12 := G12.below hbN
                        replace A12 := A12.below hbN
                        replace F13 := F13.below hbN
                        replace G13 := G13.below hbN
                        replace A13 := A13.below hbN
                        replace HK := HK.below hbN
                        replace HR := HR.below hbN
                        replace BK := BK.below hbN
                        replace HB := HB.trans (hbN.mono HB.size); clear hbN
                        change Good _ _ _ _ _ (Act.put a17 (some 11) (.pointer (some ⟨gLh, 0, none⟩))) _
                        have q_ : 11 < a17.tmps.size := by rw [hn]; decide
                        generalize hA_ : Act.put a17 (some 11) (.pointer (some ⟨gLh, 0, none⟩)) = a19
                        replace hn : a19.tmps.size = 136 := by rw [← hA_, put_tmps]; simp [hn]
                        replace hd : a19.defers = [] := by rw [← hA_]; exact hd
                        replace f2 : a19.eval (.tmp 2) = .pointer (some ⟨gs1 0, 0, none⟩) := by rw [← hA_]; exact (eval_put_ne (by decide)).trans f2
                        replace f3 : a19.eval (.tmp 3) = .pointer (some ⟨gs1 1, 0, none⟩) := by rw [← hA_]; exact (eval_put_ne (by decide)).trans f3
                        replace f5 : a19.eval (.tmp 5) = .pointer (some ⟨pB, 0, none⟩) := by rw [← hA_]; exact (eval_put_ne (by decide)).trans f5
                        replace f6 : a19.eval (.tmp 6) = .pointer (some ⟨gs9 0, 0, none⟩) := by rw [← hA_]; exact (eval_put_ne (by decide)).trans f6
                        replace f7 : a19.eval (.tmp 7) = .pointer (some ⟨gs9 1, 0, none⟩) := by rw [← hA_]; exact (eval_put_ne (by decide)).trans f7
                        replace f8 : a19.eval (.tmp 8) = .pointer (some ⟨gs9 2, 0, none⟩) := by rw [← hA_]; exact (eval_put_ne (by decide)).trans f8
                        replace f9 : a19.eval (.tmp 9) = .pointer (some ⟨gs9 3, 0, none⟩) := by rw [← hA_]; exact (eval_put_ne (by decide)).trans f9
                        replace f10 : a19.eval (.tmp 10) = .int .i64 (ii : Int) := by rw [← hA_]; exact (eval_put_ne (by decide)).trans f10
                        have f11 : a19.eval (.tmp 11) = .pointer (some ⟨gLh, 0, none⟩) := by rw [← hA_]; exact eval_put_same q_
                        clear q_
                        clear hA_
                        refine good6 1 1 (some 1) [some 11, some 12] [Eqs (.pointer (some ⟨gLh, 0, none⟩)), (fun _ _ => True)] [] [] [] [] [] (by kernel_rfl) hn rfl (by kernel_rfl) (by kernel_rfl) (by kernel_rfl) (by kernel_rfl) (by kernel_rfl) (by kernel_rfl) (by kernel_rfl) (by kernel_rfl) (by kernel_rfl) (by decide) ⟨Eqs.mono5 _, True.mono5, trivial⟩ trivial xok_nil ok_nil (IsOld.all (bx := []) trivial) (DisOld.all (bx := []) trivial) ⟨trivial, f11⟩ ?_ ?_ ?_
                        · exact ⟨.inl rfl,
                            .inl rfl,
                            trivial⟩
                        rotate_left
                        · exact fun h => by cases h
                        · intro t_ o_ ht_ ho_ a20 w20 gs20 B20 T20 F_
                          obtain rfl := Option.some.inj ht_; obtain rfl := Option.some.inj ho_; clear ht_ ho_
                          obtain ⟨hn20, hd20, hBt, hr, hR, hP, hTs, hLi, hX, hU, hRel, hSl⟩ := F_
                          replace hn := hn20; replace hd := hd20.trans hd
                          have lq20HK := HK.le
                          have lq20HR := HR.le
                          have lq20BK := BK.lt.2
                          replace b2 := b2.keep5 hBt trivial trivial
                          replace b3 := b3.keep5 hBt trivial trivial
                          replace b6 := b6.keep5 hBt trivial trivial
                          replace b7 := b7.keep5 hBt trivial trivial
                          replace b8 := b8.keep5 hBt trivial trivial
                          replace b9 := b9.keep5 hBt trivial trivial
                          replace f2 := (hR 2 rfl).trans f2
                          replace f3 := (hR 3 rfl).trans f3
                          replace f5 := (hR 5 rfl).trans f5
                          replace f6 := (hR 6 rfl).trans f6
                          replace f7 := (hR 7 rfl).trans f7
                          replace f8 := (hR 8 rfl).trans f8
                          replace f9 := (hR 9 rfl).trans f9
                          replace f10 := (hR 10 rfl).trans f10
                          have e11 : a20.eval (.tmp 11) = .pointer (some ⟨gLh, 0, none⟩) := hP 0 (by decide)
                          have f11 := e11
                          have hBl_ := hBt.below (Nat.le_refl _) (UpOld.all (bx := []) trivial) (UpX.all (bx := []) trivial)
                          replace Ax := Ax.ru hr
                          replace Tx := Tx.ru hr
                          replace Ay := Ay.ru hr
                          replace Ty := Ty.ru hr
                          replace F10 := F10.ru hr
                          replace G10 := G10.ru hr
                          replace A10 := A10.ru hr
                          replace F11 := F11.ru hr
                          replace G11 := G11.ru hr
                          replace A11 := A11.ru hr
                          replace F12 := F12.ru hr
                          replace G12 := G12.ru hr
                          replace A12 := A12.ru hr
                          replace F13 := F13.ru hr
                          replace G13 := G13.ru hr
                          replace A13 := A13.ru hr
                          replace HK := HK.ru hr
                          replace HR := HR.ru hr
                          replace BK := BK.below hBl_
                          replace LNh := LNh.below hBl_
                          replace HB := HB.trans (hBt.below HB.size (UpOld.all (bx := []) trivial) (UpX.all (bx := []) trivial))
                          clear hBt hr hR hP hTs hLi hX hU hRel hSl
                          refine ⟨trivial, op_lendn.mono ?_⟩
                          rintro v_ w21 ⟨rfl, LNk, hbN⟩
                          obtain ⟨gLk, hgk⟩ : ∃ g, g = w20.heap.size := ⟨_, rfl⟩
                          rw [← hgk] at LNk ⊢
                          have uLk : w.heap.size ≤ gLk := by rw [hgk]; exact HB.size
                          have kLk : KR ≤ gLk := by rw [hgk]; exact HR
                          have nLhk : gLh ≠ gLk := by have := LNh.lt; omega
                          replace b2 := b2.below hbN
                          replace b3 := b3.below hbN
                          replace b6 := b6.below hbN
                          replace b7 := b7.below hbN
                          replace b8 := b8.below hbN
                          replace b9 := b9.below hbN
                          replace Ax := Ax.below hbN
                          replace Tx := Tx.below hbN
                          replace Ay := Ay.below hbN
                          replace Ty := Ty.below hbN
                          replace F10 := F10.below hbN
                          replace G10 := G10.below hbN
                          replace A10 := A10.below hbN
                          replace F11 := F11.below hbN
                          replace G11 := G11.below hbN
                          replace A11 := A11.below hbN
                          replace F12 := F12.below hbN
                          replace G12 := G12.below hbN
                          replace A12 := A12.below hbN
                          replace F13 := F13.below hbN
                          replace G13 := G13.below hbN
                          replace A13 := A13.below hbN
                          replace HK := HK.below hbN
                          replace HR := HR.below hbN
                          replace BK := BK.below hbN
                          replace LNh := LNh.below hbN
                          replace HB := HB.trans (hbN.mono HB.size); clear hbN
                          change Good _ _ _ _ _ (Act.put a20 (some 12) (.pointer (some ⟨gLk, 0, none⟩))) _
                          have q_ : 12 < a20.tmps.size := by rw [hn]; decide
                          generalize hA_ : Act.put a20 (some 12) (.pointer (some ⟨gLk, 0, none⟩)) = a22
                          replace hn : a22.tmps.size = 136 := by rw [← hA_, put_tmps]; simp [hn]
                          replace hd : a22.defers = [] := by rw [← hA_]; exact hd
                          replace f2 : a22.eval (.tmp 2) = .pointer (some ⟨gs1 0, 0, none⟩) := by rw [← hA_]; exact (eval_put_ne (by decide)).trans f2
                          replace f3 : a22.eval (.tmp 3) = .pointer (some ⟨gs1 1, 0, none⟩) := by rw [← hA_]; exact (eval_put_ne (by decide)).trans f3
                          replace f5 : a22.eval (.tmp 5) = .pointer (some ⟨pB, 0, none⟩) := by rw [← hA_]; exact (eval_put_ne (by decide)).trans f5
                          replace f6 : a22.eval (.tmp 6) = .pointer (some ⟨gs9 0, 0, none⟩) := by rw [← hA_]; exact (eval_put_ne (by decide)).trans f6
                          replace f7 : a22.eval (.tmp 7) = .pointer (some ⟨gs9 1, 0, none⟩) := by rw [← hA_]; exact (eval_put_ne (by decide)).trans f7
                          replace f8 : a22.eval (.tmp 8) = .pointer (some ⟨gs9 2, 0, none⟩) := by rw [← hA_]; exact (eval_put_ne (by decide)).trans f8
                          replace f9 : a22.eval (.tmp 9) = .pointer (some ⟨gs9 3, 0, none⟩) := by rw [← hA_]; exact (eval_put_ne (by decide)).trans f9
                          replace f10 : a22.eval (.tmp 10) = .int .i64 (ii : Int) := by rw [← hA_]; exact (eval_put_ne (by decide)).trans f10
                          replace f11 : a22.eval (.tmp 11) = .pointer (some ⟨gLh, 0, none⟩) := by rw [← hA_]; exact (eval_put_ne (by decide)).trans f11
                          have f12 : a22.eval (.tmp 12) = .pointer (some ⟨gLk, 0, none⟩) := by rw [← hA_]; exact eval_put_same q_
                          clear q_
                          clear hA_
                          refine good6 2 2 none [some 11, some 12] [Eqs (.pointer (some ⟨gLh, 0, none⟩)), Eqs (.pointer (some ⟨gLk, 0, none⟩))] [] [] [] [] [] (by kernel_rfl) hn rfl (by kernel_rfl) (by kernel_rfl) (by kernel_rfl) (by kernel_rfl) (by kernel_rfl) (by kernel_rfl) (by kernel_rfl) (by kernel_rfl) (by kernel_rfl) (by decide) ⟨Eqs.mono5 _, Eqs.mono5 _, trivial⟩ trivial xok_nil ok_nil (IsOld.all (bx := []) trivial) (DisOld.all (bx := []) trivial) ⟨⟨trivial, f11⟩, f12⟩ ?_ ?_ ?_
                          · exact ⟨.inl rfl,
                              .inl rfl,
                              trivial⟩
                          · exact fun _ _ h => by cases h
                          · intro _ a23 w23 gs23 B23 T23 F_
                            obtain ⟨hn23, hd23, hBt, hr, hR, hP, hTs, hLi, hX, hU, hRel, hSl⟩ := F_
                            replace hn := hn23; replace hd := hd23.trans hd
                            have lq23HK := HK.le
                            have lq23HR := HR.le
                            have lq23BK := BK.lt.2
                            replace b2 := b2.keep5 hBt trivial trivial
                            replace b3 := b3.keep5 hBt trivial trivial
                            replace b6 := b6.keep5 hBt trivial trivial
                            replace b7 := b7.keep5 hBt trivial trivial
                            replace b8 := b8.keep5 hBt trivial trivial
                            replace b9 := b9.keep5 hBt trivial trivial
                            replace f2 := (hR 2 rfl).trans f2
                            replace f3 := (hR 3 rfl).trans f3
                            replace f5 := (hR 5 rfl).trans f5
                            replace f6 := (hR 6 rfl).trans f6
                            replace f7 := (hR 7 rfl).trans f7
                            replace f8 := (hR 8 rfl).trans f8
                            replace f9 := (hR 9 rfl).trans f9
                            replace f10 := (hR 10 rfl).trans f10
                            have e11 : a23.eval (.tmp 11) = .pointer (some ⟨gLh, 0, none⟩) := hP 0 (by decide)
                            have f11 := e11
                            have e12 : a23.eval (.tmp 12) = .pointer (some ⟨gLk, 0, none⟩) := hP 1 (by decide)
                            have f12 := e12
                            have hBl_ := hBt.below (Nat.le_refl _) (UpOld.all (bx := []) trivial) (UpX.all (bx := []) trivial)
                            replace Ax := Ax.ru hr
                            replace Tx := Tx.ru hr
                            replace Ay := Ay.ru hr
                            replace Ty := Ty.ru hr
                            replace F10 := F10.ru hr
                            replace G10 := G10.ru hr
                            replace A10 := A10.ru hr
                            replace F11 := F11.ru hr
                            replace G11 := G11.ru hr
                            replace A11 := A11.ru hr
                            replace F12 := F12.ru hr
                            replace G12 := G12.ru hr
                            replace A12 := A12.ru hr
                            replace F13 := F13.ru hr
                            replace G13 := G13.ru hr
                            replace A13 := A13.ru hr
                            replace HK := HK.ru hr
                            replace HR := HR.ru hr
                            replace BK := BK.below hBl_
                            replace LNh := LNh.below hBl_
                            replace LNk := LNk.below hBl_
                            replace HB := HB.trans (hBt.below HB.size (UpOld.all (bx := []) trivial) (UpX.all (bx := []) trivial))
                            clear hBt hr hR hP hTs hLi hX hU hRel hSl
                            refine wp_seq ?_
                            refine wp_of_good (by kernel_rfl) (by kernel_rfl) (fun w_0 hb_0 => ?_)
                            replace b2 := b2.below hb_0
                            replace b3 := b3.below hb_0
                            replace b6 := b6.below hb_0
                            replace b7 := b7.below hb_0
                            replace b8 := b8.below hb_0
                            replace b9 := b9.below hb_0
                            replace Ax := Ax.below hb_0
                            replace Tx := Tx.below hb_0
                            replace Ay := Ay.below hb_0
                            replace Ty := Ty.below hb_0
                            replace F10 := F10.below hb_0
                            replace G10 := G10.below hb_0
                            replace A10 := A10.below hb_0
                            replace F11 := F11.below hb_0
                            replace G11 := G11.below hb_0
                            replace A11 := A11.below hb_0
                            replace F12 := F12.below hb_0
                            replace G12 := G12.below hb_0
                            replace A12 := A12.below hb_0
                            replace F13 := F13.below hb_0
                            replace G13 := G13.below hb_0
                            replace A13 := A13.below hb_0
                            replace HK := HK.below hb_0
                            replace HR := HR.below hb_0
                            replace BK := BK.below hb_0
                            replace LNh := LNh.below hb_0
                            replace LNk := LNk.below hb_0
                            replace HB := HB.trans (hb_0.mono HB.size); clear hb_0
                            have nx2 : (gs1 0) ≠ gLh := lendn_ne LNh b2
                            have nx3 : (gs1 1) ≠ gLh := lendn_ne LNh b3
                            have nx6 : (gs9 0) ≠ gLh := lendn_ne LNh b6
                            have nx7 : (gs9 1) ≠ gLh := lendn_ne LNh b7
                            have nx8 : (gs9 2) ≠ gLh := lendn_ne LNh b8
                            have nx9 : (gs9 3) ≠ gLh := lendn_ne LNh b9
                            refine good6 0 8 none [some 45, some 46, some 47, some 48, some 49, some 50, some 13, none] [Eqs (.pointer (some ⟨gs1 0, 0, none⟩)), Eqs (.bool nx), Eqs (.pointer (some ⟨gs1 0, 1, none⟩)), Eqs (.slice ax mx cx), IsL ((val xs)) (xs.length), IsW ((sg nx (val xs))) (xs.length), (fun _ _ => True), (fun _ _ => True)] [] [(5, 4, fun v u => u = .agg #[.bool nx, v])] [⟨W2, some 6, 0, 13, .agg #[.bool false, .slice none 0 0], some (7, 50, 5), []⟩] [⟨4, gLh, LentS gLh w_0.heap.size xs⟩] [] (by kernel_rfl) hn rfl (by kernel_rfl) (by kernel_rfl) (by kernel_rfl) (by kernel_rfl) (by kernel_rfl) (by kernel_rfl) (by kernel_rfl) (by kernel_rfl) (by kernel_rfl) (by decide) ⟨Eqs.mono5 _, Eqs.mono5 _, Eqs.mono5 _, Eqs.mono5 _, IsL.mono5 _ _, IsW.mono5 _ _, True.mono5, True.mono5, trivial⟩ trivial (xok_one LNh.lt (NeOld.all (bx := [⟨W2, some 6, 0, 13, .agg #[.bool false, .slice none 0 0], some (7, 50, 5), []⟩]) ⟨someNe, trivial⟩) LentS.pres) (ok_cons W2ok ok_nil) (IsOld.all (bx := [⟨W2, some 6, 0, 13, .agg #[.bool false, .slice none 0 0], some (7, 50, 5), []⟩]) ⟨someNe, trivial⟩) (DisOld.all (bx := [⟨W2, some 6, 0, 13, .agg #[.bool false, .slice none 0 0], some (7, 50, 5), []⟩]) ⟨someNe, trivial⟩) trivial ?_ ?_ ?_
                            · exact ⟨.inr (.norm 45 rfl rfl (nxt rfl) rfl (fun a_ w_ hn_ hBt hr hR hD hO hS => d6 rfl (op_fa fa_neg ((hR 2 rfl).trans f2)))),
                                .inr (.norm 46 rfl rfl (nxt rfl) rfl (fun a_ w_ hn_ hBt hr hR hD hO hS => d6 rfl (op_ldneg (show a_.eval (.tmp 45) = .pointer (some ⟨gs1 0, 0, none⟩) from hD 0 rfl) (b2.keep5 hBt ⟨someNe, trivial⟩ ⟨(nx2).symm, trivial⟩)))),
                                .inr (.norm 47 rfl rfl (nxt rfl) rfl (fun a_ w_ hn_ hBt hr hR hD hO hS => d6 rfl (op_fa fa_mag ((hR 2 rfl).trans f2)))),
                                .inr (.norm 48 rfl rfl (nxt rfl) rfl (fun a_ w_ hn_ hBt hr hR hD hO hS => d6 rfl (op_ldmag (show a_.eval (.tmp 47) = .pointer (some ⟨gs1 0, 1, none⟩) from hD 2 rfl) (b2.keep5 hBt ⟨someNe, trivial⟩ ⟨(nx2).symm, trivial⟩)))),
                                .inr (.touch _ (List.mem_singleton.2 rfl) rfl 49 rfl rfl rfl rfl (fun a_ w_ hn_ hBt hr hR hD hO hS hm_ => op_lend (gL := gLh) rfl ((hR 11 rfl).trans f11) (show a_.eval (.tmp 48) = .slice ax mx cx from hD 3 rfl) (hm_.trans LNh) (Ax0.below (HB.trans (hBt.below HB.size (UpOld.all (bx := [⟨W2, some 6, 0, 13, .agg #[.bool false, .slice none 0 0], some (7, 50, 5), []⟩]) ⟨someNe, trivial⟩) (UpX.all (bx := [⟨4, gLh, LentS gLh w_0.heap.size xs⟩]) ⟨uLh, trivial⟩)))).sl (by omega) (fun h0 b off e => by have := Ax0.sl.lt h0 b off e; omega) hBt.size)),
                                .inr (.norm 50 rfl rfl (nxt rfl) rfl (fun a_ w_ hn_ hBt hr hR hD hO hS => op_bWl rfl (show a_.eval (.tmp 46) = .bool nx from hD 1 rfl) (show IsL ((val xs)) (xs.length) (a_.eval (.tmp 49)) w_ from hD 4 rfl))),
                                .inr (.alloc 0 _ rfl rfl (.inl ⟨rfl, rfl⟩) rfl rfl rfl rfl rfl (nxt rfl) rfl rfl),
                                .inr (.store 0 _ _ _ rfl rfl rfl rfl rfl rfl rfl rfl rfl (nxt rfl) (fun ia h => by cases h; rfl) rfl rfl rfl IsW.cs),
                                trivial⟩
                            · exact fun _ _ h => by cases h
                            · intro _ a24 w24 gs24 B24 T24 F_
                              obtain ⟨hn24, hd24, hBt, hr, hR, hP, hTs, hLi, hX, hU, hRel, hSl⟩ := F_
                              replace hn := hn24; replace hd := hd24.trans hd
                              have lq24HK := HK.le
                              have lq24HR := HR.le
                              have lq24BK := BK.lt.2
                              replace b2 := b2.keep5 hBt ⟨someNe, trivial⟩ ⟨(nx2).symm, trivial⟩
                              replace b3 := b3.keep5 hBt ⟨someNe, trivial⟩ ⟨(nx3).symm, trivial⟩
                              replace b6 := b6.keep5 hBt ⟨someNe, trivial⟩ ⟨(nx6).symm, trivial⟩
                              replace b7 := b7.keep5 hBt ⟨someNe, trivial⟩ ⟨(nx7).symm, trivial⟩
                              replace b8 := b8.keep5 hBt ⟨someNe, trivial⟩ ⟨(nx8).symm, trivial⟩
                              replace b9 := b9.keep5 hBt ⟨someNe, trivial⟩ ⟨(nx9).symm, trivial⟩
                              obtain ⟨gx, e49, LSh, ugx, lgx⟩ := hTs _ (List.mem_singleton.2 rfl) (show 4 < 8 by decide)
                              have uwx : w.heap.size ≤ gx := Nat.le_trans HB.size ugx
                              have kgx : KR ≤ gx := Nat.le_trans HR.le ugx
                              have e50 : a24.eval (.tmp 50) = .agg #[.bool nx, .slice (some ⟨gx, 5, none⟩) xs.length (xs.length + 5)] := (show a24.eval (.tmp 50) = .agg #[.bool nx, a24.eval (.tmp 49)] from hRel _ (List.mem_singleton.2 rfl) (show 0 ≤ 5 by decide) (show 5 < 8 by decide)).trans (by rw [show a24.eval (.tmp 49) = _ from e49])
                              have ALx : Ag w24 nx (some ⟨gx, 5, none⟩) xs.length (xs.length + 5) xs zx := ⟨LSh.sl (by omega), Ax0.worth⟩
                              have b13 : BoxV W2 w24 (gs24 0) (.agg #[.bool nx, .slice (some ⟨gx, 5, none⟩) xs.length (xs.length + 5)]) := boxv_of (hX 0 _ rfl).2.2.2 e50
                              have f13 := (hX 0 _ rfl).1
                              have v13 := (hX 0 _ rfl).2.2.1 (by simp)
                              have u13 : w.heap.size ≤ gs24 0 := Nat.le_trans HB.size v13
                              replace f2 := (hR 2 rfl).trans f2
                              replace f3 := (hR 3 rfl).trans f3
                              replace f5 := (hR 5 rfl).trans f5
                              replace f6 := (hR 6 rfl).trans f6
                              replace f7 := (hR 7 rfl).trans f7
                              replace f8 := (hR 8 rfl).trans f8
                              replace f9 := (hR 9 rfl).trans f9
                              replace f10 := (hR 10 rfl).trans f10
                              replace f11 := (hR 11 rfl).trans f11
                              replace f12 := (hR 12 rfl).trans f12
                              have hTt_ := But5.touch1 (bx := [⟨W2, some 6, 0, 13, .agg #[.bool false, .slice none 0 0], some (7, 50, 5), []⟩]) hBt ⟨someNe, trivial⟩
                              replace Ax := Ax.ru hr
                              replace Tx := Tx.ru hr
                              replace Ay := Ay.ru hr
                              replace Ty := Ty.ru hr
                              replace F10 := F10.ru hr
                              replace G10 := G10.ru hr
                              replace A10 := A10.ru hr
                              replace F11 := F11.ru hr
                              replace G11 := G11.ru hr
                              replace A11 := A11.ru hr
                              replace F12 := F12.ru hr
                              replace G12 := G12.ru hr
                              replace A12 := A12.ru hr
                              replace F13 := F13.ru hr
                              replace G13 := G13.ru hr
                              replace A13 := A13.ru hr
                              replace HK := HK.ru hr
                              replace HR := HR.ru hr
                              replace BK := BK.touch hTt_ (by omega) (fun h => by have := hbs _ h; omega)
                              replace LNk := LNk.touch hTt_ (nLhk).symm
                              replace HB := HB.trans (hBt.below HB.size (UpOld.all (bx := [⟨W2, some 6, 0, 13, .agg #[.bool false, .slice none 0 0], some (7, 50, 5), []⟩]) ⟨someNe, trivial⟩) (UpX.all (bx := [⟨4, gLh, LentS gLh w_0.heap.size xs⟩]) ⟨uLh, trivial⟩))
                              clear hBt hr hR hP hTs hLi hX hU hRel hSl
                              refine wp_seq ?_
                              refine wp_of_good (by kernel_rfl) (by kernel_rfl) (fun w_0 hb_0 => ?_)
                              replace b2 := b2.below hb_0
                              replace b3 := b3.below hb_0
                              replace b6 := b6.below hb_0
                              replace b7 := b7.below hb_0
                              replace b8 := b8.below hb_0
                              replace b9 := b9.below hb_0
                              replace b13 := b13.below hb_0
                              replace Ax := Ax.below hb_0
                              replace Tx := Tx.below hb_0
                              replace Ay := Ay.below hb_0
                              replace Ty := Ty.below hb_0
                              replace F10 := F10.below hb_0
                              replace G10 := G10.below hb_0
                              replace A10 := A10.below hb_0
                              replace F11 := F11.below hb_0
                              replace G11 := G11.below hb_0
                              replace A11 := A11.below hb_0
                              replace F12 := F12.below hb_0
                              replace G12 := G12.below hb_0
                              replace A12 := A12.below hb_0
                              replace F13 := F13.below hb_0
                              replace G13 := G13.below hb_0
                              replace A13 := A13.below hb_0
                              replace HK := HK.below hb_0
                              replace HR := HR.below hb_0
                              replace BK := BK.below hb_0
                              replace LNk := LNk.below hb_0
                              replace LSh := LSh.below hb_0
                              replace ALx := ALx.below hb_0
                              replace HB := HB.trans (hb_0.mono HB.size); clear hb_0
                              have nx2 : (gs1 0) ≠ gLk := lendn_ne LNk b2
                              have nx3 : (gs1 1) ≠ gLk := lendn_ne LNk b3
                              have nx6 : (gs9 0) ≠ gLk := lendn_ne LNk b6
                              have nx7 : (gs9 1) ≠ gLk := lendn_ne LNk b7
                              have nx8 : (gs9 2) ≠ gLk := lendn_ne LNk b8
                              have nx9 : (gs9 3) ≠ gLk := lendn_ne LNk b9
                              have nx13 : (gs24 0) ≠ gLk := lendn_ne LNk b13
                              refine good6 0 8 none [some 51, some 52, some 53, some 54, some 55, some 56, some 14, none] [Eqs (.pointer (some ⟨gs1 1, 0, none⟩)), Eqs (.bool ny), Eqs (.pointer (some ⟨gs1 1, 1, none⟩)), Eqs (.slice ay my cy), IsL ((val ys)) (ys.length), IsW ((sg ny (val ys))) (ys.length), (fun _ _ => True), (fun _ _ => True)] [] [(5, 4, fun v u => u = .agg #[.bool ny, v])] [⟨W2, some 6, 0, 14, .agg #[.bool false, .slice none 0 0], some (7, 56, 5), []⟩] [⟨4, gLk, LentS gLk w_0.heap.size ys⟩] [] (by kernel_rfl) hn rfl (by kernel_rfl) (by kernel_rfl) (by kernel_rfl) (by kernel_rfl) (by kernel_rfl) (by kernel_rfl) (by kernel_rfl) (by kernel_rfl) (by kernel_rfl) (by decide) ⟨Eqs.mono5 _, Eqs.mono5 _, Eqs.mono5 _, Eqs.mono5 _, IsL.mono5 _ _, IsW.mono5 _ _, True.mono5, True.mono5, trivial⟩ trivial (xok_one LNk.lt (NeOld.all (bx := [⟨W2, some 6, 0, 14, .agg #[.bool false, .slice none 0 0], some (7, 56, 5), []⟩]) ⟨someNe, trivial⟩) LentS.pres) (ok_cons W2ok ok_nil) (IsOld.all (bx := [⟨W2, some 6, 0, 14, .agg #[.bool false, .slice none 0 0], some (7, 56, 5), []⟩]) ⟨someNe, trivial⟩) (DisOld.all (bx := [⟨W2, some 6, 0, 14, .agg #[.bool false, .slice none 0 0], some (7, 56, 5), []⟩]) ⟨someNe, trivial⟩) trivial ?_ ?_ ?_
                              · exact ⟨.inr (.norm 51 rfl rfl (nxt rfl) rfl (fun a_ w_ hn_ hBt hr hR hD hO hS => d6 rfl (op_fa fa_neg ((hR 3 rfl).trans f3)))),
                                  .inr (.norm 52 rfl rfl (nxt rfl) rfl (fun a_ w_ hn_ hBt hr hR hD hO hS => d6 rfl (op_ldneg (show a_.eval (.tmp 51) = .pointer (some ⟨gs1 1, 0, none⟩) from hD 0 rfl) (b3.keep5 hBt ⟨someNe, trivial⟩ ⟨(nx3).symm, trivial⟩)))),
                                  .inr (.norm 53 rfl rfl (nxt rfl) rfl (fun a_ w_ hn_ hBt hr hR hD hO hS => d6 rfl (op_fa fa_mag ((hR 3 rfl).trans f3)))),
                                  .inr (.norm 54 rfl rfl (nxt rfl) rfl (fun a_ w_ hn_ hBt hr hR hD hO hS => d6 rfl (op_ldmag (show a_.eval (.tmp 53) = .pointer (some ⟨gs1 1, 1, none⟩) from hD 2 rfl) (b3.keep5 hBt ⟨someNe, trivial⟩ ⟨(nx3).symm, trivial⟩)))),
                                  .inr (.touch _ (List.mem_singleton.2 rfl) rfl 55 rfl rfl rfl rfl (fun a_ w_ hn_ hBt hr hR hD hO hS hm_ => op_lend (gL := gLk) rfl ((hR 12 rfl).trans f12) (show a_.eval (.tmp 54) = .slice ay my cy from hD 3 rfl) (hm_.trans LNk) (Ay0.below (HB.trans (hBt.below HB.size (UpOld.all (bx := [⟨W2, some 6, 0, 14, .agg #[.bool false, .slice none 0 0], some (7, 56, 5), []⟩]) ⟨someNe, trivial⟩) (UpX.all (bx := [⟨4, gLk, LentS gLk w_0.heap.size ys⟩]) ⟨uLk, trivial⟩)))).sl (by omega) (fun h0 b off e => by have := Ay0.sl.lt h0 b off e; omega) hBt.size)),
                                  .inr (.norm 56 rfl rfl (nxt rfl) rfl (fun a_ w_ hn_ hBt hr hR hD hO hS => op_bWl rfl (show a_.eval (.tmp 52) = .bool ny from hD 1 rfl) (show IsL ((val ys)) (ys.length) (a_.eval (.tmp 55)) w_ from hD 4 rfl))),
                                  .inr (.alloc 0 _ rfl rfl (.inl ⟨rfl, rfl⟩) rfl rfl rfl rfl rfl (nxt rfl) rfl rfl),
                                  .inr (.store 0 _ _ _ rfl rfl rfl rfl rfl rfl rfl rfl rfl (nxt rfl) (fun ia h => by cases h; rfl) rfl rfl rfl IsW.cs),
                                  trivial⟩
                              · exact fun _ _ h => by cases h
                              · intro _ a26 w26 gs26 B26 T26 F_
                                obtain ⟨hn26, hd26, hBt, hr, hR, hP, hTs, hLi, hX, hU, hRel, hSl⟩ := F_
                                replace hn := hn26; replace hd := hd26.trans hd
                                have lq26HK := HK.le
                                have lq26HR := HR.le
                                have lq26BK := BK.lt.2
                                have lq26LSh := LSh.lt
                                replace b2 := b2.keep5 hBt ⟨someNe, trivial⟩ ⟨(nx2).symm, trivial⟩
                                replace b3 := b3.keep5 hBt ⟨someNe, trivial⟩ ⟨(nx3).symm, trivial⟩
                                replace b6 := b6.keep5 hBt ⟨someNe, trivial⟩ ⟨(nx6).symm, trivial⟩
                                replace b7 := b7.keep5 hBt ⟨someNe, trivial⟩ ⟨(nx7).symm, trivial⟩
                                replace b8 := b8.keep5 hBt ⟨someNe, trivial⟩ ⟨(nx8).symm, trivial⟩
                                replace b9 := b9.keep5 hBt ⟨someNe, trivial⟩ ⟨(nx9).symm, trivial⟩
                                replace b13 := b13.keep5 hBt ⟨someNe, trivial⟩ ⟨(nx13).symm, trivial⟩
                                obtain ⟨gy, e55, LSk, ugy, lgy⟩ := hTs _ (List.mem_singleton.2 rfl) (show 4 < 8 by decide)
                                have uwy : w.heap.size ≤ gy := Nat.le_trans HB.size ugy
                                have kgy : KR ≤ gy := Nat.le_trans HR.le ugy
                                have e56 : a26.eval (.tmp 56) = .agg #[.bool ny, .slice (some ⟨gy, 5, none⟩) ys.length (ys.length + 5)] := (show a26.eval (.tmp 56) = .agg #[.bool ny, a26.eval (.tmp 55)] from hRel _ (List.mem_singleton.2 rfl) (show 0 ≤ 5 by decide) (show 5 < 8 by decide)).trans (by rw [show a26.eval (.tmp 55) = _ from e55])
                                have ALy : Ag w26 ny (some ⟨gy, 5, none⟩) ys.length (ys.length + 5) ys zy := ⟨LSk.sl (by omega), Ay0.worth⟩
                                have b14 : BoxV W2 w26 (gs26 0) (.agg #[.bool ny, .slice (some ⟨gy, 5, none⟩) ys.length (ys.length + 5)]) := boxv_of (hX 0 _ rfl).2.2.2 e56
                                have f14 := (hX 0 _ rfl).1
                                have v14 := (hX 0 _ rfl).2.2.1 (by simp)
                                have u14 : w.heap.size ≤ gs26 0 := Nat.le_trans HB.size v14
                                replace f2 := (hR 2 rfl).trans f2
                                replace f3 := (hR 3 rfl).trans f3
                                replace f5 := (hR 5 rfl).trans f5
                                replace f6 := (hR 6 rfl).trans f6
                                replace f7 := (hR 7 rfl).trans f7
                                replace f8 := (hR 8 rfl).trans f8
                                replace f9 := (hR 9 rfl).trans f9
                                replace f10 := (hR 10 rfl).trans f10
                                replace f11 := (hR 11 rfl).trans f11
                                replace f12 := (hR 12 rfl).trans f12
                                replace f13 := (hR 13 rfl).trans f13
                                have hTt_ := But5.touch1 (bx := [⟨W2, some 6, 0, 14, .agg #[.bool false, .slice none 0 0], some (7, 56, 5), []⟩]) hBt ⟨someNe, trivial⟩
                                replace Ax := Ax.ru hr
                                replace Tx := Tx.ru hr
                                replace Ay := Ay.ru hr
                                replace Ty := Ty.ru hr
                                replace F10 := F10.ru hr
                                replace G10 := G10.ru hr
                                replace A10 := A10.ru hr
                                replace F11 := F11.ru hr
                                replace G11 := G11.ru hr
                                replace A11 := A11.ru hr
                                replace F12 := F12.ru hr
                                replace G12 := G12.ru hr
                                replace A12 := A12.ru hr
                                replace F13 := F13.ru hr
                                replace G13 := G13.ru hr
                                replace A13 := A13.ru hr
                                replace HK := HK.ru hr
                                replace HR := HR.ru hr
                                replace BK := BK.touch hTt_ (by omega) (fun h => by have := hbs _ h; omega)
                                replace LSh := LSh.touch hTt_ (lend_ne LSh LNk).1 (lend_ne LSh LNk).2
                                replace ALx := ALx.ru hr
                                replace HB := HB.trans (hBt.below HB.size (UpOld.all (bx := [⟨W2, some 6, 0, 14, .agg #[.bool false, .slice none 0 0], some (7, 56, 5), []⟩]) ⟨someNe, trivial⟩) (UpX.all (bx := [⟨4, gLk, LentS gLk w_0.heap.size ys⟩]) ⟨uLk, trivial⟩))
                                clear hBt hr hR hP hTs hLi hX hU hRel hSl
                                refine wp_seq ?_
                                refine wp_of_good (by kernel_rfl) (by kernel_rfl) (fun w_0 hb_0 => ?_)
                                replace b2 := b2.below hb_0
                                replace b3 := b3.below hb_0
                                replace b6 := b6.below hb_0
                                replace b7 := b7.below hb_0
                                replace b8 := b8.below hb_0
                                replace b9 := b9.below hb_0
                                replace b13 := b13.below hb_0
                                replace b14 := b14.below hb_0
                                replace Ax := Ax.below hb_0
                                replace Tx := Tx.below hb_0
                                replace Ay := Ay.below hb_0
                                replace Ty := Ty.below hb_0
                                replace F10 := F10.below hb_0
                                replace G10 := G10.below hb_0
                                replace A10 := A10.below hb_0
                                replace F11 := F11.below hb_0
                                replace G11 := G11.below hb_0
                                replace A11 := A11.below hb_0
                                replace F12 := F12.below hb_0
                                replace G12 := G12.below hb_0
                                replace A12 := A12.below hb_0
                                replace F13 := F13.below hb_0
                                replace G13 := G13.below hb_0
                                replace A13 := A13.below hb_0
                                replace HK := HK.below hb_0
                                replace HR := HR.below hb_0
                                replace BK := BK.below hb_0
                                replace LSh := LSh.below hb_0
                                replace ALx := ALx.below hb_0
                                replace LSk := LSk.below hb_0
                                replace ALy := ALy.below hb_0
                                replace HB := HB.trans (hb_0.mono HB.size); clear hb_0
                                refine good6 0 19 none [some 57, some 58, some 59, some 60, some 61, some 62, some 63, some 64, some 65, some 66, some 67, some 15, some 16, some 17, some 18, none, none, none, none] [Eqs (.agg #[.bool nx, .slice (some ⟨gx, 5, none⟩) xs.length (xs.length + 5)]), Eqs (.agg #[.bool ny, .slice (some ⟨gy, 5, none⟩) ys.length (ys.length + 5)]), OutW ((zx + zy)) ((1500) + (1500) + 1), Eqs (.agg #[.bool nx, .slice (some ⟨gx, 5, none⟩) xs.length (xs.length + 5)]), Eqs (.agg #[.bool ny, .slice (some ⟨gy, 5, none⟩) ys.length (ys.length + 5)]), OutW ((zx - zy)) ((1500) + (1500) + 1), Eqs (.agg #[.bool nx, .slice (some ⟨gx, 5, none⟩) xs.length (xs.length + 5)]), Eqs (.agg #[.bool ny, .slice (some ⟨gy, 5, none⟩) ys.length (ys.length + 5)]), OutW ((zx * zy)) ((1500) + (1500)), Eqs (.agg #[.bool nx, .slice (some ⟨gx, 5, none⟩) xs.length (xs.length + 5)]), OutW ((-zx)) (1500), (fun _ _ => True), (fun _ _ => True), (fun _ _ => True), (fun _ _ => True), (fun _ _ => True), (fun _ _ => True), (fun _ _ => True), (fun _ _ => True)] [TrI, TrI, OwnWI ((zx + zy)) ((1500) + (1500) + 1), TrI, TrI, OwnWI ((zx - zy)) ((1500) + (1500) + 1), TrI, TrI, OwnWI ((zx * zy)) ((1500) + (1500)), TrI, OwnWI ((-zx)) (1500), TrI, TrI, TrI, TrI, TrI, TrI, TrI, TrI] [] [⟨W2, some 11, 0, 15, .agg #[.bool false, .slice none 0 0], some (15, 59, 2), []⟩, ⟨W2, some 12, 0, 16, .agg #[.bool false, .slice none 0 0], some (16, 62, 5), []⟩, ⟨W2, some 13, 0, 17, .agg #[.bool false, .slice none 0 0], some (17, 65, 8), []⟩, ⟨W2, some 14, 0, 18, .agg #[.bool false, .slice none 0 0], some (18, 67, 10), []⟩] [] [] (by kernel_rfl) hn rfl (by kernel_rfl) (by kernel_rfl) (by kernel_rfl) (by kernel_rfl) (by kernel_rfl) (by kernel_rfl) (by kernel_rfl) (by kernel_rfl) (by kernel_rfl) (by decide) ⟨Eqs.mono5 _, Eqs.mono5 _, OutW.mono5 _ _, Eqs.mono5 _, Eqs.mono5 _, OutW.mono5 _ _, Eqs.mono5 _, Eqs.mono5 _, OutW.mono5 _ _, Eqs.mono5 _, OutW.mono5 _ _, True.mono5, True.mono5, True.mono5, True.mono5, True.mono5, True.mono5, True.mono5, True.mono5, trivial⟩ ⟨TrI.mono6, TrI.mono6, OwnWI.mono6 _ _, TrI.mono6, TrI.mono6, OwnWI.mono6 _ _, TrI.mono6, TrI.mono6, OwnWI.mono6 _ _, TrI.mono6, OwnWI.mono6 _ _, TrI.mono6, TrI.mono6, TrI.mono6, TrI.mono6, TrI.mono6, TrI.mono6, TrI.mono6, TrI.mono6, trivial⟩ xok_nil (ok_cons W2ok (ok_cons W2ok (ok_cons W2ok (ok_cons W2ok ok_nil)))) (IsOld.all (bx := [⟨W2, some 11, 0, 15, .agg #[.bool false, .slice none 0 0], some (15, 59, 2), []⟩, ⟨W2, some 12, 0, 16, .agg #[.bool false, .slice none 0 0], some (16, 62, 5), []⟩, ⟨W2, some 13, 0, 17, .agg #[.bool false, .slice none 0 0], some (17, 65, 8), []⟩, ⟨W2, some 14, 0, 18, .agg #[.bool false, .slice none 0 0], some (18, 67, 10), []⟩]) ⟨someNe, someNe, someNe, someNe, trivial⟩) (DisOld.all (bx := [⟨W2, some 11, 0, 15, .agg #[.bool false, .slice none 0 0], some (15, 59, 2), []⟩, ⟨W2, some 12, 0, 16, .agg #[.bool false, .slice none 0 0], some (16, 62, 5), []⟩, ⟨W2, some 13, 0, 17, .agg #[.bool false, .slice none 0 0], some (17, 65, 8), []⟩, ⟨W2, some 14, 0, 18, .agg #[.bool false, .slice none 0 0], some (18, 67, 10), []⟩]) ⟨someNe, someNe, someNe, someNe, trivial⟩) trivial ?_ ?_ ?_
                                · exact ⟨.inr (.norm 57 rfl rfl (nxt rfl) rfl (fun a_ w_ hn_ hBt hr hR hD hO hS => d6 rfl (op_loadv W2ok ((hR 13 rfl).trans f13) (b13.keep5 hBt ⟨someNe, someNe, someNe, someNe, trivial⟩ trivial)))),
                                    .inr (.norm 58 rfl rfl (nxt rfl) rfl (fun a_ w_ hn_ hBt hr hR hD hO hS => d6 rfl (op_loadv W2ok ((hR 14 rfl).trans f14) (b14.keep5 hBt ⟨someNe, someNe, someNe, someNe, trivial⟩ trivial)))),
                                    .inr (.norm 59 rfl rfl (nxt rfl) rfl (fun a_ w_ hn_ hBt hr hR hD hO hS => d6q (fun _ _ _ _ h => h.out) rfl (op_addO (L1 := 1500) (L2 := 1500) (isw_eq (show a_.eval (.tmp 57) = .agg #[.bool nx, .slice (some ⟨gx, 5, none⟩) xs.length (xs.length + 5)] from hD 0 rfl) (ALx.ru hr) Lx) (isw_eq (show a_.eval (.tmp 58) = .agg #[.bool ny, .slice (some ⟨gy, 5, none⟩) ys.length (ys.length + 5)] from hD 1 rfl) (ALy.ru hr) Ly) (by omega) (by omega)))),
                                    .inr (.norm 60 rfl rfl (nxt rfl) rfl (fun a_ w_ hn_ hBt hr hR hD hO hS => d6 rfl (op_loadv W2ok ((hR 13 rfl).trans f13) (b13.keep5 hBt ⟨someNe, someNe, someNe, someNe, trivial⟩ trivial)))),
                                    .inr (.norm 61 rfl rfl (nxt rfl) rfl (fun a_ w_ hn_ hBt hr hR hD hO hS => d6 rfl (op_loadv W2ok ((hR 14 rfl).trans f14) (b14.keep5 hBt ⟨someNe, someNe, someNe, someNe, trivial⟩ trivial)))),
                                    .inr (.norm 62 rfl rfl (nxt rfl) rfl (fun a_ w_ hn_ hBt hr hR hD hO hS => d6q (fun _ _ _ _ h => h.out) rfl (op_subO (L1 := 1500) (L2 := 1500) (isw_eq (show a_.eval (.tmp 60) = .agg #[.bool nx, .slice (some ⟨gx, 5, none⟩) xs.length (xs.length + 5)] from hD 3 rfl) (ALx.ru hr) Lx) (isw_eq (show a_.eval (.tmp 61) = .agg #[.bool ny, .slice (some ⟨gy, 5, none⟩) ys.length (ys.length + 5)] from hD 4 rfl) (ALy.ru hr) Ly) (by omega) (by omega)))),
                                    .inr (.norm 63 rfl rfl (nxt rfl) rfl (fun a_ w_ hn_ hBt hr hR hD hO hS => d6 rfl (op_loadv W2ok ((hR 13 rfl).trans f13) (b13.keep5 hBt ⟨someNe, someNe, someNe, someNe, trivial⟩ trivial)))),
                                    .inr (.norm 64 rfl rfl (nxt rfl) rfl (fun a_ w_ hn_ hBt hr hR hD hO hS => d6 rfl (op_loadv W2ok ((hR 14 rfl).trans f14) (b14.keep5 hBt ⟨someNe, someNe, someNe, someNe, trivial⟩ trivial)))),
                                    .inr (.norm 65 rfl rfl (nxt rfl) rfl (fun a_ w_ hn_ hBt hr hR hD hO hS => d6q (fun _ _ _ _ h => h.out) rfl (op_mulO (L1 := 1500) (L2 := 1500) (isw_eq (show a_.eval (.tmp 63) = .agg #[.bool nx, .slice (some ⟨gx, 5, none⟩) xs.length (xs.length + 5)] from hD 6 rfl) (ALx.ru hr) Lx) (isw_eq (show a_.eval (.tmp 64) = .agg #[.bool ny, .slice (some ⟨gy, 5, none⟩) ys.length (ys.length + 5)] from hD 7 rfl) (ALy.ru hr) Ly) (by omega) (by omega)))),
                                    .inr (.norm 66 rfl rfl (nxt rfl) rfl (fun a_ w_ hn_ hBt hr hR hD hO hS => d6 rfl (op_loadv W2ok ((hR 13 rfl).trans f13) (b13.keep5 hBt ⟨someNe, someNe, someNe, someNe, trivial⟩ trivial)))),
                                    .inr (.norm 67 rfl rfl (nxt rfl) rfl (fun a_ w_ hn_ hBt hr hR hD hO hS => d6q (fun _ _ _ _ h => h.out) rfl (op_negO (isw_eq (show a_.eval (.tmp 66) = .agg #[.bool nx, .slice (some ⟨gx, 5, none⟩) xs.length (xs.length + 5)] from hD 9 rfl) (ALx.ru hr) Lx) (by omega)))),
                                    .inr (.alloc 0 _ rfl rfl (.inl ⟨rfl, rfl⟩) rfl rfl rfl rfl rfl (nxt rfl) rfl rfl),
                                    .inr (.alloc 1 _ rfl rfl (.inl ⟨rfl, rfl⟩) rfl rfl rfl rfl rfl (nxt rfl) rfl rfl),
                                    .inr (.alloc 2 _ rfl rfl (.inl ⟨rfl, rfl⟩) rfl rfl rfl rfl rfl (nxt rfl) rfl rfl),
                                    .inr (.alloc 3 _ rfl rfl (.inl ⟨rfl, rfl⟩) rfl rfl rfl rfl rfl (nxt rfl) rfl rfl),
                                    .inr (.store 0 _ _ _ rfl rfl rfl rfl rfl rfl rfl rfl rfl (nxt rfl) (fun ia h => by cases h; rfl) rfl rfl rfl OutW.cs),
                                    .inr (.store 1 _ _ _ rfl rfl rfl rfl rfl rfl rfl rfl rfl (nxt rfl) (fun ia h => by cases h; rfl) rfl rfl rfl OutW.cs),
                                    .inr (.store 2 _ _ _ rfl rfl rfl rfl rfl rfl rfl rfl rfl (nxt rfl) (fun ia h => by cases h; rfl) rfl rfl rfl OutW.cs),
                                    .inr (.store 3 _ _ _ rfl rfl rfl rfl rfl rfl rfl rfl rfl (nxt rfl) (fun ia h => by cases h; rfl) rfl rfl rfl OutW.cs),
                                    trivial⟩
                                · exact fun _ _ h => by cases h
                                · intro _ a28 w28 gs28 B28 T28 F_
                                  obtain ⟨hn28, hd28, hBt, hr, hR, hP, hTs, hLi, hX, hU, hRel, hSl⟩ := F_
                                  replace hn := hn28; replace hd := hd28.trans hd
                                  have lq28HK := HK.le
                                  have lq28HR := HR.le
                                  have lq28BK := BK.lt.2
                                  have lq28LSh := LSh.lt
                                  have lq28LSk := LSk.lt
                                  replace b2 := b2.keep5 hBt ⟨someNe, someNe, someNe, someNe, trivial⟩ trivial
                                  replace b3 := b3.keep5 hBt ⟨someNe, someNe, someNe, someNe, trivial⟩ trivial
                                  replace b6 := b6.keep5 hBt ⟨someNe, someNe, someNe, someNe, trivial⟩ trivial
                                  replace b7 := b7.keep5 hBt ⟨someNe, someNe, someNe, someNe, trivial⟩ trivial
                                  replace b8 := b8.keep5 hBt ⟨someNe, someNe, someNe, someNe, trivial⟩ trivial
                                  replace b9 := b9.keep5 hBt ⟨someNe, someNe, someNe, someNe, trivial⟩ trivial
                                  replace b13 := b13.keep5 hBt ⟨someNe, someNe, someNe, someNe, trivial⟩ trivial
                                  replace b14 := b14.keep5 hBt ⟨someNe, someNe, someNe, someNe, trivial⟩ trivial
                                  obtain ⟨lb29, lm29, lt29, ⟨n_29, a_29, c_29, r_29, e59', F29, l29⟩, lj29⟩ := hLi 2 (by decide) (by decide)
                                  have e59 : a28.eval (.tmp 59) = .agg #[.bool n_29, .slice a_29 r_29.length c_29] := e59'
                                  have G29 := F29.wh; have A29 := G29.ag
                                  have HT29 : SzGe (T28 2) w28 := lt29
                                  have b15 : BoxV W2 w28 (gs28 0) (.agg #[.bool n_29, .slice a_29 r_29.length c_29]) := boxv_of (hX 0 _ rfl).2.2.2 e59
                                  have f15 := (hX 0 _ rfl).1
                                  have v15 := (hX 0 _ rfl).2.2.1 (by simp)
                                  have u15 : w.heap.size ≤ gs28 0 := Nat.le_trans HB.size v15
                                  obtain ⟨lb30, lm30, lt30, ⟨n_30, a_30, c_30, r_30, e62', F30, l30⟩, lj30⟩ := hLi 5 (by decide) (by decide)
                                  have e62 : a28.eval (.tmp 62) = .agg #[.bool n_30, .slice a_30 r_30.length c_30] := e62'
                                  have G30 := F30.wh; have A30 := G30.ag
                                  have HT30 : SzGe (T28 5) w28 := lt30
                                  have b16 : BoxV W2 w28 (gs28 1) (.agg #[.bool n_30, .slice a_30 r_30.length c_30]) := boxv_of (hX 1 _ rfl).2.2.2 e62
                                  have f16 := (hX 1 _ rfl).1
                                  have v16 := (hX 1 _ rfl).2.2.1 (by simp)
                                  have u16 : w.heap.size ≤ gs28 1 := Nat.le_trans HB.size v16
                                  obtain ⟨lb31, lm31, lt31, ⟨n_31, a_31, c_31, r_31, e65', F31, l31⟩, lj31⟩ := hLi 8 (by decide) (by decide)
                                  have e65 : a28.eval (.tmp 65) = .agg #[.bool n_31, .slice a_31 r_31.length c_31] := e65'
                                  have G31 := F31.wh; have A31 := G31.ag
                                  have HT31 : SzGe (T28 8) w28 := lt31
                                  have b17 : BoxV W2 w28 (gs28 2) (.agg #[.bool n_31, .slice a_31 r_31.length c_31]) := boxv_of (hX 2 _ rfl).2.2.2 e65
                                  have f17 := (hX 2 _ rfl).1
                                  have v17 := (hX 2 _ rfl).2.2.1 (by simp)
                                  have u17 : w.heap.size ≤ gs28 2 := Nat.le_trans HB.size v17
                                  obtain ⟨lb32, lm32, lt32, ⟨n_32, a_32, c_32, r_32, e67', F32, l32⟩, lj32⟩ := hLi 10 (by decide) (by decide)
                                  have e67 : a28.eval (.tmp 67) = .agg #[.bool n_32, .slice a_32 r_32.length c_32] := e67'
                                  have G32 := F32.wh; have A32 := G32.ag
                                  have HT32 : SzGe (T28 10) w28 := lt32
                                  have b18 : BoxV W2 w28 (gs28 3) (.agg #[.bool n_32, .slice a_32 r_32.length c_32]) := boxv_of (hX 3 _ rfl).2.2.2 e67
                                  have f18 := (hX 3 _ rfl).1
                                  have v18 := (hX 3 _ rfl).2.2.1 (by simp)
                                  have u18 : w.heap.size ≤ gs28 3 := Nat.le_trans HB.size v18
                                  replace f2 := (hR 2 rfl).trans f2
                                  replace f3 := (hR 3 rfl).trans f3
                                  replace f5 := (hR 5 rfl).trans f5
                                  replace f6 := (hR 6 rfl).trans f6
                                  replace f7 := (hR 7 rfl).trans f7
                                  replace f8 := (hR 8 rfl).trans f8
                                  replace f9 := (hR 9 rfl).trans f9
                                  replace f10 := (hR 10 rfl).trans f10
                                  replace f11 := (hR 11 rfl).trans f11
                                  replace f12 := (hR 12 rfl).trans f12
                                  replace f13 := (hR 13 rfl).trans f13
                                  replace f14 := (hR 14 rfl).trans f14
                                  have hBl_ := hBt.below (Nat.le_refl _) (UpOld.all (bx := [⟨W2, some 11, 0, 15, .agg #[.bool false, .slice none 0 0], some (15, 59, 2), []⟩, ⟨W2, some 12, 0, 16, .agg #[.bool false, .slice none 0 0], some (16, 62, 5), []⟩, ⟨W2, some 13, 0, 17, .agg #[.bool false, .slice none 0 0], some (17, 65, 8), []⟩, ⟨W2, some 14, 0, 18, .agg #[.bool false, .slice none 0 0], some (18, 67, 10), []⟩]) ⟨someNe, someNe, someNe, someNe, trivial⟩) (UpX.all (bx := []) trivial)
                                  replace Ax := Ax.ru hr
                                  replace Tx := Tx.ru hr
                                  replace Ay := Ay.ru hr
                                  replace Ty := Ty.ru hr
                                  replace F10 := F10.ru hr
                                  replace G10 := G10.ru hr
                                  replace A10 := A10.ru hr
                                  replace F11 := F11.ru hr
                                  replace G11 := G11.ru hr
                                  replace A11 := A11.ru hr
                                  replace F12 := F12.ru hr
                                  replace G12 := G12.ru hr
                                  replace A12 := A12.ru hr
                                  replace F13 := F13.ru hr
                                  replace G13 := G13.ru hr
                                  replace A13 := A13.ru hr
                                  replace HK := HK.ru hr
                                  replace HR := HR.ru hr
                                  replace BK := BK.below hBl_
                                  replace LSh := LSh.below hBl_
                                  replace ALx := ALx.ru hr
                                  replace LSk := LSk.below hBl_
                                  replace ALy := ALy.ru hr
                                  replace HB := HB.trans (hBt.below HB.size (UpOld.all (bx := [⟨W2, some 11, 0, 15, .agg #[.bool false, .slice none 0 0], some (15, 59, 2), []⟩, ⟨W2, some 12, 0, 16, .agg #[.bool false, .slice none 0 0], some (16, 62, 5), []⟩, ⟨W2, some 13, 0, 17, .agg #[.bool false, .slice none 0 0], some (17, 65, 8), []⟩, ⟨W2, some 14, 0, 18, .agg #[.bool false, .slice none 0 0], some (18, 67, 10), []⟩]) ⟨someNe, someNe, someNe, someNe, trivial⟩) (UpX.all (bx := []) trivial))
                                  clear hBt hr hR hP hTs hLi hX hU hRel hSl
                                  obtain ⟨NN, hNN⟩ : ∃ k, k = w28.heap.size := ⟨_, rfl⟩
                                  have HN : SzGe NN w28 := Nat.le_of_eq hNN
                                  have kb15 : (gs28 0) < NN := by rw [hNN]; exact b15.lt
                                  have kb16 : (gs28 1) < NN := by rw [hNN]; exact b16.lt
                                  have kb17 : (gs28 2) < NN := by rw [hNN]; exact b17.lt
                                  have kb18 : (gs28 3) < NN := by rw [hNN]; exact b18.lt
                                  have dj29_30 := hide (lj29 5 (by decide) (by decide) (by decide))
                                  have dj29_31 := hide (lj29 8 (by decide) (by decide) (by decide))
                                  have dj29_32 := hide (lj29 10 (by decide) (by decide) (by decide))
                                  have dj30_31 := hide (lj30 8 (by decide) (by decide) (by decide))
                                  have dj30_32 := hide (lj30 10 (by decide) (by decide) (by decide))
                                  have dj31_32 := hide (lj31 10 (by decide) (by decide) (by decide))
                                  obtain ⟨p29, q29, Fn29, hp29, hpq29, hq29, hw29⟩ := F29.narrow lm29; replace F29 := Fn29; clear Fn29
                                  have nb15_29 := hide (box_out b15 hw29)
                                  have nb16_29 := hide (box_out b16 hw29)
                                  have nb17_29 := hide (box_out b17 hw29)
                                  have nb18_29 := hide (box_out b18 hw29)
                                  clear hw29
                                  obtain ⟨p30, q30, Fn30, hp30, hpq30, hq30, hw30⟩ := F30.narrow lm30; replace F30 := Fn30; clear Fn30
                                  have nb15_30 := hide (box_out b15 hw30)
                                  have nb16_30 := hide (box_out b16 hw30)
                                  have nb17_30 := hide (box_out b17 hw30)
                                  have nb18_30 := hide (box_out b18 hw30)
                                  clear hw30
                                  obtain ⟨p31, q31, Fn31, hp31, hpq31, hq31, hw31⟩ := F31.narrow lm31; replace F31 := Fn31; clear Fn31
                                  have nb15_31 := hide (box_out b15 hw31)
                                  have nb16_31 := hide (box_out b16 hw31)
                                  have nb17_31 := hide (box_out b17 hw31)
                                  have nb18_31 := hide (box_out b18 hw31)
                                  clear hw31
                                  obtain ⟨p32, q32, Fn32, hp32, hpq32, hq32, hw32⟩ := F32.narrow lm32; replace F32 := Fn32; clear Fn32
                                  have nb15_32 := hide (box_out b15 hw32)
                                  have nb16_32 := hide (box_out b16 hw32)
                                  have nb17_32 := hide (box_out b17 hw32)
                                  have nb18_32 := hide (box_out b18 hw32)
                                  clear hw32
                                  have ht29 : q29 ≤ NN := by omega
                                  have ht30 : q30 ≤ NN := by omega
                                  have ht31 : q31 ≤ NN := by omega
                                  have ht32 : q32 ≤ NN := by omega
                                  refine wp_seq ?_
                                  refine region4 [some 68, some 69, some 70, some 19] [Eqs (.agg #[.bool nx, .slice (some ⟨gx, 5, none⟩) xs.length (xs.length + 5)]), Eqs (.agg #[.bool ny, .slice (some ⟨gy, 5, none⟩) ys.length (ys.length + 5)]), Eqs (.int .i64 (cmpI zx zy)), Eqs (.int .i64 (cmpI zx zy))] [] [] (by kernel_rfl) hn rfl (by kernel_rfl) (by kernel_rfl) (by kernel_rfl) (by kernel_rfl) (by kernel_rfl) (by kernel_rfl) ⟨Eqs.mono4 _, Eqs.mono4 _, Eqs.mono4 _, Eqs.mono4 _, trivial⟩ ok_nil (IsOld.all (bx := []) trivial) (DisOld.all (bx := []) trivial) ?_ ?_
                                  · exact ⟨.norm 68 rfl rfl rfl (fun a_ w_ hn_ hBt hr hR hD hO hS => op_loadv W2ok ((hR 13 rfl).trans f13) (b13.keep hBt trivial)),
                                      .norm 69 rfl rfl rfl (fun a_ w_ hn_ hBt hr hR hD hO hS => op_loadv W2ok ((hR 14 rfl).trans f14) (b14.keep hBt trivial)),
                                      .norm 70 rfl rfl rfl (fun a_ w_ hn_ hBt hr hR hD hO hS => op_cmp (isw_eq (show a_.eval (.tmp 68) = .agg #[.bool nx, .slice (some ⟨gx, 5, none⟩) xs.length (xs.length + 5)] from hD 0 rfl) (ALx.rl hr) Lx) (isw_eq (show a_.eval (.tmp 69) = .agg #[.bool ny, .slice (some ⟨gy, 5, none⟩) ys.length (ys.length + 5)] from hD 1 rfl) (ALy.rl hr) Ly) (by omega) (by omega)),
                                      .norm 19 rfl rfl rfl (fun a_ w_ hn_ hBt hr hR hD hO hS => op_assign (show a_.eval (.tmp 70) = .int .i64 (cmpI zx zy) from hD 2 rfl)),
                                      trivial⟩
                                  · intro a33 w33 gs33 hn33 hd33 hBt hr hR hP hX hU
                                    replace hn := hn33; replace hd := hd33.trans hd
                                    replace b2 := b2.keep hBt trivial
                                    replace b3 := b3.keep hBt trivial
                                    replace b6 := b6.keep hBt trivial
                                    replace b7 := b7.keep hBt trivial
                                    replace b8 := b8.keep hBt trivial
                                    replace b9 := b9.keep hBt trivial
                                    replace b15 := b15.keep hBt trivial
                                    replace b16 := b16.keep hBt trivial
                                    replace b17 := b17.keep hBt trivial
                                    replace b18 := b18.keep hBt trivial
                                    replace f2 := (hR 2 rfl).trans f2
                                    replace f3 := (hR 3 rfl).trans f3
                                    replace f5 := (hR 5 rfl).trans f5
                                    replace f6 := (hR 6 rfl).trans f6
                                    replace f7 := (hR 7 rfl).trans f7
                                    replace f8 := (hR 8 rfl).trans f8
                                    replace f9 := (hR 9 rfl).trans f9
                                    replace f10 := (hR 10 rfl).trans f10
                                    replace f11 := (hR 11 rfl).trans f11
                                    replace f12 := (hR 12 rfl).trans f12
                                    replace f15 := (hR 15 rfl).trans f15
                                    replace f16 := (hR 16 rfl).trans f16
                                    replace f17 := (hR 17 rfl).trans f17
                                    replace f18 := (hR 18 rfl).trans f18
                                    have e19 : a33.eval (.tmp 19) = .int .i64 (cmpI zx zy) := hP 3 (by decide)
                                    have f19 := e19
                                    replace Ax := Ax.rl hr
                                    replace Tx := Tx.rl hr
                                    replace Ay := Ay.rl hr
                                    replace Ty := Ty.rl hr
                                    replace F10 := F10.rl hr
                                    replace G10 := G10.rl hr
                                    replace A10 := A10.rl hr
                                    replace F11 := F11.rl hr
                                    replace G11 := G11.rl hr
                                    replace A11 := A11.rl hr
                                    replace F12 := F12.rl hr
                                    replace G12 := G12.rl hr
                                    replace A12 := A12.rl hr
                                    replace F13 := F13.rl hr
                                    replace G13 := G13.rl hr
                                    replace A13 := A13.rl hr
                                    replace HK := HK.rl hr
                                    replace HR := HR.rl hr
                                    replace ALx := ALx.rl hr
                                    replace ALy := ALy.rl hr
                                    replace F29 := F29.rl hr
                                    replace G29 := G29.rl hr
                                    replace A29 := A29.rl hr
                                    replace HT29 := HT29.rl hr
                                    replace F30 := F30.rl hr
                                    replace G30 := G30.rl hr
                                    replace A30 := A30.rl hr
                                    replace HT30 := HT30.rl hr
                                    replace F31 := F31.rl hr
                                    replace G31 := G31.rl hr
                                    replace A31 := A31.rl hr
                                    replace HT31 := HT31.rl hr
                                    replace F32 := F32.rl hr
                                    replace G32 := G32.rl hr
                                    replace A32 := A32.rl hr
                                    replace HT32 := HT32.rl hr
                                    replace HN := HN.rl hr
                                    replace HB := HB.trans (hBt.below HB.size (UpOld.all (bx := []) trivial))
                                    have hBl_ := hBt.below (Nat.le_refl _) (UpOld.all (bx := []) trivial)
                                    replace BK := BK.below hBl_
                                    replace LSh := LSh.below hBl_
                                    replace LSk := LSk.below hBl_
                                    clear hBt hr hR hP hX hU
                                    refine wp_seq ?_
                                    refine wp_seq ?_
                                    refine wp_of_good (by kernel_rfl) (by kernel_rfl) (fun w_0 hb_0 => ?_)
                                    replace b2 := b2.below hb_0
                                    replace b3 := b3.below hb_0
                                    replace b6 := b6.below hb_0
                                    replace b7 := b7.below hb_0
                                    replace b8 := b8.below hb_0
                                    replace b9 := b9.below hb_0
                                    replace b15 := b15.below hb_0
                                    replace b16 := b16.below hb_0
                                    replace b17 := b17.below hb_0
                                    replace b18 := b18.below hb_0
                                    replace Ax := Ax.below hb_0
                                    replace Tx := Tx.below hb_0
                                    replace Ay := Ay.below hb_0
                                    replace Ty := Ty.below hb_0
                                    replace F10 := F10.below hb_0
                                    replace G10 := G10.below hb_0
                                    replace A10 := A10.below hb_0
                                    replace F11 := F11.below hb_0
                                    replace G11 := G11.below hb_0
                                    replace A11 := A11.below hb_0
                                    replace F12 := F12.below hb_0
                                    replace G12 := G12.below hb_0
                                    replace A12 := A12.below hb_0
                                    replace F13 := F13.below hb_0
                                    replace G13 := G13.below hb_0
                                    replace A13 := A13.below hb_0
                                    replace HK := HK.below hb_0
                                    replace HR := HR.below hb_0
                                    replace ALx := ALx.below hb_0
                                    replace ALy := ALy.below hb_0
                                    replace F29 := F29.below hb_0
                                    replace G29 := G29.below hb_0
                                    replace A29 := A29.below hb_0
                                    replace HT29 := HT29.below hb_0
                                    replace F30 := F30.below hb_0
                                    replace G30 := G30.below hb_0
                                    replace A30 := A30.below hb_0
                                    replace HT30 := HT30.below hb_0
                                    replace F31 := F31.below hb_0
                                    replace G31 := G31.below hb_0
                                    replace A31 := A31.below hb_0
                                    replace HT31 := HT31.below hb_0
                                    replace F32 := F32.below hb_0
                                    replace G32 := G32.below hb_0
                                    replace A32 := A32.below hb_0
                                    replace HT32 := HT32.below hb_0
                                    replace HN := HN.below hb_0
                                    replace BK := BK.below hb_0
                                    replace LSh := LSh.below hb_0
                                    replace LSk := LSk.below hb_0
                                    replace HB := HB.trans (hb_0.mono HB.size); clear hb_0
                                    refine good6 0 2 (some 2) [some 71, some 72, some 73, some 74, some 75, some 76, some 77, some 78, some 79, some 80, some 81, some 82, some 83, some 84, some 85, some 86, some 87, some 88, some 89, some 90, some 91, some 92, some 93, some 94, some 95, some 96, some 97, some 98, some 99, some 100, some 101, some 102, some 103, some 104, some 105, some 106, some 107, some 108, some 109, some 110, some 111] [Eqs (.pointer (some ⟨gs1 0, 1, none⟩)), Eqs (.slice ax mx cx), (fun _ _ => True), (fun _ _ => True), (fun _ _ => True), (fun _ _ => True), (fun _ _ => True), (fun _ _ => True), (fun _ _ => True), (fun _ _ => True), (fun _ _ => True), (fun _ _ => True), (fun _ _ => True), (fun _ _ => True), (fun _ _ => True), (fun _ _ => True), (fun _ _ => True), (fun _ _ => True), (fun _ _ => True), (fun _ _ => True), (fun _ _ => True), (fun _ _ => True), (fun _ _ => True), (fun _ _ => True), (fun _ _ => True), (fun _ _ => True), (fun _ _ => True), (fun _ _ => True), (fun _ _ => True), (fun _ _ => True), (fun _ _ => True), (fun _ _ => True), (fun _ _ => True), (fun _ _ => True), (fun _ _ => True), (fun _ _ => True), (fun _ _ => True), (fun _ _ => True), (fun _ _ => True), (fun _ _ => True), (fun _ _ => True)] [] [] [] [] [] (by kernel_rfl) hn rfl (by kernel_rfl) (by kernel_rfl) (by kernel_rfl) (by kernel_rfl) (by kernel_rfl) (by kernel_rfl) (by kernel_rfl) (by kernel_rfl) (by kernel_rfl) (by decide) ⟨Eqs.mono5 _, Eqs.mono5 _, True.mono5, True.mono5, True.mono5, True.mono5, True.mono5, True.mono5, True.mono5, True.mono5, True.mono5, True.mono5, True.mono5, True.mono5, True.mono5, True.mono5, True.mono5, True.mono5, True.mono5, True.mono5, True.mono5, True.mono5, True.mono5, True.mono5, True.mono5, True.mono5, True.mono5, True.mono5, True.mono5, True.mono5, True.mono5, True.mono5, True.mono5, True.mono5, True.mono5, True.mono5, True.mono5, True.mono5, True.mono5, True.mono5, True.mono5, trivial⟩ trivial xok_nil ok_nil (IsOld.all (bx := []) trivial) (DisOld.all (bx := []) trivial) trivial ?_ ?_ ?_
                                    · exact ⟨.inr (.norm 71 rfl rfl (nxt rfl) rfl (fun a_ w_ hn_ hBt hr hR hD hO hS => d6 rfl (op_fa fa_mag ((hR 2 rfl).trans f2)))),
                                        .inr (.norm 72 rfl rfl (nxt rfl) rfl (fun a_ w_ hn_ hBt hr hR hD hO hS => d6 rfl (op_ldmag (show a_.eval (.tmp 71) = .pointer (some ⟨gs1 0, 1, none⟩) from hD 0 rfl) (b2.keep5 hBt trivial trivial)))),
                                        .inl rfl,
                                        .inl rfl,
                                        .inl rfl,
                                        .inl rfl,
                                        .inl rfl,
                                        .inl rfl,
                                        .inl rfl,
                                        .inl rfl,
                                        .inl rfl,
                                        .inl rfl,
                                        .inl rfl,
                                        .inl rfl,
                                        .inl rfl,
                                        .inl rfl,
                                        .inl rfl,
                                        .inl rfl,
                                        .inl rfl,
                                        .inl rfl,
                                        .inl rfl,
                                        .inl rfl,
                                        .inl rfl,
                                        .inl rfl,
                                        .inl rfl,
                                        .inl rfl,
                                        .inl rfl,
                                        .inl rfl,
                                        .inl rfl,
                                        .inl rfl,
                                        .inl rfl,
                                        .inl rfl,
                                        .inl rfl,
                                        .inl rfl,
                                        .inl rfl,
                                        .inl rfl,
                                        .inl rfl,
                                        .inl rfl,
                                        .inl rfl,
                                        .inl rfl,
                                        .inl rfl,
                                        trivial⟩
                                    rotate_left
                                    · exact fun h => by cases h
                                    · intro t_ o_ ht_ ho_ a34 w34 gs34 B34 T34 F_
                                      obtain rfl := Option.some.inj ht_; obtain rfl := Option.some.inj ho_; clear ht_ ho_
                                      obtain ⟨hn34, hd34, hBt, hr, hR, hP, hTs, hLi, hX, hU, hRel, hSl⟩ := F_
                                      replace hn := hn34; replace hd := hd34.trans hd
                                      have lq34HK := HK.le
                                      have lq34HR := HR.le
                                      have lq34HT29 := HT29.le
                                      have lq34HT30 := HT30.le
                                      have lq34HT31 := HT31.le
                                      have lq34HT32 := HT32.le
                                      have lq34HN := HN.le
                                      have lq34BK := BK.lt.2
                                      have lq34LSh := LSh.lt
                                      have lq34LSk := LSk.lt
                                      replace b2 := b2.keep5 hBt trivial trivial
                                      replace b3 := b3.keep5 hBt trivial trivial
                                      replace b6 := b6.keep5 hBt trivial trivial
                                      replace b7 := b7.keep5 hBt trivial trivial
                                      replace b8 := b8.keep5 hBt trivial trivial
                                      replace b9 := b9.keep5 hBt trivial trivial
                                      replace b15 := b15.keep5 hBt trivial trivial
                                      replace b16 := b16.keep5 hBt trivial trivial
                                      replace b17 := b17.keep5 hBt trivial trivial
                                      replace b18 := b18.keep5 hBt trivial trivial
                                      replace f2 := (hR 2 rfl).trans f2
                                      replace f3 := (hR 3 rfl).trans f3
                                      replace f5 := (hR 5 rfl).trans f5
                                      replace f6 := (hR 6 rfl).trans f6
                                      replace f7 := (hR 7 rfl).trans f7
                                      replace f8 := (hR 8 rfl).trans f8
                                      replace f9 := (hR 9 rfl).trans f9
                                      replace f10 := (hR 10 rfl).trans f10
                                      replace f11 := (hR 11 rfl).trans f11
                                      replace f12 := (hR 12 rfl).trans f12
                                      replace f15 := (hR 15 rfl).trans f15
                                      replace f16 := (hR 16 rfl).trans f16
                                      replace f17 := (hR 17 rfl).trans f17
                                      replace f18 := (hR 18 rfl).trans f18
                                      replace f19 := (hR 19 rfl).trans f19
                                      have e72 : a34.eval (.tmp 72) = .slice ax mx cx := hP 1 (by decide)
                                      have f72 := e72
                                      have hBl_ := hBt.below (Nat.le_refl _) (UpOld.all (bx := []) trivial) (UpX.all (bx := []) trivial)
                                      replace Ax := Ax.ru hr
                                      replace Tx := Tx.ru hr
                                      replace Ay := Ay.ru hr
                                      replace Ty := Ty.ru hr
                                      replace F10 := F10.ru hr
                                      replace G10 := G10.ru hr
                                      replace A10 := A10.ru hr
                                      replace F11 := F11.ru hr
                                      replace G11 := G11.ru hr
                                      replace A11 := A11.ru hr
                                      replace F12 := F12.ru hr
                                      replace G12 := G12.ru hr
                                      replace A12 := A12.ru hr
                                      replace F13 := F13.ru hr
                                      replace G13 := G13.ru hr
                                      replace A13 := A13.ru hr
                                      replace HK := HK.ru hr
                                      replace HR := HR.ru hr
                                      replace ALx := ALx.ru hr
                                      replace ALy := ALy.ru hr
                                      replace F29 := F29.ru hr
                                      replace G29 := G29.ru hr
                                      replace A29 := A29.ru hr
                                      replace HT29 := HT29.ru hr
                                      replace F30 := F30.ru hr
                                      replace G30 := G30.ru hr
                                      replace A30 := A30.ru hr
                                      replace HT30 := HT30.ru hr
                                      replace F31 := F31.ru hr
                                      replace G31 := G31.ru hr
                                      replace A31 := A31.ru hr
                                      replace HT31 := HT31.ru hr
                                      replace F32 := F32.ru hr
                                      replace G32 := G32.ru hr
                                      replace A32 := A32.ru hr
                                      replace HT32 := HT32.ru hr
                                      replace HN := HN.ru hr
                                      replace BK := BK.below hBl_
                                      replace LSh := LSh.below hBl_
                                      replace LSk := LSk.below hBl_
                                      replace HB := HB.trans (hBt.below HB.size (UpOld.all (bx := []) trivial) (UpX.all (bx := []) trivial))
                                      clear hBt hr hR hP hTs hLi hX hU hRel hSl
                                      refine ⟨trivial, (op_back f11 f72 LSh (Ax0.below HB).sl (by omega) (fun h0 b off e => by have := Ax0.sl.lt h0 b off e; omega)).mono ?_⟩
                                      rintro v_ w35 ⟨rfl, hT_⟩
                                      replace b2 := b2.touch hT_ (boxw_ne LSh b2).1
                                      replace b3 := b3.touch hT_ (boxw_ne LSh b3).1
                                      replace b6 := b6.touch hT_ (boxw_ne LSh b6).1
                                      replace b7 := b7.touch hT_ (boxw_ne LSh b7).1
                                      replace b8 := b8.touch hT_ (boxw_ne LSh b8).1
                                      replace b9 := b9.touch hT_ (boxw_ne LSh b9).1
                                      replace b15 := b15.touch hT_ (boxw_ne LSh b15).1
                                      replace b16 := b16.touch hT_ (boxw_ne LSh b16).1
                                      replace b17 := b17.touch hT_ (boxw_ne LSh b17).1
                                      replace b18 := b18.touch hT_ (boxw_ne LSh b18).1
                                      replace F10 := F10.touch hT_ (by omega)
                                      replace G10 := F10.wh
                                      replace A10 := G10.ag
                                      replace F11 := F11.touch hT_ (by omega)
                                      replace G11 := F11.wh
                                      replace A11 := G11.ag
                                      replace F12 := F12.touch hT_ (by omega)
                                      replace G12 := F12.wh
                                      replace A12 := G12.ag
                                      replace F13 := F13.touch hT_ (by omega)
                                      replace G13 := F13.wh
                                      replace A13 := G13.ag
                                      replace HK := HK.touch hT_
                                      replace HR := HR.touch hT_
                                      replace F29 := F29.touch hT_ (by omega)
                                      replace G29 := F29.wh
                                      replace A29 := G29.ag
                                      replace HT29 := HT29.touch hT_
                                      replace F30 := F30.touch hT_ (by omega)
                                      replace G30 := F30.wh
                                      replace A30 := G30.ag
                                      replace HT30 := HT30.touch hT_
                                      replace F31 := F31.touch hT_ (by omega)
                                      replace G31 := F31.wh
                                      replace A31 := G31.ag
                                      replace HT31 := HT31.touch hT_
                                      replace F32 := F32.touch hT_ (by omega)
                                      replace G32 := F32.wh
                                      replace A32 := G32.ag
                                      replace HT32 := HT32.touch hT_
                                      replace HN := HN.touch hT_
                                      replace BK := BK.touch hT_ (by omega) (fun h => by have := hbs _ h; omega)
                                      replace LSk := LSk.touch hT_ (lends_ne LSh LSk).2 (by omega)
                                      replace HB := HB.trans (hT_.below uwx HB.size); clear hT_ LSh ALx ALy
                                      replace Ax := Ax0.below HB; replace Tx := Ax.sl
                                      replace Ay := Ay0.below HB; replace Ty := Ay.sl
                                      change Good _ _ _ _ _ (Act.put a34 (some 73) (.bool true)) _
                                      have q_ : 73 < a34.tmps.size := by rw [hn]; decide
                                      generalize hA_ : Act.put a34 (some 73) (.bool true) = a36
                                      replace hn : a36.tmps.size = 136 := by rw [← hA_, put_tmps]; simp [hn]
                                      replace hd : a36.defers = [] := by rw [← hA_]; exact hd
                                      replace f2 : a36.eval (.tmp 2) = .pointer (some ⟨gs1 0, 0, none⟩) := by rw [← hA_]; exact (eval_put_ne (by decide)).trans f2
                                      replace f3 : a36.eval (.tmp 3) = .pointer (some ⟨gs1 1, 0, none⟩) := by rw [← hA_]; exact (eval_put_ne (by decide)).trans f3
                                      replace f5 : a36.eval (.tmp 5) = .pointer (some ⟨pB, 0, none⟩) := by rw [← hA_]; exact (eval_put_ne (by decide)).trans f5
                                      replace f6 : a36.eval (.tmp 6) = .pointer (some ⟨gs9 0, 0, none⟩) := by rw [← hA_]; exact (eval_put_ne (by decide)).trans f6
                                      replace f7 : a36.eval (.tmp 7) = .pointer (some ⟨gs9 1, 0, none⟩) := by rw [← hA_]; exact (eval_put_ne (by decide)).trans f7
                                      replace f8 : a36.eval (.tmp 8) = .pointer (some ⟨gs9 2, 0, none⟩) := by rw [← hA_]; exact (eval_put_ne (by decide)).trans f8
                                      replace f9 : a36.eval (.tmp 9) = .pointer (some ⟨gs9 3, 0, none⟩) := by rw [← hA_]; exact (eval_put_ne (by decide)).trans f9
                                      replace f10 : a36.eval (.tmp 10) = .int .i64 (ii : Int) := by rw [← hA_]; exact (eval_put_ne (by decide)).trans f10
                                      replace f11 : a36.eval (.tmp 11) = .pointer (some ⟨gLh, 0, none⟩) := by rw [← hA_]; exact (eval_put_ne (by decide)).trans f11
                                      replace f12 : a36.eval (.tmp 12) = .pointer (some ⟨gLk, 0, none⟩) := by rw [← hA_]; exact (eval_put_ne (by decide)).trans f12
                                      replace f15 : a36.eval (.tmp 15) = .pointer (some ⟨gs28 0, 0, none⟩) := by rw [← hA_]; exact (eval_put_ne (by decide)).trans f15
                                      replace f16 : a36.eval (.tmp 16) = .pointer (some ⟨gs28 1, 0, none⟩) := by rw [← hA_]; exact (eval_put_ne (by decide)).trans f16
                                      replace f17 : a36.eval (.tmp 17) = .pointer (some ⟨gs28 2, 0, none⟩) := by rw [← hA_]; exact (eval_put_ne (by decide)).trans f17
                                      replace f18 : a36.eval (.tmp 18) = .pointer (some ⟨gs28 3, 0, none⟩) := by rw [← hA_]; exact (eval_put_ne (by decide)).trans f18
                                      replace f19 : a36.eval (.tmp 19) = .int .i64 (cmpI zx zy) := by rw [← hA_]; exact (eval_put_ne (by decide)).trans f19
                                      replace f72 : a36.eval (.tmp 72) = .slice ax mx cx := by rw [← hA_]; exact (eval_put_ne (by decide)).trans f72
                                      have f73 : a36.eval (.tmp 73) = .bool true := by rw [← hA_]; exact eval_put_same q_
                                      clear q_
                                      clear hA_
                                      refine good6 3 7 (some 7) [some 71, some 72, some 73, some 74, some 75, some 76, some 77, some 78, some 79, some 80, some 81, some 82, some 83, some 84, some 85, some 86, some 87, some 88, some 89, some 90, some 91, some 92, some 93, some 94, some 95, some 96, some 97, some 98, some 99, some 100, some 101, some 102, some 103, some 104, some 105, some 106, some 107, some 108, some 109, some 110, some 111] [(fun _ _ => True), Eqs (.slice ax mx cx), Eqs (.bool true), Eqs (.bool false), Eqs (.bool false), Eqs (.pointer (some ⟨gs1 1, 1, none⟩)), Eqs (.slice ay my cy), (fun _ _ => True), (fun _ _ => True), (fun _ _ => True), (fun _ _ => True), (fun _ _ => True), (fun _ _ => True), (fun _ _ => True), (fun _ _ => True), (fun _ _ => True), (fun _ _ => True), (fun _ _ => True), (fun _ _ => True), (fun _ _ => True), (fun _ _ => True), (fun _ _ => True), (fun _ _ => True), (fun _ _ => True), (fun _ _ => True), (fun _ _ => True), (fun _ _ => True), (fun _ _ => True), (fun _ _ => True), (fun _ _ => True), (fun _ _ => True), (fun _ _ => True), (fun _ _ => True), (fun _ _ => True), (fun _ _ => True), (fun _ _ => True), (fun _ _ => True), (fun _ _ => True), (fun _ _ => True), (fun _ _ => True), (fun _ _ => True)] [] [] [] [] [] (by kernel_rfl) hn rfl (by kernel_rfl) (by kernel_rfl) (by kernel_rfl) (by kernel_rfl) (by kernel_rfl) (by kernel_rfl) (by kernel_rfl) (by kernel_rfl) (by kernel_rfl) (by decide) ⟨True.mono5, Eqs.mono5 _, Eqs.mono5 _, Eqs.mono5 _, Eqs.mono5 _, Eqs.mono5 _, Eqs.mono5 _, True.mono5, True.mono5, True.mono5, True.mono5, True.mono5, True.mono5, True.mono5, True.mono5, True.mono5, True.mono5, True.mono5, True.mono5, True.mono5, True.mono5, True.mono5, True.mono5, True.mono5, True.mono5, True.mono5, True.mono5, True.mono5, True.mono5, True.mono5, True.mono5, True.mono5, True.mono5, True.mono5, True.mono5, True.mono5, True.mono5, True.mono5, True.mono5, True.mono5, True.mono5, trivial⟩ trivial xok_nil ok_nil (IsOld.all (bx := []) trivial) (DisOld.all (bx := []) trivial) ⟨⟨⟨trivial, trivial⟩, f72⟩, f73⟩ ?_ ?_ ?_
                                      · exact ⟨.inl rfl,
                                          .inl rfl,
                                          .inl rfl,
                                          .inr (.norm 74 rfl rfl (nxt rfl) rfl (fun a_ w_ hn_ hBt hr hR hD hO hS => d6 rfl (op_not (show a_.eval (.tmp 73) = .bool true from hD 2 rfl)))),
                                          .inr (.norm 75 rfl rfl (nxt rfl) rfl (fun a_ w_ hn_ hBt hr hR hD hO hS => d6 rfl (op_mv (show a_.eval (.tmp 74) = .bool false from hD 3 rfl)))),
                                          .inr (.norm 76 rfl rfl (nxt rfl) rfl (fun a_ w_ hn_ hBt hr hR hD hO hS => ⟨⟨_, rfl⟩, fun _ => d6 rfl (op_fa fa_mag ((hR 3 rfl).trans f3)), fun hne => absurd (hD 4 rfl) hne⟩)),
                                          .inr (.norm 77 rfl rfl (nxt rfl) rfl (fun a_ w_ hn_ hBt hr hR hD hO hS => ⟨⟨_, rfl⟩, fun _ => d6 rfl (op_ldmag (show a_.eval (.tmp 76) = .pointer (some ⟨gs1 1, 1, none⟩) from hD 5 rfl) (b3.keep5 hBt trivial trivial)), fun hne => absurd (hD 4 rfl) hne⟩)),
                                          .inl rfl,
                                          .inl rfl,
                                          .inl rfl,
                                          .inl rfl,
                                          .inl rfl,
                                          .inl rfl,
                                          .inl rfl,
                                          .inl rfl,
                                          .inl rfl,
                                          .inl rfl,
                                          .inl rfl,
                                          .inl rfl,
                                          .inl rfl,
                                          .inl rfl,
                                          .inl rfl,
                                          .inl rfl,
                                          .inl rfl,
                                          .inl rfl,
                                          .inl rfl,
                                          .inl rfl,
                                          .inl rfl,
                                          .inl rfl,
                                          .inl rfl,
                                          .inl rfl,
                                          .inl rfl,
                                          .inl rfl,
                                          .inl rfl,
                                          .inl rfl,
                                          .inl rfl,
                                          .inl rfl,
                                          .inl rfl,
                                          .inl rfl,
                                          .inl rfl,
                                          .inl rfl,
                                          trivial⟩
                                      rotate_left
                                      · exact fun h => by cases h
                                      · intro t_ o_ ht_ ho_ a37 w37 gs37 B37 T37 F_
                                        obtain rfl := Option.some.inj ht_; obtain rfl := Option.some.inj ho_; clear ht_ ho_
                                        obtain ⟨hn37, hd37, hBt, hr, hR, hP, hTs, hLi, hX, hU, hRel, hSl⟩ := F_
                                        replace hn := hn37; replace hd := hd37.trans hd
                                        have lq37HK := HK.le
                                        have lq37HR := HR.le
                                        have lq37HT29 := HT29.le
                                        have lq37HT30 := HT30.le
                                        have lq37HT31 := HT31.le
                                        have lq37HT32 := HT32.le
                                        have lq37HN := HN.le
                                        have lq37BK := BK.lt.2
                                        have lq37LSk := LSk.lt
                                        replace b2 := b2.keep5 hBt trivial trivial
                                        replace b3 := b3.keep5 hBt trivial trivial
                                        replace b6 := b6.keep5 hBt trivial trivial
                                        replace b7 := b7.keep5 hBt trivial trivial
                                        replace b8 := b8.keep5 hBt trivial trivial
                                        replace b9 := b9.keep5 hBt trivial trivial
                                        replace b15 := b15.keep5 hBt trivial trivial
                                        replace b16 := b16.keep5 hBt trivial trivial
                                        replace b17 := b17.keep5 hBt trivial trivial
                                        replace b18 := b18.keep5 hBt trivial trivial
                                        replace f2 := (hR 2 rfl).trans f2
                                        replace f3 := (hR 3 rfl).trans f3
                                        replace f5 := (hR 5 rfl).trans f5
                                        replace f6 := (hR 6 rfl).trans f6
                                        replace f7 := (hR 7 rfl).trans f7
                                        replace f8 := (hR 8 rfl).trans f8
                                        replace f9 := (hR 9 rfl).trans f9
                                        replace f10 := (hR 10 rfl).trans f10
                                        replace f12 := (hR 12 rfl).trans f12
                                        replace f15 := (hR 15 rfl).trans f15
                                        replace f16 := (hR 16 rfl).trans f16
                                        replace f17 := (hR 17 rfl).trans f17
                                        replace f18 := (hR 18 rfl).trans f18
                                        replace f19 := (hR 19 rfl).trans f19
                                        have e75 : a37.eval (.tmp 75) = .bool false := hP 4 (by decide)
                                        have f75 := e75
                                        have e77 : a37.eval (.tmp 77) = .slice ay my cy := hP 6 (by decide)
                                        have f77 := e77
                                        have hBl_ := hBt.below (Nat.le_refl _) (UpOld.all (bx := []) trivial) (UpX.all (bx := []) trivial)
                                        replace Ax := Ax.ru hr
                                        replace Tx := Tx.ru hr
                                        replace Ay := Ay.ru hr
                                        replace Ty := Ty.ru hr
                                        replace F10 := F10.ru hr
                                        replace G10 := G10.ru hr
                                        replace A10 := A10.ru hr
                                        replace F11 := F11.ru hr
                                        replace G11 := G11.ru hr
                                        replace A11 := A11.ru hr
                                        replace F12 := F12.ru hr
                                        replace G12 := G12.ru hr
                                        replace A12 := A12.ru hr
                                        replace F13 := F13.ru hr
                                        replace G13 := G13.ru hr
                                        replace A13 := A13.ru hr
                                        replace HK := HK.ru hr
                                        replace HR := HR.ru hr
                                        replace F29 := F29.ru hr
                                        replace G29 := G29.ru hr
                                        replace A29 := A29.ru hr
                                        replace HT29 := HT29.ru hr
                                        replace F30 := F30.ru hr
                                        replace G30 := G30.ru hr
                                        replace A30 := A30.ru hr
                                        replace HT30 := HT30.ru hr
                                        replace F31 := F31.ru hr
                                        replace G31 := G31.ru hr
                                        replace A31 := A31.ru hr
                                        replace HT31 := HT31.ru hr
                                        replace F32 := F32.ru hr
                                        replace G32 := G32.ru hr
                                        replace A32 := A32.ru hr
                                        replace HT32 := HT32.ru hr
                                        replace HN := HN.ru hr
                                        replace BK := BK.below hBl_
                                        replace LSk := LSk.below hBl_
                                        replace HB := HB.trans (hBt.below HB.size (UpOld.all (bx := []) trivial) (UpX.all (bx := []) trivial))
                                        clear hBt hr hR hP hTs hLi hX hU hRel hSl
                                        refine ⟨⟨⟨75, rfl⟩, f75⟩, (op_back f12 f77 LSk (Ay0.below HB).sl (by omega) (fun h0 b off e => by have := Ay0.sl.lt h0 b off e; omega)).mono ?_⟩
                                        rintro v_ w38 ⟨rfl, hT_⟩
                                        replace b2 := b2.touch hT_ (boxw_ne LSk b2).1
                                        replace b3 := b3.touch hT_ (boxw_ne LSk b3).1
                                        replace b6 := b6.touch hT_ (boxw_ne LSk b6).1
                                        replace b7 := b7.touch hT_ (boxw_ne LSk b7).1
                                        replace b8 := b8.touch hT_ (boxw_ne LSk b8).1
                                        replace b9 := b9.touch hT_ (boxw_ne LSk b9).1
                                        replace b15 := b15.touch hT_ (boxw_ne LSk b15).1
                                        replace b16 := b16.touch hT_ (boxw_ne LSk b16).1
                                        replace b17 := b17.touch hT_ (boxw_ne LSk b17).1
                                        replace b18 := b18.touch hT_ (boxw_ne LSk b18).1
                                        replace F10 := F10.touch hT_ (by omega)
                                        replace G10 := F10.wh
                                        replace A10 := G10.ag
                                        replace F11 := F11.touch hT_ (by omega)
                                        replace G11 := F11.wh
                                        replace A11 := G11.ag
                                        replace F12 := F12.touch hT_ (by omega)
                                        replace G12 := F12.wh
                                        replace A12 := G12.ag
                                        replace F13 := F13.touch hT_ (by omega)
                                        replace G13 := F13.wh
                                        replace A13 := G13.ag
                                        replace HK := HK.touch hT_
                                        replace HR := HR.touch hT_
                                        replace F29 := F29.touch hT_ (by omega)
                                        replace G29 := F29.wh
                                        replace A29 := G29.ag
                                        replace HT29 := HT29.touch hT_
                                        replace F30 := F30.touch hT_ (by omega)
                                        replace G30 := F30.wh
                                        replace A30 := G30.ag
                                        replace HT30 := HT30.touch hT_
                                        replace F31 := F31.touch hT_ (by omega)
                                        replace G31 := F31.wh
                                        replace A31 := G31.ag
                                        replace HT31 := HT31.touch hT_
                                        replace F32 := F32.touch hT_ (by omega)
                                        replace G32 := F32.wh
                                        replace A32 := G32.ag
                                        replace HT32 := HT32.touch hT_
                                        replace HN := HN.touch hT_
                                        replace BK := BK.touch hT_ (by omega) (fun h => by have := hbs _ h; omega)
                                        replace HB := HB.trans (hT_.below uwy HB.size); clear hT_ LSk
                                        replace Ax := Ax0.below HB; replace Tx := Ax.sl
                                        replace Ay := Ay0.below HB; replace Ty := Ay.sl
                                        change Good _ _ _ _ _ (Act.put a37 (some 78) (.bool true)) _
                                        have q_ : 78 < a37.tmps.size := by rw [hn]; decide
                                        generalize hA_ : Act.put a37 (some 78) (.bool true) = a39
                                        replace hn : a39.tmps.size = 136 := by rw [← hA_, put_tmps]; simp [hn]
                                        replace hd : a39.defers = [] := by rw [← hA_]; exact hd
                                        replace f2 : a39.eval (.tmp 2) = .pointer (some ⟨gs1 0, 0, none⟩) := by rw [← hA_]; exact (eval_put_ne (by decide)).trans f2
                                        replace f3 : a39.eval (.tmp 3) = .pointer (some ⟨gs1 1, 0, none⟩) := by rw [← hA_]; exact (eval_put_ne (by decide)).trans f3
                                        replace f5 : a39.eval (.tmp 5) = .pointer (some ⟨pB, 0, none⟩) := by rw [← hA_]; exact (eval_put_ne (by decide)).trans f5
                                        replace f6 : a39.eval (.tmp 6) = .pointer (some ⟨gs9 0, 0, none⟩) := by rw [← hA_]; exact (eval_put_ne (by decide)).trans f6
                                        replace f7 : a39.eval (.tmp 7) = .pointer (some ⟨gs9 1, 0, none⟩) := by rw [← hA_]; exact (eval_put_ne (by decide)).trans f7
                                        replace f8 : a39.eval (.tmp 8) = .pointer (some ⟨gs9 2, 0, none⟩) := by rw [← hA_]; exact (eval_put_ne (by decide)).trans f8
                                        replace f9 : a39.eval (.tmp 9) = .pointer (some ⟨gs9 3, 0, none⟩) := by rw [← hA_]; exact (eval_put_ne (by decide)).trans f9
                                        replace f10 : a39.eval (.tmp 10) = .int .i64 (ii : Int) := by rw [← hA_]; exact (eval_put_ne (by decide)).trans f10
                                        replace f12 : a39.eval (.tmp 12) = .pointer (some ⟨gLk, 0, none⟩) := by rw [← hA_]; exact (eval_put_ne (by decide)).trans f12
                                        replace f15 : a39.eval (.tmp 15) = .pointer (some ⟨gs28 0, 0, none⟩) := by rw [← hA_]; exact (eval_put_ne (by decide)).trans f15
                                        replace f16 : a39.eval (.tmp 16) = .pointer (some ⟨gs28 1, 0, none⟩) := by rw [← hA_]; exact (eval_put_ne (by decide)).trans f16
                                        replace f17 : a39.eval (.tmp 17) = .pointer (some ⟨gs28 2, 0, none⟩) := by rw [← hA_]; exact (eval_put_ne (by decide)).trans f17
                                        replace f18 : a39.eval (.tmp 18) = .pointer (some ⟨gs28 3, 0, none⟩) := by rw [← hA_]; exact (eval_put_ne (by decide)).trans f18
                                        replace f19 : a39.eval (.tmp 19) = .int .i64 (cmpI zx zy) := by rw [← hA_]; exact (eval_put_ne (by decide)).trans f19
                                        replace f75 : a39.eval (.tmp 75) = .bool false := by rw [← hA_]; exact (eval_put_ne (by decide)).trans f75
                                        replace f77 : a39.eval (.tmp 77) = .slice ay my cy := by rw [← hA_]; exact (eval_put_ne (by decide)).trans f77
                                        have f78 : a39.eval (.tmp 78) = .bool true := by rw [← hA_]; exact eval_put_same q_
                                        clear q_
                                        clear hA_
                                        refine good6 8 41 none [some 71, some 72, some 73, some 74, some 75, some 76, some 77, some 78, some 79, some 80, some 81, some 82, some 83, some 84, some 85, some 86, some 87, some 88, some 89, some 90, some 91, some 92, some 93, some 94, some 95, some 96, some 97, some 98, some 99, some 100, some 101, some 102, some 103, some 104, some 105, some 106, some 107, some 108, some 109, some 110, some 111] [(fun _ _ => True), (fun _ _ => True), (fun _ _ => True), (fun _ _ => True), Eqs (.bool false), (fun _ _ => True), Eqs (.slice ay my cy), Eqs (.bool true), Eqs (.bool false), Eqs (.bool false), Eqs (.bool false), Eqs (.int .i64 (cmpI zx zy)), Eqs (.agg #[.bool nx, .slice ax mx cx]), Eqs (.agg #[.bool ny, .slice ay my cy]), Eqs (.int .i64 (cmpI zx zy)), Eqs (.bool false), Eqs (.bool false), Eqs (.bool false), Eqs (.agg #[.bool n_29, .slice a_29 r_29.length c_29]), Eqs (.agg #[.bool n_10, .slice a_10 r_10.length c_10]), Eqs (.bool true), Eqs (.bool false), Eqs (.bool false), Eqs (.bool false), Eqs (.agg #[.bool n_30, .slice a_30 r_30.length c_30]), Eqs (.agg #[.bool n_11, .slice a_11 r_11.length c_11]), Eqs (.bool true), Eqs (.bool false), Eqs (.bool false), Eqs (.bool false), Eqs (.agg #[.bool n_31, .slice a_31 r_31.length c_31]), Eqs (.agg #[.bool n_12, .slice a_12 r_12.length c_12]), Eqs (.bool true), Eqs (.bool false), Eqs (.bool false), Eqs (.bool false), Eqs (.agg #[.bool n_32, .slice a_32 r_32.length c_32]), Eqs (.agg #[.bool n_13, .slice a_13 r_13.length c_13]), Eqs (.bool true), Eqs (.bool false), Eqs (.bool false)] [] [] [] [] [] (by kernel_rfl) hn rfl (by kernel_rfl) (by kernel_rfl) (by kernel_rfl) (by kernel_rfl) (by kernel_rfl) (by kernel_rfl) (by kernel_rfl) (by kernel_rfl) (by kernel_rfl) (by decide) ⟨True.mono5, True.mono5, True.mono5, True.mono5, Eqs.mono5 _, True.mono5, Eqs.mono5 _, Eqs.mono5 _, Eqs.mono5 _, Eqs.mono5 _, Eqs.mono5 _, Eqs.mono5 _, Eqs.mono5 _, Eqs.mono5 _, Eqs.mono5 _, Eqs.mono5 _, Eqs.mono5 _, Eqs.mono5 _, Eqs.mono5 _, Eqs.mono5 _, Eqs.mono5 _, Eqs.mono5 _, Eqs.mono5 _, Eqs.mono5 _, Eqs.mono5 _, Eqs.mono5 _, Eqs.mono5 _, Eqs.mono5 _, Eqs.mono5 _, Eqs.mono5 _, Eqs.mono5 _, Eqs.mono5 _, Eqs.mono5 _, Eqs.mono5 _, Eqs.mono5 _, Eqs.mono5 _, Eqs.mono5 _, Eqs.mono5 _, Eqs.mono5 _, Eqs.mono5 _, Eqs.mono5 _, trivial⟩ trivial xok_nil ok_nil (IsOld.all (bx := []) trivial) (DisOld.all (bx := []) trivial) ⟨⟨⟨⟨⟨⟨⟨⟨trivial, trivial⟩, trivial⟩, trivial⟩, trivial⟩, f75⟩, trivial⟩, f77⟩, f78⟩ ?_ ?_ ?_
                                        · exact ⟨.inl rfl,
                                            .inl rfl,
                                            .inl rfl,
                                            .inl rfl,
                                            .inl rfl,
                                            .inl rfl,
                                            .inl rfl,
                                            .inl rfl,
                                            .inr (.norm 79 rfl rfl (nxt rfl) rfl (fun a_ w_ hn_ hBt hr hR hD hO hS => ⟨⟨_, rfl⟩, fun _ => d6 rfl (op_not (show a_.eval (.tmp 78) = .bool true from hD 7 rfl)), fun hne => absurd (hD 4 rfl) hne⟩)),
                                            .inr (.norm 80 rfl rfl (nxt rfl) rfl (fun a_ w_ hn_ hBt hr hR hD hO hS => d6 rfl (op_pickb (show a_.eval (.tmp 75) = .bool false from hD 4 rfl) (show a_.eval (.tmp 79) = .bool false from hD 8 rfl)))),
                                            .inr (.norm 81 rfl rfl (nxt rfl) rfl (fun a_ w_ hn_ hBt hr hR hD hO hS => d6 rfl (op_mv (show a_.eval (.tmp 80) = .bool false from hD 9 rfl)))),
                                            .inr (.norm 82 rfl rfl (nxt rfl) rfl (fun a_ w_ hn_ hBt hr hR hD hO hS => ⟨⟨_, rfl⟩, fun _ => d6 rfl (op_mv ((hR 19 rfl).trans f19)), fun hne => absurd (hD 10 rfl) hne⟩)),
                                            .inr (.norm 83 rfl rfl (nxt rfl) rfl (fun a_ w_ hn_ hBt hr hR hD hO hS => ⟨⟨_, rfl⟩, fun _ => d6 rfl (op_loadv W2ok ((hR 2 rfl).trans f2) (b2.keep5 hBt trivial trivial)), fun hne => absurd (hD 10 rfl) hne⟩)),
                                            .inr (.norm 84 rfl rfl (nxt rfl) rfl (fun a_ w_ hn_ hBt hr hR hD hO hS => ⟨⟨_, rfl⟩, fun _ => d6 rfl (op_loadv W2ok ((hR 3 rfl).trans f3) (b3.keep5 hBt trivial trivial)), fun hne => absurd (hD 10 rfl) hne⟩)),
                                            .inr (.norm 85 rfl rfl (nxt rfl) rfl (fun a_ w_ hn_ hBt hr hR hD hO hS => ⟨⟨_, rfl⟩, fun _ => d6 rfl (op_r2cmp (isw_eq (show a_.eval (.tmp 83) = .agg #[.bool nx, .slice ax mx cx] from hD 12 rfl) (Ax.ru hr) Lx) (isw_eq (show a_.eval (.tmp 84) = .agg #[.bool ny, .slice ay my cy] from hD 13 rfl) (Ay.ru hr) Ly) (by omega)), fun hne => absurd (hD 10 rfl) hne⟩)),
                                            .inr (.norm 86 rfl rfl (nxt rfl) rfl (fun a_ w_ hn_ hBt hr hR hD hO hS => ⟨⟨_, rfl⟩, fun _ => d6 rfl (op_neqsame (show a_.eval (.tmp 82) = .int .i64 (cmpI zx zy) from hD 11 rfl) (show a_.eval (.tmp 85) = .int .i64 (cmpI zx zy) from hD 14 rfl)), fun hne => absurd (hD 10 rfl) hne⟩)),
                                            .inr (.norm 87 rfl rfl (nxt rfl) rfl (fun a_ w_ hn_ hBt hr hR hD hO hS => d6 rfl (op_pickb (show a_.eval (.tmp 81) = .bool false from hD 10 rfl) (show a_.eval (.tmp 86) = .bool false from hD 15 rfl)))),
                                            .inr (.norm 88 rfl rfl (nxt rfl) rfl (fun a_ w_ hn_ hBt hr hR hD hO hS => d6 rfl (op_mv (show a_.eval (.tmp 87) = .bool false from hD 16 rfl)))),
                                            .inr (.norm 89 rfl rfl (nxt rfl) rfl (fun a_ w_ hn_ hBt hr hR hD hO hS => ⟨⟨_, rfl⟩, fun _ => d6 rfl (op_loadv W2ok ((hR 15 rfl).trans f15) (b15.keep5 hBt trivial trivial)), fun hne => absurd (hD 17 rfl) hne⟩)),
                                            .inr (.norm 90 rfl rfl (nxt rfl) rfl (fun a_ w_ hn_ hBt hr hR hD hO hS => ⟨⟨_, rfl⟩, fun _ => d6 rfl (op_loadv W2ok ((hR 6 rfl).trans f6) (b6.keep5 hBt trivial trivial)), fun hne => absurd (hD 17 rfl) hne⟩)),
                                            .inr (.norm 91 rfl rfl (nxt rfl) rfl (fun a_ w_ hn_ hBt hr hR hD hO hS => ⟨⟨_, rfl⟩, fun _ => d6 rfl (op_same (outw_eq (show a_.eval (.tmp 89) = .agg #[.bool n_29, .slice a_29 r_29.length c_29] from hD 18 rfl) (G29.ru hr) l29) (outw_eq (show a_.eval (.tmp 90) = .agg #[.bool n_10, .slice a_10 r_10.length c_10] from hD 19 rfl) (G10.ru hr) l10) rfl), fun hne => absurd (hD 17 rfl) hne⟩)),
                                            .inr (.norm 92 rfl rfl (nxt rfl) rfl (fun a_ w_ hn_ hBt hr hR hD hO hS => ⟨⟨_, rfl⟩, fun _ => d6 rfl (op_not (show a_.eval (.tmp 91) = .bool true from hD 20 rfl)), fun hne => absurd (hD 17 rfl) hne⟩)),
                                            .inr (.norm 93 rfl rfl (nxt rfl) rfl (fun a_ w_ hn_ hBt hr hR hD hO hS => d6 rfl (op_pickb (show a_.eval (.tmp 88) = .bool false from hD 17 rfl) (show a_.eval (.tmp 92) = .bool false from hD 21 rfl)))),
                                            .inr (.norm 94 rfl rfl (nxt rfl) rfl (fun a_ w_ hn_ hBt hr hR hD hO hS => d6 rfl (op_mv (show a_.eval (.tmp 93) = .bool false from hD 22 rfl)))),
                                            .inr (.norm 95 rfl rfl (nxt rfl) rfl (fun a_ w_ hn_ hBt hr hR hD hO hS => ⟨⟨_, rfl⟩, fun _ => d6 rfl (op_loadv W2ok ((hR 16 rfl).trans f16) (b16.keep5 hBt trivial trivial)), fun hne => absurd (hD 23 rfl) hne⟩)),
                                            .inr (.norm 96 rfl rfl (nxt rfl) rfl (fun a_ w_ hn_ hBt hr hR hD hO hS => ⟨⟨_, rfl⟩, fun _ => d6 rfl (op_loadv W2ok ((hR 7 rfl).trans f7) (b7.keep5 hBt trivial trivial)), fun hne => absurd (hD 23 rfl) hne⟩)),
                                            .inr (.norm 97 rfl rfl (nxt rfl) rfl (fun a_ w_ hn_ hBt hr hR hD hO hS => ⟨⟨_, rfl⟩, fun _ => d6 rfl (op_same (outw_eq (show a_.eval (.tmp 95) = .agg #[.bool n_30, .slice a_30 r_30.length c_30] from hD 24 rfl) (G30.ru hr) l30) (outw_eq (show a_.eval (.tmp 96) = .agg #[.bool n_11, .slice a_11 r_11.length c_11] from hD 25 rfl) (G11.ru hr) l11) rfl), fun hne => absurd (hD 23 rfl) hne⟩)),
                                            .inr (.norm 98 rfl rfl (nxt rfl) rfl (fun a_ w_ hn_ hBt hr hR hD hO hS => ⟨⟨_, rfl⟩, fun _ => d6 rfl (op_not (show a_.eval (.tmp 97) = .bool true from hD 26 rfl)), fun hne => absurd (hD 23 rfl) hne⟩)),
                                            .inr (.norm 99 rfl rfl (nxt rfl) rfl (fun a_ w_ hn_ hBt hr hR hD hO hS => d6 rfl (op_pickb (show a_.eval (.tmp 94) = .bool false from hD 23 rfl) (show a_.eval (.tmp 98) = .bool false from hD 27 rfl)))),
                                            .inr (.norm 100 rfl rfl (nxt rfl) rfl (fun a_ w_ hn_ hBt hr hR hD hO hS => d6 rfl (op_mv (show a_.eval (.tmp 99) = .bool false from hD 28 rfl)))),
                                            .inr (.norm 101 rfl rfl (nxt rfl) rfl (fun a_ w_ hn_ hBt hr hR hD hO hS => ⟨⟨_, rfl⟩, fun _ => d6 rfl (op_loadv W2ok ((hR 17 rfl).trans f17) (b17.keep5 hBt trivial trivial)), fun hne => absurd (hD 29 rfl) hne⟩)),
                                            .inr (.norm 102 rfl rfl (nxt rfl) rfl (fun a_ w_ hn_ hBt hr hR hD hO hS => ⟨⟨_, rfl⟩, fun _ => d6 rfl (op_loadv W2ok ((hR 8 rfl).trans f8) (b8.keep5 hBt trivial trivial)), fun hne => absurd (hD 29 rfl) hne⟩)),
                                            .inr (.norm 103 rfl rfl (nxt rfl) rfl (fun a_ w_ hn_ hBt hr hR hD hO hS => ⟨⟨_, rfl⟩, fun _ => d6 rfl (op_same (outw_eq (show a_.eval (.tmp 101) = .agg #[.bool n_31, .slice a_31 r_31.length c_31] from hD 30 rfl) (G31.ru hr) l31) (outw_eq (show a_.eval (.tmp 102) = .agg #[.bool n_12, .slice a_12 r_12.length c_12] from hD 31 rfl) (G12.ru hr) l12) rfl), fun hne => absurd (hD 29 rfl) hne⟩)),
                                            .inr (.norm 104 rfl rfl (nxt rfl) rfl (fun a_ w_ hn_ hBt hr hR hD hO hS => ⟨⟨_, rfl⟩, fun _ => d6 rfl (op_not (show a_.eval (.tmp 103) = .bool true from hD 32 rfl)), fun hne => absurd (hD 29 rfl) hne⟩)),
                                            .inr (.norm 105 rfl rfl (nxt rfl) rfl (fun a_ w_ hn_ hBt hr hR hD hO hS => d6 rfl (op_pickb (show a_.eval (.tmp 100) = .bool false from hD 29 rfl) (show a_.eval (.tmp 104) = .bool false from hD 33 rfl)))),
                                            .inr (.norm 106 rfl rfl (nxt rfl) rfl (fun a_ w_ hn_ hBt hr hR hD hO hS => d6 rfl (op_mv (show a_.eval (.tmp 105) = .bool false from hD 34 rfl)))),
                                            .inr (.norm 107 rfl rfl (nxt rfl) rfl (fun a_ w_ hn_ hBt hr hR hD hO hS => ⟨⟨_, rfl⟩, fun _ => d6 rfl (op_loadv W2ok ((hR 18 rfl).trans f18) (b18.keep5 hBt trivial trivial)), fun hne => absurd (hD 35 rfl) hne⟩)),
                                            .inr (.norm 108 rfl rfl (nxt rfl) rfl (fun a_ w_ hn_ hBt hr hR hD hO hS => ⟨⟨_, rfl⟩, fun _ => d6 rfl (op_loadv W2ok ((hR 9 rfl).trans f9) (b9.keep5 hBt trivial trivial)), fun hne => absurd (hD 35 rfl) hne⟩)),
                                            .inr (.norm 109 rfl rfl (nxt rfl) rfl (fun a_ w_ hn_ hBt hr hR hD hO hS => ⟨⟨_, rfl⟩, fun _ => d6 rfl (op_same (outw_eq (show a_.eval (.tmp 107) = .agg #[.bool n_32, .slice a_32 r_32.length c_32] from hD 36 rfl) (G32.ru hr) l32) (outw_eq (show a_.eval (.tmp 108) = .agg #[.bool n_13, .slice a_13 r_13.length c_13] from hD 37 rfl) (G13.ru hr) l13) rfl), fun hne => absurd (hD 35 rfl) hne⟩)),
                                            .inr (.norm 110 rfl rfl (nxt rfl) rfl (fun a_ w_ hn_ hBt hr hR hD hO hS => ⟨⟨_, rfl⟩, fun _ => d6 rfl (op_not (show a_.eval (.tmp 109) = .bool true from hD 38 rfl)), fun hne => absurd (hD 35 rfl) hne⟩)),
                                            .inr (.norm 111 rfl rfl (nxt rfl) rfl (fun a_ w_ hn_ hBt hr hR hD hO hS => d6 rfl (op_pickb (show a_.eval (.tmp 106) = .bool false from hD 35 rfl) (show a_.eval (.tmp 110) = .bool false from hD 39 rfl)))),
                                            trivial⟩
                                        · exact fun _ _ h => by cases h
                                        · intro _ a40 w40 gs40 B40 T40 F_
                                          obtain ⟨hn40, hd40, hBt, hr, hR, hP, hTs, hLi, hX, hU, hRel, hSl⟩ := F_
                                          replace hn := hn40; replace hd := hd40.trans hd
                                          have lq40HK := HK.le
                                          have lq40HR := HR.le
                                          have lq40HT29 := HT29.le
                                          have lq40HT30 := HT30.le
                                          have lq40HT31 := HT31.le
                                          have lq40HT32 := HT32.le
                                          have lq40HN := HN.le
                                          have lq40BK := BK.lt.2
                                          replace b2 := b2.keep5 hBt trivial trivial
                                          replace b3 := b3.keep5 hBt trivial trivial
                                          replace b6 := b6.keep5 hBt trivial trivial
                                          replace b7 := b7.keep5 hBt trivial trivial
                                          replace b8 := b8.keep5 hBt trivial trivial
                                          replace b9 := b9.keep5 hBt trivial trivial
                                          replace b15 := b15.keep5 hBt trivial trivial
                                          replace b16 := b16.keep5 hBt trivial trivial
                                          replace b17 := b17.keep5 hBt trivial trivial
                                          replace b18 := b18.keep5 hBt trivial trivial
                                          replace f2 := (hR 2 rfl).trans f2
                                          replace f3 := (hR 3 rfl).trans f3
                                          replace f5 := (hR 5 rfl).trans f5
                                          replace f6 := (hR 6 rfl).trans f6
                                          replace f7 := (hR 7 rfl).trans f7
                                          replace f8 := (hR 8 rfl).trans f8
                                          replace f9 := (hR 9 rfl).trans f9
                                          replace f10 := (hR 10 rfl).trans f10
                                          replace f15 := (hR 15 rfl).trans f15
                                          replace f16 := (hR 16 rfl).trans f16
                                          replace f17 := (hR 17 rfl).trans f17
                                          replace f18 := (hR 18 rfl).trans f18
                                          have e111 : a40.eval (.tmp 111) = .bool false := hP 40 (by decide)
                                          have f111 := e111
                                          have hBl_ := hBt.below (Nat.le_refl _) (UpOld.all (bx := []) trivial) (UpX.all (bx := []) trivial)
                                          replace Ax := Ax.ru hr
                                          replace Tx := Tx.ru hr
                                          replace Ay := Ay.ru hr
                                          replace Ty := Ty.ru hr
                                          replace F10 := F10.ru hr
                                          replace G10 := G10.ru hr
                                          replace A10 := A10.ru hr
                                          replace F11 := F11.ru hr
                                          replace G11 := G11.ru hr
                                          replace A11 := A11.ru hr
                                          replace F12 := F12.ru hr
                                          replace G12 := G12.ru hr
                                          replace A12 := A12.ru hr
                                          replace F13 := F13.ru hr
                                          replace G13 := G13.ru hr
                                          replace A13 := A13.ru hr
                                          replace HK := HK.ru hr
                                          replace HR := HR.ru hr
                                          replace F29 := F29.ru hr
                                          replace G29 := G29.ru hr
                                          replace A29 := A29.ru hr
                                          replace HT29 := HT29.ru hr
                                          replace F30 := F30.ru hr
                                          replace G30 := G30.ru hr
                                          replace A30 := A30.ru hr
                                          replace HT30 := HT30.ru hr
                                          replace F31 := F31.ru hr
                                          replace G31 := G31.ru hr
                                          replace A31 := A31.ru hr
                                          replace HT31 := HT31.ru hr
                                          replace F32 := F32.ru hr
                                          replace G32 := G32.ru hr
                                          replace A32 := A32.ru hr
                                          replace HT32 := HT32.ru hr
                                          replace HN := HN.ru hr
                                          replace BK := BK.below hBl_
                                          replace HB := HB.trans (hBt.below HB.size (UpOld.all (bx := []) trivial) (UpX.all (bx := []) trivial))
                                          clear hBt hr hR hP hTs hLi hX hU hRel hSl
                                          refine wp_cond_false f111 ?_
                                          refine wp_skip ?_
                                          refine wp_seq ?_
                                          refine wp_of_good (by kernel_rfl) (by kernel_rfl) (fun w_0 hb_0 => ?_)
                                          replace b2 := b2.below hb_0
                                          replace b3 := b3.below hb_0
                                          replace b6 := b6.below hb_0
                                          replace b7 := b7.below hb_0
                                          replace b8 := b8.below hb_0
                                          replace b9 := b9.below hb_0
                                          replace b15 := b15.below hb_0
                                          replace b16 := b16.below hb_0
                                          replace b17 := b17.below hb_0
                                          replace b18 := b18.below hb_0
                                          replace Ax := Ax.below hb_0
                                          replace Tx := Tx.below hb_0
                                          replace Ay := Ay.below hb_0
                                          replace Ty := Ty.below hb_0
                                          replace F10 := F10.below hb_0
                                          replace G10 := G10.below hb_0
                                          replace A10 := A10.below hb_0
                                          replace F11 := F11.below hb_0
                                          replace G11 := G11.below hb_0
                                          replace A11 := A11.below hb_0
                                          replace F12 := F12.below hb_0
                                          replace G12 := G12.below hb_0
                                          replace A12 := A12.below hb_0
                                          replace F13 := F13.below hb_0
                                          replace G13 := G13.below hb_0
                                          replace A13 := A13.below hb_0
                                          replace HK := HK.below hb_0
                                          replace HR := HR.below hb_0
                                          replace F29 := F29.below hb_0
                                          replace G29 := G29.below hb_0
                                          replace A29 := A29.below hb_0
                                          replace HT29 := HT29.below hb_0
                                          replace F30 := F30.below hb_0
                                          replace G30 := G30.below hb_0
                                          replace A30 := A30.below hb_0
                                          replace HT30 := HT30.below hb_0
                                          replace F31 := F31.below hb_0
                                          replace G31 := G31.below hb_0
                                          replace A31 := A31.below hb_0
                                          replace HT31 := HT31.below hb_0
                                          replace F32 := F32.below hb_0
                                          replace G32 := G32.below hb_0
                                          replace A32 := A32.below hb_0
                                          replace HT32 := HT32.below hb_0
                                          replace HN := HN.below hb_0
                                          replace BK := BK.below hb_0
                                          replace HB := HB.trans (hb_0.mono HB.size); clear hb_0
                                          refine good6 0 2 (some 2) [some 112, some 113, some 114, some 115, some 116, some 117, some 118, some 119, some 120, some 121, some 122, some 123, some 124, some 125, some 126, some 127, some 128, some 129, some 130, some 131, some 132, some 133] [Eqs (.pointer (some ⟨pB, 0, none⟩)), Eqs (.agg #[.bool n_29, .slice a_29 r_29.length c_29]), (fun _ _ => True), (fun _ _ => True), (fun _ _ => True), (fun _ _ => True), (fun _ _ => True), (fun _ _ => True), (fun _ _ => True), (fun _ _ => True), (fun _ _ => True), (fun _ _ => True), (fun _ _ => True), (fun _ _ => True), (fun _ _ => True), (fun _ _ => True), (fun _ _ => True), (fun _ _ => True), (fun _ _ => True), (fun _ _ => True), (fun _ _ => True), (fun _ _ => True)] [] [] [] [] [] (by kernel_rfl) hn rfl (by kernel_rfl) (by kernel_rfl) (by kernel_rfl) (by kernel_rfl) (by kernel_rfl) (by kernel_rfl) (by kernel_rfl) (by kernel_rfl) (by kernel_rfl) (by decide) ⟨Eqs.mono5 _, Eqs.mono5 _, True.mono5, True.mono5, True.mono5, True.mono5, True.mono5, True.mono5, True.mono5, True.mono5, True.mono5, True.mono5, True.mono5, True.mono5, True.mono5, True.mono5, True.mono5, True.mono5, True.mono5, True.mono5, True.mono5, True.mono5, trivial⟩ trivial xok_nil ok_nil (IsOld.all (bx := []) trivial) (DisOld.all (bx := []) trivial) trivial ?_ ?_ ?_
                                          · exact ⟨.inr (.norm 112 rfl rfl (nxt rfl) rfl (fun a_ w_ hn_ hBt hr hR hD hO hS => d6 rfl (op_mv ((hR 5 rfl).trans f5)))),
                                              .inr (.norm 113 rfl rfl (nxt rfl) rfl (fun a_ w_ hn_ hBt hr hR hD hO hS => d6 rfl (op_loadv W2ok ((hR 15 rfl).trans f15) (b15.keep5 hBt trivial trivial)))),
                                              .inl rfl,
                                              .inl rfl,
                                              .inl rfl,
                                              .inl rfl,
                                              .inl rfl,
                                              .inl rfl,
                                              .inl rfl,
                                              .inl rfl,
                                              .inl rfl,
                                              .inl rfl,
                                              .inl rfl,
                                              .inl rfl,
                                              .inl rfl,
                                              .inl rfl,
                                              .inl rfl,
                                              .inl rfl,
                                              .inl rfl,
                                              .inl rfl,
                                              .inl rfl,
                                              .inl rfl,
                                              trivial⟩
                                          rotate_left
                                          · exact fun h => by cases h
                                          · intro t_ o_ ht_ ho_ a41 w41 gs41 B41 T41 F_
                                            obtain rfl := Option.some.inj ht_; obtain rfl := Option.some.inj ho_; clear ht_ ho_
                                            obtain ⟨hn41, hd41, hBt, hr, hR, hP, hTs, hLi, hX, hU, hRel, hSl⟩ := F_
                                            replace hn := hn41; replace hd := hd41.trans hd
                                            have lq41HK := HK.le
                                            have lq41HR := HR.le
                                            have lq41HT29 := HT29.le
                                            have lq41HT30 := HT30.le
                                            have lq41HT31 := HT31.le
                                            have lq41HT32 := HT32.le
                                            have lq41HN := HN.le
                                            have lq41BK := BK.lt.2
                                            replace b2 := b2.keep5 hBt trivial trivial
                                            replace b3 := b3.keep5 hBt trivial trivial
                                            replace b6 := b6.keep5 hBt trivial trivial
                                            replace b7 := b7.keep5 hBt trivial trivial
                                            replace b8 := b8.keep5 hBt trivial trivial
                                            replace b9 := b9.keep5 hBt trivial trivial
                                            replace b16 := b16.keep5 hBt trivial trivial
                                            replace b17 := b17.keep5 hBt trivial trivial
                                            replace b18 := b18.keep5 hBt trivial trivial
                                            replace f2 := (hR 2 rfl).trans f2
                                            replace f3 := (hR 3 rfl).trans f3
                                            replace f5 := (hR 5 rfl).trans f5
                                            replace f6 := (hR 6 rfl).trans f6
                                            replace f7 := (hR 7 rfl).trans f7
                                            replace f8 := (hR 8 rfl).trans f8
                                            replace f9 := (hR 9 rfl).trans f9
                                            replace f10 := (hR 10 rfl).trans f10
                                            replace f16 := (hR 16 rfl).trans f16
                                            replace f17 := (hR 17 rfl).trans f17
                                            replace f18 := (hR 18 rfl).trans f18
                                            have e112 : a41.eval (.tmp 112) = .pointer (some ⟨pB, 0, none⟩) := hP 0 (by decide)
                                            have f112 := e112
                                            have e113 : a41.eval (.tmp 113) = .agg #[.bool n_29, .slice a_29 r_29.length c_29] := hP 1 (by decide)
                                            have f113 := e113
                                            have hBl_ := hBt.below (Nat.le_refl _) (UpOld.all (bx := []) trivial) (UpX.all (bx := []) trivial)
                                            replace Ax := Ax.ru hr
                                            replace Tx := Tx.ru hr
                                            replace Ay := Ay.ru hr
                                            replace Ty := Ty.ru hr
                                            replace F10 := F10.ru hr
                                            replace G10 := G10.ru hr
                                            replace A10 := A10.ru hr
                                            replace F11 := F11.ru hr
                                            replace G11 := G11.ru hr
                                            replace A11 := A11.ru hr
                                            replace F12 := F12.ru hr
                                            replace G12 := G12.ru hr
                                            replace A12 := A12.ru hr
                                            replace F13 := F13.ru hr
                                            replace G13 := G13.ru hr
                                            replace A13 := A13.ru hr
                                            replace HK := HK.ru hr
                                            replace HR := HR.ru hr
                                            replace F29 := F29.ru hr
                                            replace G29 := G29.ru hr
                                            replace A29 := A29.ru hr
                                            replace HT29 := HT29.ru hr
                                            replace F30 := F30.ru hr
                                            replace G30 := G30.ru hr
                                            replace A30 := A30.ru hr
                                            replace HT30 := HT30.ru hr
                                            replace F31 := F31.ru hr
                                            replace G31 := G31.ru hr
                                            replace A31 := A31.ru hr
                                            replace HT31 := HT31.ru hr
                                            replace F32 := F32.ru hr
                                            replace G32 := G32.ru hr
                                            replace A32 := A32.ru hr
                                            replace HT32 := HT32.ru hr
                                            replace HN := HN.ru hr
                                            replace BK := BK.below hBl_
                                            replace HB := HB.trans (hBt.below HB.size (UpOld.all (bx := []) trivial) (UpX.all (bx := []) trivial))
                                            clear hBt hr hR hP hTs hLi hX hU hRel hSl
                                            refine ⟨trivial, (op_ownw f112 f113 BK (by omega) F29 (by omega) HB.size (fun j hj => by have := hbs j hj; omega)).mono ?_⟩
                                            rintro v_ w42 ⟨rfl, bs42, BK_, kp_, hj_⟩
                                            have hbs_ : ∀ j ∈ bs42, K0 ≤ j ∧ (j < KR ∨ NN ≤ j ∨ (p29 ≤ j ∧ j < q29)) := by
                                              intro j hj
                                              have h1_ := HN.le
                                              have h2_ := HK.le
                                              rcases hj_ j hj with h | h | h
                                              · have := hbs j h; omega
                                              · omega
                                              · omega
                                            replace b2 := b2.kp kp_ (bs_ne BK b2) (fun h => by have := hbs_ _ h; omega)
                                            replace b3 := b3.kp kp_ (bs_ne BK b3) (fun h => by have := hbs_ _ h; omega)
                                            replace b6 := b6.kp kp_ (bs_ne BK b6) (fun h => by have := hbs_ _ h; omega)
                                            replace b7 := b7.kp kp_ (bs_ne BK b7) (fun h => by have := hbs_ _ h; omega)
                                            replace b8 := b8.kp kp_ (bs_ne BK b8) (fun h => by have := hbs_ _ h; omega)
                                            replace b9 := b9.kp kp_ (bs_ne BK b9) (fun h => by have := hbs_ _ h; omega)
                                            replace b16 := b16.kp kp_ (bs_ne BK b16) (fun h => by have := hbs_ _ h; have n29_ := nb16_29.out; omega)
                                            replace b17 := b17.kp kp_ (bs_ne BK b17) (fun h => by have := hbs_ _ h; have n29_ := nb17_29.out; omega)
                                            replace b18 := b18.kp kp_ (bs_ne BK b18) (fun h => by have := hbs_ _ h; have n29_ := nb18_29.out; omega)
                                            replace F10 := F10.kp kp_ (by omega) (fun j hj => by have := hbs_ j hj; omega)
                                            replace G10 := F10.wh
                                            replace A10 := G10.ag
                                            replace F11 := F11.kp kp_ (by omega) (fun j hj => by have := hbs_ j hj; omega)
                                            replace G11 := F11.wh
                                            replace A11 := G11.ag
                                            replace F12 := F12.kp kp_ (by omega) (fun j hj => by have := hbs_ j hj; omega)
                                            replace G12 := F12.wh
                                            replace A12 := G12.ag
                                            replace F13 := F13.kp kp_ (by omega) (fun j hj => by have := hbs_ j hj; omega)
                                            replace G13 := F13.wh
                                            replace A13 := G13.ag
                                            replace HK := HK.kp kp_
                                            replace HR := HR.kp kp_
                                            replace F30 := F30.kp kp_ (by omega) (fun j hj => by have := hbs_ j hj; have d29_ := dj29_30.out; omega)
                                            replace G30 := F30.wh
                                            replace A30 := G30.ag
                                            replace HT30 := HT30.kp kp_
                                            replace F31 := F31.kp kp_ (by omega) (fun j hj => by have := hbs_ j hj; have d29_ := dj29_31.out; omega)
                                            replace G31 := F31.wh
                                            replace A31 := G31.ag
                                            replace HT31 := HT31.kp kp_
                                            replace F32 := F32.kp kp_ (by omega) (fun j hj => by have := hbs_ j hj; have d29_ := dj29_32.out; omega)
                                            replace G32 := F32.wh
                                            replace A32 := G32.ag
                                            replace HT32 := HT32.kp kp_
                                            replace HN := HN.kp kp_
                                            replace HB := HB.trans (kp_.below upB (fun j hj => by have := hbs_ j hj; omega) HB.size)
                                            replace BK := BK_; replace hbs := hbs_; clear BK_ hbs_ kp_ hj_ F29 G29 A29 HT29
                                            replace Ax := Ax0.below HB; replace Tx := Ax.sl
                                            replace Ay := Ay0.below HB; replace Ty := Ay.sl
                                            change Good _ _ _ _ _ (Act.put a41 (some 114) (.bool true)) _
                                            have q_ : 114 < a41.tmps.size := by rw [hn]; decide
                                            generalize hA_ : Act.put a41 (some 114) (.bool true) = a43
                                            replace hn : a43.tmps.size = 136 := by rw [← hA_, put_tmps]; simp [hn]
                                            replace hd : a43.defers = [] := by rw [← hA_]; exact hd
                                            replace f2 : a43.eval (.tmp 2) = .pointer (some ⟨gs1 0, 0, none⟩) := by rw [← hA_]; exact (eval_put_ne (by decide)).trans f2
                                            replace f3 : a43.eval (.tmp 3) = .pointer (some ⟨gs1 1, 0, none⟩) := by rw [← hA_]; exact (eval_put_ne (by decide)).trans f3
                                            replace f5 : a43.eval (.tmp 5) = .pointer (some ⟨pB, 0, none⟩) := by rw [← hA_]; exact (eval_put_ne (by decide)).trans f5
                                            replace f6 : a43.eval (.tmp 6) = .pointer (some ⟨gs9 0, 0, none⟩) := by rw [← hA_]; exact (eval_put_ne (by decide)).trans f6
                                            replace f7 : a43.eval (.tmp 7) = .pointer (some ⟨gs9 1, 0, none⟩) := by rw [← hA_]; exact (eval_put_ne (by decide)).trans f7
                                            replace f8 : a43.eval (.tmp 8) = .pointer (some ⟨gs9 2, 0, none⟩) := by rw [← hA_]; exact (eval_put_ne (by decide)).trans f8
                                            replace f9 : a43.eval (.tmp 9) = .pointer (some ⟨gs9 3, 0, none⟩) := by rw [← hA_]; exact (eval_put_ne (by decide)).trans f9
                                            replace f10 : a43.eval (.tmp 10) = .int .i64 (ii : Int) := by rw [← hA_]; exact (eval_put_ne (by decide)).trans f10
                                            replace f16 : a43.eval (.tmp 16) = .pointer (some ⟨gs28 1, 0, none⟩) := by rw [← hA_]; exact (eval_put_ne (by decide)).trans f16
                                            replace f17 : a43.eval (.tmp 17) = .pointer (some ⟨gs28 2, 0, none⟩) := by rw [← hA_]; exact (eval_put_ne (by decide)).trans f17
                                            replace f18 : a43.eval (.tmp 18) = .pointer (some ⟨gs28 3, 0, none⟩) := by rw [← hA_]; exact (eval_put_ne (by decide)).trans f18
                                            replace f112 : a43.eval (.tmp 112) = .pointer (some ⟨pB, 0, none⟩) := by rw [← hA_]; exact (eval_put_ne (by decide)).trans f112
                                            replace f113 : a43.eval (.tmp 113) = .agg #[.bool n_29, .slice a_29 r_29.length c_29] := by rw [← hA_]; exact (eval_put_ne (by decide)).trans f113
                                            have f114 : a43.eval (.tmp 114) = .bool true := by rw [← hA_]; exact eval_put_same q_
                                            clear q_
                                            clear hA_
                                            refine good6 3 7 (some 7) [some 112, some 113, some 114, some 115, some 116, some 117, some 118, some 119, some 120, some 121, some 122, some 123, some 124, some 125, some 126, some 127, some 128, some 129, some 130, some 131, some 132, some 133] [Eqs (.pointer (some ⟨pB, 0, none⟩)), Eqs (.agg #[.bool n_29, .slice a_29 r_29.length c_29]), Eqs (.bool true), Eqs (.bool false), Eqs (.bool false), Eqs (.pointer (some ⟨pB, 0, none⟩)), Eqs (.agg #[.bool n_30, .slice a_30 r_30.length c_30]), (fun _ _ => True), (fun _ _ => True), (fun _ _ => True), (fun _ _ => True), (fun _ _ => True), (fun _ _ => True), (fun _ _ => True), (fun _ _ => True), (fun _ _ => True), (fun _ _ => True), (fun _ _ => True), (fun _ _ => True), (fun _ _ => True), (fun _ _ => True), (fun _ _ => True)] [] [] [] [] [] (by kernel_rfl) hn rfl (by kernel_rfl) (by kernel_rfl) (by kernel_rfl) (by kernel_rfl) (by kernel_rfl) (by kernel_rfl) (by kernel_rfl) (by kernel_rfl) (by kernel_rfl) (by decide) ⟨Eqs.mono5 _, Eqs.mono5 _, Eqs.mono5 _, Eqs.mono5 _, Eqs.mono5 _, Eqs.mono5 _, Eqs.mono5 _, True.mono5, True.mono5, True.mono5, True.mono5, True.mono5, True.mono5, True.mono5, True.mono5, True.mono5, True.mono5, True.mono5, True.mono5, True.mono5, True.mono5, True.mono5, trivial⟩ trivial xok_nil ok_nil (IsOld.all (bx := []) trivial) (DisOld.all (bx := []) trivial) ⟨⟨⟨trivial, f112⟩, f113⟩, f114⟩ ?_ ?_ ?_
                                            · exact ⟨.inl rfl,
                                                .inl rfl,
                                                .inl rfl,
                                                .inr (.norm 115 rfl rfl (nxt rfl) rfl (fun a_ w_ hn_ hBt hr hR hD hO hS => d6 rfl (op_not (show a_.eval (.tmp 114) = .bool true from hD 2 rfl)))),
                                                .inr (.norm 116 rfl rfl (nxt rfl) rfl (fun a_ w_ hn_ hBt hr hR hD hO hS => d6 rfl (op_mv (show a_.eval (.tmp 115) = .bool false from hD 3 rfl)))),
                                                .inr (.norm 117 rfl rfl (nxt rfl) rfl (fun a_ w_ hn_ hBt hr hR hD hO hS => ⟨⟨_, rfl⟩, fun _ => d6 rfl (op_mv ((hR 5 rfl).trans f5)), fun hne => absurd (hD 4 rfl) hne⟩)),
                                                .inr (.norm 118 rfl rfl (nxt rfl) rfl (fun a_ w_ hn_ hBt hr hR hD hO hS => ⟨⟨_, rfl⟩, fun _ => d6 rfl (op_loadv W2ok ((hR 16 rfl).trans f16) (b16.keep5 hBt trivial trivial)), fun hne => absurd (hD 4 rfl) hne⟩)),
                                                .inl rfl,
                                                .inl rfl,
                                                .inl rfl,
                                                .inl rfl,
                                                .inl rfl,
                                                .inl rfl,
                                                .inl rfl,
                                                .inl rfl,
                                                .inl rfl,
                                                .inl rfl,
                                                .inl rfl,
                                                .inl rfl,
                                                .inl rfl,
                                                .inl rfl,
                                                .inl rfl,
                                                trivial⟩
                                            rotate_left
                                            · exact fun h => by cases h
                                            · intro t_ o_ ht_ ho_ a44 w44 gs44 B44 T44 F_
                                              obtain rfl := Option.some.inj ht_; obtain rfl := Option.some.inj ho_; clear ht_ ho_
                                              obtain ⟨hn44, hd44, hBt, hr, hR, hP, hTs, hLi, hX, hU, hRel, hSl⟩ := F_
                                              replace hn := hn44; replace hd := hd44.trans hd
                                              have lq44HK := HK.le
                                              have lq44HR := HR.le
                                              have lq44HT30 := HT30.le
                                              have lq44HT31 := HT31.le
                                              have lq44HT32 := HT32.le
                                              have lq44HN := HN.le
                                              have lq44BK := BK.lt.2
                                              replace b2 := b2.keep5 hBt trivial trivial
                                              replace b3 := b3.keep5 hBt trivial trivial
                                              replace b6 := b6.keep5 hBt trivial trivial
                                              replace b7 := b7.keep5 hBt trivial trivial
                                              replace b8 := b8.keep5 hBt trivial trivial
                                              replace b9 := b9.keep5 hBt trivial trivial
                                              replace b17 := b17.keep5 hBt trivial trivial
                                              replace b18 := b18.keep5 hBt trivial trivial
                                              replace f2 := (hR 2 rfl).trans f2
                                              replace f3 := (hR 3 rfl).trans f3
                                              replace f5 := (hR 5 rfl).trans f5
                                              replace f6 := (hR 6 rfl).trans f6
                                              replace f7 := (hR 7 rfl).trans f7
                                              replace f8 := (hR 8 rfl).trans f8
                                              replace f9 := (hR 9 rfl).trans f9
                                              replace f10 := (hR 10 rfl).trans f10
                                              replace f17 := (hR 17 rfl).trans f17
                                              replace f18 := (hR 18 rfl).trans f18
                                              have e116 : a44.eval (.tmp 116) = .bool false := hP 4 (by decide)
                                              have f116 := e116
                                              have e117 : a44.eval (.tmp 117) = .pointer (some ⟨pB, 0, none⟩) := hP 5 (by decide)
                                              have f117 := e117
                                              have e118 : a44.eval (.tmp 118) = .agg #[.bool n_30, .slice a_30 r_30.length c_30] := hP 6 (by decide)
                                              have f118 := e118
                                              have hBl_ := hBt.below (Nat.le_refl _) (UpOld.all (bx := []) trivial) (UpX.all (bx := []) trivial)
                                              replace Ax := Ax.ru hr
                                              replace Tx := Tx.ru hr
                                              replace Ay := Ay.ru hr
                                              replace Ty := Ty.ru hr
                                              replace F10 := F10.ru hr
                                              replace G10 := G10.ru hr
                                              replace A10 := A10.ru hr
                                              replace F11 := F11.ru hr
                                              replace G11 := G11.ru hr
                                              replace A11 := A11.ru hr
                                              replace F12 := F12.ru hr
                                              replace G12 := G12.ru hr
                                              replace A12 := A12.ru hr
                                              replace F13 := F13.ru hr
                                              replace G13 := G13.ru hr
                                              replace A13 := A13.ru hr
                                              replace HK := HK.ru hr
                                              replace HR := HR.ru hr
                                              replace F30 := F30.ru hr
                                              replace G30 := G30.ru hr
                                              replace A30 := A30.ru hr
                                              replace HT30 := HT30.ru hr
                                              replace F31 := F31.ru hr
                                              replace G31 := G31.ru hr
                                              replace A31 := A31.ru hr
                                              replace HT31 := HT31.ru hr
                                              replace F32 := F32.ru hr
                                              replace G32 := G32.ru hr
                                              replace A32 := A32.ru hr
                                              replace HT32 := HT32.ru hr
                                              replace HN := HN.ru hr
                                              replace BK := BK.below hBl_
                                              replace HB := HB.trans (hBt.below HB.size (UpOld.all (bx := []) trivial) (UpX.all (bx := []) trivial))
                                              clear hBt hr hR hP hTs hLi hX hU hRel hSl
                                              refine ⟨⟨⟨116, rfl⟩, f116⟩, (op_ownw f117 f118 BK (by omega) F30 (by omega) HB.size (fun j hj => by have := hbs j hj; have d29_ := dj29_30.out; omega)).mono ?_⟩
                                              rintro v_ w45 ⟨rfl, bs45, BK_, kp_, hj_⟩
                                              have hbs_ : ∀ j ∈ bs45, K0 ≤ j ∧ (j < KR ∨ NN ≤ j ∨ (p29 ≤ j ∧ j < q29) ∨ (p30 ≤ j ∧ j < q30)) := by
                                                intro j hj
                                                have h1_ := HN.le
                                                have h2_ := HK.le
                                                rcases hj_ j hj with h | h | h
                                                · have := hbs j h; omega
                                                · omega
                                                · omega
                                              replace b2 := b2.kp kp_ (bs_ne BK b2) (fun h => by have := hbs_ _ h; omega)
                                              replace b3 := b3.kp kp_ (bs_ne BK b3) (fun h => by have := hbs_ _ h; omega)
                                              replace b6 := b6.kp kp_ (bs_ne BK b6) (fun h => by have := hbs_ _ h; omega)
                                              replace b7 := b7.kp kp_ (bs_ne BK b7) (fun h => by have := hbs_ _ h; omega)
                                              replace b8 := b8.kp kp_ (bs_ne BK b8) (fun h => by have := hbs_ _ h; omega)
                                              replace b9 := b9.kp kp_ (bs_ne BK b9) (fun h => by have := hbs_ _ h; omega)
                                              replace b17 := b17.kp kp_ (bs_ne BK b17) (fun h => by have := hbs_ _ h; have n29_ := nb17_29.out; have n30_ := nb17_30.out; omega)
                                              replace b18 := b18.kp kp_ (bs_ne BK b18) (fun h => by have := hbs_ _ h; have n29_ := nb18_29.out; have n30_ := nb18_30.out; omega)
                                              replace F10 := F10.kp kp_ (by omega) (fun j hj => by have := hbs_ j hj; omega)
                                              replace G10 := F10.wh
                                              replace A10 := G10.ag
                                              replace F11 := F11.kp kp_ (by omega) (fun j hj => by have := hbs_ j hj; omega)
                                              replace G11 := F11.wh
                                              replace A11 := G11.ag
                                              replace F12 := F12.kp kp_ (by omega) (fun j hj => by have := hbs_ j hj; omega)
                                              replace G12 := F12.wh
                                              replace A12 := G12.ag
                                              replace F13 := F13.kp kp_ (by omega) (fun j hj => by have := hbs_ j hj; omega)
                                              replace G13 := F13.wh
                                              replace A13 := G13.ag
                                              replace HK := HK.kp kp_
                                              replace HR := HR.kp kp_
                                              replace F31 := F31.kp kp_ (by omega) (fun j hj => by have := hbs_ j hj; have d29_ := dj29_31.out; have d30_ := dj30_31.out; omega)
                                              replace G31 := F31.wh
                                              replace A31 := G31.ag
                                              replace HT31 := HT31.kp kp_
                                              replace F32 := F32.kp kp_ (by omega) (fun j hj => by have := hbs_ j hj; have d29_ := dj29_32.out; have d30_ := dj30_32.out; omega)
                                              replace G32 := F32.wh
                                              replace A32 := G32.ag
                                              replace HT32 := HT32.kp kp_
                                              replace HN := HN.kp kp_
                                              replace HB := HB.trans (kp_.below upB (fun j hj => by have := hbs_ j hj; omega) HB.size)
                                              replace BK := BK_; replace hbs := hbs_; clear BK_ hbs_ kp_ hj_ F30 G30 A30 HT30
                                              replace Ax := Ax0.below HB; replace Tx := Ax.sl
                                              replace Ay := Ay0.below HB; replace Ty := Ay.sl
                                              change Good _ _ _ _ _ (Act.put a44 (some 119) (.bool true)) _
                                              have q_ : 119 < a44.tmps.size := by rw [hn]; decide
                                              generalize hA_ : Act.put a44 (some 119) (.bool true) = a46
                                              replace hn : a46.tmps.size = 136 := by rw [← hA_, put_tmps]; simp [hn]
                                              replace hd : a46.defers = [] := by rw [← hA_]; exact hd
                                              replace f2 : a46.eval (.tmp 2) = .pointer (some ⟨gs1 0, 0, none⟩) := by rw [← hA_]; exact (eval_put_ne (by decide)).trans f2
                                              replace f3 : a46.eval (.tmp 3) = .pointer (some ⟨gs1 1, 0, none⟩) := by rw [← hA_]; exact (eval_put_ne (by decide)).trans f3
                                              replace f5 : a46.eval (.tmp 5) = .pointer (some ⟨pB, 0, none⟩) := by rw [← hA_]; exact (eval_put_ne (by decide)).trans f5
                                              replace f6 : a46.eval (.tmp 6) = .pointer (some ⟨gs9 0, 0, none⟩) := by rw [← hA_]; exact (eval_put_ne (by decide)).trans f6
                                              replace f7 : a46.eval (.tmp 7) = .pointer (some ⟨gs9 1, 0, none⟩) := by rw [← hA_]; exact (eval_put_ne (by decide)).trans f7
                                              replace f8 : a46.eval (.tmp 8) = .pointer (some ⟨gs9 2, 0, none⟩) := by rw [← hA_]; exact (eval_put_ne (by decide)).trans f8
                                              replace f9 : a46.eval (.tmp 9) = .pointer (some ⟨gs9 3, 0, none⟩) := by rw [← hA_]; exact (eval_put_ne (by decide)).trans f9
                                              replace f10 : a46.eval (.tmp 10) = .int .i64 (ii : Int) := by rw [← hA_]; exact (eval_put_ne (by decide)).trans f10
                                              replace f17 : a46.eval (.tmp 17) = .pointer (some ⟨gs28 2, 0, none⟩) := by rw [← hA_]; exact (eval_put_ne (by decide)).trans f17
                                              replace f18 : a46.eval (.tmp 18) = .pointer (some ⟨gs28 3, 0, none⟩) := by rw [← hA_]; exact (eval_put_ne (by decide)).trans f18
                                              replace f116 : a46.eval (.tmp 116) = .bool false := by rw [← hA_]; exact (eval_put_ne (by decide)).trans f116
                                              replace f117 : a46.eval (.tmp 117) = .pointer (some ⟨pB, 0, none⟩) := by rw [← hA_]; exact (eval_put_ne (by decide)).trans f117
                                              replace f118 : a46.eval (.tmp 118) = .agg #[.bool n_30, .slice a_30 r_30.length c_30] := by rw [← hA_]; exact (eval_put_ne (by decide)).trans f118
                                              have f119 : a46.eval (.tmp 119) = .bool true := by rw [← hA_]; exact eval_put_same q_
                                              clear q_
                                              clear hA_
                                              refine good6 8 13 (some 13) [some 112, some 113, some 114, some 115, some 116, some 117, some 118, some 119, some 120, some 121, some 122, some 123, some 124, some 125, some 126, some 127, some 128, some 129, some 130, some 131, some 132, some 133] [(fun _ _ => True), (fun _ _ => True), (fun _ _ => True), (fun _ _ => True), Eqs (.bool false), Eqs (.pointer (some ⟨pB, 0, none⟩)), Eqs (.agg #[.bool n_30, .slice a_30 r_30.length c_30]), Eqs (.bool true), Eqs (.bool false), Eqs (.bool false), Eqs (.bool false), Eqs (.pointer (some ⟨pB, 0, none⟩)), Eqs (.agg #[.bool n_31, .slice a_31 r_31.length c_31]), (fun _ _ => True), (fun _ _ => True), (fun _ _ => True), (fun _ _ => True), (fun _ _ => True), (fun _ _ => True), (fun _ _ => True), (fun _ _ => True), (fun _ _ => True)] [] [] [] [] [] (by kernel_rfl) hn rfl (by kernel_rfl) (by kernel_rfl) (by kernel_rfl) (by kernel_rfl) (by kernel_rfl) (by kernel_rfl) (by kernel_rfl) (by kernel_rfl) (by kernel_rfl) (by decide) ⟨True.mono5, True.mono5, True.mono5, True.mono5, Eqs.mono5 _, Eqs.mono5 _, Eqs.mono5 _, Eqs.mono5 _, Eqs.mono5 _, Eqs.mono5 _, Eqs.mono5 _, Eqs.mono5 _, Eqs.mono5 _, True.mono5, True.mono5, True.mono5, True.mono5, True.mono5, True.mono5, True.mono5, True.mono5, True.mono5, trivial⟩ trivial xok_nil ok_nil (IsOld.all (bx := []) trivial) (DisOld.all (bx := []) trivial) ⟨⟨⟨⟨⟨⟨⟨⟨trivial, trivial⟩, trivial⟩, trivial⟩, trivial⟩, f116⟩, f117⟩, f118⟩, f119⟩ ?_ ?_ ?_
                                              · exact ⟨.inl rfl,
                                                  .inl rfl,
                                                  .inl rfl,
                                                  .inl rfl,
                                                  .inl rfl,
                                                  .inl rfl,
                                                  .inl rfl,
                                                  .inl rfl,
                                                  .inr (.norm 120 rfl rfl (nxt rfl) rfl (fun a_ w_ hn_ hBt hr hR hD hO hS => ⟨⟨_, rfl⟩, fun _ => d6 rfl (op_not (show a_.eval (.tmp 119) = .bool true from hD 7 rfl)), fun hne => absurd (hD 4 rfl) hne⟩)),
                                                  .inr (.norm 121 rfl rfl (nxt rfl) rfl (fun a_ w_ hn_ hBt hr hR hD hO hS => d6 rfl (op_pickb (show a_.eval (.tmp 116) = .bool false from hD 4 rfl) (show a_.eval (.tmp 120) = .bool false from hD 8 rfl)))),
                                                  .inr (.norm 122 rfl rfl (nxt rfl) rfl (fun a_ w_ hn_ hBt hr hR hD hO hS => d6 rfl (op_mv (show a_.eval (.tmp 121) = .bool false from hD 9 rfl)))),
                                                  .inr (.norm 123 rfl rfl (nxt rfl) rfl (fun a_ w_ hn_ hBt hr hR hD hO hS => ⟨⟨_, rfl⟩, fun _ => d6 rfl (op_mv ((hR 5 rfl).trans f5)), fun hne => absurd (hD 10 rfl) hne⟩)),
                                                  .inr (.norm 124 rfl rfl (nxt rfl) rfl (fun a_ w_ hn_ hBt hr hR hD hO hS => ⟨⟨_, rfl⟩, fun _ => d6 rfl (op_loadv W2ok ((hR 17 rfl).trans f17) (b17.keep5 hBt trivial trivial)), fun hne => absurd (hD 10 rfl) hne⟩)),
                                                  .inl rfl,
                                                  .inl rfl,
                                                  .inl rfl,
                                                  .inl rfl,
                                                  .inl rfl,
                                                  .inl rfl,
                                                  .inl rfl,
                                                  .inl rfl,
                                                  .inl rfl,
                                                  trivial⟩
                                              rotate_left
                                              · exact fun h => by cases h
                                              · intro t_ o_ ht_ ho_ a47 w47 gs47 B47 T47 F_
                                                obtain rfl := Option.some.inj ht_; obtain rfl := Option.some.inj ho_; clear ht_ ho_
                                                obtain ⟨hn47, hd47, hBt, hr, hR, hP, hTs, hLi, hX, hU, hRel, hSl⟩ := F_
                                                replace hn := hn47; replace hd := hd47.trans hd
                                                have lq47HK := HK.le
                                                have lq47HR := HR.le
                                                have lq47HT31 := HT31.le
                                                have lq47HT32 := HT32.le
                                                have lq47HN := HN.le
                                                have lq47BK := BK.lt.2
                                                replace b2 := b2.keep5 hBt trivial trivial
                                                replace b3 := b3.keep5 hBt trivial trivial
                                                replace b6 := b6.keep5 hBt trivial trivial
                                                replace b7 := b7.keep5 hBt trivial trivial
                                                replace b8 := b8.keep5 hBt trivial trivial
                                                replace b9 := b9.keep5 hBt trivial trivial
                                                replace b18 := b18.keep5 hBt trivial trivial
                                                replace f2 := (hR 2 rfl).trans f2
                                                replace f3 := (hR 3 rfl).trans f3
                                                replace f5 := (hR 5 rfl).trans f5
                                                replace f6 := (hR 6 rfl).trans f6
                                                replace f7 := (hR 7 rfl).trans f7
                                                replace f8 := (hR 8 rfl).trans f8
                                                replace f9 := (hR 9 rfl).trans f9
                                                replace f10 := (hR 10 rfl).trans f10
                                                replace f18 := (hR 18 rfl).trans f18
                                                have e122 : a47.eval (.tmp 122) = .bool false := hP 10 (by decide)
                                                have f122 := e122
                                                have e123 : a47.eval (.tmp 123) = .pointer (some ⟨pB, 0, none⟩) := hP 11 (by decide)
                                                have f123 := e123
                                                have e124 : a47.eval (.tmp 124) = .agg #[.bool n_31, .slice a_31 r_31.length c_31] := hP 12 (by decide)
                                                have f124 := e124
                                                have hBl_ := hBt.below (Nat.le_refl _) (UpOld.all (bx := []) trivial) (UpX.all (bx := []) trivial)
                                                replace Ax := Ax.ru hr
                                                replace Tx := Tx.ru hr
                                                replace Ay := Ay.ru hr
                                                replace Ty := Ty.ru hr
                                                replace F10 := F10.ru hr
                                                replace G10 := G10.ru hr
                                                replace A10 := A10.ru hr
                                                replace F11 := F11.ru hr
                                                replace G11 := G11.ru hr
                                                replace A11 := A11.ru hr
                                                replace F12 := F12.ru hr
                                                replace G12 := G12.ru hr
                                                replace A12 := A12.ru hr
                                                replace F13 := F13.ru hr
                                                replace G13 := G13.ru hr
                                                replace A13 := A13.ru hr
                                                replace HK := HK.ru hr
                                                replace HR := HR.ru hr
                                                replace F31 := F31.ru hr
                                                replace G31 := G31.ru hr
                                                replace A31 := A31.ru hr
                                                replace HT31 := HT31.ru hr
                                                replace F32 := F32.ru hr
                                                replace G32 := G32.ru hr
                                                replace A32 := A32.ru hr
                                                replace HT32 := HT32.ru hr
                                                replace HN := HN.ru hr
                                                replace BK := BK.below hBl_
                                                replace HB := HB.trans (hBt.below HB.size (UpOld.all (bx := []) trivial) (UpX.all (bx := []) trivial))
                                                clear hBt hr hR hP hTs hLi hX hU hRel hSl
                                                refine ⟨⟨⟨122, rfl⟩, f122⟩, (op_ownw f123 f124 BK (by omega) F31 (by omega) HB.size (fun j hj => by have := hbs j hj; have d29_ := dj29_31.out; have d30_ := dj30_31.out; omega)).mono ?_⟩
                                                rintro v_ w48 ⟨rfl, bs48, BK_, kp_, hj_⟩
                                                have hbs_ : ∀ j ∈ bs48, K0 ≤ j ∧ (j < KR ∨ NN ≤ j ∨ (p29 ≤ j ∧ j < q29) ∨ (p30 ≤ j ∧ j < q30) ∨ (p31 ≤ j ∧ j < q31)) := by
                                                  intro j hj
                                                  have h1_ := HN.le
                                                  have h2_ := HK.le
                                                  rcases hj_ j hj with h | h | h
                                                  · have := hbs j h; omega
                                                  · omega
                                                  · omega
                                                replace b2 := b2.kp kp_ (bs_ne BK b2) (fun h => by have := hbs_ _ h; omega)
                                                replace b3 := b3.kp kp_ (bs_ne BK b3) (fun h => by have := hbs_ _ h; omega)
                                                replace b6 := b6.kp kp_ (bs_ne BK b6) (fun h => by have := hbs_ _ h; omega)
                                                replace b7 := b7.kp kp_ (bs_ne BK b7) (fun h => by have := hbs_ _ h; omega)
                                                replace b8 := b8.kp kp_ (bs_ne BK b8) (fun h => by have := hbs_ _ h; omega)
                                                replace b9 := b9.kp kp_ (bs_ne BK b9) (fun h => by have := hbs_ _ h; omega)
                                                replace b18 := b18.kp kp_ (bs_ne BK b18) (fun h => by have := hbs_ _ h; have n29_ := nb18_29.out; have n30_ := nb18_30.out; have n31_ := nb18_31.out; omega)
                                                replace F10 := F10.kp kp_ (by omega) (fun j hj => by have := hbs_ j hj; omega)
                                                replace G10 := F10.wh
                                                replace A10 := G10.ag
                                                replace F11 := F11.kp kp_ (by omega) (fun j hj => by have := hbs_ j hj; omega)
                                                replace G11 := F11.wh
                                                replace A11 := G11.ag
                                                replace F12 := F12.kp kp_ (by omega) (fun j hj => by have := hbs_ j hj; omega)
                                                replace G12 := F12.wh
                                                replace A12 := G12.ag
                                                replace F13 := F13.kp kp_ (by omega) (fun j hj => by have := hbs_ j hj; omega)
                                                replace G13 := F13.wh
                                                replace A13 := G13.ag
                                                replace HK := HK.kp kp_
                                                replace HR := HR.kp kp_
                                                replace F32 := F32.kp kp_ (by omega) (fun j hj => by have := hbs_ j hj; have d29_ := dj29_32.out; have d30_ := dj30_32.out; have d31_ := dj31_32.out; omega)
                                                replace G32 := F32.wh
                                                replace A32 := G32.ag
                                                replace HT32 := HT32.kp kp_
                                                replace HN := HN.kp kp_
                                                replace HB := HB.trans (kp_.below upB (fun j hj => by have := hbs_ j hj; omega) HB.size)
                                                replace BK := BK_; replace hbs := hbs_; clear BK_ hbs_ kp_ hj_ F31 G31 A31 HT31
                                                replace Ax := Ax0.below HB; replace Tx := Ax.sl
                                                replace Ay := Ay0.below HB; replace Ty := Ay.sl
                                                change Good _ _ _ _ _ (Act.put a47 (some 125) (.bool true)) _
                                                have q_ : 125 < a47.tmps.size := by rw [hn]; decide
                                                generalize hA_ : Act.put a47 (some 125) (.bool true) = a49
                                                replace hn : a49.tmps.size = 136 := by rw [← hA_, put_tmps]; simp [hn]
                                                replace hd : a49.defers = [] := by rw [← hA_]; exact hd
                                                replace f2 : a49.eval (.tmp 2) = .pointer (some ⟨gs1 0, 0, none⟩) := by rw [← hA_]; exact (eval_put_ne (by decide)).trans f2
                                                replace f3 : a49.eval (.tmp 3) = .pointer (some ⟨gs1 1, 0, none⟩) := by rw [← hA_]; exact (eval_put_ne (by decide)).trans f3
                                                replace f5 : a49.eval (.tmp 5) = .pointer (some ⟨pB, 0, none⟩) := by rw [← hA_]; exact (eval_put_ne (by decide)).trans f5
                                                replace f6 : a49.eval (.tmp 6) = .pointer (some ⟨gs9 0, 0, none⟩) := by rw [← hA_]; exact (eval_put_ne (by decide)).trans f6
                                                replace f7 : a49.eval (.tmp 7) = .pointer (some ⟨gs9 1, 0, none⟩) := by rw [← hA_]; exact (eval_put_ne (by decide)).trans f7
                                                replace f8 : a49.eval (.tmp 8) = .pointer (some ⟨gs9 2, 0, none⟩) := by rw [← hA_]; exact (eval_put_ne (by decide)).trans f8
                                                replace f9 : a49.eval (.tmp 9) = .pointer (some ⟨gs9 3, 0, none⟩) := by rw [← hA_]; exact (eval_put_ne (by decide)).trans f9
                                                replace f10 : a49.eval (.tmp 10) = .int .i64 (ii : Int) := by rw [← hA_]; exact (eval_put_ne (by decide)).trans f10
                                                replace f18 : a49.eval (.tmp 18) = .pointer (some ⟨gs28 3, 0, none⟩) := by rw [← hA_]; exact (eval_put_ne (by decide)).trans f18
                                                replace f122 : a49.eval (.tmp 122) = .bool false := by rw [← hA_]; exact (eval_put_ne (by decide)).trans f122
                                                replace f123 : a49.eval (.tmp 123) = .pointer (some ⟨pB, 0, none⟩) := by rw [← hA_]; exact (eval_put_ne (by decide)).trans f123
                                                replace f124 : a49.eval (.tmp 124) = .agg #[.bool n_31, .slice a_31 r_31.length c_31] := by rw [← hA_]; exact (eval_put_ne (by decide)).trans f124
                                                have f125 : a49.eval (.tmp 125) = .bool true := by rw [← hA_]; exact eval_put_same q_
                                                clear q_
                                                clear hA_
                                                refine good6 14 19 (some 19) [some 112, some 113, some 114, some 115, some 116, some 117, some 118, some 119, some 120, some 121, some 122, some 123, some 124, some 125, some 126, some 127, some 128, some 129, some 130, some 131, some 132, some 133] [(fun _ _ => True), (fun _ _ => True), (fun _ _ => True), (fun _ _ => True), (fun _ _ => True), (fun _ _ => True), (fun _ _ => True), (fun _ _ => True), (fun _ _ => True), (fun _ _ => True), Eqs (.bool false), Eqs (.pointer (some ⟨pB, 0, none⟩)), Eqs (.agg #[.bool n_31, .slice a_31 r_31.length c_31]), Eqs (.bool true), Eqs (.bool false), Eqs (.bool false), Eqs (.bool false), Eqs (.pointer (some ⟨pB, 0, none⟩)), Eqs (.agg #[.bool n_32, .slice a_32 r_32.length c_32]), (fun _ _ => True), (fun _ _ => True), (fun _ _ => True)] [] [] [] [] [] (by kernel_rfl) hn rfl (by kernel_rfl) (by kernel_rfl) (by kernel_rfl) (by kernel_rfl) (by kernel_rfl) (by kernel_rfl) (by kernel_rfl) (by kernel_rfl) (by kernel_rfl) (by decide) ⟨True.mono5, True.mono5, True.mono5, True.mono5, True.mono5, True.mono5, True.mono5, True.mono5, True.mono5, True.mono5, Eqs.mono5 _, Eqs.mono5 _, Eqs.mono5 _, Eqs.mono5 _, Eqs.mono5 _, Eqs.mono5 _, Eqs.mono5 _, Eqs.mono5 _, Eqs.mono5 _, True.mono5, True.mono5, True.mono5, trivial⟩ trivial xok_nil ok_nil (IsOld.all (bx := []) trivial) (DisOld.all (bx := []) trivial) ⟨⟨⟨⟨⟨⟨⟨⟨⟨⟨⟨⟨⟨⟨trivial, trivial⟩, trivial⟩, trivial⟩, trivial⟩, trivial⟩, trivial⟩, trivial⟩, trivial⟩, trivial⟩, trivial⟩, f122⟩, f123⟩, f124⟩, f125⟩ ?_ ?_ ?_
                                                · exact ⟨.inl rfl,
                                                    .inl rfl,
                                                    .inl rfl,
                                                    .inl rfl,
                                                    .inl rfl,
                                                    .inl rfl,
                                                    .inl rfl,
                                                    .inl rfl,
                                                    .inl rfl,
                                                    .inl rfl,
                                                    .inl rfl,
                                                    .inl rfl,
                                                    .inl rfl,
                                                    .inl rfl,
                                                    .inr (.norm 126 rfl rfl (nxt rfl) rfl (fun a_ w_ hn_ hBt hr hR hD hO hS => ⟨⟨_, rfl⟩, fun _ => d6 rfl (op_not (show a_.eval (.tmp 125) = .bool true from hD 13 rfl)), fun hne => absurd (hD 10 rfl) hne⟩)),
                                                    .inr (.norm 127 rfl rfl (nxt rfl) rfl (fun a_ w_ hn_ hBt hr hR hD hO hS => d6 rfl (op_pickb (show a_.eval (.tmp 122) = .bool false from hD 10 rfl) (show a_.eval (.tmp 126) = .bool false from hD 14 rfl)))),
                                                    .inr (.norm 128 rfl rfl (nxt rfl) rfl (fun a_ w_ hn_ hBt hr hR hD hO hS => d6 rfl (op_mv (show a_.eval (.tmp 127) = .bool false from hD 15 rfl)))),
                                                    .inr (.norm 129 rfl rfl (nxt rfl) rfl (fun a_ w_ hn_ hBt hr hR hD hO hS => ⟨⟨_, rfl⟩, fun _ => d6 rfl (op_mv ((hR 5 rfl).trans f5)), fun hne => absurd (hD 16 rfl) hne⟩)),
                                                    .inr (.norm 130 rfl rfl (nxt rfl) rfl (fun a_ w_ hn_ hBt hr hR hD hO hS => ⟨⟨_, rfl⟩, fun _ => d6 rfl (op_loadv W2ok ((hR 18 rfl).trans f18) (b18.keep5 hBt trivial trivial)), fun hne => absurd (hD 16 rfl) hne⟩)),
                                                    .inl rfl,
                                                    .inl rfl,
                                                    .inl rfl,
                                                    trivial⟩
                                                rotate_left
                                                · exact fun h => by cases h
                                                · intro t_ o_ ht_ ho_ a50 w50 gs50 B50 T50 F_
                                                  obtain rfl := Option.some.inj ht_; obtain rfl := Option.some.inj ho_; clear ht_ ho_
                                                  obtain ⟨hn50, hd50, hBt, hr, hR, hP, hTs, hLi, hX, hU, hRel, hSl⟩ := F_
                                                  replace hn := hn50; replace hd := hd50.trans hd
                                                  have lq50HK := HK.le
                                                  have lq50HR := HR.le
                                                  have lq50HT32 := HT32.le
                                                  have lq50HN := HN.le
                                                  have lq50BK := BK.lt.2
                                                  replace b2 := b2.keep5 hBt trivial trivial
                                                  replace b3 := b3.keep5 hBt trivial trivial
                                                  replace b6 := b6.keep5 hBt trivial trivial
                                                  replace b7 := b7.keep5 hBt trivial trivial
                                                  replace b8 := b8.keep5 hBt trivial trivial
                                                  replace b9 := b9.keep5 hBt trivial trivial
                                                  replace f2 := (hR 2 rfl).trans f2
                                                  replace f3 := (hR 3 rfl).trans f3
                                                  replace f5 := (hR 5 rfl).trans f5
                                                  replace f6 := (hR 6 rfl).trans f6
                                                  replace f7 := (hR 7 rfl).trans f7
                                                  replace f8 := (hR 8 rfl).trans f8
                                                  replace f9 := (hR 9 rfl).trans f9
                                                  replace f10 := (hR 10 rfl).trans f10
                                                  have e128 : a50.eval (.tmp 128) = .bool false := hP 16 (by decide)
                                                  have f128 := e128
                                                  have e129 : a50.eval (.tmp 129) = .pointer (some ⟨pB, 0, none⟩) := hP 17 (by decide)
                                                  have f129 := e129
                                                  have e130 : a50.eval (.tmp 130) = .agg #[.bool n_32, .slice a_32 r_32.length c_32] := hP 18 (by decide)
                                                  have f130 := e130
                                                  have hBl_ := hBt.below (Nat.le_refl _) (UpOld.all (bx := []) trivial) (UpX.all (bx := []) trivial)
                                                  replace Ax := Ax.ru hr
                                                  replace Tx := Tx.ru hr
                                                  replace Ay := Ay.ru hr
                                                  replace Ty := Ty.ru hr
                                                  replace F10 := F10.ru hr
                                                  replace G10 := G10.ru hr
                                                  replace A10 := A10.ru hr
                                                  replace F11 := F11.ru hr
                                                  replace G11 := G11.ru hr
                                                  replace A11 := A11.ru hr
                                                  replace F12 := F12.ru hr
                                                  replace G12 := G12.ru hr
                                                  replace A12 := A12.ru hr
                                                  replace F13 := F13.ru hr
                                                  replace G13 := G13.ru hr
                                                  replace A13 := A13.ru hr
                                                  replace HK := HK.ru hr
                                                  replace HR := HR.ru hr
                                                  replace F32 := F32.ru hr
                                                  replace G32 := G32.ru hr
                                                  replace A32 := A32.ru hr
                                                  replace HT32 := HT32.ru hr
                                                  replace HN := HN.ru hr
                                                  replace BK := BK.below hBl_
                                                  replace HB := HB.trans (hBt.below HB.size (UpOld.all (bx := []) trivial) (UpX.all (bx := []) trivial))
                                                  clear hBt hr hR hP hTs hLi hX hU hRel hSl
                                                  refine ⟨⟨⟨128, rfl⟩, f128⟩, (op_ownw f129 f130 BK (by omega) F32 (by omega) HB.size (fun j hj => by have := hbs j hj; have d29_ := dj29_32.out; have d30_ := dj30_32.out; have d31_ := dj31_32.out; omega)).mono ?_⟩
                                                  rintro v_ w51 ⟨rfl, bs51, BK_, kp_, hj_⟩
                                                  have hbs_ : ∀ j ∈ bs51, K0 ≤ j ∧ (j < KR ∨ NN ≤ j ∨ (p29 ≤ j ∧ j < q29) ∨ (p30 ≤ j ∧ j < q30) ∨ (p31 ≤ j ∧ j < q31) ∨ (p32 ≤ j ∧ j < q32)) := by
                                                    intro j hj
                                                    have h1_ := HN.le
                                                    have h2_ := HK.le
                                                    rcases hj_ j hj with h | h | h
                                                    · have := hbs j h; omega
                                                    · omega
                                                    · omega
                                                  replace b2 := b2.kp kp_ (bs_ne BK b2) (fun h => by have := hbs_ _ h; omega)
                                                  replace b3 := b3.kp kp_ (bs_ne BK b3) (fun h => by have := hbs_ _ h; omega)
                                                  replace b6 := b6.kp kp_ (bs_ne BK b6) (fun h => by have := hbs_ _ h; omega)
                                                  replace b7 := b7.kp kp_ (bs_ne BK b7) (fun h => by have := hbs_ _ h; omega)
                                                  replace b8 := b8.kp kp_ (bs_ne BK b8) (fun h => by have := hbs_ _ h; omega)
                                                  replace b9 := b9.kp kp_ (bs_ne BK b9) (fun h => by have := hbs_ _ h; omega)
                                                  replace F10 := F10.kp kp_ (by omega) (fun j hj => by have := hbs_ j hj; omega)
                                                  replace G10 := F10.wh
                                                  replace A10 := G10.ag
                                                  replace F11 := F11.kp kp_ (by omega) (fun j hj => by have := hbs_ j hj; omega)
                                                  replace G11 := F11.wh
                                                  replace A11 := G11.ag
                                                  replace F12 := F12.kp kp_ (by omega) (fun j hj => by have := hbs_ j hj; omega)
                                                  replace G12 := F12.wh
                                                  replace A12 := G12.ag
                                                  replace F13 := F13.kp kp_ (by omega) (fun j hj => by have := hbs_ j hj; omega)
                                                  replace G13 := F13.wh
                                                  replace A13 := G13.ag
                                                  replace HK := HK.kp kp_
                                                  replace HR := HR.kp kp_
                                                  replace HN := HN.kp kp_
                                                  replace HB := HB.trans (kp_.below upB (fun j hj => by have := hbs_ j hj; omega) HB.size)
                                                  replace BK := BK_; replace hbs := hbs_; clear BK_ hbs_ kp_ hj_ F32 G32 A32 HT32
                                                  replace Ax := Ax0.below HB; replace Tx := Ax.sl
                                                  replace Ay := Ay0.below HB; replace Ty := Ay.sl
                                                  change Good _ _ _ _ _ (Act.put a50 (some 131) (.bool true)) _
                                                  have q_ : 131 < a50.tmps.size := by rw [hn]; decide
                                                  generalize hA_ : Act.put a50 (some 131) (.bool true) = a52
                                                  replace hn : a52.tmps.size = 136 := by rw [← hA_, put_tmps]; simp [hn]
                                                  replace hd : a52.defers = [] := by rw [← hA_]; exact hd
                                                  replace f2 : a52.eval (.tmp 2) = .pointer (some ⟨gs1 0, 0, none⟩) := by rw [← hA_]; exact (eval_put_ne (by decide)).trans f2
                                                  replace f3 : a52.eval (.tmp 3) = .pointer (some ⟨gs1 1, 0, none⟩) := by rw [← hA_]; exact (eval_put_ne (by decide)).trans f3
                                                  replace f5 : a52.eval (.tmp 5) = .pointer (some ⟨pB, 0, none⟩) := by rw [← hA_]; exact (eval_put_ne (by decide)).trans f5
                                                  replace f6 : a52.eval (.tmp 6) = .pointer (some ⟨gs9 0, 0, none⟩) := by rw [← hA_]; exact (eval_put_ne (by decide)).trans f6
                                                  replace f7 : a52.eval (.tmp 7) = .pointer (some ⟨gs9 1, 0, none⟩) := by rw [← hA_]; exact (eval_put_ne (by decide)).trans f7
                                                  replace f8 : a52.eval (.tmp 8) = .pointer (some ⟨gs9 2, 0, none⟩) := by rw [← hA_]; exact (eval_put_ne (by decide)).trans f8
                                                  replace f9 : a52.eval (.tmp 9) = .pointer (some ⟨gs9 3, 0, none⟩) := by rw [← hA_]; exact (eval_put_ne (by decide)).trans f9
                                                  replace f10 : a52.eval (.tmp 10) = .int .i64 (ii : Int) := by rw [← hA_]; exact (eval_put_ne (by decide)).trans f10
                                                  replace f128 : a52.eval (.tmp 128) = .bool false := by rw [← hA_]; exact (eval_put_ne (by decide)).trans f128
                                                  replace f129 : a52.eval (.tmp 129) = .pointer (some ⟨pB, 0, none⟩) := by rw [← hA_]; exact (eval_put_ne (by decide)).trans f129
                                                  replace f130 : a52.eval (.tmp 130) = .agg #[.bool n_32, .slice a_32 r_32.length c_32] := by rw [← hA_]; exact (eval_put_ne (by decide)).trans f130
                                                  have f131 : a52.eval (.tmp 131) = .bool true := by rw [← hA_]; exact eval_put_same q_
                                                  clear q_
                                                  clear hA_
                                                  refine good6 20 22 none [some 112, some 113, some 114, some 115, some 116, some 117, some 118, some 119, some 120, some 121, some 122, some 123, some 124, some 125, some 126, some 127, some 128, some 129, some 130, some 131, some 132, some 133] [(fun _ _ => True), (fun _ _ => True), (fun _ _ => True), (fun _ _ => True), (fun _ _ => True), (fun _ _ => True), (fun _ _ => True), (fun _ _ => True), (fun _ _ => True), (fun _ _ => True), (fun _ _ => True), (fun _ _ => True), (fun _ _ => True), (fun _ _ => True), (fun _ _ => True), (fun _ _ => True), Eqs (.bool false), Eqs (.pointer (some ⟨pB, 0, none⟩)), Eqs (.agg #[.bool n_32, .slice a_32 r_32.length c_32]), Eqs (.bool true), Eqs (.bool false), Eqs (.bool false)] [] [] [] [] [] (by kernel_rfl) hn rfl (by kernel_rfl) (by kernel_rfl) (by kernel_rfl) (by kernel_rfl) (by kernel_rfl) (by kernel_rfl) (by kernel_rfl) (by kernel_rfl) (by kernel_rfl) (by decide) ⟨True.mono5, True.mono5, True.mono5, True.mono5, True.mono5, True.mono5, True.mono5, True.mono5, True.mono5, True.mono5, True.mono5, True.mono5, True.mono5, True.mono5, True.mono5, True.mono5, Eqs.mono5 _, Eqs.mono5 _, Eqs.mono5 _, Eqs.mono5 _, Eqs.mono5 _, Eqs.mono5 _, trivial⟩ trivial xok_nil ok_nil (IsOld.all (bx := []) trivial) (DisOld.all (bx := []) trivial) ⟨⟨⟨⟨⟨⟨⟨⟨⟨⟨⟨⟨⟨⟨⟨⟨⟨⟨⟨⟨trivial, trivial⟩, trivial⟩, trivial⟩, trivial⟩, trivial⟩, trivial⟩, trivial⟩, trivial⟩, trivial⟩, trivial⟩, trivial⟩, trivial⟩, trivial⟩, trivial⟩, trivial⟩, trivial⟩, f128⟩, f129⟩, f130⟩, f131⟩ ?_ ?_ ?_
                                                  · exact ⟨.inl rfl,
                                                      .inl rfl,
                                                      .inl rfl,
                                                      .inl rfl,
                                                      .inl rfl,
                                                      .inl rfl,
                                                      .inl rfl,
                                                      .inl rfl,
                                                      .inl rfl,
                                                      .inl rfl,
                                                      .inl rfl,
                                                      .inl rfl,
                                                      .inl rfl,
                                                      .inl rfl,
                                                      .inl rfl,
                                                      .inl rfl,
                                                      .inl rfl,
                                                      .inl rfl,
                                                      .inl rfl,
                                                      .inl rfl,
                                                      .inr (.norm 132 rfl rfl (nxt rfl) rfl (fun a_ w_ hn_ hBt hr hR hD hO hS => ⟨⟨_, rfl⟩, fun _ => d6 rfl (op_not (show a_.eval (.tmp 131) = .bool true from hD 19 rfl)), fun hne => absurd (hD 16 rfl) hne⟩)),
                                                      .inr (.norm 133 rfl rfl (nxt rfl) rfl (fun a_ w_ hn_ hBt hr hR hD hO hS => d6 rfl (op_pickb (show a_.eval (.tmp 128) = .bool false from hD 16 rfl) (show a_.eval (.tmp 132) = .bool false from hD 20 rfl)))),
                                                      trivial⟩
                                                  · exact fun _ _ h => by cases h
                                                  · intro _ a53 w53 gs53 B53 T53 F_
                                                    obtain ⟨hn53, hd53, hBt, hr, hR, hP, hTs, hLi, hX, hU, hRel, hSl⟩ := F_
                                                    replace hn := hn53; replace hd := hd53.trans hd
                                                    have lq53HK := HK.le
                                                    have lq53HR := HR.le
                                                    have lq53HN := HN.le
                                                    have lq53BK := BK.lt.2
                                                    replace b2 := b2.keep5 hBt trivial trivial
                                                    replace b3 := b3.keep5 hBt trivial trivial
                                                    replace b6 := b6.keep5 hBt trivial trivial
                                                    replace b7 := b7.keep5 hBt trivial trivial
                                                    replace b8 := b8.keep5 hBt trivial trivial
                                                    replace b9 := b9.keep5 hBt trivial trivial
                                                    replace f2 := (hR 2 rfl).trans f2
                                                    replace f3 := (hR 3 rfl).trans f3
                                                    replace f5 := (hR 5 rfl).trans f5
                                                    replace f6 := (hR 6 rfl).trans f6
                                                    replace f7 := (hR 7 rfl).trans f7
                                                    replace f8 := (hR 8 rfl).trans f8
                                                    replace f9 := (hR 9 rfl).trans f9
                                                    replace f10 := (hR 10 rfl).trans f10
                                                    have e133 : a53.eval (.tmp 133) = .bool false := hP 21 (by decide)
                                                    have f133 := e133
                                                    have hBl_ := hBt.below (Nat.le_refl _) (UpOld.all (bx := []) trivial) (UpX.all (bx := []) trivial)
                                                    replace Ax := Ax.ru hr
                                                    replace Tx := Tx.ru hr
                                                    replace Ay := Ay.ru hr
                                                    replace Ty := Ty.ru hr
                                                    replace F10 := F10.ru hr
                                                    replace G10 := G10.ru hr
                                                    replace A10 := A10.ru hr
                                                    replace F11 := F11.ru hr
                                                    replace G11 := G11.ru hr
                                                    replace A11 := A11.ru hr
                                                    replace F12 := F12.ru hr
                                                    replace G12 := G12.ru hr
                                                    replace A12 := A12.ru hr
                                                    replace F13 := F13.ru hr
                                                    replace G13 := G13.ru hr
                                                    replace A13 := A13.ru hr
                                                    replace HK := HK.ru hr
                                                    replace HR := HR.ru hr
                                                    replace HN := HN.ru hr
                                                    replace BK := BK.below hBl_
                                                    replace HB := HB.trans (hBt.below HB.size (UpOld.all (bx := []) trivial) (UpX.all (bx := []) trivial))
                                                    clear hBt hr hR hP hTs hLi hX hU hRel hSl
                                                    refine wp_cond_false f133 ?_
                                                    refine wp_skip ?_
                                                    refine block_normal ?_
                                                    refine region4 [some 43, some 44, some 10] [Eqs (.int .i64 (ii : Int)), Eqs (.int .i64 ((ii : Int) + 1)), Eqs (.int .i64 ((ii : Int) + 1))] [] [(2, 0)] (by kernel_rfl) hn rfl (by kernel_rfl) (by kernel_rfl) (by kernel_rfl) (by kernel_rfl) (by kernel_rfl) (by kernel_rfl) ⟨Eqs.mono4 _, Eqs.mono4 _, Eqs.mono4 _, trivial⟩ ok_nil (IsOld.all (bx := []) trivial) (DisOld.all (bx := []) trivial) ?_ ?_
                                                    · exact ⟨.norm 43 rfl rfl rfl (fun a_ w_ hn_ hBt hr hR hD hO hS => op_mv ((hS 2 10 rfl rfl).trans f10)),
                                                        .norm 44 rfl rfl rfl (fun a_ w_ hn_ hBt hr hR hD hO hS => op_addk (show a_.eval (.tmp 43) = .int .i64 (ii : Int) from hD 0 rfl) (by omega)),
                                                        .norm 10 rfl rfl rfl (fun a_ w_ hn_ hBt hr hR hD hO hS => op_assign (show a_.eval (.tmp 44) = .int .i64 ((ii : Int) + 1) from hD 1 rfl)),
                                                        trivial⟩
                                                    · intro a54 w54 gs54 hn54 hd54 hBt hr hR hP hX hU
                                                      replace hn := hn54; replace hd := hd54.trans hd
                                                      replace b2 := b2.keep hBt trivial
                                                      replace b3 := b3.keep hBt trivial
                                                      replace b6 := b6.keep hBt trivial
                                                      replace b7 := b7.keep hBt trivial
                                                      replace b8 := b8.keep hBt trivial
                                                      replace b9 := b9.keep hBt trivial
                                                      replace f2 := (hR 2 rfl).trans f2
                                                      replace f3 := (hR 3 rfl).trans f3
                                                      replace f5 := (hR 5 rfl).trans f5
                                                      replace f6 := (hR 6 rfl).trans f6
                                                      replace f7 := (hR 7 rfl).trans f7
                                                      replace f8 := (hR 8 rfl).trans f8
                                                      replace f9 := (hR 9 rfl).trans f9
                                                      have e10 : a54.eval (.tmp 10) = .int .i64 ((ii : Int) + 1) := hP 2 (by decide)
                                                      have f10 := e10
                                                      replace Ax := Ax.rl hr
                                                      replace Tx := Tx.rl hr
                                                      replace Ay := Ay.rl hr
                                                      replace Ty := Ty.rl hr
                                                      replace F10 := F10.rl hr
                                                      replace G10 := G10.rl hr
                                                      replace A10 := A10.rl hr
                                                      replace F11 := F11.rl hr
                                                      replace G11 := G11.rl hr
                                                      replace A11 := A11.rl hr
                                                      replace F12 := F12.rl hr
                                                      replace G12 := G12.rl hr
                                                      replace A12 := A12.rl hr
                                                      replace F13 := F13.rl hr
                                                      replace G13 := G13.rl hr
                                                      replace A13 := A13.rl hr
                                                      replace HK := HK.rl hr
                                                      replace HR := HR.rl hr
                                                      replace HN := HN.rl hr
                                                      replace HB := HB.trans (hBt.below HB.size (UpOld.all (bx := []) trivial))
                                                      have hBl_ := hBt.below (Nat.le_refl _) (UpOld.all (bx := []) trivial)
                                                      replace BK := BK.below hBl_
                                                      clear hBt hr hR hP hX hU
                                                      exact ⟨1 - ii, by omega, hn, hd, f2, f3, f5, f6, f7, f8, f9, b2, b3, b6, b7, b8, b9, HB, HK, F10, F11, F12, F13, ii + 1, by omega, f10.trans (by simp), _, (by rw [show 4 * (ii + 1) = 4 * ii + 1 + 1 + 1 + 1 by omega]; exact BK), fun j hj => (hbs j hj).1⟩
                    · skip
                      have hc42' := of_decide_eq_false hc42
                      refine wp_exit ?_
                      repeat (first | refine then_exit ?_ | refine scope_exit ?_ | refine block_pass (by decide) ?_)
                      refine block_exit ?_
                      refine wp_seq ?_
                      refine region4 [some 134, some 135, some 4] [Eqs (.pointer (some ⟨pB, 0, none⟩)), Eqs (.bool true), Eqs (.bool true)] [] [] (by kernel_rfl) hn rfl (by kernel_rfl) (by kernel_rfl) (by kernel_rfl) (by kernel_rfl) (by kernel_rfl) (by kernel_rfl) ⟨Eqs.mono4 _, Eqs.mono4 _, Eqs.mono4 _, trivial⟩ ok_nil (IsOld.all (bx := []) trivial) (DisOld.all (bx := []) trivial) ?_ ?_
                      · exact ⟨.norm 134 rfl rfl rfl (fun a_ w_ hn_ hBt hr hR hD hO hS => op_mv ((hR 5 rfl).trans f5)),
                          .norm 135 rfl rfl rfl (fun a_ w_ hn_ hBt hr hR hD hO hS => op_bdone (show a_.eval (.tmp 134) = .pointer (some ⟨pB, 0, none⟩) from hD 0 rfl) (BK.below (hBt.below (Nat.le_refl _) (UpOld.all (bx := []) trivial))) (by omega)),
                          .norm 4 rfl rfl rfl (fun a_ w_ hn_ hBt hr hR hD hO hS => op_assign (show a_.eval (.tmp 135) = .bool true from hD 1 rfl)),
                          trivial⟩
                      · intro a55 w55 gs55 hn55 hd55 hBt hr hR hP hX hU
                        replace hn := hn55; replace hd := hd55.trans hd
                        have e4 : a55.eval (.tmp 4) = .bool true := hP 2 (by decide)
                        have f4 := e4
                        replace Ax := Ax.rl hr
                        replace Tx := Tx.rl hr
                        replace Ay := Ay.rl hr
                        replace Ty := Ty.rl hr
                        replace F10 := F10.rl hr
                        replace G10 := G10.rl hr
                        replace A10 := A10.rl hr
                        replace F11 := F11.rl hr
                        replace G11 := G11.rl hr
                        replace A11 := A11.rl hr
                        replace F12 := F12.rl hr
                        replace G12 := G12.rl hr
                        replace A12 := A12.rl hr
                        replace F13 := F13.rl hr
                        replace G13 := G13.rl hr
                        replace A13 := A13.rl hr
                        replace HK := HK.rl hr
                        replace HR := HR.rl hr
                        replace HB := HB.trans (hBt.below HB.size (UpOld.all (bx := []) trivial))
                        have hBl_ := hBt.below (Nat.le_refl _) (UpOld.all (bx := []) trivial)
                        replace BK := BK.below hBl_
                        clear hBt hr hR hP hX hU
                        refine wp_ret ?_
                        repeat (first | refine then_ret ?_ | refine scope_ret ?_ | refine block_ret ?_)
                        exact bodyPost_ret (v := .bool true) (res_t rfl f4) hd ⟨rfl, HB⟩

end Lm
end Go.Proofs.Ytjhhjefobbhdlaa

namespace Go.Proofs.Ytjhhjefobbhdlaa
namespace wholeSumsLaw
open Go.ChangeShapes Go.WideShapes Go.ChangeAt Go.RowKit
open Go.ChangeMaps (open_string shut_string)

theorem own : ownKnob Try.prog.godebug = none := by kernel_rfl
theorem laidOut : laidOutB Try.prog = true := by kernel_rfl
theorem bytes4 : Try.prog.bytesOf 51 = 4 := by kernel_rfl

theorem sl_of {w : World} {x : Addr} {l c : Nat} {zs : List Int} (hl : l ≤ c) (hm : c ≤ maxLen) (hz : zs.length = c) (hcell : ∀ i, i < zs.length → w.cell? (x.add i) = some (.int .u32 (zs.getD i 0))) (hwz : ∀ n ∈ zs, (Lit.int .u32 n).wf = true) : Lm.Sl w (.slice (some x) l c) (zs.take l) := by
  have hll : (zs.take l).length = l := by rw [List.length_take]; omega
  refine ⟨some x, c, by rw [hll], by omega, hm, fun n hn => ?_, ?_⟩
  · have := bounds_u32 (hwz n (List.mem_of_mem_take hn))
    omega
  · by_cases h0 : l = 0
    · exact .inl (List.eq_nil_of_length_eq_zero (by omega))
    · obtain ⟨b, off, spot⟩ := x
      have h1 := hcell 0 (by omega)
      have hspot : spot = none := by simpa [Addr.add] using World.cell?_spot h1
      subst hspot
      refine .inr ⟨b, off, rfl, fun i hi => ?_⟩
      have h2 := hcell i (by omega)
      rw [Lm.getD_take _ _ _ (by omega)]
      have e : (⟨b, off, none⟩ : Addr).add i = ⟨b, off + i, none⟩ := by
        by_cases hi0 : i = 0
        · subst hi0; simp [Addr.add]
        · simp [Addr.add, hi0]
      rwa [e] at h2

set_option linter.unusedVariables false in
set_option maxRecDepth 100000 in
theorem lifted (os : Os) (started : os.Started) (H : Type) (enc : TypeId × Value → H) :
    ReturnsInHanded {} Try.checked os 4 .any (Rows.wholeSumsSpec.pre6 enc Try.prog Try.f4 Rows.wholeSumsRow.domain false) (Rows.wholeSumsSpec.post enc Try.prog Try.f4 false true false false) := by
  refine returnsInHanded_of_change_sized (C := Try.checked) own started (by kernel_rfl) Try.func4
    (ChangeSpec.witness6 (enc := enc) (C := Try.checked) false ⟨#[], #[.agg #[.bool false, .slice none 0 0], .agg #[.bool false, .slice none 0 0]], []⟩ 8 (by kernel_rfl) (by kernel_rfl) (by kernel_rfl) (by kernel_rfl)) ?_
  intro W base args ds gs before hval0 hW hcnd hsz0 _
  have hval : ∀ (j : Nat) t v, Try.f4.params[j]? = some t → args[j]? = some v → Value.okWide Try.prog W .any base t v := hval0
  have hW' := hW
  obtain ⟨p, q, hA0, hV, rfl, hfz, hnd⟩ := hW
  have hA : DataW.TrodAll enc Try.prog W 0 (fun _ => true) true Try.f4.params.toList args.toList ds p := hA0
  have hsz : (DataW.weightsEach Try.prog (Try.f4.params.toList ++ Rows.wholeSumsSpec.plain.varTypes Try.prog) (ds ++ gs)).all (· ≤ reachBytes) = true := hsz0
  rw [Try.params4] at hA hval hsz
  obtain ⟨v0, vs0, d0, ds0, p0, q0, hargs, rfl, rfl, h0, r0⟩ := trodAll_cons hA
  obtain ⟨v1, vs1, d1, ds1, p1, q1, rfl, rfl, rfl, h1, r1⟩ := trodAll_cons r0
  obtain ⟨rfl, rfl, rfl⟩ := trodAll_nil r1
  obtain rfl : args = #[v0, v1] := by cases args; simp_all
  obtain ⟨rfl, rfl⟩ := trodVars_none hV
  have k0 := h0
  have lt0 : ∀ x ∈ p0, x.block < W.heap.size := by obtain ⟨m, hm⟩ := k0; exact DataW.trod_lt m _ _ _ hm
  obtain ⟨g0, a0, len0, cap0, z0, hv0, w0, b0⟩ : ∃ ng ao n cap zs, v0 = .agg #[.bool ng, .slice ao n cap] ∧ Lm.Sl W (.slice ao n cap) zs ∧ n ≤ 35184372088832 := by
    obtain ⟨x0, x1, y0, y1, m, hv, hd, _, t0, t1⟩ := Go.Joins.open_agg2 Try.underlying24 (by kernel_rfl) (by kernel_rfl) (hval 0 24 v0 rfl rfl) h0
    obtain ⟨b, hb0, _⟩ := DataW.trod_bool Try.underlying4 t0
    obtain rfl : x0 = .bool b := by simpa using hb0
    rcases open_ints Try.underlying22 Try.underlying51 (by kernel_rfl) t1 with ⟨hcs, _⟩ | ⟨x, l, c, zs, hcs, _, hl, hm, hz, hx, hcell, hwz⟩
    · obtain rfl : x1 = .slice none 0 0 := by simpa using hcs
      exact ⟨b, none, 0, 0, [], hv, ⟨none, 0, rfl, Nat.le_refl _, by simp [maxLen], Lm.limb_nil, .inl rfl⟩, by omega⟩
    · obtain rfl : x1 = .slice (some x) l c := by simpa using hcs
      have hz' : zs.length = c := by simpa using hz
      have hx1 : y1.1 = .slice (lits .u32 (zs.take l)) (lits .u32 (zs.drop l)) := congrArg Prod.fst hx
      refine ⟨b, some x, l, c, _, hv, sl_of hl hm hz' hcell hwz, ?_⟩
      have hs := List.all_eq_true.1 hsz _ (DataW.weights_mem_each (j := 0) (t := 24) rfl (congrArg some hd) (((lits .u32 (zs.take l) : List (DataW H)).length + (lits .u32 (zs.drop l) : List (DataW H)).length) * Try.prog.bytesOf 51) (by rw [hx1]; simp [DataW.weights, DataW.weightsEach, Try.underlying24, Try.underlying22]))
      rw [bytes4] at hs
      simp only [lits, List.length_map, List.length_take, List.length_drop, reachBytes, decide_eq_true_eq] at hs
      omega
  subst hv0
  have k1 := h1
  have lt1 : ∀ x ∈ p1, x.block < W.heap.size := by obtain ⟨m, hm⟩ := k1; exact DataW.trod_lt m _ _ _ hm
  obtain ⟨g1, a1, len1, cap1, z1, hv1, w1, b1⟩ : ∃ ng ao n cap zs, v1 = .agg #[.bool ng, .slice ao n cap] ∧ Lm.Sl W (.slice ao n cap) zs ∧ n ≤ 35184372088832 := by
    obtain ⟨x0, x1, y0, y1, m, hv, hd, _, t0, t1⟩ := Go.Joins.open_agg2 Try.underlying24 (by kernel_rfl) (by kernel_rfl) (hval 1 24 v1 rfl rfl) h1
    obtain ⟨b, hb0, _⟩ := DataW.trod_bool Try.underlying4 t0
    obtain rfl : x0 = .bool b := by simpa using hb0
    rcases open_ints Try.underlying22 Try.underlying51 (by kernel_rfl) t1 with ⟨hcs, _⟩ | ⟨x, l, c, zs, hcs, _, hl, hm, hz, hx, hcell, hwz⟩
    · obtain rfl : x1 = .slice none 0 0 := by simpa using hcs
      exact ⟨b, none, 0, 0, [], hv, ⟨none, 0, rfl, Nat.le_refl _, by simp [maxLen], Lm.limb_nil, .inl rfl⟩, by omega⟩
    · obtain rfl : x1 = .slice (some x) l c := by simpa using hcs
      have hz' : zs.length = c := by simpa using hz
      have hx1 : y1.1 = .slice (lits .u32 (zs.take l)) (lits .u32 (zs.drop l)) := congrArg Prod.fst hx
      refine ⟨b, some x, l, c, _, hv, sl_of hl hm hz' hcell hwz, ?_⟩
      have hs := List.all_eq_true.1 hsz _ (DataW.weights_mem_each (j := 1) (t := 24) rfl (congrArg some hd) (((lits .u32 (zs.take l) : List (DataW H)).length + (lits .u32 (zs.drop l) : List (DataW H)).length) * Try.prog.bytesOf 51) (by rw [hx1]; simp [DataW.weights, DataW.weightsEach, Try.underlying24, Try.underlying22]))
      rw [bytes4] at hs
      simp only [lits, List.length_map, List.length_take, List.length_drop, reachBytes, decide_eq_true_eq] at hs
      omega
  subst hv1
  clear hA0 hval0
  refine (Lm.wsums_law W g0 a0 len0 cap0 z0 _ g1 a1 len1 cap1 z1 _ ⟨w0, rfl⟩ ⟨w1, rfl⟩ b0 b1).mono fun e W' ⟨he, bel⟩ => ?_
  subst he
  exact ⟨_, rfl, _, _, _, [], _, [], hW', trodAll_mk1 (shut_bool Try.underlying4 _), (trodAll_cons_mk (Below.trod laidOut (by kernel_rfl) (of_decide_eq_true (by kernel_rfl)) k0 bel lt0) (trodAll_cons_mk (Below.trod laidOut (by kernel_rfl) (of_decide_eq_true (by kernel_rfl)) k1 bel lt1) trodAll_mk0)), rfl, bel.frame _, fun h => by cases h⟩

theorem over : Rows.wholeSumsRow.holds Try.pinned (OpenSpec.ofChange Rows.wholeSumsSpec) :=
  OpenClaim.holds_of_wide 4 Try.f4 rfl rfl rfl rfl rfl rfl rfl ⟨rfl, rfl, rfl, rfl, rfl⟩ rfl rfl rfl rfl rfl (by kernel_rfl) Try.func4 (by kernel_rfl)
    (of_decide_eq_true (by kernel_rfl)) (by unfold Func.isWrapper; first | (rw [if_pos (by decide +kernel)]; kernel_rfl) | (rw [if_neg (by decide +kernel)]; exact ⟨rfl, rfl⟩))
    (fun os started H enc _ => lifted os started H enc)
end wholeSumsLaw

theorem wholeSums_holds : Rows.WholeSumsSaid := wholeSumsLaw.over
#print axioms wholeSums_holds
end Go.Proofs.Ytjhhjefobbhdlaa
