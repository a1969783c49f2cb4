/-
  WholeTops answers true, whatever two numbers it is handed. The given statement on WholeTops, for every input: the call answers true, and each argument reads behind it as it read before. No condition beyond the statement's own.
-/
import Derived.Test.YtjhhjefobbhdlaaWTpLawM51
import Derived.Test.YtjhhjefobbhdlaaWTpLawM52
import Derived.Test.YtjhhjefobbhdlaaRows
import Derived.ProofKit
import Derived.OpenShut
import Derived.ShutString
import Derived.ChangeOld
import Derived.SizedLaws
import Derived.Lib.SmallJoins
namespace Go.Proofs.Ytjhhjefobbhdlaa
namespace Lm
open Go Go.RowKit

set_option maxRecDepth 20000 in
set_option maxHeartbeats 8000000 in
theorem wtops_law (w : World) (nx : Bool) (ax : Option Addr) (mx cx : Nat) (xs : List Int) (zx : Int) (ny : Bool) (ay : Option Addr) (my cy : Nat) (ys : List Int) (zy : Int) (Ax : Ag w nx ax mx cx xs zx) (Ay : Ag w ny ay my cy ys zy) (hx35 : mx ≤ 35184372088832) (hy35 : my ≤ 35184372088832) :
    Calls Try.prog 6 #[.agg #[.bool nx, .slice ax mx cx], .agg #[.bool ny, .slice ay my cy]] w fun e w' => e = .returned (.bool true) ∧ Below w.heap.size w w' := by
  go_enter Try.func6, Try.ntmps6
  generalize hA : (Act.mk _ _) = aa
  have hn : aa.tmps.size = 128 := by rw [← hA]; rfl
  have hd : aa.defers = [] := by rw [← hA]
  have f0 : aa.eval (.tmp 0) = .agg #[.bool nx, .slice ax mx cx] := by rw [← hA]; rfl
  have f1 : aa.eval (.tmp 1) = .agg #[.bool ny, .slice ay my cy] := by rw [← hA]; rfl
  clear hA
  have HB : Below w.heap.size w w := Below.refl _ _
  have Tx := Ax.sl; have Ty := Ay.sl
  have Ax0 := Ax; have Ay0 := Ay
  obtain ⟨mL, hmL⟩ := isLen_ex Ax
  refine wp_seq ?_
  refine region4 [some 2, some 3, some 4] [(fun _ _ => True), (fun _ _ => True), Eqs ((.bool false))] [⟨W2, some 0, 0, 2, .agg #[.bool nx, .slice ax mx cx], none, []⟩, ⟨W2, some 1, 0, 3, .agg #[.bool ny, .slice ay my cy], none, []⟩] [] (by kernel_rfl) hn rfl (by kernel_rfl) (by kernel_rfl) (by kernel_rfl) (by kernel_rfl) (by kernel_rfl) (by kernel_rfl) ⟨True.mono4, True.mono4, Eqs.mono4 _, trivial⟩ (ok_cons W2ok (ok_cons W2ok ok_nil)) (IsOld.all (bx := [⟨W2, some 0, 0, 2, .agg #[.bool nx, .slice ax mx cx], none, []⟩, ⟨W2, some 1, 0, 3, .agg #[.bool ny, .slice ay my cy], none, []⟩]) ⟨someNe, someNe, trivial⟩) (DisOld.all (bx := [⟨W2, some 0, 0, 2, .agg #[.bool nx, .slice ax mx cx], none, []⟩, ⟨W2, some 1, 0, 3, .agg #[.bool ny, .slice ay my cy], none, []⟩]) ⟨someNe, someNe, trivial⟩) ?_ ?_
  · exact ⟨.alloc 0 _ rfl rfl (.inr ⟨_, rfl, w2_cs, fun a_ hR => (hR 0 rfl).trans f0⟩) rfl rfl rfl rfl rfl,
      .alloc 1 _ rfl rfl (.inr ⟨_, rfl, w2_cs, fun a_ hR => (hR 1 rfl).trans f1⟩) rfl rfl rfl rfl rfl,
      .norm 4 rfl rfl rfl (fun a_ w_ hn_ hBt hr hR hD hO hS => op_assign rfl),
      trivial⟩
  · intro a1 w1 gs1 hn1 hd1 hBt hr hR hP hX hU
    replace hn := hn1; replace hd := hd1.trans hd
    have b2 : BoxV W2 w1 (gs1 0) (.agg #[.bool nx, .slice ax mx cx]) := (hX 0 _ rfl).2.2.2
    have f2 := (hX 0 _ rfl).1
    have u2 : w.heap.size ≤ gs1 0 := Nat.le_trans HB.size ((hX 0 _ rfl).2.2.1 (by simp))
    have b3 : BoxV W2 w1 (gs1 1) (.agg #[.bool ny, .slice ay my cy]) := (hX 1 _ rfl).2.2.2
    have f3 := (hX 1 _ rfl).1
    have u3 : w.heap.size ≤ gs1 1 := Nat.le_trans HB.size ((hX 1 _ rfl).2.2.1 (by simp))
    have e4 : a1.eval (.tmp 4) = (.bool false) := hP 2 (by decide)
    have f4 := e4
    replace Ax := Ax.rl hr
    replace Tx := Tx.rl hr
    replace Ay := Ay.rl hr
    replace Ty := Ty.rl hr
    replace HB := HB.trans (hBt.below HB.size (UpOld.all (bx := [⟨W2, some 0, 0, 2, .agg #[.bool nx, .slice ax mx cx], none, []⟩, ⟨W2, some 1, 0, 3, .agg #[.bool ny, .slice ay my cy], none, []⟩]) ⟨someNe, someNe, trivial⟩))
    clear hBt hr hR hP hX hU
    refine wp_seq ?_
    refine wp_seq ?_
    refine region4 [some 12, some 13] [Eqs (.bool true), Eqs (.bool false)] [] [] (by kernel_rfl) hn rfl (by kernel_rfl) (by kernel_rfl) (by kernel_rfl) (by kernel_rfl) (by kernel_rfl) (by kernel_rfl) ⟨Eqs.mono4 _, Eqs.mono4 _, trivial⟩ ok_nil (IsOld.all (bx := []) trivial) (DisOld.all (bx := []) trivial) ?_ ?_
    · exact ⟨.norm 12 rfl rfl rfl (fun a_ w_ hn_ hBt hr hR hD hO hS => op_wawake),
        .norm 13 rfl rfl rfl (fun a_ w_ hn_ hBt hr hR hD hO hS => op_not (show a_.eval (.tmp 12) = .bool true from hD 0 rfl)),
        trivial⟩
    · intro a2 w2 gs2 hn2 hd2 hBt hr hR hP hX hU
      replace hn := hn2; replace hd := hd2.trans hd
      replace b2 := b2.keep hBt trivial
      replace b3 := b3.keep hBt trivial
      replace f2 := (hR 2 rfl).trans f2
      replace f3 := (hR 3 rfl).trans f3
      replace f4 := (hR 4 rfl).trans f4
      have e13 : a2.eval (.tmp 13) = .bool false := hP 1 (by decide)
      have f13 := e13
      replace Ax := Ax.rl hr
      replace Tx := Tx.rl hr
      replace Ay := Ay.rl hr
      replace Ty := Ty.rl hr
      replace HB := HB.trans (hBt.below HB.size (UpOld.all (bx := []) trivial))
      clear hBt hr hR hP hX hU
      refine wp_cond_false f13 ?_
      refine wp_skip ?_
      refine wp_seq ?_
      refine wp_seq ?_
      refine region4 [some 14, some 15, some 16, some 17, some 18, some 19] [Eqs (.agg #[.bool nx, .slice ax mx cx]), Eqs (.int .i64 (1 + (mx : Int))), Eqs (.agg #[.bool ny, .slice ay my cy]), Eqs (.int .i64 (1 + (my : Int))), Eqs (.int .i64 ((1 + (mx : Int)) + (1 + (my : Int)))), Eqs (.bool (decide (1500 < ((1 + (mx : Int)) + (1 + (my : Int))))))] [] [] (by kernel_rfl) hn rfl (by kernel_rfl) (by kernel_rfl) (by kernel_rfl) (by kernel_rfl) (by kernel_rfl) (by kernel_rfl) ⟨Eqs.mono4 _, Eqs.mono4 _, Eqs.mono4 _, Eqs.mono4 _, Eqs.mono4 _, Eqs.mono4 _, trivial⟩ ok_nil (IsOld.all (bx := []) trivial) (DisOld.all (bx := []) trivial) ?_ ?_
      · exact ⟨.norm 14 rfl rfl rfl (fun a_ w_ hn_ hBt hr hR hD hO hS => op_loadv W2ok ((hR 2 rfl).trans f2) (b2.keep hBt trivial)),
          .norm 15 rfl rfl rfl (fun a_ w_ hn_ hBt hr hR hD hO hS => op_lenw (show a_.eval (.tmp 14) = .agg #[.bool nx, .slice ax mx cx] from hD 0 rfl) (by omega)),
          .norm 16 rfl rfl rfl (fun a_ w_ hn_ hBt hr hR hD hO hS => op_loadv W2ok ((hR 3 rfl).trans f3) (b3.keep hBt trivial)),
          .norm 17 rfl rfl rfl (fun a_ w_ hn_ hBt hr hR hD hO hS => op_lenw (show a_.eval (.tmp 16) = .agg #[.bool ny, .slice ay my cy] from hD 2 rfl) (by omega)),
          .norm 18 rfl rfl rfl (fun a_ w_ hn_ hBt hr hR hD hO hS => op_plus (show a_.eval (.tmp 15) = .int .i64 (1 + (mx : Int)) from hD 1 rfl) (show a_.eval (.tmp 17) = .int .i64 (1 + (my : Int)) from hD 3 rfl) (by omega)),
          .norm 19 rfl rfl rfl (fun a_ w_ hn_ hBt hr hR hD hO hS => op_gtrk (show a_.eval (.tmp 18) = .int .i64 ((1 + (mx : Int)) + (1 + (my : Int))) from hD 4 rfl)),
          trivial⟩
      · intro a3 w3 gs3 hn3 hd3 hBt hr hR hP hX hU
        replace hn := hn3; replace hd := hd3.trans hd
        replace b2 := b2.keep hBt trivial
        replace b3 := b3.keep hBt trivial
        replace f2 := (hR 2 rfl).trans f2
        replace f3 := (hR 3 rfl).trans f3
        replace f4 := (hR 4 rfl).trans f4
        have e19 : a3.eval (.tmp 19) = .bool (decide (1500 < ((1 + (mx : Int)) + (1 + (my : Int))))) := hP 5 (by decide)
        have f19 := e19
        replace Ax := Ax.rl hr
        replace Tx := Tx.rl hr
        replace Ay := Ay.rl hr
        replace Ty := Ty.rl hr
        replace HB := HB.trans (hBt.below HB.size (UpOld.all (bx := []) trivial))
        clear hBt hr hR hP hX hU
        refine wp_cond_split f19 (fun hc19 => ?_) (fun hc19 => ?_)
        · skip
          refine wp_seq ?_
          refine region4 [some 4] [Eqs ((.bool true))] [] [] (by kernel_rfl) hn rfl (by kernel_rfl) (by kernel_rfl) (by kernel_rfl) (by kernel_rfl) (by kernel_rfl) (by kernel_rfl) ⟨Eqs.mono4 _, trivial⟩ ok_nil (IsOld.all (bx := []) trivial) (DisOld.all (bx := []) trivial) ?_ ?_
          · exact ⟨.norm 4 rfl rfl rfl (fun a_ w_ hn_ hBt hr hR hD hO hS => op_assign rfl),
              trivial⟩
          · intro a4 w4 gs4 hn4 hd4 hBt hr hR hP hX hU
            replace hn := hn4; replace hd := hd4.trans hd
            replace b2 := b2.keep hBt trivial
            replace b3 := b3.keep hBt trivial
            replace f2 := (hR 2 rfl).trans f2
            replace f3 := (hR 3 rfl).trans f3
            have e4 : a4.eval (.tmp 4) = (.bool true) := hP 0 (by decide)
            have f4 := e4
            replace Ax := Ax.rl hr
            replace Tx := Tx.rl hr
            replace Ay := Ay.rl hr
            replace Ty := Ty.rl hr
            replace HB := HB.trans (hBt.below HB.size (UpOld.all (bx := []) trivial))
            clear hBt hr hR hP hX hU
            refine wp_ret ?_
            repeat (first | refine then_ret ?_ | refine scope_ret ?_ | refine block_ret ?_)
            exact bodyPost_ret (v := .bool true) (res_t rfl f4) hd ⟨rfl, HB⟩
        · skip
          have hlen := of_decide_eq_false hc19
          have ox := Ax.sl.parts.1; have Lx : xs.length ≤ 1500 := by omega
          have oy := Ay.sl.parts.1; have Ly : ys.length ≤ 1500 := by omega
          refine wp_skip ?_
          refine wp_seq ?_
          refine region4x [some 20, some 21, some 22, some 23, some 24, some 25, some 26, some 27, some 5, none] [Eqs (.pointer (some ⟨gs1 0, 0, none⟩)), Eqs (.bool nx), Eqs (.pointer (some ⟨gs1 0, 1, none⟩)), Eqs (.slice ax mx cx), RowL w3.heap.size xs, ZeroL, IsL ((val xs)) (xs.length + 2), IsW (zx) (xs.length + 2), (fun _ _ => True), (fun _ _ => True)] [⟨W2, some 8, 0, 5, .agg #[.bool false, .slice none 0 0], some (9, 27, 7), []⟩] [] (by kernel_rfl) hn rfl (by kernel_rfl) (by kernel_rfl) (by kernel_rfl) (by kernel_rfl) (by kernel_rfl) (by kernel_rfl) ⟨Eqs.mono4 _, Eqs.mono4 _, Eqs.mono4 _, Eqs.mono4 _, RowL.mono4 _ _, ZeroL.mono4, IsL.mono4 _ _, IsW.mono4 _ _, True.mono4, True.mono4, trivial⟩ (ok_cons W2ok ok_nil) (IsOld.all (bx := [⟨W2, some 8, 0, 5, .agg #[.bool false, .slice none 0 0], some (9, 27, 7), []⟩]) ⟨someNe, trivial⟩) (DisOld.all (bx := [⟨W2, some 8, 0, 5, .agg #[.bool false, .slice none 0 0], some (9, 27, 7), []⟩]) ⟨someNe, trivial⟩) ?_ ?_
          · intro i_ o_ ho_
            match i_, ho_ with
            | 0, ho_ => obtain rfl := Option.some.inj ho_; exact .inl (.norm 20 rfl rfl rfl (fun a_ w_ hn_ hBt hr hR hD hO hS => op_fa fa_neg ((hR 2 rfl).trans f2)))
            | 1, ho_ => obtain rfl := Option.some.inj ho_; exact .inl (.norm 21 rfl rfl rfl (fun a_ w_ hn_ hBt hr hR hD hO hS => op_ldneg (show a_.eval (.tmp 20) = .pointer (some ⟨gs1 0, 0, none⟩) from hD 0 rfl) (b2.keep hBt ⟨someNe, trivial⟩)))
            | 2, ho_ => obtain rfl := Option.some.inj ho_; exact .inl (.norm 22 rfl rfl rfl (fun a_ w_ hn_ hBt hr hR hD hO hS => op_fa fa_mag ((hR 2 rfl).trans f2)))
            | 3, ho_ => obtain rfl := Option.some.inj ho_; exact .inl (.norm 23 rfl rfl rfl (fun a_ w_ hn_ hBt hr hR hD hO hS => op_ldmag (show a_.eval (.tmp 22) = .pointer (some ⟨gs1 0, 1, none⟩) from hD 2 rfl) (b2.keep hBt ⟨someNe, trivial⟩)))
            | 4, ho_ => obtain rfl := Option.some.inj ho_; exact .inl (.norm 24 rfl rfl rfl (fun a_ w_ hn_ hBt hr hR hD hO hS => op_lcopyr (show a_.eval (.tmp 23) = .slice ax mx cx from hD 3 rfl) (Tx.rl hr) (by omega) hr.size))
            | 5, ho_ => obtain rfl := Option.some.inj ho_; exact .inl (.norm 25 rfl rfl rfl (fun a_ w_ hn_ hBt hr hR hD hO hS => op_zero2))
            | 6, ho_ =>
              obtain rfl := Option.some.inj ho_
              refine .inr (fun l_ a_ w_ hM_ hnd_ hdp_ hcl_ => ⟨rfl, ?_⟩)
              have h6_ := hM_.2.2.2.2.2.2.2.1
              have hr_ := hM_.2.2.2.2.1
              have r4_ : RowL w3.heap.size xs (a_.eval (.tmp 24)) w_ := h6_ 4 (hdp_ 4 rfl)
              have z5_ : ZeroL (a_.eval (.tmp 25)) w_ := h6_ 5 (hdp_ 5 rfl)
              refine app_step (K := w3.heap.size) (xs := xs) hM_ (fits_of (by kernel_rfl) (by kernel_rfl)) (inj_of (by kernel_rfl)) ⟨Eqs.mono4 _, Eqs.mono4 _, Eqs.mono4 _, Eqs.mono4 _, RowL.mono4 _ _, ZeroL.mono4, IsL.mono4 _ _, IsW.mono4 _ _, True.mono4, True.mono4, trivial⟩ (ok_cons W2ok ok_nil) hnd_ rfl rfl r4_ (Nat.le_refl _) hr_.size z5_ (by omega) Ax0.sl.parts.2.2.2 rfl ?_
              intro g_ w2_ ip_ j_ hj_ hp_
              match j_, hj_, hp_ with
              | 0, _, h => exact h
              | 1, _, h => exact h
              | 2, _, h => exact h
              | 3, _, h => exact h
              | 4, _, h => exact RowL.inpl h ip_
              | 5, _, h => exact ZeroL.inpl h ip_
              | 6, hj, _ => rw [hnd_] at hj; cases hj
              | 7, hj, _ => have h := cl_dep hcl_ (j := 7) (k := 6) rfl hj rfl; rw [hnd_] at h; cases h
              | 8, _, h => exact h
              | 9, _, h => exact h
              | _ + 10, _, h => exact h
            | 7, ho_ => obtain rfl := Option.some.inj ho_; exact .inl (.norm 27 rfl rfl rfl (fun a_ w_ hn_ hBt hr hR hD hO hS => op_bWi (show a_.eval (.tmp 21) = .bool nx from hD 1 rfl) (show IsL ((val xs)) (xs.length + 2) (a_.eval (.tmp 26)) w_ from hD 6 rfl) Ax0.worth))
            | 8, ho_ => obtain rfl := Option.some.inj ho_; exact .inl (.alloc 0 _ rfl rfl (.inl ⟨rfl, rfl⟩) rfl rfl rfl rfl rfl)
            | 9, ho_ => obtain rfl := Option.some.inj ho_; exact .inl (.store 0 _ _ _ rfl rfl rfl rfl rfl rfl rfl (fun ia h => by cases h; rfl) rfl rfl rfl IsW.cs)
            | _ + 10, ho_ => simp at ho_
          · intro a5 w5 gs5 hn5 hd5 hBt hr hR hP hX hU
            replace hn := hn5; replace hd := hd5.trans hd
            have ne2_5 : (gs1 0) ≠ gs5 0 := by have h1 := b2.lt; have h2 := (hX 0 _ rfl).2.2.1 (by simp); omega
            have ne3_5 : (gs1 1) ≠ gs5 0 := by have h1 := b3.lt; have h2 := (hX 0 _ rfl).2.2.1 (by simp); omega
            replace b2 := b2.keep hBt ⟨someNe, trivial⟩
            replace b3 := b3.keep hBt ⟨someNe, trivial⟩
            obtain ⟨n_6, a_6, m_6, c_6, r_6, e27, A6, l6⟩ : IsW (zx) (xs.length + 2) (a5.eval (.tmp 27)) w5 := hP 7 (by decide)
            have b5 : BoxV W2 w5 (gs5 0) (.agg #[.bool n_6, .slice a_6 m_6 c_6]) := boxv_of (hX 0 _ rfl).2.2.2 e27
            have f5 := (hX 0 _ rfl).1
            have u5 : w.heap.size ≤ gs5 0 := Nat.le_trans HB.size ((hX 0 _ rfl).2.2.1 (by simp))
            replace f2 := (hR 2 rfl).trans f2
            replace f3 := (hR 3 rfl).trans f3
            replace f4 := (hR 4 rfl).trans f4
            replace Ax := Ax.rl hr
            replace Tx := Tx.rl hr
            replace Ay := Ay.rl hr
            replace Ty := Ty.rl hr
            replace HB := HB.trans (hBt.below HB.size (UpOld.all (bx := [⟨W2, some 8, 0, 5, .agg #[.bool false, .slice none 0 0], some (9, 27, 7), []⟩]) ⟨someNe, trivial⟩))
            clear hBt hr hR hP hX hU
            refine wp_seq ?_
            refine wp_seq ?_
            refine region4 [some 28, some 29, some 30] [Eqs (.agg #[.bool nx, .slice ax mx cx]), Eqs (.int .i64 (Int.sign zx)), Eqs (.bool (decide ((Int.sign zx) = 0)))] [] [] (by kernel_rfl) hn rfl (by kernel_rfl) (by kernel_rfl) (by kernel_rfl) (by kernel_rfl) (by kernel_rfl) (by kernel_rfl) ⟨Eqs.mono4 _, Eqs.mono4 _, Eqs.mono4 _, trivial⟩ ok_nil (IsOld.all (bx := []) trivial) (DisOld.all (bx := []) trivial) ?_ ?_
            · exact ⟨.norm 28 rfl rfl rfl (fun a_ w_ hn_ hBt hr hR hD hO hS => op_loadv W2ok ((hR 2 rfl).trans f2) (b2.keep hBt trivial)),
                .norm 29 rfl rfl rfl (fun a_ w_ hn_ hBt hr hR hD hO hS => op_sign (isw_eq (show a_.eval (.tmp 28) = .agg #[.bool nx, .slice ax mx cx] from hD 0 rfl) (Ax.rl hr) Lx) (by omega)),
                .norm 30 rfl rfl rfl (fun a_ w_ hn_ hBt hr hR hD hO hS => op_eqlk (show a_.eval (.tmp 29) = .int .i64 (Int.sign zx) from hD 1 rfl)),
                trivial⟩
            · intro a7 w7 gs7 hn7 hd7 hBt hr hR hP hX hU
              replace hn := hn7; replace hd := hd7.trans hd
              replace b2 := b2.keep hBt trivial
              replace b3 := b3.keep hBt trivial
              replace b5 := b5.keep hBt trivial
              replace f2 := (hR 2 rfl).trans f2
              replace f3 := (hR 3 rfl).trans f3
              replace f4 := (hR 4 rfl).trans f4
              replace f5 := (hR 5 rfl).trans f5
              have e30 : a7.eval (.tmp 30) = .bool (decide ((Int.sign zx) = 0)) := hP 2 (by decide)
              have f30 := e30
              replace Ax := Ax.rl hr
              replace Tx := Tx.rl hr
              replace Ay := Ay.rl hr
              replace Ty := Ty.rl hr
              replace A6 := A6.rl hr
              replace HB := HB.trans (hBt.below HB.size (UpOld.all (bx := []) trivial))
              clear hBt hr hR hP hX hU
              refine wp_cond_split f30 (fun hc30 => ?_) (fun hc30 => ?_)
              · skip
                have hx0 : zx = 0 := Int.sign_eq_zero_iff_zero.1 (of_decide_eq_true hc30)
                refine wp_of_good (by kernel_rfl) (by kernel_rfl) (fun w_0 hb_0 => ?_)
                replace b2 := b2.below hb_0
                replace b3 := b3.below hb_0
                replace b5 := b5.below hb_0
                replace Ax := Ax.below hb_0
                replace Tx := Tx.below hb_0
                replace Ay := Ay.below hb_0
                replace Ty := Ty.below hb_0
                replace A6 := A6.below hb_0
                replace HB := HB.trans (hb_0.mono HB.size); clear hb_0
                refine good6 0 4 (some 4) [some 31, some 32, some 33, some 34, none] [Eqs (.pointer (some ⟨gs5 0, 0, none⟩)), Eqs (.bool n_6), Eqs (.bool (!n_6)), Eqs (.pointer (some ⟨gs5 0, 0, none⟩)), (fun _ _ => True)] [] [] [] [] [] (by kernel_rfl) hn rfl (by kernel_rfl) (by kernel_rfl) (by kernel_rfl) (by kernel_rfl) (by kernel_rfl) (by kernel_rfl) (by kernel_rfl) (by kernel_rfl) (by kernel_rfl) (by decide) ⟨Eqs.mono5 _, Eqs.mono5 _, Eqs.mono5 _, Eqs.mono5 _, True.mono5, trivial⟩ trivial xok_nil ok_nil (IsOld.all (bx := []) trivial) (DisOld.all (bx := []) trivial) trivial ?_ ?_ ?_
                · exact ⟨.inr (.norm 31 rfl rfl (nxt rfl) rfl (fun a_ w_ hn_ hBt hr hR hD hO hS => d6 rfl (op_fa fa_neg ((hR 5 rfl).trans f5)))),
                    .inr (.norm 32 rfl rfl (nxt rfl) rfl (fun a_ w_ hn_ hBt hr hR hD hO hS => d6 rfl (op_ldneg (show a_.eval (.tmp 31) = .pointer (some ⟨gs5 0, 0, none⟩) from hD 0 rfl) (b5.keep5 hBt trivial trivial)))),
                    .inr (.norm 33 rfl rfl (nxt rfl) rfl (fun a_ w_ hn_ hBt hr hR hD hO hS => d6 rfl (op_not (show a_.eval (.tmp 32) = .bool n_6 from hD 1 rfl)))),
                    .inr (.norm 34 rfl rfl (nxt rfl) rfl (fun a_ w_ hn_ hBt hr hR hD hO hS => d6 rfl (op_fa fa_neg ((hR 5 rfl).trans f5)))),
                    .inl rfl,
                    trivial⟩
                rotate_left
                · exact fun h => by cases h
                · intro t_ o_ ht_ ho_ a8 w8 gs8 B8 T8 F_
                  obtain rfl := Option.some.inj ht_; obtain rfl := Option.some.inj ho_; clear ht_ ho_
                  obtain ⟨hn8, hd8, hBt, hr, hR, hP, hTs, hLi, hX, hU, hRel, hSl⟩ := F_
                  replace hn := hn8; replace hd := hd8.trans hd
                  replace b2 := b2.keep5 hBt trivial trivial
                  replace b3 := b3.keep5 hBt trivial trivial
                  replace b5 := b5.keep5 hBt trivial trivial
                  replace f2 := (hR 2 rfl).trans f2
                  replace f3 := (hR 3 rfl).trans f3
                  replace f4 := (hR 4 rfl).trans f4
                  replace f5 := (hR 5 rfl).trans f5
                  have e33 : a8.eval (.tmp 33) = .bool (!n_6) := hP 2 (by decide)
                  have f33 := e33
                  have e34 : a8.eval (.tmp 34) = .pointer (some ⟨gs5 0, 0, none⟩) := hP 3 (by decide)
                  have f34 := e34
                  replace Ax := Ax.ru hr
                  replace Tx := Tx.ru hr
                  replace Ay := Ay.ru hr
                  replace Ty := Ty.ru hr
                  replace A6 := A6.ru hr
                  replace HB := HB.trans (hBt.below HB.size (UpOld.all (bx := []) trivial) (UpX.all (bx := []) trivial))
                  clear hBt hr hR hP hTs hLi hX hU hRel hSl
                  refine ⟨trivial, (op_stneg f34 f33 b5).mono ?_⟩
                  rintro v_ w9 ⟨b5_, on_⟩
                  have rl_ := Rl.of_only W2ok b5 on_
                  replace b2 := b2.only on_ ne2_5
                  replace b3 := b3.only on_ ne3_5
                  replace b5 := b5_; clear b5_
                  replace Ax := Ax.rl rl_
                  replace Tx := Tx.rl rl_
                  replace Ay := Ay.rl rl_
                  replace Ty := Ty.rl rl_
                  replace A6 := A6.rl rl_
                  have A5f : Ag w9 (!n_6) a_6 m_6 c_6 r_6 zx := ag_flip A6 hx0
                  replace HB := HB.trans (on_.below u5); clear on_ rl_
                  change Good _ _ _ _ _ a8 _
                  refine good6 5 5 none [some 31, some 32, some 33, some 34, none] [(fun _ _ => True), (fun _ _ => True), Eqs (.bool (!n_6)), Eqs (.pointer (some ⟨gs5 0, 0, none⟩)), (fun _ _ => True)] [] [] [] [] [] (by kernel_rfl) hn rfl (by kernel_rfl) (by kernel_rfl) (by kernel_rfl) (by kernel_rfl) (by kernel_rfl) (by kernel_rfl) (by kernel_rfl) (by kernel_rfl) (by kernel_rfl) (by decide) ⟨True.mono5, True.mono5, Eqs.mono5 _, Eqs.mono5 _, True.mono5, trivial⟩ trivial xok_nil ok_nil (IsOld.all (bx := []) trivial) (DisOld.all (bx := []) trivial) ⟨⟨⟨⟨⟨trivial, trivial⟩, trivial⟩, f33⟩, f34⟩, trivial⟩ ?_ ?_ ?_
                  · exact ⟨.inl rfl,
                      .inl rfl,
                      .inl rfl,
                      .inl rfl,
                      .inl rfl,
                      trivial⟩
                  · exact fun _ _ h => by cases h
                  · intro _ a10 w10 gs10 B10 T10 F_
                    obtain ⟨hn10, hd10, hBt, hr, hR, hP, hTs, hLi, hX, hU, hRel, hSl⟩ := F_
                    replace hn := hn10; replace hd := hd10.trans hd
                    replace b2 := b2.keep5 hBt trivial trivial
                    replace b3 := b3.keep5 hBt trivial trivial
                    replace b5 := b5.keep5 hBt trivial trivial
                    replace f2 := (hR 2 rfl).trans f2
                    replace f3 := (hR 3 rfl).trans f3
                    replace f4 := (hR 4 rfl).trans f4
                    replace f5 := (hR 5 rfl).trans f5
                    replace Ax := Ax.ru hr
                    replace Tx := Tx.ru hr
                    replace Ay := Ay.ru hr
                    replace Ty := Ty.ru hr
                    replace A6 := A6.ru hr
                    replace A5f := A5f.ru hr
                    replace HB := HB.trans (hBt.below HB.size (UpOld.all (bx := []) trivial) (UpX.all (bx := []) trivial))
                    clear hBt hr hR hP hTs hLi hX hU hRel hSl
                    refine wp_seq ?_
                    refine region4 [some 36, some 37, some 38, some 35, some 39, some 40, some 41, some 6, some 7, none, none, some 8] [Eqs (.agg #[.bool ny, .slice ay my cy]), Eqs (.agg #[.bool nx, .slice ax mx cx]), Tup3 (Eqs (.agg #[.bool false, .slice none 0 0])) (Eqs (.agg #[.bool false, .slice none 0 0])) (Eqs (.bool false)), Tup3 (Eqs (.agg #[.bool false, .slice none 0 0])) (Eqs (.agg #[.bool false, .slice none 0 0])) (Eqs (.bool false)), Eqs (.agg #[.bool false, .slice none 0 0]), Eqs (.agg #[.bool false, .slice none 0 0]), Eqs (.bool false), (fun _ _ => True), (fun _ _ => True), (fun _ _ => True), (fun _ _ => True), Eqs (.bool false)] [⟨W2, some 7, 0, 6, .agg #[.bool false, .slice none 0 0], some (9, 39, 4), []⟩, ⟨W2, some 8, 0, 7, .agg #[.bool false, .slice none 0 0], some (10, 40, 5), []⟩] [] (by kernel_rfl) hn rfl (by kernel_rfl) (by kernel_rfl) (by kernel_rfl) (by kernel_rfl) (by kernel_rfl) (by kernel_rfl) ⟨Eqs.mono4 _, Eqs.mono4 _, Tup3.mono4 (Eqs.mono4 _) (Eqs.mono4 _) (Eqs.mono4 _), Tup3.mono4 (Eqs.mono4 _) (Eqs.mono4 _) (Eqs.mono4 _), Eqs.mono4 _, Eqs.mono4 _, Eqs.mono4 _, True.mono4, True.mono4, True.mono4, True.mono4, Eqs.mono4 _, trivial⟩ (ok_cons W2ok (ok_cons W2ok ok_nil)) (IsOld.all (bx := [⟨W2, some 7, 0, 6, .agg #[.bool false, .slice none 0 0], some (9, 39, 4), []⟩, ⟨W2, some 8, 0, 7, .agg #[.bool false, .slice none 0 0], some (10, 40, 5), []⟩]) ⟨someNe, someNe, trivial⟩) (DisOld.all (bx := [⟨W2, some 7, 0, 6, .agg #[.bool false, .slice none 0 0], some (9, 39, 4), []⟩, ⟨W2, some 8, 0, 7, .agg #[.bool false, .slice none 0 0], some (10, 40, 5), []⟩]) ⟨someNe, someNe, trivial⟩) ?_ ?_
                    · exact ⟨.norm 36 rfl rfl rfl (fun a_ w_ hn_ hBt hr hR hD hO hS => op_loadv W2ok ((hR 3 rfl).trans f3) (b3.keep hBt ⟨someNe, someNe, trivial⟩)),
                        .norm 37 rfl rfl rfl (fun a_ w_ hn_ hBt hr hR hD hO hS => op_loadv W2ok ((hR 2 rfl).trans f2) (b2.keep hBt ⟨someNe, someNe, trivial⟩)),
                        .norm 38 rfl rfl rfl (fun a_ w_ hn_ hBt hr hR hD hO hS => op_wdiv0 (isw_eq (show a_.eval (.tmp 36) = .agg #[.bool ny, .slice ay my cy] from hD 0 rfl) (Ay.rl hr) Ly) (isw_eq (show a_.eval (.tmp 37) = .agg #[.bool nx, .slice ax mx cx] from hD 1 rfl) (Ax.rl hr) Lx) hx0),
                        .norm 35 rfl rfl rfl (fun a_ w_ hn_ hBt hr hR hD hO hS => op_mvp (p := Tup3 (Eqs (.agg #[.bool false, .slice none 0 0])) (Eqs (.agg #[.bool false, .slice none 0 0])) (Eqs (.bool false))) (show Tup3 (Eqs (.agg #[.bool false, .slice none 0 0])) (Eqs (.agg #[.bool false, .slice none 0 0])) (Eqs (.bool false)) (a_.eval (.tmp 38)) w_ from hD 2 rfl)),
                        .norm 39 rfl rfl rfl (fun a_ w_ hn_ hBt hr hR hD hO hS => op_ex30 (show Tup3 (Eqs (.agg #[.bool false, .slice none 0 0])) (Eqs (.agg #[.bool false, .slice none 0 0])) (Eqs (.bool false)) (a_.eval (.tmp 35)) w_ from hD 3 rfl)),
                        .norm 40 rfl rfl rfl (fun a_ w_ hn_ hBt hr hR hD hO hS => op_ex31 (show Tup3 (Eqs (.agg #[.bool false, .slice none 0 0])) (Eqs (.agg #[.bool false, .slice none 0 0])) (Eqs (.bool false)) (a_.eval (.tmp 35)) w_ from hD 3 rfl)),
                        .norm 41 rfl rfl rfl (fun a_ w_ hn_ hBt hr hR hD hO hS => op_ex32 (show Tup3 (Eqs (.agg #[.bool false, .slice none 0 0])) (Eqs (.agg #[.bool false, .slice none 0 0])) (Eqs (.bool false)) (a_.eval (.tmp 35)) w_ from hD 3 rfl)),
                        .alloc 0 _ rfl rfl (.inl ⟨rfl, rfl⟩) rfl rfl rfl rfl rfl,
                        .alloc 1 _ rfl rfl (.inl ⟨rfl, rfl⟩) rfl rfl rfl rfl rfl,
                        .store 0 _ _ _ rfl rfl rfl rfl rfl rfl rfl (fun ia h => by cases h; rfl) rfl rfl rfl (eqs_cs w2_cs),
                        .store 1 _ _ _ rfl rfl rfl rfl rfl rfl rfl (fun ia h => by cases h; rfl) rfl rfl rfl (eqs_cs w2_cs),
                        .norm 8 rfl rfl rfl (fun a_ w_ hn_ hBt hr hR hD hO hS => op_assign (show a_.eval (.tmp 41) = .bool false from hD 6 rfl)),
                        trivial⟩
                    · intro a11 w11 gs11 hn11 hd11 hBt hr hR hP hX hU
                      replace hn := hn11; replace hd := hd11.trans hd
                      replace b2 := b2.keep hBt ⟨someNe, someNe, trivial⟩
                      replace b3 := b3.keep hBt ⟨someNe, someNe, trivial⟩
                      replace b5 := b5.keep hBt ⟨someNe, someNe, trivial⟩
                      have e39 : a11.eval (.tmp 39) = .agg #[.bool false, .slice none 0 0] := hP 4 (by decide)
                      have b6 : BoxV W2 w11 (gs11 0) (.agg #[.bool false, .slice none 0 0]) := boxv_of (hX 0 _ rfl).2.2.2 e39
                      have f6 := (hX 0 _ rfl).1
                      have u6 : w.heap.size ≤ gs11 0 := Nat.le_trans HB.size ((hX 0 _ rfl).2.2.1 (by simp))
                      have e40 : a11.eval (.tmp 40) = .agg #[.bool false, .slice none 0 0] := hP 5 (by decide)
                      have b7 : BoxV W2 w11 (gs11 1) (.agg #[.bool false, .slice none 0 0]) := boxv_of (hX 1 _ rfl).2.2.2 e40
                      have f7 := (hX 1 _ rfl).1
                      have u7 : w.heap.size ≤ gs11 1 := Nat.le_trans HB.size ((hX 1 _ rfl).2.2.1 (by simp))
                      replace f2 := (hR 2 rfl).trans f2
                      replace f3 := (hR 3 rfl).trans f3
                      replace f4 := (hR 4 rfl).trans f4
                      replace f5 := (hR 5 rfl).trans f5
                      have e8 : a11.eval (.tmp 8) = .bool false := hP 11 (by decide)
                      have f8 := e8
                      replace Ax := Ax.rl hr
                      replace Tx := Tx.rl hr
                      replace Ay := Ay.rl hr
                      replace Ty := Ty.rl hr
                      replace A6 := A6.rl hr
                      replace A5f := A5f.rl hr
                      replace HB := HB.trans (hBt.below HB.size (UpOld.all (bx := [⟨W2, some 7, 0, 6, .agg #[.bool false, .slice none 0 0], some (9, 39, 4), []⟩, ⟨W2, some 8, 0, 7, .agg #[.bool false, .slice none 0 0], some (10, 40, 5), []⟩]) ⟨someNe, someNe, trivial⟩))
                      clear hBt hr hR hP hX hU
                      refine wp_seq ?_
                      refine region4 [some 43, some 44, some 45, some 42, some 46, some 47, some 48, some 9, some 10, none, none, some 11] [Eqs (.agg #[.bool ny, .slice ay my cy]), Eqs (.agg #[.bool (!n_6), .slice a_6 m_6 c_6]), Tup3 (Eqs (.agg #[.bool false, .slice none 0 0])) (Eqs (.agg #[.bool false, .slice none 0 0])) (Eqs (.bool false)), Tup3 (Eqs (.agg #[.bool false, .slice none 0 0])) (Eqs (.agg #[.bool false, .slice none 0 0])) (Eqs (.bool false)), Eqs (.agg #[.bool false, .slice none 0 0]), Eqs (.agg #[.bool false, .slice none 0 0]), Eqs (.bool false), (fun _ _ => True), (fun _ _ => True), (fun _ _ => True), (fun _ _ => True), Eqs (.bool false)] [⟨W2, some 7, 0, 9, .agg #[.bool false, .slice none 0 0], some (9, 46, 4), []⟩, ⟨W2, some 8, 0, 10, .agg #[.bool false, .slice none 0 0], some (10, 47, 5), []⟩] [] (by kernel_rfl) hn rfl (by kernel_rfl) (by kernel_rfl) (by kernel_rfl) (by kernel_rfl) (by kernel_rfl) (by kernel_rfl) ⟨Eqs.mono4 _, Eqs.mono4 _, Tup3.mono4 (Eqs.mono4 _) (Eqs.mono4 _) (Eqs.mono4 _), Tup3.mono4 (Eqs.mono4 _) (Eqs.mono4 _) (Eqs.mono4 _), Eqs.mono4 _, Eqs.mono4 _, Eqs.mono4 _, True.mono4, True.mono4, True.mono4, True.mono4, Eqs.mono4 _, trivial⟩ (ok_cons W2ok (ok_cons W2ok ok_nil)) (IsOld.all (bx := [⟨W2, some 7, 0, 9, .agg #[.bool false, .slice none 0 0], some (9, 46, 4), []⟩, ⟨W2, some 8, 0, 10, .agg #[.bool false, .slice none 0 0], some (10, 47, 5), []⟩]) ⟨someNe, someNe, trivial⟩) (DisOld.all (bx := [⟨W2, some 7, 0, 9, .agg #[.bool false, .slice none 0 0], some (9, 46, 4), []⟩, ⟨W2, some 8, 0, 10, .agg #[.bool false, .slice none 0 0], some (10, 47, 5), []⟩]) ⟨someNe, someNe, trivial⟩) ?_ ?_
                      · exact ⟨.norm 43 rfl rfl rfl (fun a_ w_ hn_ hBt hr hR hD hO hS => op_loadv W2ok ((hR 3 rfl).trans f3) (b3.keep hBt ⟨someNe, someNe, trivial⟩)),
                          .norm 44 rfl rfl rfl (fun a_ w_ hn_ hBt hr hR hD hO hS => op_loadv W2ok ((hR 5 rfl).trans f5) (b5.keep hBt ⟨someNe, someNe, trivial⟩)),
                          .norm 45 rfl rfl rfl (fun a_ w_ hn_ hBt hr hR hD hO hS => op_wdiv0 (isw_eq (show a_.eval (.tmp 43) = .agg #[.bool ny, .slice ay my cy] from hD 0 rfl) (Ay.rl hr) Ly) (isw_eq (show a_.eval (.tmp 44) = .agg #[.bool (!n_6), .slice a_6 m_6 c_6] from hD 1 rfl) (A5f.rl hr) l6) hx0),
                          .norm 42 rfl rfl rfl (fun a_ w_ hn_ hBt hr hR hD hO hS => op_mvp (p := Tup3 (Eqs (.agg #[.bool false, .slice none 0 0])) (Eqs (.agg #[.bool false, .slice none 0 0])) (Eqs (.bool false))) (show Tup3 (Eqs (.agg #[.bool false, .slice none 0 0])) (Eqs (.agg #[.bool false, .slice none 0 0])) (Eqs (.bool false)) (a_.eval (.tmp 45)) w_ from hD 2 rfl)),
                          .norm 46 rfl rfl rfl (fun a_ w_ hn_ hBt hr hR hD hO hS => op_ex30 (show Tup3 (Eqs (.agg #[.bool false, .slice none 0 0])) (Eqs (.agg #[.bool false, .slice none 0 0])) (Eqs (.bool false)) (a_.eval (.tmp 42)) w_ from hD 3 rfl)),
                          .norm 47 rfl rfl rfl (fun a_ w_ hn_ hBt hr hR hD hO hS => op_ex31 (show Tup3 (Eqs (.agg #[.bool false, .slice none 0 0])) (Eqs (.agg #[.bool false, .slice none 0 0])) (Eqs (.bool false)) (a_.eval (.tmp 42)) w_ from hD 3 rfl)),
                          .norm 48 rfl rfl rfl (fun a_ w_ hn_ hBt hr hR hD hO hS => op_ex32 (show Tup3 (Eqs (.agg #[.bool false, .slice none 0 0])) (Eqs (.agg #[.bool false, .slice none 0 0])) (Eqs (.bool false)) (a_.eval (.tmp 42)) w_ from hD 3 rfl)),
                          .alloc 0 _ rfl rfl (.inl ⟨rfl, rfl⟩) rfl rfl rfl rfl rfl,
                          .alloc 1 _ rfl rfl (.inl ⟨rfl, rfl⟩) rfl rfl rfl rfl rfl,
                          .store 0 _ _ _ rfl rfl rfl rfl rfl rfl rfl (fun ia h => by cases h; rfl) rfl rfl rfl (eqs_cs w2_cs),
                          .store 1 _ _ _ rfl rfl rfl rfl rfl rfl rfl (fun ia h => by cases h; rfl) rfl rfl rfl (eqs_cs w2_cs),
                          .norm 11 rfl rfl rfl (fun a_ w_ hn_ hBt hr hR hD hO hS => op_assign (show a_.eval (.tmp 48) = .bool false from hD 6 rfl)),
                          trivial⟩
                      · intro a12 w12 gs12 hn12 hd12 hBt hr hR hP hX hU
                        replace hn := hn12; replace hd := hd12.trans hd
                        replace b2 := b2.keep hBt ⟨someNe, someNe, trivial⟩
                        replace b3 := b3.keep hBt ⟨someNe, someNe, trivial⟩
                        replace b5 := b5.keep hBt ⟨someNe, someNe, trivial⟩
                        replace b6 := b6.keep hBt ⟨someNe, someNe, trivial⟩
                        replace b7 := b7.keep hBt ⟨someNe, someNe, trivial⟩
                        have e46 : a12.eval (.tmp 46) = .agg #[.bool false, .slice none 0 0] := hP 4 (by decide)
                        have b9 : BoxV W2 w12 (gs12 0) (.agg #[.bool false, .slice none 0 0]) := boxv_of (hX 0 _ rfl).2.2.2 e46
                        have f9 := (hX 0 _ rfl).1
                        have u9 : w.heap.size ≤ gs12 0 := Nat.le_trans HB.size ((hX 0 _ rfl).2.2.1 (by simp))
                        have e47 : a12.eval (.tmp 47) = .agg #[.bool false, .slice none 0 0] := hP 5 (by decide)
                        have b10 : BoxV W2 w12 (gs12 1) (.agg #[.bool false, .slice none 0 0]) := boxv_of (hX 1 _ rfl).2.2.2 e47
                        have f10 := (hX 1 _ rfl).1
                        have u10 : w.heap.size ≤ gs12 1 := Nat.le_trans HB.size ((hX 1 _ rfl).2.2.1 (by simp))
                        replace f2 := (hR 2 rfl).trans f2
                        replace f3 := (hR 3 rfl).trans f3
                        replace f4 := (hR 4 rfl).trans f4
                        replace f5 := (hR 5 rfl).trans f5
                        replace f6 := (hR 6 rfl).trans f6
                        replace f7 := (hR 7 rfl).trans f7
                        replace f8 := (hR 8 rfl).trans f8
                        have e11 : a12.eval (.tmp 11) = .bool false := hP 11 (by decide)
                        have f11 := e11
                        replace Ax := Ax.rl hr
                        replace Tx := Tx.rl hr
                        replace Ay := Ay.rl hr
                        replace Ty := Ty.rl hr
                        replace A6 := A6.rl hr
                        replace A5f := A5f.rl hr
                        replace HB := HB.trans (hBt.below HB.size (UpOld.all (bx := [⟨W2, some 7, 0, 9, .agg #[.bool false, .slice none 0 0], some (9, 46, 4), []⟩, ⟨W2, some 8, 0, 10, .agg #[.bool false, .slice none 0 0], some (10, 47, 5), []⟩]) ⟨someNe, someNe, trivial⟩))
                        clear hBt hr hR hP hX hU
                        refine wp_seq ?_
                        refine region4 [some 49, some 50, some 51, some 52, some 53, some 54, some 55, some 56, some 57, some 58, some 59, some 60, some 61, some 62, some 63, some 64, some 65, some 66, some 67, some 68, some 69, some 70, some 71, some 72, some 73, some 74, some 75, some 76, some 77, some 78, some 79, some 80, some 81, some 82, some 83, some 84, some 85, some 86, some 87, some 88, some 89, some 90, some 91, some 92, some 93, some 94, some 95, some 96, some 97, some 98, some 99, some 100, some 101, some 102, some 103, some 104, some 105, some 106, some 107, some 108, some 109, some 110, some 111, some 112, some 113, some 114, some 115, some 116, some 117, some 118, some 119, some 120, some 121, some 122, some 123, some 124, some 125, some 126, some 127, some 4] [Eqs (.agg #[.bool (!n_6), .slice a_6 m_6 c_6]), OutW (zx) (xs.length + 2), Eqs (.agg #[.bool nx, .slice ax mx cx]), OutW (zx) (1500), Eqs (.bool true), Eqs (.bool true), Eqs (.agg #[.bool (!n_6), .slice a_6 m_6 c_6]), Eqs (.agg #[.bool ny, .slice ay my cy]), OutW ((zx + zy)) ((xs.length + 2) + (1500) + 1), Eqs (.agg #[.bool nx, .slice ax mx cx]), Eqs (.agg #[.bool ny, .slice ay my cy]), OutW ((zx + zy)) ((1500) + (1500) + 1), Eqs (.bool true), Eqs (.bool true), Eqs (.bool true), Eqs (.agg #[.bool ny, .slice ay my cy]), Eqs (.agg #[.bool (!n_6), .slice a_6 m_6 c_6]), OutW ((zy - zx)) ((1500) + (xs.length + 2) + 1), Eqs (.agg #[.bool ny, .slice ay my cy]), Eqs (.agg #[.bool nx, .slice ax mx cx]), OutW ((zy - zx)) ((1500) + (1500) + 1), Eqs (.bool true), Eqs (.bool true), Eqs (.bool true), Eqs (.agg #[.bool (!n_6), .slice a_6 m_6 c_6]), Eqs (.agg #[.bool ny, .slice ay my cy]), OutW ((zx * zy)) ((xs.length + 2) + (1500)), Eqs (.agg #[.bool nx, .slice ax mx cx]), Eqs (.agg #[.bool ny, .slice ay my cy]), OutW ((zx * zy)) ((1500) + (1500)), Eqs (.bool true), Eqs (.bool true), Eqs (.bool true), Eqs (.agg #[.bool (!n_6), .slice a_6 m_6 c_6]), Eqs (.agg #[.bool ny, .slice ay my cy]), Eqs (.int .i64 (cmpI zx zy)), Eqs (.agg #[.bool nx, .slice ax mx cx]), Eqs (.agg #[.bool ny, .slice ay my cy]), Eqs (.int .i64 (cmpI zx zy)), Eqs (.bool true), Eqs (.bool true), Eqs (.bool true), Eqs (.bool false), Eqs (.bool false), Eqs (.bool true), Eqs (.bool true), Eqs (.bool true), Eqs (.agg #[.bool false, .slice none 0 0]), Eqs (.agg #[.bool false, .slice none 0 0]), Eqs (.bool true), Eqs (.bool true), Eqs (.bool true), Eqs (.agg #[.bool false, .slice none 0 0]), Eqs (.agg #[.bool false, .slice none 0 0]), Eqs (.bool true), Eqs (.bool true), Eqs (.bool true), Eqs (.agg #[.bool (!n_6), .slice a_6 m_6 c_6]), Eqs (.string (wtxt zx)), Eqs (.agg #[.bool nx, .slice ax mx cx]), Eqs (.string (wtxt zx)), Eqs (.bool true), Eqs (.bool true), Eqs (.bool true), Eqs (.agg #[.bool (!n_6), .slice a_6 m_6 c_6]), Eqs (.int .i64 (mL : Int)), Eqs (.agg #[.bool nx, .slice ax mx cx]), Eqs (.int .i64 (mL : Int)), Eqs (.bool true), Eqs (.bool true), Eqs (.bool true), Eqs (.agg #[.bool (!n_6), .slice a_6 m_6 c_6]), Eqs (.agg #[.bool ny, .slice ay my cy]), OutW (((Int.gcd zx zy : Nat) : Int)) ((xs.length + 2) + (1500) + 1), Eqs (.agg #[.bool nx, .slice ax mx cx]), Eqs (.agg #[.bool ny, .slice ay my cy]), OutW (((Int.gcd zx zy : Nat) : Int)) ((1500) + (1500) + 1), Eqs (.bool true), Eqs (.bool true), Eqs (.bool true)] [] [] (by kernel_rfl) hn rfl (by kernel_rfl) (by kernel_rfl) (by kernel_rfl) (by kernel_rfl) (by kernel_rfl) (by kernel_rfl) ⟨Eqs.mono4 _, OutW.mono4 _ _, Eqs.mono4 _, OutW.mono4 _ _, Eqs.mono4 _, Eqs.mono4 _, Eqs.mono4 _, Eqs.mono4 _, OutW.mono4 _ _, Eqs.mono4 _, Eqs.mono4 _, OutW.mono4 _ _, Eqs.mono4 _, Eqs.mono4 _, Eqs.mono4 _, Eqs.mono4 _, Eqs.mono4 _, OutW.mono4 _ _, Eqs.mono4 _, Eqs.mono4 _, OutW.mono4 _ _, Eqs.mono4 _, Eqs.mono4 _, Eqs.mono4 _, Eqs.mono4 _, Eqs.mono4 _, OutW.mono4 _ _, Eqs.mono4 _, Eqs.mono4 _, OutW.mono4 _ _, Eqs.mono4 _, Eqs.mono4 _, Eqs.mono4 _, Eqs.mono4 _, Eqs.mono4 _, Eqs.mono4 _, Eqs.mono4 _, Eqs.mono4 _, Eqs.mono4 _, Eqs.mono4 _, Eqs.mono4 _, Eqs.mono4 _, Eqs.mono4 _, Eqs.mono4 _, Eqs.mono4 _, Eqs.mono4 _, Eqs.mono4 _, Eqs.mono4 _, Eqs.mono4 _, Eqs.mono4 _, Eqs.mono4 _, Eqs.mono4 _, Eqs.mono4 _, Eqs.mono4 _, Eqs.mono4 _, Eqs.mono4 _, Eqs.mono4 _, Eqs.mono4 _, Eqs.mono4 _, Eqs.mono4 _, Eqs.mono4 _, Eqs.mono4 _, Eqs.mono4 _, Eqs.mono4 _, Eqs.mono4 _, Eqs.mono4 _, Eqs.mono4 _, Eqs.mono4 _, Eqs.mono4 _, Eqs.mono4 _, Eqs.mono4 _, Eqs.mono4 _, Eqs.mono4 _, OutW.mono4 _ _, Eqs.mono4 _, Eqs.mono4 _, OutW.mono4 _ _, Eqs.mono4 _, Eqs.mono4 _, Eqs.mono4 _, trivial⟩ ok_nil (IsOld.all (bx := []) trivial) (DisOld.all (bx := []) trivial) ?_ ?_
                        · exact ⟨.norm 49 rfl rfl rfl (fun a_ w_ hn_ hBt hr hR hD hO hS => op_loadv W2ok ((hR 5 rfl).trans f5) (b5.keep hBt trivial)),
                            .norm 50 rfl rfl rfl (fun a_ w_ hn_ hBt hr hR hD hO hS => op_wtrim (isw_eq (show a_.eval (.tmp 49) = .agg #[.bool (!n_6), .slice a_6 m_6 c_6] from hD 0 rfl) (A5f.rl hr) l6) (by omega)),
                            .norm 51 rfl rfl rfl (fun a_ w_ hn_ hBt hr hR hD hO hS => op_loadv W2ok ((hR 2 rfl).trans f2) (b2.keep hBt trivial)),
                            .norm 52 rfl rfl rfl (fun a_ w_ hn_ hBt hr hR hD hO hS => op_wtrim (isw_eq (show a_.eval (.tmp 51) = .agg #[.bool nx, .slice ax mx cx] from hD 2 rfl) (Ax.rl hr) Lx) (by omega)),
                            .norm 53 rfl rfl rfl (fun a_ w_ hn_ hBt hr hR hD hO hS => op_same (show OutW (zx) (xs.length + 2) (a_.eval (.tmp 50)) w_ from hD 1 rfl) (show OutW (zx) (1500) (a_.eval (.tmp 52)) w_ from hD 3 rfl) rfl),
                            .norm 54 rfl rfl rfl (fun a_ w_ hn_ hBt hr hR hD hO hS => op_mv (show a_.eval (.tmp 53) = .bool true from hD 4 rfl)),
                            .norm 55 rfl rfl rfl (fun a_ w_ hn_ hBt hr hR hD hO hS => ⟨⟨_, rfl⟩, fun _ => op_loadv W2ok ((hR 5 rfl).trans f5) (b5.keep hBt trivial), fun hne => absurd (hD 5 rfl) hne⟩),
                            .norm 56 rfl rfl rfl (fun a_ w_ hn_ hBt hr hR hD hO hS => ⟨⟨_, rfl⟩, fun _ => op_loadv W2ok ((hR 3 rfl).trans f3) (b3.keep hBt trivial), fun hne => absurd (hD 5 rfl) hne⟩),
                            .norm 57 rfl rfl rfl (fun a_ w_ hn_ hBt hr hR hD hO hS => ⟨⟨_, rfl⟩, fun _ => op_add (L1 := xs.length + 2) (L2 := 1500) (isw_eq (show a_.eval (.tmp 55) = .agg #[.bool (!n_6), .slice a_6 m_6 c_6] from hD 6 rfl) (A5f.rl hr) l6) (isw_eq (show a_.eval (.tmp 56) = .agg #[.bool ny, .slice ay my cy] from hD 7 rfl) (Ay.rl hr) Ly) (by omega) (by omega), fun hne => absurd (hD 5 rfl) hne⟩),
                            .norm 58 rfl rfl rfl (fun a_ w_ hn_ hBt hr hR hD hO hS => ⟨⟨_, rfl⟩, fun _ => op_loadv W2ok ((hR 2 rfl).trans f2) (b2.keep hBt trivial), fun hne => absurd (hD 5 rfl) hne⟩),
                            .norm 59 rfl rfl rfl (fun a_ w_ hn_ hBt hr hR hD hO hS => ⟨⟨_, rfl⟩, fun _ => op_loadv W2ok ((hR 3 rfl).trans f3) (b3.keep hBt trivial), fun hne => absurd (hD 5 rfl) hne⟩),
                            .norm 60 rfl rfl rfl (fun a_ w_ hn_ hBt hr hR hD hO hS => ⟨⟨_, rfl⟩, fun _ => op_add (L1 := 1500) (L2 := 1500) (isw_eq (show a_.eval (.tmp 58) = .agg #[.bool nx, .slice ax mx cx] from hD 9 rfl) (Ax.rl hr) Lx) (isw_eq (show a_.eval (.tmp 59) = .agg #[.bool ny, .slice ay my cy] from hD 10 rfl) (Ay.rl hr) Ly) (by omega) (by omega), fun hne => absurd (hD 5 rfl) hne⟩),
                            .norm 61 rfl rfl rfl (fun a_ w_ hn_ hBt hr hR hD hO hS => ⟨⟨_, rfl⟩, fun _ => op_same (show OutW ((zx + zy)) ((xs.length + 2) + (1500) + 1) (a_.eval (.tmp 57)) w_ from hD 8 rfl) (show OutW ((zx + zy)) ((1500) + (1500) + 1) (a_.eval (.tmp 60)) w_ from hD 11 rfl) rfl, fun hne => absurd (hD 5 rfl) hne⟩),
                            .norm 62 rfl rfl rfl (fun a_ w_ hn_ hBt hr hR hD hO hS => op_pickb (show a_.eval (.tmp 54) = .bool true from hD 5 rfl) (show a_.eval (.tmp 61) = .bool true from hD 12 rfl)),
                            .norm 63 rfl rfl rfl (fun a_ w_ hn_ hBt hr hR hD hO hS => op_mv (show a_.eval (.tmp 62) = .bool true from hD 13 rfl)),
                            .norm 64 rfl rfl rfl (fun a_ w_ hn_ hBt hr hR hD hO hS => ⟨⟨_, rfl⟩, fun _ => op_loadv W2ok ((hR 3 rfl).trans f3) (b3.keep hBt trivial), fun hne => absurd (hD 14 rfl) hne⟩),
                            .norm 65 rfl rfl rfl (fun a_ w_ hn_ hBt hr hR hD hO hS => ⟨⟨_, rfl⟩, fun _ => op_loadv W2ok ((hR 5 rfl).trans f5) (b5.keep hBt trivial), fun hne => absurd (hD 14 rfl) hne⟩),
                            .norm 66 rfl rfl rfl (fun a_ w_ hn_ hBt hr hR hD hO hS => ⟨⟨_, rfl⟩, fun _ => op_sub (L1 := 1500) (L2 := xs.length + 2) (isw_eq (show a_.eval (.tmp 64) = .agg #[.bool ny, .slice ay my cy] from hD 15 rfl) (Ay.rl hr) Ly) (isw_eq (show a_.eval (.tmp 65) = .agg #[.bool (!n_6), .slice a_6 m_6 c_6] from hD 16 rfl) (A5f.rl hr) l6) (by omega) (by omega), fun hne => absurd (hD 14 rfl) hne⟩),
                            .norm 67 rfl rfl rfl (fun a_ w_ hn_ hBt hr hR hD hO hS => ⟨⟨_, rfl⟩, fun _ => op_loadv W2ok ((hR 3 rfl).trans f3) (b3.keep hBt trivial), fun hne => absurd (hD 14 rfl) hne⟩),
                            .norm 68 rfl rfl rfl (fun a_ w_ hn_ hBt hr hR hD hO hS => ⟨⟨_, rfl⟩, fun _ => op_loadv W2ok ((hR 2 rfl).trans f2) (b2.keep hBt trivial), fun hne => absurd (hD 14 rfl) hne⟩),
                            .norm 69 rfl rfl rfl (fun a_ w_ hn_ hBt hr hR hD hO hS => ⟨⟨_, rfl⟩, fun _ => op_sub (L1 := 1500) (L2 := 1500) (isw_eq (show a_.eval (.tmp 67) = .agg #[.bool ny, .slice ay my cy] from hD 18 rfl) (Ay.rl hr) Ly) (isw_eq (show a_.eval (.tmp 68) = .agg #[.bool nx, .slice ax mx cx] from hD 19 rfl) (Ax.rl hr) Lx) (by omega) (by omega), fun hne => absurd (hD 14 rfl) hne⟩),
                            .norm 70 rfl rfl rfl (fun a_ w_ hn_ hBt hr hR hD hO hS => ⟨⟨_, rfl⟩, fun _ => op_same (show OutW ((zy - zx)) ((1500) + (xs.length + 2) + 1) (a_.eval (.tmp 66)) w_ from hD 17 rfl) (show OutW ((zy - zx)) ((1500) + (1500) + 1) (a_.eval (.tmp 69)) w_ from hD 20 rfl) rfl, fun hne => absurd (hD 14 rfl) hne⟩),
                            .norm 71 rfl rfl rfl (fun a_ w_ hn_ hBt hr hR hD hO hS => op_pickb (show a_.eval (.tmp 63) = .bool true from hD 14 rfl) (show a_.eval (.tmp 70) = .bool true from hD 21 rfl)),
                            .norm 72 rfl rfl rfl (fun a_ w_ hn_ hBt hr hR hD hO hS => op_mv (show a_.eval (.tmp 71) = .bool true from hD 22 rfl)),
                            .norm 73 rfl rfl rfl (fun a_ w_ hn_ hBt hr hR hD hO hS => ⟨⟨_, rfl⟩, fun _ => op_loadv W2ok ((hR 5 rfl).trans f5) (b5.keep hBt trivial), fun hne => absurd (hD 23 rfl) hne⟩),
                            .norm 74 rfl rfl rfl (fun a_ w_ hn_ hBt hr hR hD hO hS => ⟨⟨_, rfl⟩, fun _ => op_loadv W2ok ((hR 3 rfl).trans f3) (b3.keep hBt trivial), fun hne => absurd (hD 23 rfl) hne⟩),
                            .norm 75 rfl rfl rfl (fun a_ w_ hn_ hBt hr hR hD hO hS => ⟨⟨_, rfl⟩, fun _ => op_mul (L1 := xs.length + 2) (L2 := 1500) (isw_eq (show a_.eval (.tmp 73) = .agg #[.bool (!n_6), .slice a_6 m_6 c_6] from hD 24 rfl) (A5f.rl hr) l6) (isw_eq (show a_.eval (.tmp 74) = .agg #[.bool ny, .slice ay my cy] from hD 25 rfl) (Ay.rl hr) Ly) (by omega) (by omega), fun hne => absurd (hD 23 rfl) hne⟩),
                            .norm 76 rfl rfl rfl (fun a_ w_ hn_ hBt hr hR hD hO hS => ⟨⟨_, rfl⟩, fun _ => op_loadv W2ok ((hR 2 rfl).trans f2) (b2.keep hBt trivial), fun hne => absurd (hD 23 rfl) hne⟩),
                            .norm 77 rfl rfl rfl (fun a_ w_ hn_ hBt hr hR hD hO hS => ⟨⟨_, rfl⟩, fun _ => op_loadv W2ok ((hR 3 rfl).trans f3) (b3.keep hBt trivial), fun hne => absurd (hD 23 rfl) hne⟩),
                            .norm 78 rfl rfl rfl (fun a_ w_ hn_ hBt hr hR hD hO hS => ⟨⟨_, rfl⟩, fun _ => op_mul (L1 := 1500) (L2 := 1500) (isw_eq (show a_.eval (.tmp 76) = .agg #[.bool nx, .slice ax mx cx] from hD 27 rfl) (Ax.rl hr) Lx) (isw_eq (show a_.eval (.tmp 77) = .agg #[.bool ny, .slice ay my cy] from hD 28 rfl) (Ay.rl hr) Ly) (by omega) (by omega), fun hne => absurd (hD 23 rfl) hne⟩),
                            .norm 79 rfl rfl rfl (fun a_ w_ hn_ hBt hr hR hD hO hS => ⟨⟨_, rfl⟩, fun _ => op_same (show OutW ((zx * zy)) ((xs.length + 2) + (1500)) (a_.eval (.tmp 75)) w_ from hD 26 rfl) (show OutW ((zx * zy)) ((1500) + (1500)) (a_.eval (.tmp 78)) w_ from hD 29 rfl) rfl, fun hne => absurd (hD 23 rfl) hne⟩),
                            .norm 80 rfl rfl rfl (fun a_ w_ hn_ hBt hr hR hD hO hS => op_pickb (show a_.eval (.tmp 72) = .bool true from hD 23 rfl) (show a_.eval (.tmp 79) = .bool true from hD 30 rfl)),
                            .norm 81 rfl rfl rfl (fun a_ w_ hn_ hBt hr hR hD hO hS => op_mv (show a_.eval (.tmp 80) = .bool true from hD 31 rfl)),
                            .norm 82 rfl rfl rfl (fun a_ w_ hn_ hBt hr hR hD hO hS => ⟨⟨_, rfl⟩, fun _ => op_loadv W2ok ((hR 5 rfl).trans f5) (b5.keep hBt trivial), fun hne => absurd (hD 32 rfl) hne⟩),
                            .norm 83 rfl rfl rfl (fun a_ w_ hn_ hBt hr hR hD hO hS => ⟨⟨_, rfl⟩, fun _ => op_loadv W2ok ((hR 3 rfl).trans f3) (b3.keep hBt trivial), fun hne => absurd (hD 32 rfl) hne⟩),
                            .norm 84 rfl rfl rfl (fun a_ w_ hn_ hBt hr hR hD hO hS => ⟨⟨_, rfl⟩, fun _ => op_cmp (isw_eq (show a_.eval (.tmp 82) = .agg #[.bool (!n_6), .slice a_6 m_6 c_6] from hD 33 rfl) (A5f.rl hr) l6) (isw_eq (show a_.eval (.tmp 83) = .agg #[.bool ny, .slice ay my cy] from hD 34 rfl) (Ay.rl hr) Ly) (by omega) (by omega), fun hne => absurd (hD 32 rfl) hne⟩),
                            .norm 85 rfl rfl rfl (fun a_ w_ hn_ hBt hr hR hD hO hS => ⟨⟨_, rfl⟩, fun _ => op_loadv W2ok ((hR 2 rfl).trans f2) (b2.keep hBt trivial), fun hne => absurd (hD 32 rfl) hne⟩),
                            .norm 86 rfl rfl rfl (fun a_ w_ hn_ hBt hr hR hD hO hS => ⟨⟨_, rfl⟩, fun _ => op_loadv W2ok ((hR 3 rfl).trans f3) (b3.keep hBt trivial), fun hne => absurd (hD 32 rfl) hne⟩),
                            .norm 87 rfl rfl rfl (fun a_ w_ hn_ hBt hr hR hD hO hS => ⟨⟨_, rfl⟩, fun _ => op_cmp (isw_eq (show a_.eval (.tmp 85) = .agg #[.bool nx, .slice ax mx cx] from hD 36 rfl) (Ax.rl hr) Lx) (isw_eq (show a_.eval (.tmp 86) = .agg #[.bool ny, .slice ay my cy] from hD 37 rfl) (Ay.rl hr) Ly) (by omega) (by omega), fun hne => absurd (hD 32 rfl) hne⟩),
                            .norm 88 rfl rfl rfl (fun a_ w_ hn_ hBt hr hR hD hO hS => ⟨⟨_, rfl⟩, fun _ => op_eql (show a_.eval (.tmp 84) = .int .i64 (cmpI zx zy) from hD 35 rfl) (show a_.eval (.tmp 87) = .int .i64 (cmpI zx zy) from hD 38 rfl) rfl, fun hne => absurd (hD 32 rfl) hne⟩),
                            .norm 89 rfl rfl rfl (fun a_ w_ hn_ hBt hr hR hD hO hS => op_pickb (show a_.eval (.tmp 81) = .bool true from hD 32 rfl) (show a_.eval (.tmp 88) = .bool true from hD 39 rfl)),
                            .norm 90 rfl rfl rfl (fun a_ w_ hn_ hBt hr hR hD hO hS => op_mv (show a_.eval (.tmp 89) = .bool true from hD 40 rfl)),
                            .norm 91 rfl rfl rfl (fun a_ w_ hn_ hBt hr hR hD hO hS => ⟨⟨_, rfl⟩, fun _ => op_mv ((hR 8 rfl).trans f8), fun hne => absurd (hD 41 rfl) hne⟩),
                            .norm 92 rfl rfl rfl (fun a_ w_ hn_ hBt hr hR hD hO hS => ⟨⟨_, rfl⟩, fun _ => op_mv ((hR 11 rfl).trans f11), fun hne => absurd (hD 41 rfl) hne⟩),
                            .norm 93 rfl rfl rfl (fun a_ w_ hn_ hBt hr hR hD hO hS => ⟨⟨_, rfl⟩, fun _ => op_eqlbs (show a_.eval (.tmp 91) = .bool false from hD 42 rfl) (show a_.eval (.tmp 92) = .bool false from hD 43 rfl), fun hne => absurd (hD 41 rfl) hne⟩),
                            .norm 94 rfl rfl rfl (fun a_ w_ hn_ hBt hr hR hD hO hS => op_pickb (show a_.eval (.tmp 90) = .bool true from hD 41 rfl) (show a_.eval (.tmp 93) = .bool true from hD 44 rfl)),
                            .norm 95 rfl rfl rfl (fun a_ w_ hn_ hBt hr hR hD hO hS => op_mv (show a_.eval (.tmp 94) = .bool true from hD 45 rfl)),
                            .norm 96 rfl rfl rfl (fun a_ w_ hn_ hBt hr hR hD hO hS => ⟨⟨_, rfl⟩, fun _ => op_loadv W2ok ((hR 6 rfl).trans f6) (b6.keep hBt trivial), fun hne => absurd (hD 46 rfl) hne⟩),
                            .norm 97 rfl rfl rfl (fun a_ w_ hn_ hBt hr hR hD hO hS => ⟨⟨_, rfl⟩, fun _ => op_loadv W2ok ((hR 9 rfl).trans f9) (b9.keep hBt trivial), fun hne => absurd (hD 46 rfl) hne⟩),
                            .norm 98 rfl rfl rfl (fun a_ w_ hn_ hBt hr hR hD hO hS => ⟨⟨_, rfl⟩, fun _ => op_same (outw_zero _ (show a_.eval (.tmp 96) = .agg #[.bool false, .slice none 0 0] from hD 47 rfl)) (outw_zero _ (show a_.eval (.tmp 97) = .agg #[.bool false, .slice none 0 0] from hD 48 rfl)) rfl, fun hne => absurd (hD 46 rfl) hne⟩),
                            .norm 99 rfl rfl rfl (fun a_ w_ hn_ hBt hr hR hD hO hS => op_pickb (show a_.eval (.tmp 95) = .bool true from hD 46 rfl) (show a_.eval (.tmp 98) = .bool true from hD 49 rfl)),
                            .norm 100 rfl rfl rfl (fun a_ w_ hn_ hBt hr hR hD hO hS => op_mv (show a_.eval (.tmp 99) = .bool true from hD 50 rfl)),
                            .norm 101 rfl rfl rfl (fun a_ w_ hn_ hBt hr hR hD hO hS => ⟨⟨_, rfl⟩, fun _ => op_loadv W2ok ((hR 7 rfl).trans f7) (b7.keep hBt trivial), fun hne => absurd (hD 51 rfl) hne⟩),
                            .norm 102 rfl rfl rfl (fun a_ w_ hn_ hBt hr hR hD hO hS => ⟨⟨_, rfl⟩, fun _ => op_loadv W2ok ((hR 10 rfl).trans f10) (b10.keep hBt trivial), fun hne => absurd (hD 51 rfl) hne⟩),
                            .norm 103 rfl rfl rfl (fun a_ w_ hn_ hBt hr hR hD hO hS => ⟨⟨_, rfl⟩, fun _ => op_same (outw_zero _ (show a_.eval (.tmp 101) = .agg #[.bool false, .slice none 0 0] from hD 52 rfl)) (outw_zero _ (show a_.eval (.tmp 102) = .agg #[.bool false, .slice none 0 0] from hD 53 rfl)) rfl, fun hne => absurd (hD 51 rfl) hne⟩),
                            .norm 104 rfl rfl rfl (fun a_ w_ hn_ hBt hr hR hD hO hS => op_pickb (show a_.eval (.tmp 100) = .bool true from hD 51 rfl) (show a_.eval (.tmp 103) = .bool true from hD 54 rfl)),
                            .norm 105 rfl rfl rfl (fun a_ w_ hn_ hBt hr hR hD hO hS => op_mv (show a_.eval (.tmp 104) = .bool true from hD 55 rfl)),
                            .norm 106 rfl rfl rfl (fun a_ w_ hn_ hBt hr hR hD hO hS => ⟨⟨_, rfl⟩, fun _ => op_loadv W2ok ((hR 5 rfl).trans f5) (b5.keep hBt trivial), fun hne => absurd (hD 56 rfl) hne⟩),
                            .norm 107 rfl rfl rfl (fun a_ w_ hn_ hBt hr hR hD hO hS => ⟨⟨_, rfl⟩, fun _ => op_wtextz (isw_eq (show a_.eval (.tmp 106) = .agg #[.bool (!n_6), .slice a_6 m_6 c_6] from hD 57 rfl) (A5f.rl hr) l6) (by omega), fun hne => absurd (hD 56 rfl) hne⟩),
                            .norm 108 rfl rfl rfl (fun a_ w_ hn_ hBt hr hR hD hO hS => ⟨⟨_, rfl⟩, fun _ => op_loadv W2ok ((hR 2 rfl).trans f2) (b2.keep hBt trivial), fun hne => absurd (hD 56 rfl) hne⟩),
                            .norm 109 rfl rfl rfl (fun a_ w_ hn_ hBt hr hR hD hO hS => ⟨⟨_, rfl⟩, fun _ => op_wtextz (isw_eq (show a_.eval (.tmp 108) = .agg #[.bool nx, .slice ax mx cx] from hD 59 rfl) (Ax.rl hr) Lx) (by omega), fun hne => absurd (hD 56 rfl) hne⟩),
                            .norm 110 rfl rfl rfl (fun a_ w_ hn_ hBt hr hR hD hO hS => ⟨⟨_, rfl⟩, fun _ => op_eqlss (show a_.eval (.tmp 107) = .string (wtxt zx) from hD 58 rfl) (show a_.eval (.tmp 109) = .string (wtxt zx) from hD 60 rfl), fun hne => absurd (hD 56 rfl) hne⟩),
                            .norm 111 rfl rfl rfl (fun a_ w_ hn_ hBt hr hR hD hO hS => op_pickb (show a_.eval (.tmp 105) = .bool true from hD 56 rfl) (show a_.eval (.tmp 110) = .bool true from hD 61 rfl)),
                            .norm 112 rfl rfl rfl (fun a_ w_ hn_ hBt hr hR hD hO hS => op_mv (show a_.eval (.tmp 111) = .bool true from hD 62 rfl)),
                            .norm 113 rfl rfl rfl (fun a_ w_ hn_ hBt hr hR hD hO hS => ⟨⟨_, rfl⟩, fun _ => op_loadv W2ok ((hR 5 rfl).trans f5) (b5.keep hBt trivial), fun hne => absurd (hD 63 rfl) hne⟩),
                            .norm 114 rfl rfl rfl (fun a_ w_ hn_ hBt hr hR hD hO hS => ⟨⟨_, rfl⟩, fun _ => op_wlimbs (isw_eq (show a_.eval (.tmp 113) = .agg #[.bool (!n_6), .slice a_6 m_6 c_6] from hD 64 rfl) (A5f.rl hr) l6) (by omega) hmL, fun hne => absurd (hD 63 rfl) hne⟩),
                            .norm 115 rfl rfl rfl (fun a_ w_ hn_ hBt hr hR hD hO hS => ⟨⟨_, rfl⟩, fun _ => op_loadv W2ok ((hR 2 rfl).trans f2) (b2.keep hBt trivial), fun hne => absurd (hD 63 rfl) hne⟩),
                            .norm 116 rfl rfl rfl (fun a_ w_ hn_ hBt hr hR hD hO hS => ⟨⟨_, rfl⟩, fun _ => op_wlimbs (isw_eq (show a_.eval (.tmp 115) = .agg #[.bool nx, .slice ax mx cx] from hD 66 rfl) (Ax.rl hr) Lx) (by omega) hmL, fun hne => absurd (hD 63 rfl) hne⟩),
                            .norm 117 rfl rfl rfl (fun a_ w_ hn_ hBt hr hR hD hO hS => ⟨⟨_, rfl⟩, fun _ => op_eql (show a_.eval (.tmp 114) = .int .i64 (mL : Int) from hD 65 rfl) (show a_.eval (.tmp 116) = .int .i64 (mL : Int) from hD 67 rfl) rfl, fun hne => absurd (hD 63 rfl) hne⟩),
                            .norm 118 rfl rfl rfl (fun a_ w_ hn_ hBt hr hR hD hO hS => op_pickb (show a_.eval (.tmp 112) = .bool true from hD 63 rfl) (show a_.eval (.tmp 117) = .bool true from hD 68 rfl)),
                            .norm 119 rfl rfl rfl (fun a_ w_ hn_ hBt hr hR hD hO hS => op_mv (show a_.eval (.tmp 118) = .bool true from hD 69 rfl)),
                            .norm 120 rfl rfl rfl (fun a_ w_ hn_ hBt hr hR hD hO hS => ⟨⟨_, rfl⟩, fun _ => op_loadv W2ok ((hR 5 rfl).trans f5) (b5.keep hBt trivial), fun hne => absurd (hD 70 rfl) hne⟩),
                            .norm 121 rfl rfl rfl (fun a_ w_ hn_ hBt hr hR hD hO hS => ⟨⟨_, rfl⟩, fun _ => op_loadv W2ok ((hR 3 rfl).trans f3) (b3.keep hBt trivial), fun hne => absurd (hD 70 rfl) hne⟩),
                            .norm 122 rfl rfl rfl (fun a_ w_ hn_ hBt hr hR hD hO hS => ⟨⟨_, rfl⟩, fun _ => op_wgcd (L1 := xs.length + 2) (L2 := 1500) (isw_eq (show a_.eval (.tmp 120) = .agg #[.bool (!n_6), .slice a_6 m_6 c_6] from hD 71 rfl) (A5f.rl hr) l6) (isw_eq (show a_.eval (.tmp 121) = .agg #[.bool ny, .slice ay my cy] from hD 72 rfl) (Ay.rl hr) Ly) (by omega) (by omega), fun hne => absurd (hD 70 rfl) hne⟩),
                            .norm 123 rfl rfl rfl (fun a_ w_ hn_ hBt hr hR hD hO hS => ⟨⟨_, rfl⟩, fun _ => op_loadv W2ok ((hR 2 rfl).trans f2) (b2.keep hBt trivial), fun hne => absurd (hD 70 rfl) hne⟩),
                            .norm 124 rfl rfl rfl (fun a_ w_ hn_ hBt hr hR hD hO hS => ⟨⟨_, rfl⟩, fun _ => op_loadv W2ok ((hR 3 rfl).trans f3) (b3.keep hBt trivial), fun hne => absurd (hD 70 rfl) hne⟩),
                            .norm 125 rfl rfl rfl (fun a_ w_ hn_ hBt hr hR hD hO hS => ⟨⟨_, rfl⟩, fun _ => op_wgcd (L1 := 1500) (L2 := 1500) (isw_eq (show a_.eval (.tmp 123) = .agg #[.bool nx, .slice ax mx cx] from hD 74 rfl) (Ax.rl hr) Lx) (isw_eq (show a_.eval (.tmp 124) = .agg #[.bool ny, .slice ay my cy] from hD 75 rfl) (Ay.rl hr) Ly) (by omega) (by omega), fun hne => absurd (hD 70 rfl) hne⟩),
                            .norm 126 rfl rfl rfl (fun a_ w_ hn_ hBt hr hR hD hO hS => ⟨⟨_, rfl⟩, fun _ => op_same (show OutW (((Int.gcd zx zy : Nat) : Int)) ((xs.length + 2) + (1500) + 1) (a_.eval (.tmp 122)) w_ from hD 73 rfl) (show OutW (((Int.gcd zx zy : Nat) : Int)) ((1500) + (1500) + 1) (a_.eval (.tmp 125)) w_ from hD 76 rfl) rfl, fun hne => absurd (hD 70 rfl) hne⟩),
                            .norm 127 rfl rfl rfl (fun a_ w_ hn_ hBt hr hR hD hO hS => op_pickb (show a_.eval (.tmp 119) = .bool true from hD 70 rfl) (show a_.eval (.tmp 126) = .bool true from hD 77 rfl)),
                            .norm 4 rfl rfl rfl (fun a_ w_ hn_ hBt hr hR hD hO hS => op_assign (show a_.eval (.tmp 127) = .bool true from hD 78 rfl)),
                            trivial⟩
                        · intro a13 w13 gs13 hn13 hd13 hBt hr hR hP hX hU
                          replace hn := hn13; replace hd := hd13.trans hd
                          have e4 : a13.eval (.tmp 4) = .bool true := hP 79 (by decide)
                          have f4 := e4
                          replace Ax := Ax.rl hr
                          replace Tx := Tx.rl hr
                          replace Ay := Ay.rl hr
                          replace Ty := Ty.rl hr
                          replace A6 := A6.rl hr
                          replace A5f := A5f.rl hr
                          replace HB := HB.trans (hBt.below HB.size (UpOld.all (bx := []) trivial))
                          clear hBt hr hR hP hX hU
                          refine wp_ret ?_
                          repeat (first | refine then_ret ?_ | refine scope_ret ?_ | refine block_ret ?_)
                          exact bodyPost_ret (v := .bool true) (res_t rfl f4) hd ⟨rfl, HB⟩
              · skip
                have hx0 : zx ≠ 0 := fun e => of_decide_eq_false hc30 (Int.sign_eq_zero_iff_zero.2 e)
                refine wp_skip ?_
                refine wp_seq ?_
                refine region4 [some 36, some 37, some 38, some 35, some 39, some 40, some 41, some 6, some 7, none, none, some 8] [Eqs (.agg #[.bool ny, .slice ay my cy]), Eqs (.agg #[.bool nx, .slice ax mx cx]), Tup3 (OutW ((zy / zx)) ((1500) + 4)) (OutW ((zy % zx)) (1500)) (Eqs (.bool true)), Tup3 (OutW ((zy / zx)) ((1500) + 4)) (OutW ((zy % zx)) (1500)) (Eqs (.bool true)), OutW ((zy / zx)) ((1500) + 4), OutW ((zy % zx)) (1500), Eqs (.bool true), (fun _ _ => True), (fun _ _ => True), (fun _ _ => True), (fun _ _ => True), Eqs (.bool true)] [⟨W2, some 7, 0, 6, .agg #[.bool false, .slice none 0 0], some (9, 39, 4), []⟩, ⟨W2, some 8, 0, 7, .agg #[.bool false, .slice none 0 0], some (10, 40, 5), []⟩] [] (by kernel_rfl) hn rfl (by kernel_rfl) (by kernel_rfl) (by kernel_rfl) (by kernel_rfl) (by kernel_rfl) (by kernel_rfl) ⟨Eqs.mono4 _, Eqs.mono4 _, Tup3.mono4 (OutW.mono4 _ _) (OutW.mono4 _ _) (Eqs.mono4 _), Tup3.mono4 (OutW.mono4 _ _) (OutW.mono4 _ _) (Eqs.mono4 _), OutW.mono4 _ _, OutW.mono4 _ _, Eqs.mono4 _, True.mono4, True.mono4, True.mono4, True.mono4, Eqs.mono4 _, trivial⟩ (ok_cons W2ok (ok_cons W2ok ok_nil)) (IsOld.all (bx := [⟨W2, some 7, 0, 6, .agg #[.bool false, .slice none 0 0], some (9, 39, 4), []⟩, ⟨W2, some 8, 0, 7, .agg #[.bool false, .slice none 0 0], some (10, 40, 5), []⟩]) ⟨someNe, someNe, trivial⟩) (DisOld.all (bx := [⟨W2, some 7, 0, 6, .agg #[.bool false, .slice none 0 0], some (9, 39, 4), []⟩, ⟨W2, some 8, 0, 7, .agg #[.bool false, .slice none 0 0], some (10, 40, 5), []⟩]) ⟨someNe, someNe, trivial⟩) ?_ ?_
                · exact ⟨.norm 36 rfl rfl rfl (fun a_ w_ hn_ hBt hr hR hD hO hS => op_loadv W2ok ((hR 3 rfl).trans f3) (b3.keep hBt ⟨someNe, someNe, trivial⟩)),
                    .norm 37 rfl rfl rfl (fun a_ w_ hn_ hBt hr hR hD hO hS => op_loadv W2ok ((hR 2 rfl).trans f2) (b2.keep hBt ⟨someNe, someNe, trivial⟩)),
                    .norm 38 rfl rfl rfl (fun a_ w_ hn_ hBt hr hR hD hO hS => op_wdiv (isw_eq (show a_.eval (.tmp 36) = .agg #[.bool ny, .slice ay my cy] from hD 0 rfl) (Ay.rl hr) Ly) (isw_eq (show a_.eval (.tmp 37) = .agg #[.bool nx, .slice ax mx cx] from hD 1 rfl) (Ax.rl hr) Lx) (by omega) (by omega) hx0),
                    .norm 35 rfl rfl rfl (fun a_ w_ hn_ hBt hr hR hD hO hS => op_mvp (p := Tup3 (OutW ((zy / zx)) ((1500) + 4)) (OutW ((zy % zx)) (1500)) (Eqs (.bool true))) (show Tup3 (OutW ((zy / zx)) ((1500) + 4)) (OutW ((zy % zx)) (1500)) (Eqs (.bool true)) (a_.eval (.tmp 38)) w_ from hD 2 rfl)),
                    .norm 39 rfl rfl rfl (fun a_ w_ hn_ hBt hr hR hD hO hS => op_ex30 (show Tup3 (OutW ((zy / zx)) ((1500) + 4)) (OutW ((zy % zx)) (1500)) (Eqs (.bool true)) (a_.eval (.tmp 35)) w_ from hD 3 rfl)),
                    .norm 40 rfl rfl rfl (fun a_ w_ hn_ hBt hr hR hD hO hS => op_ex31 (show Tup3 (OutW ((zy / zx)) ((1500) + 4)) (OutW ((zy % zx)) (1500)) (Eqs (.bool true)) (a_.eval (.tmp 35)) w_ from hD 3 rfl)),
                    .norm 41 rfl rfl rfl (fun a_ w_ hn_ hBt hr hR hD hO hS => op_ex32 (show Tup3 (OutW ((zy / zx)) ((1500) + 4)) (OutW ((zy % zx)) (1500)) (Eqs (.bool true)) (a_.eval (.tmp 35)) w_ from hD 3 rfl)),
                    .alloc 0 _ rfl rfl (.inl ⟨rfl, rfl⟩) rfl rfl rfl rfl rfl,
                    .alloc 1 _ rfl rfl (.inl ⟨rfl, rfl⟩) rfl rfl rfl rfl rfl,
                    .store 0 _ _ _ rfl rfl rfl rfl rfl rfl rfl (fun ia h => by cases h; rfl) rfl rfl rfl OutW.cs,
                    .store 1 _ _ _ rfl rfl rfl rfl rfl rfl rfl (fun ia h => by cases h; rfl) rfl rfl rfl OutW.cs,
                    .norm 8 rfl rfl rfl (fun a_ w_ hn_ hBt hr hR hD hO hS => op_assign (show a_.eval (.tmp 41) = .bool true from hD 6 rfl)),
                    trivial⟩
                · intro a14 w14 gs14 hn14 hd14 hBt hr hR hP hX hU
                  replace hn := hn14; replace hd := hd14.trans hd
                  replace b2 := b2.keep hBt ⟨someNe, someNe, trivial⟩
                  replace b3 := b3.keep hBt ⟨someNe, someNe, trivial⟩
                  replace b5 := b5.keep hBt ⟨someNe, someNe, trivial⟩
                  obtain ⟨n_15, a_15, c_15, r_15, e39, G15, l15⟩ : OutW ((zy / zx)) ((1500) + 4) (a14.eval (.tmp 39)) w14 := hP 4 (by decide)
                  have A15 := G15.ag
                  have b6 : BoxV W2 w14 (gs14 0) (.agg #[.bool n_15, .slice a_15 r_15.length c_15]) := boxv_of (hX 0 _ rfl).2.2.2 e39
                  have f6 := (hX 0 _ rfl).1
                  have u6 : w.heap.size ≤ gs14 0 := Nat.le_trans HB.size ((hX 0 _ rfl).2.2.1 (by simp))
                  obtain ⟨n_16, a_16, c_16, r_16, e40, G16, l16⟩ : OutW ((zy % zx)) (1500) (a14.eval (.tmp 40)) w14 := hP 5 (by decide)
                  have A16 := G16.ag
                  have b7 : BoxV W2 w14 (gs14 1) (.agg #[.bool n_16, .slice a_16 r_16.length c_16]) := boxv_of (hX 1 _ rfl).2.2.2 e40
                  have f7 := (hX 1 _ rfl).1
                  have u7 : w.heap.size ≤ gs14 1 := Nat.le_trans HB.size ((hX 1 _ rfl).2.2.1 (by simp))
                  replace f2 := (hR 2 rfl).trans f2
                  replace f3 := (hR 3 rfl).trans f3
                  replace f4 := (hR 4 rfl).trans f4
                  replace f5 := (hR 5 rfl).trans f5
                  have e8 : a14.eval (.tmp 8) = .bool true := hP 11 (by decide)
                  have f8 := e8
                  replace Ax := Ax.rl hr
                  replace Tx := Tx.rl hr
                  replace Ay := Ay.rl hr
                  replace Ty := Ty.rl hr
                  replace A6 := A6.rl hr
                  replace HB := HB.trans (hBt.below HB.size (UpOld.all (bx := [⟨W2, some 7, 0, 6, .agg #[.bool false, .slice none 0 0], some (9, 39, 4), []⟩, ⟨W2, some 8, 0, 7, .agg #[.bool false, .slice none 0 0], some (10, 40, 5), []⟩]) ⟨someNe, someNe, trivial⟩))
                  clear hBt hr hR hP hX hU
                  refine wp_seq ?_
                  refine region4 [some 43, some 44, some 45, some 42, some 46, some 47, some 48, some 9, some 10, none, none, some 11] [Eqs (.agg #[.bool ny, .slice ay my cy]), Eqs (.agg #[.bool n_6, .slice a_6 m_6 c_6]), Tup3 (OutW ((zy / zx)) ((1500) + 4)) (OutW ((zy % zx)) (xs.length + 2)) (Eqs (.bool true)), Tup3 (OutW ((zy / zx)) ((1500) + 4)) (OutW ((zy % zx)) (xs.length + 2)) (Eqs (.bool true)), OutW ((zy / zx)) ((1500) + 4), OutW ((zy % zx)) (xs.length + 2), Eqs (.bool true), (fun _ _ => True), (fun _ _ => True), (fun _ _ => True), (fun _ _ => True), Eqs (.bool true)] [⟨W2, some 7, 0, 9, .agg #[.bool false, .slice none 0 0], some (9, 46, 4), []⟩, ⟨W2, some 8, 0, 10, .agg #[.bool false, .slice none 0 0], some (10, 47, 5), []⟩] [] (by kernel_rfl) hn rfl (by kernel_rfl) (by kernel_rfl) (by kernel_rfl) (by kernel_rfl) (by kernel_rfl) (by kernel_rfl) ⟨Eqs.mono4 _, Eqs.mono4 _, Tup3.mono4 (OutW.mono4 _ _) (OutW.mono4 _ _) (Eqs.mono4 _), Tup3.mono4 (OutW.mono4 _ _) (OutW.mono4 _ _) (Eqs.mono4 _), OutW.mono4 _ _, OutW.mono4 _ _, Eqs.mono4 _, True.mono4, True.mono4, True.mono4, True.mono4, Eqs.mono4 _, trivial⟩ (ok_cons W2ok (ok_cons W2ok ok_nil)) (IsOld.all (bx := [⟨W2, some 7, 0, 9, .agg #[.bool false, .slice none 0 0], some (9, 46, 4), []⟩, ⟨W2, some 8, 0, 10, .agg #[.bool false, .slice none 0 0], some (10, 47, 5), []⟩]) ⟨someNe, someNe, trivial⟩) (DisOld.all (bx := [⟨W2, some 7, 0, 9, .agg #[.bool false, .slice none 0 0], some (9, 46, 4), []⟩, ⟨W2, some 8, 0, 10, .agg #[.bool false, .slice none 0 0], some (10, 47, 5), []⟩]) ⟨someNe, someNe, trivial⟩) ?_ ?_
                  · exact ⟨.norm 43 rfl rfl rfl (fun a_ w_ hn_ hBt hr hR hD hO hS => op_loadv W2ok ((hR 3 rfl).trans f3) (b3.keep hBt ⟨someNe, someNe, trivial⟩)),
                      .norm 44 rfl rfl rfl (fun a_ w_ hn_ hBt hr hR hD hO hS => op_loadv W2ok ((hR 5 rfl).trans f5) (b5.keep hBt ⟨someNe, someNe, trivial⟩)),
                      .norm 45 rfl rfl rfl (fun a_ w_ hn_ hBt hr hR hD hO hS => op_wdiv (isw_eq (show a_.eval (.tmp 43) = .agg #[.bool ny, .slice ay my cy] from hD 0 rfl) (Ay.rl hr) Ly) (isw_eq (show a_.eval (.tmp 44) = .agg #[.bool n_6, .slice a_6 m_6 c_6] from hD 1 rfl) (A6.rl hr) l6) (by omega) (by omega) hx0),
                      .norm 42 rfl rfl rfl (fun a_ w_ hn_ hBt hr hR hD hO hS => op_mvp (p := Tup3 (OutW ((zy / zx)) ((1500) + 4)) (OutW ((zy % zx)) (xs.length + 2)) (Eqs (.bool true))) (show Tup3 (OutW ((zy / zx)) ((1500) + 4)) (OutW ((zy % zx)) (xs.length + 2)) (Eqs (.bool true)) (a_.eval (.tmp 45)) w_ from hD 2 rfl)),
                      .norm 46 rfl rfl rfl (fun a_ w_ hn_ hBt hr hR hD hO hS => op_ex30 (show Tup3 (OutW ((zy / zx)) ((1500) + 4)) (OutW ((zy % zx)) (xs.length + 2)) (Eqs (.bool true)) (a_.eval (.tmp 42)) w_ from hD 3 rfl)),
                      .norm 47 rfl rfl rfl (fun a_ w_ hn_ hBt hr hR hD hO hS => op_ex31 (show Tup3 (OutW ((zy / zx)) ((1500) + 4)) (OutW ((zy % zx)) (xs.length + 2)) (Eqs (.bool true)) (a_.eval (.tmp 42)) w_ from hD 3 rfl)),
                      .norm 48 rfl rfl rfl (fun a_ w_ hn_ hBt hr hR hD hO hS => op_ex32 (show Tup3 (OutW ((zy / zx)) ((1500) + 4)) (OutW ((zy % zx)) (xs.length + 2)) (Eqs (.bool true)) (a_.eval (.tmp 42)) w_ from hD 3 rfl)),
                      .alloc 0 _ rfl rfl (.inl ⟨rfl, rfl⟩) rfl rfl rfl rfl rfl,
                      .alloc 1 _ rfl rfl (.inl ⟨rfl, rfl⟩) rfl rfl rfl rfl rfl,
                      .store 0 _ _ _ rfl rfl rfl rfl rfl rfl rfl (fun ia h => by cases h; rfl) rfl rfl rfl OutW.cs,
                      .store 1 _ _ _ rfl rfl rfl rfl rfl rfl rfl (fun ia h => by cases h; rfl) rfl rfl rfl OutW.cs,
                      .norm 11 rfl rfl rfl (fun a_ w_ hn_ hBt hr hR hD hO hS => op_assign (show a_.eval (.tmp 48) = .bool true from hD 6 rfl)),
                      trivial⟩
                  · intro a17 w17 gs17 hn17 hd17 hBt hr hR hP hX hU
                    replace hn := hn17; replace hd := hd17.trans hd
                    replace b2 := b2.keep hBt ⟨someNe, someNe, trivial⟩
                    replace b3 := b3.keep hBt ⟨someNe, someNe, trivial⟩
                    replace b5 := b5.keep hBt ⟨someNe, someNe, trivial⟩
                    replace b6 := b6.keep hBt ⟨someNe, someNe, trivial⟩
                    replace b7 := b7.keep hBt ⟨someNe, someNe, trivial⟩
                    obtain ⟨n_18, a_18, c_18, r_18, e46, G18, l18⟩ : OutW ((zy / zx)) ((1500) + 4) (a17.eval (.tmp 46)) w17 := hP 4 (by decide)
                    have A18 := G18.ag
                    have b9 : BoxV W2 w17 (gs17 0) (.agg #[.bool n_18, .slice a_18 r_18.length c_18]) := boxv_of (hX 0 _ rfl).2.2.2 e46
                    have f9 := (hX 0 _ rfl).1
                    have u9 : w.heap.size ≤ gs17 0 := Nat.le_trans HB.size ((hX 0 _ rfl).2.2.1 (by simp))
                    obtain ⟨n_19, a_19, c_19, r_19, e47, G19, l19⟩ : OutW ((zy % zx)) (xs.length + 2) (a17.eval (.tmp 47)) w17 := hP 5 (by decide)
                    have A19 := G19.ag
                    have b10 : BoxV W2 w17 (gs17 1) (.agg #[.bool n_19, .slice a_19 r_19.length c_19]) := boxv_of (hX 1 _ rfl).2.2.2 e47
                    have f10 := (hX 1 _ rfl).1
                    have u10 : w.heap.size ≤ gs17 1 := Nat.le_trans HB.size ((hX 1 _ rfl).2.2.1 (by simp))
                    replace f2 := (hR 2 rfl).trans f2
                    replace f3 := (hR 3 rfl).trans f3
                    replace f4 := (hR 4 rfl).trans f4
                    replace f5 := (hR 5 rfl).trans f5
                    replace f6 := (hR 6 rfl).trans f6
                    replace f7 := (hR 7 rfl).trans f7
                    replace f8 := (hR 8 rfl).trans f8
                    have e11 : a17.eval (.tmp 11) = .bool true := hP 11 (by decide)
                    have f11 := e11
                    replace Ax := Ax.rl hr
                    replace Tx := Tx.rl hr
                    replace Ay := Ay.rl hr
                    replace Ty := Ty.rl hr
                    replace A6 := A6.rl hr
                    replace G15 := G15.rl hr
                    replace A15 := A15.rl hr
                    replace G16 := G16.rl hr
                    replace A16 := A16.rl hr
                    replace HB := HB.trans (hBt.below HB.size (UpOld.all (bx := [⟨W2, some 7, 0, 9, .agg #[.bool false, .slice none 0 0], some (9, 46, 4), []⟩, ⟨W2, some 8, 0, 10, .agg #[.bool false, .slice none 0 0], some (10, 47, 5), []⟩]) ⟨someNe, someNe, trivial⟩))
                    clear hBt hr hR hP hX hU
                    refine wp_seq ?_
                    refine region4 [some 49, some 50, some 51, some 52, some 53, some 54, some 55, some 56, some 57, some 58, some 59, some 60, some 61, some 62, some 63, some 64, some 65, some 66, some 67, some 68, some 69, some 70, some 71, some 72, some 73, some 74, some 75, some 76, some 77, some 78, some 79, some 80, some 81, some 82, some 83, some 84, some 85, some 86, some 87, some 88, some 89, some 90, some 91, some 92, some 93, some 94, some 95, some 96, some 97, some 98, some 99, some 100, some 101, some 102, some 103, some 104, some 105, some 106, some 107, some 108, some 109, some 110, some 111, some 112, some 113, some 114, some 115, some 116, some 117, some 118, some 119, some 120, some 121, some 122, some 123, some 124, some 125, some 126, some 127, some 4] [Eqs (.agg #[.bool n_6, .slice a_6 m_6 c_6]), OutW (zx) (xs.length + 2), Eqs (.agg #[.bool nx, .slice ax mx cx]), OutW (zx) (1500), Eqs (.bool true), Eqs (.bool true), Eqs (.agg #[.bool n_6, .slice a_6 m_6 c_6]), Eqs (.agg #[.bool ny, .slice ay my cy]), OutW ((zx + zy)) ((xs.length + 2) + (1500) + 1), Eqs (.agg #[.bool nx, .slice ax mx cx]), Eqs (.agg #[.bool ny, .slice ay my cy]), OutW ((zx + zy)) ((1500) + (1500) + 1), Eqs (.bool true), Eqs (.bool true), Eqs (.bool true), Eqs (.agg #[.bool ny, .slice ay my cy]), Eqs (.agg #[.bool n_6, .slice a_6 m_6 c_6]), OutW ((zy - zx)) ((1500) + (xs.length + 2) + 1), Eqs (.agg #[.bool ny, .slice ay my cy]), Eqs (.agg #[.bool nx, .slice ax mx cx]), OutW ((zy - zx)) ((1500) + (1500) + 1), Eqs (.bool true), Eqs (.bool true), Eqs (.bool true), Eqs (.agg #[.bool n_6, .slice a_6 m_6 c_6]), Eqs (.agg #[.bool ny, .slice ay my cy]), OutW ((zx * zy)) ((xs.length + 2) + (1500)), Eqs (.agg #[.bool nx, .slice ax mx cx]), Eqs (.agg #[.bool ny, .slice ay my cy]), OutW ((zx * zy)) ((1500) + (1500)), Eqs (.bool true), Eqs (.bool true), Eqs (.bool true), Eqs (.agg #[.bool n_6, .slice a_6 m_6 c_6]), Eqs (.agg #[.bool ny, .slice ay my cy]), Eqs (.int .i64 (cmpI zx zy)), Eqs (.agg #[.bool nx, .slice ax mx cx]), Eqs (.agg #[.bool ny, .slice ay my cy]), Eqs (.int .i64 (cmpI zx zy)), Eqs (.bool true), Eqs (.bool true), Eqs (.bool true), Eqs (.bool true), Eqs (.bool true), Eqs (.bool true), Eqs (.bool true), Eqs (.bool true), Eqs (.agg #[.bool n_15, .slice a_15 r_15.length c_15]), Eqs (.agg #[.bool n_18, .slice a_18 r_18.length c_18]), Eqs (.bool true), Eqs (.bool true), Eqs (.bool true), Eqs (.agg #[.bool n_16, .slice a_16 r_16.length c_16]), Eqs (.agg #[.bool n_19, .slice a_19 r_19.length c_19]), Eqs (.bool true), Eqs (.bool true), Eqs (.bool true), Eqs (.agg #[.bool n_6, .slice a_6 m_6 c_6]), Eqs (.string (wtxt zx)), Eqs (.agg #[.bool nx, .slice ax mx cx]), Eqs (.string (wtxt zx)), Eqs (.bool true), Eqs (.bool true), Eqs (.bool true), Eqs (.agg #[.bool n_6, .slice a_6 m_6 c_6]), Eqs (.int .i64 (mL : Int)), Eqs (.agg #[.bool nx, .slice ax mx cx]), Eqs (.int .i64 (mL : Int)), Eqs (.bool true), Eqs (.bool true), Eqs (.bool true), Eqs (.agg #[.bool n_6, .slice a_6 m_6 c_6]), Eqs (.agg #[.bool ny, .slice ay my cy]), OutW (((Int.gcd zx zy : Nat) : Int)) ((xs.length + 2) + (1500) + 1), Eqs (.agg #[.bool nx, .slice ax mx cx]), Eqs (.agg #[.bool ny, .slice ay my cy]), OutW (((Int.gcd zx zy : Nat) : Int)) ((1500) + (1500) + 1), Eqs (.bool true), Eqs (.bool true), Eqs (.bool true)] [] [] (by kernel_rfl) hn rfl (by kernel_rfl) (by kernel_rfl) (by kernel_rfl) (by kernel_rfl) (by kernel_rfl) (by kernel_rfl) ⟨Eqs.mono4 _, OutW.mono4 _ _, Eqs.mono4 _, OutW.mono4 _ _, Eqs.mono4 _, Eqs.mono4 _, Eqs.mono4 _, Eqs.mono4 _, OutW.mono4 _ _, Eqs.mono4 _, Eqs.mono4 _, OutW.mono4 _ _, Eqs.mono4 _, Eqs.mono4 _, Eqs.mono4 _, Eqs.mono4 _, Eqs.mono4 _, OutW.mono4 _ _, Eqs.mono4 _, Eqs.mono4 _, OutW.mono4 _ _, Eqs.mono4 _, Eqs.mono4 _, Eqs.mono4 _, Eqs.mono4 _, Eqs.mono4 _, OutW.mono4 _ _, Eqs.mono4 _, Eqs.mono4 _, OutW.mono4 _ _, Eqs.mono4 _, Eqs.mono4 _, Eqs.mono4 _, Eqs.mono4 _, Eqs.mono4 _, Eqs.mono4 _, Eqs.mono4 _, Eqs.mono4 _, Eqs.mono4 _, Eqs.mono4 _, Eqs.mono4 _, Eqs.mono4 _, Eqs.mono4 _, Eqs.mono4 _, Eqs.mono4 _, Eqs.mono4 _, Eqs.mono4 _, Eqs.mono4 _, Eqs.mono4 _, Eqs.mono4 _, Eqs.mono4 _, Eqs.mono4 _, Eqs.mono4 _, Eqs.mono4 _, Eqs.mono4 _, Eqs.mono4 _, Eqs.mono4 _, Eqs.mono4 _, Eqs.mono4 _, Eqs.mono4 _, Eqs.mono4 _, Eqs.mono4 _, Eqs.mono4 _, Eqs.mono4 _, Eqs.mono4 _, Eqs.mono4 _, Eqs.mono4 _, Eqs.mono4 _, Eqs.mono4 _, Eqs.mono4 _, Eqs.mono4 _, Eqs.mono4 _, Eqs.mono4 _, OutW.mono4 _ _, Eqs.mono4 _, Eqs.mono4 _, OutW.mono4 _ _, Eqs.mono4 _, Eqs.mono4 _, Eqs.mono4 _, trivial⟩ ok_nil (IsOld.all (bx := []) trivial) (DisOld.all (bx := []) trivial) ?_ ?_
                    · exact ⟨.norm 49 rfl rfl rfl (fun a_ w_ hn_ hBt hr hR hD hO hS => op_loadv W2ok ((hR 5 rfl).trans f5) (b5.keep hBt trivial)),
                        .norm 50 rfl rfl rfl (fun a_ w_ hn_ hBt hr hR hD hO hS => op_wtrim (isw_eq (show a_.eval (.tmp 49) = .agg #[.bool n_6, .slice a_6 m_6 c_6] from hD 0 rfl) (A6.rl hr) l6) (by omega)),
                        .norm 51 rfl rfl rfl (fun a_ w_ hn_ hBt hr hR hD hO hS => op_loadv W2ok ((hR 2 rfl).trans f2) (b2.keep hBt trivial)),
                        .norm 52 rfl rfl rfl (fun a_ w_ hn_ hBt hr hR hD hO hS => op_wtrim (isw_eq (show a_.eval (.tmp 51) = .agg #[.bool nx, .slice ax mx cx] from hD 2 rfl) (Ax.rl hr) Lx) (by omega)),
                        .norm 53 rfl rfl rfl (fun a_ w_ hn_ hBt hr hR hD hO hS => op_same (show OutW (zx) (xs.length + 2) (a_.eval (.tmp 50)) w_ from hD 1 rfl) (show OutW (zx) (1500) (a_.eval (.tmp 52)) w_ from hD 3 rfl) rfl),
                        .norm 54 rfl rfl rfl (fun a_ w_ hn_ hBt hr hR hD hO hS => op_mv (show a_.eval (.tmp 53) = .bool true from hD 4 rfl)),
                        .norm 55 rfl rfl rfl (fun a_ w_ hn_ hBt hr hR hD hO hS => ⟨⟨_, rfl⟩, fun _ => op_loadv W2ok ((hR 5 rfl).trans f5) (b5.keep hBt trivial), fun hne => absurd (hD 5 rfl) hne⟩),
                        .norm 56 rfl rfl rfl (fun a_ w_ hn_ hBt hr hR hD hO hS => ⟨⟨_, rfl⟩, fun _ => op_loadv W2ok ((hR 3 rfl).trans f3) (b3.keep hBt trivial), fun hne => absurd (hD 5 rfl) hne⟩),
                        .norm 57 rfl rfl rfl (fun a_ w_ hn_ hBt hr hR hD hO hS => ⟨⟨_, rfl⟩, fun _ => op_add (L1 := xs.length + 2) (L2 := 1500) (isw_eq (show a_.eval (.tmp 55) = .agg #[.bool n_6, .slice a_6 m_6 c_6] from hD 6 rfl) (A6.rl hr) l6) (isw_eq (show a_.eval (.tmp 56) = .agg #[.bool ny, .slice ay my cy] from hD 7 rfl) (Ay.rl hr) Ly) (by omega) (by omega), fun hne => absurd (hD 5 rfl) hne⟩),
                        .norm 58 rfl rfl rfl (fun a_ w_ hn_ hBt hr hR hD hO hS => ⟨⟨_, rfl⟩, fun _ => op_loadv W2ok ((hR 2 rfl).trans f2) (b2.keep hBt trivial), fun hne => absurd (hD 5 rfl) hne⟩),
                        .norm 59 rfl rfl rfl (fun a_ w_ hn_ hBt hr hR hD hO hS => ⟨⟨_, rfl⟩, fun _ => op_loadv W2ok ((hR 3 rfl).trans f3) (b3.keep hBt trivial), fun hne => absurd (hD 5 rfl) hne⟩),
                        .norm 60 rfl rfl rfl (fun a_ w_ hn_ hBt hr hR hD hO hS => ⟨⟨_, rfl⟩, fun _ => op_add (L1 := 1500) (L2 := 1500) (isw_eq (show a_.eval (.tmp 58) = .agg #[.bool nx, .slice ax mx cx] from hD 9 rfl) (Ax.rl hr) Lx) (isw_eq (show a_.eval (.tmp 59) = .agg #[.bool ny, .slice ay my cy] from hD 10 rfl) (Ay.rl hr) Ly) (by omega) (by omega), fun hne => absurd (hD 5 rfl) hne⟩),
                        .norm 61 rfl rfl rfl (fun a_ w_ hn_ hBt hr hR hD hO hS => ⟨⟨_, rfl⟩, fun _ => op_same (show OutW ((zx + zy)) ((xs.length + 2) + (1500) + 1) (a_.eval (.tmp 57)) w_ from hD 8 rfl) (show OutW ((zx + zy)) ((1500) + (1500) + 1) (a_.eval (.tmp 60)) w_ from hD 11 rfl) rfl, fun hne => absurd (hD 5 rfl) hne⟩),
                        .norm 62 rfl rfl rfl (fun a_ w_ hn_ hBt hr hR hD hO hS => op_pickb (show a_.eval (.tmp 54) = .bool true from hD 5 rfl) (show a_.eval (.tmp 61) = .bool true from hD 12 rfl)),
                        .norm 63 rfl rfl rfl (fun a_ w_ hn_ hBt hr hR hD hO hS => op_mv (show a_.eval (.tmp 62) = .bool true from hD 13 rfl)),
                        .norm 64 rfl rfl rfl (fun a_ w_ hn_ hBt hr hR hD hO hS => ⟨⟨_, rfl⟩, fun _ => op_loadv W2ok ((hR 3 rfl).trans f3) (b3.keep hBt trivial), fun hne => absurd (hD 14 rfl) hne⟩),
                        .norm 65 rfl rfl rfl (fun a_ w_ hn_ hBt hr hR hD hO hS => ⟨⟨_, rfl⟩, fun _ => op_loadv W2ok ((hR 5 rfl).trans f5) (b5.keep hBt trivial), fun hne => absurd (hD 14 rfl) hne⟩),
                        .norm 66 rfl rfl rfl (fun a_ w_ hn_ hBt hr hR hD hO hS => ⟨⟨_, rfl⟩, fun _ => op_sub (L1 := 1500) (L2 := xs.length + 2) (isw_eq (show a_.eval (.tmp 64) = .agg #[.bool ny, .slice ay my cy] from hD 15 rfl) (Ay.rl hr) Ly) (isw_eq (show a_.eval (.tmp 65) = .agg #[.bool n_6, .slice a_6 m_6 c_6] from hD 16 rfl) (A6.rl hr) l6) (by omega) (by omega), fun hne => absurd (hD 14 rfl) hne⟩),
                        .norm 67 rfl rfl rfl (fun a_ w_ hn_ hBt hr hR hD hO hS => ⟨⟨_, rfl⟩, fun _ => op_loadv W2ok ((hR 3 rfl).trans f3) (b3.keep hBt trivial), fun hne => absurd (hD 14 rfl) hne⟩),
                        .norm 68 rfl rfl rfl (fun a_ w_ hn_ hBt hr hR hD hO hS => ⟨⟨_, rfl⟩, fun _ => op_loadv W2ok ((hR 2 rfl).trans f2) (b2.keep hBt trivial), fun hne => absurd (hD 14 rfl) hne⟩),
                        .norm 69 rfl rfl rfl (fun a_ w_ hn_ hBt hr hR hD hO hS => ⟨⟨_, rfl⟩, fun _ => op_sub (L1 := 1500) (L2 := 1500) (isw_eq (show a_.eval (.tmp 67) = .agg #[.bool ny, .slice ay my cy] from hD 18 rfl) (Ay.rl hr) Ly) (isw_eq (show a_.eval (.tmp 68) = .agg #[.bool nx, .slice ax mx cx] from hD 19 rfl) (Ax.rl hr) Lx) (by omega) (by omega), fun hne => absurd (hD 14 rfl) hne⟩),
                        .norm 70 rfl rfl rfl (fun a_ w_ hn_ hBt hr hR hD hO hS => ⟨⟨_, rfl⟩, fun _ => op_same (show OutW ((zy - zx)) ((1500) + (xs.length + 2) + 1) (a_.eval (.tmp 66)) w_ from hD 17 rfl) (show OutW ((zy - zx)) ((1500) + (1500) + 1) (a_.eval (.tmp 69)) w_ from hD 20 rfl) rfl, fun hne => absurd (hD 14 rfl) hne⟩),
                        .norm 71 rfl rfl rfl (fun a_ w_ hn_ hBt hr hR hD hO hS => op_pickb (show a_.eval (.tmp 63) = .bool true from hD 14 rfl) (show a_.eval (.tmp 70) = .bool true from hD 21 rfl)),
                        .norm 72 rfl rfl rfl (fun a_ w_ hn_ hBt hr hR hD hO hS => op_mv (show a_.eval (.tmp 71) = .bool true from hD 22 rfl)),
                        .norm 73 rfl rfl rfl (fun a_ w_ hn_ hBt hr hR hD hO hS => ⟨⟨_, rfl⟩, fun _ => op_loadv W2ok ((hR 5 rfl).trans f5) (b5.keep hBt trivial), fun hne => absurd (hD 23 rfl) hne⟩),
                        .norm 74 rfl rfl rfl (fun a_ w_ hn_ hBt hr hR hD hO hS => ⟨⟨_, rfl⟩, fun _ => op_loadv W2ok ((hR 3 rfl).trans f3) (b3.keep hBt trivial), fun hne => absurd (hD 23 rfl) hne⟩),
                        .norm 75 rfl rfl rfl (fun a_ w_ hn_ hBt hr hR hD hO hS => ⟨⟨_, rfl⟩, fun _ => op_mul (L1 := xs.length + 2) (L2 := 1500) (isw_eq (show a_.eval (.tmp 73) = .agg #[.bool n_6, .slice a_6 m_6 c_6] from hD 24 rfl) (A6.rl hr) l6) (isw_eq (show a_.eval (.tmp 74) = .agg #[.bool ny, .slice ay my cy] from hD 25 rfl) (Ay.rl hr) Ly) (by omega) (by omega), fun hne => absurd (hD 23 rfl) hne⟩),
                        .norm 76 rfl rfl rfl (fun a_ w_ hn_ hBt hr hR hD hO hS => ⟨⟨_, rfl⟩, fun _ => op_loadv W2ok ((hR 2 rfl).trans f2) (b2.keep hBt trivial), fun hne => absurd (hD 23 rfl) hne⟩),
                        .norm 77 rfl rfl rfl (fun a_ w_ hn_ hBt hr hR hD hO hS => ⟨⟨_, rfl⟩, fun _ => op_loadv W2ok ((hR 3 rfl).trans f3) (b3.keep hBt trivial), fun hne => absurd (hD 23 rfl) hne⟩),
                        .norm 78 rfl rfl rfl (fun a_ w_ hn_ hBt hr hR hD hO hS => ⟨⟨_, rfl⟩, fun _ => op_mul (L1 := 1500) (L2 := 1500) (isw_eq (show a_.eval (.tmp 76) = .agg #[.bool nx, .slice ax mx cx] from hD 27 rfl) (Ax.rl hr) Lx) (isw_eq (show a_.eval (.tmp 77) = .agg #[.bool ny, .slice ay my cy] from hD 28 rfl) (Ay.rl hr) Ly) (by omega) (by omega), fun hne => absurd (hD 23 rfl) hne⟩),
                        .norm 79 rfl rfl rfl (fun a_ w_ hn_ hBt hr hR hD hO hS => ⟨⟨_, rfl⟩, fun _ => op_same (show OutW ((zx * zy)) ((xs.length + 2) + (1500)) (a_.eval (.tmp 75)) w_ from hD 26 rfl) (show OutW ((zx * zy)) ((1500) + (1500)) (a_.eval (.tmp 78)) w_ from hD 29 rfl) rfl, fun hne => absurd (hD 23 rfl) hne⟩),
                        .norm 80 rfl rfl rfl (fun a_ w_ hn_ hBt hr hR hD hO hS => op_pickb (show a_.eval (.tmp 72) = .bool true from hD 23 rfl) (show a_.eval (.tmp 79) = .bool true from hD 30 rfl)),
                        .norm 81 rfl rfl rfl (fun a_ w_ hn_ hBt hr hR hD hO hS => op_mv (show a_.eval (.tmp 80) = .bool true from hD 31 rfl)),
                        .norm 82 rfl rfl rfl (fun a_ w_ hn_ hBt hr hR hD hO hS => ⟨⟨_, rfl⟩, fun _ => op_loadv W2ok ((hR 5 rfl).trans f5) (b5.keep hBt trivial), fun hne => absurd (hD 32 rfl) hne⟩),
                        .norm 83 rfl rfl rfl (fun a_ w_ hn_ hBt hr hR hD hO hS => ⟨⟨_, rfl⟩, fun _ => op_loadv W2ok ((hR 3 rfl).trans f3) (b3.keep hBt trivial), fun hne => absurd (hD 32 rfl) hne⟩),
                        .norm 84 rfl rfl rfl (fun a_ w_ hn_ hBt hr hR hD hO hS => ⟨⟨_, rfl⟩, fun _ => op_cmp (isw_eq (show a_.eval (.tmp 82) = .agg #[.bool n_6, .slice a_6 m_6 c_6] from hD 33 rfl) (A6.rl hr) l6) (isw_eq (show a_.eval (.tmp 83) = .agg #[.bool ny, .slice ay my cy] from hD 34 rfl) (Ay.rl hr) Ly) (by omega) (by omega), fun hne => absurd (hD 32 rfl) hne⟩),
                        .norm 85 rfl rfl rfl (fun a_ w_ hn_ hBt hr hR hD hO hS => ⟨⟨_, rfl⟩, fun _ => op_loadv W2ok ((hR 2 rfl).trans f2) (b2.keep hBt trivial), fun hne => absurd (hD 32 rfl) hne⟩),
                        .norm 86 rfl rfl rfl (fun a_ w_ hn_ hBt hr hR hD hO hS => ⟨⟨_, rfl⟩, fun _ => op_loadv W2ok ((hR 3 rfl).trans f3) (b3.keep hBt trivial), fun hne => absurd (hD 32 rfl) hne⟩),
                        .norm 87 rfl rfl rfl (fun a_ w_ hn_ hBt hr hR hD hO hS => ⟨⟨_, rfl⟩, fun _ => op_cmp (isw_eq (show a_.eval (.tmp 85) = .agg #[.bool nx, .slice ax mx cx] from hD 36 rfl) (Ax.rl hr) Lx) (isw_eq (show a_.eval (.tmp 86) = .agg #[.bool ny, .slice ay my cy] from hD 37 rfl) (Ay.rl hr) Ly) (by omega) (by omega), fun hne => absurd (hD 32 rfl) hne⟩),
                        .norm 88 rfl rfl rfl (fun a_ w_ hn_ hBt hr hR hD hO hS => ⟨⟨_, rfl⟩, fun _ => op_eql (show a_.eval (.tmp 84) = .int .i64 (cmpI zx zy) from hD 35 rfl) (show a_.eval (.tmp 87) = .int .i64 (cmpI zx zy) from hD 38 rfl) rfl, fun hne => absurd (hD 32 rfl) hne⟩),
                        .norm 89 rfl rfl rfl (fun a_ w_ hn_ hBt hr hR hD hO hS => op_pickb (show a_.eval (.tmp 81) = .bool true from hD 32 rfl) (show a_.eval (.tmp 88) = .bool true from hD 39 rfl)),
                        .norm 90 rfl rfl rfl (fun a_ w_ hn_ hBt hr hR hD hO hS => op_mv (show a_.eval (.tmp 89) = .bool true from hD 40 rfl)),
                        .norm 91 rfl rfl rfl (fun a_ w_ hn_ hBt hr hR hD hO hS => ⟨⟨_, rfl⟩, fun _ => op_mv ((hR 8 rfl).trans f8), fun hne => absurd (hD 41 rfl) hne⟩),
                        .norm 92 rfl rfl rfl (fun a_ w_ hn_ hBt hr hR hD hO hS => ⟨⟨_, rfl⟩, fun _ => op_mv ((hR 11 rfl).trans f11), fun hne => absurd (hD 41 rfl) hne⟩),
                        .norm 93 rfl rfl rfl (fun a_ w_ hn_ hBt hr hR hD hO hS => ⟨⟨_, rfl⟩, fun _ => op_eqlbs (show a_.eval (.tmp 91) = .bool true from hD 42 rfl) (show a_.eval (.tmp 92) = .bool true from hD 43 rfl), fun hne => absurd (hD 41 rfl) hne⟩),
                        .norm 94 rfl rfl rfl (fun a_ w_ hn_ hBt hr hR hD hO hS => op_pickb (show a_.eval (.tmp 90) = .bool true from hD 41 rfl) (show a_.eval (.tmp 93) = .bool true from hD 44 rfl)),
                        .norm 95 rfl rfl rfl (fun a_ w_ hn_ hBt hr hR hD hO hS => op_mv (show a_.eval (.tmp 94) = .bool true from hD 45 rfl)),
                        .norm 96 rfl rfl rfl (fun a_ w_ hn_ hBt hr hR hD hO hS => ⟨⟨_, rfl⟩, fun _ => op_loadv W2ok ((hR 6 rfl).trans f6) (b6.keep hBt trivial), fun hne => absurd (hD 46 rfl) hne⟩),
                        .norm 97 rfl rfl rfl (fun a_ w_ hn_ hBt hr hR hD hO hS => ⟨⟨_, rfl⟩, fun _ => op_loadv W2ok ((hR 9 rfl).trans f9) (b9.keep hBt trivial), fun hne => absurd (hD 46 rfl) hne⟩),
                        .norm 98 rfl rfl rfl (fun a_ w_ hn_ hBt hr hR hD hO hS => ⟨⟨_, rfl⟩, fun _ => op_same (outw_eq (show a_.eval (.tmp 96) = .agg #[.bool n_15, .slice a_15 r_15.length c_15] from hD 47 rfl) (G15.rl hr) l15) (outw_eq (show a_.eval (.tmp 97) = .agg #[.bool n_18, .slice a_18 r_18.length c_18] from hD 48 rfl) (G18.rl hr) l18) rfl, fun hne => absurd (hD 46 rfl) hne⟩),
                        .norm 99 rfl rfl rfl (fun a_ w_ hn_ hBt hr hR hD hO hS => op_pickb (show a_.eval (.tmp 95) = .bool true from hD 46 rfl) (show a_.eval (.tmp 98) = .bool true from hD 49 rfl)),
                        .norm 100 rfl rfl rfl (fun a_ w_ hn_ hBt hr hR hD hO hS => op_mv (show a_.eval (.tmp 99) = .bool true from hD 50 rfl)),
                        .norm 101 rfl rfl rfl (fun a_ w_ hn_ hBt hr hR hD hO hS => ⟨⟨_, rfl⟩, fun _ => op_loadv W2ok ((hR 7 rfl).trans f7) (b7.keep hBt trivial), fun hne => absurd (hD 51 rfl) hne⟩),
                        .norm 102 rfl rfl rfl (fun a_ w_ hn_ hBt hr hR hD hO hS => ⟨⟨_, rfl⟩, fun _ => op_loadv W2ok ((hR 10 rfl).trans f10) (b10.keep hBt trivial), fun hne => absurd (hD 51 rfl) hne⟩),
                        .norm 103 rfl rfl rfl (fun a_ w_ hn_ hBt hr hR hD hO hS => ⟨⟨_, rfl⟩, fun _ => op_same (outw_eq (show a_.eval (.tmp 101) = .agg #[.bool n_16, .slice a_16 r_16.length c_16] from hD 52 rfl) (G16.rl hr) l16) (outw_eq (show a_.eval (.tmp 102) = .agg #[.bool n_19, .slice a_19 r_19.length c_19] from hD 53 rfl) (G19.rl hr) l19) rfl, fun hne => absurd (hD 51 rfl) hne⟩),
                        .norm 104 rfl rfl rfl (fun a_ w_ hn_ hBt hr hR hD hO hS => op_pickb (show a_.eval (.tmp 100) = .bool true from hD 51 rfl) (show a_.eval (.tmp 103) = .bool true from hD 54 rfl)),
                        .norm 105 rfl rfl rfl (fun a_ w_ hn_ hBt hr hR hD hO hS => op_mv (show a_.eval (.tmp 104) = .bool true from hD 55 rfl)),
                        .norm 106 rfl rfl rfl (fun a_ w_ hn_ hBt hr hR hD hO hS => ⟨⟨_, rfl⟩, fun _ => op_loadv W2ok ((hR 5 rfl).trans f5) (b5.keep hBt trivial), fun hne => absurd (hD 56 rfl) hne⟩),
                        .norm 107 rfl rfl rfl (fun a_ w_ hn_ hBt hr hR hD hO hS => ⟨⟨_, rfl⟩, fun _ => op_wtextz (isw_eq (show a_.eval (.tmp 106) = .agg #[.bool n_6, .slice a_6 m_6 c_6] from hD 57 rfl) (A6.rl hr) l6) (by omega), fun hne => absurd (hD 56 rfl) hne⟩),
                        .norm 108 rfl rfl rfl (fun a_ w_ hn_ hBt hr hR hD hO hS => ⟨⟨_, rfl⟩, fun _ => op_loadv W2ok ((hR 2 rfl).trans f2) (b2.keep hBt trivial), fun hne => absurd (hD 56 rfl) hne⟩),
                        .norm 109 rfl rfl rfl (fun a_ w_ hn_ hBt hr hR hD hO hS => ⟨⟨_, rfl⟩, fun _ => op_wtextz (isw_eq (show a_.eval (.tmp 108) = .agg #[.bool nx, .slice ax mx cx] from hD 59 rfl) (Ax.rl hr) Lx) (by omega), fun hne => absurd (hD 56 rfl) hne⟩),
                        .norm 110 rfl rfl rfl (fun a_ w_ hn_ hBt hr hR hD hO hS => ⟨⟨_, rfl⟩, fun _ => op_eqlss (show a_.eval (.tmp 107) = .string (wtxt zx) from hD 58 rfl) (show a_.eval (.tmp 109) = .string (wtxt zx) from hD 60 rfl), fun hne => absurd (hD 56 rfl) hne⟩),
                        .norm 111 rfl rfl rfl (fun a_ w_ hn_ hBt hr hR hD hO hS => op_pickb (show a_.eval (.tmp 105) = .bool true from hD 56 rfl) (show a_.eval (.tmp 110) = .bool true from hD 61 rfl)),
                        .norm 112 rfl rfl rfl (fun a_ w_ hn_ hBt hr hR hD hO hS => op_mv (show a_.eval (.tmp 111) = .bool true from hD 62 rfl)),
                        .norm 113 rfl rfl rfl (fun a_ w_ hn_ hBt hr hR hD hO hS => ⟨⟨_, rfl⟩, fun _ => op_loadv W2ok ((hR 5 rfl).trans f5) (b5.keep hBt trivial), fun hne => absurd (hD 63 rfl) hne⟩),
                        .norm 114 rfl rfl rfl (fun a_ w_ hn_ hBt hr hR hD hO hS => ⟨⟨_, rfl⟩, fun _ => op_wlimbs (isw_eq (show a_.eval (.tmp 113) = .agg #[.bool n_6, .slice a_6 m_6 c_6] from hD 64 rfl) (A6.rl hr) l6) (by omega) hmL, fun hne => absurd (hD 63 rfl) hne⟩),
                        .norm 115 rfl rfl rfl (fun a_ w_ hn_ hBt hr hR hD hO hS => ⟨⟨_, rfl⟩, fun _ => op_loadv W2ok ((hR 2 rfl).trans f2) (b2.keep hBt trivial), fun hne => absurd (hD 63 rfl) hne⟩),
                        .norm 116 rfl rfl rfl (fun a_ w_ hn_ hBt hr hR hD hO hS => ⟨⟨_, rfl⟩, fun _ => op_wlimbs (isw_eq (show a_.eval (.tmp 115) = .agg #[.bool nx, .slice ax mx cx] from hD 66 rfl) (Ax.rl hr) Lx) (by omega) hmL, fun hne => absurd (hD 63 rfl) hne⟩),
                        .norm 117 rfl rfl rfl (fun a_ w_ hn_ hBt hr hR hD hO hS => ⟨⟨_, rfl⟩, fun _ => op_eql (show a_.eval (.tmp 114) = .int .i64 (mL : Int) from hD 65 rfl) (show a_.eval (.tmp 116) = .int .i64 (mL : Int) from hD 67 rfl) rfl, fun hne => absurd (hD 63 rfl) hne⟩),
                        .norm 118 rfl rfl rfl (fun a_ w_ hn_ hBt hr hR hD hO hS => op_pickb (show a_.eval (.tmp 112) = .bool true from hD 63 rfl) (show a_.eval (.tmp 117) = .bool true from hD 68 rfl)),
                        .norm 119 rfl rfl rfl (fun a_ w_ hn_ hBt hr hR hD hO hS => op_mv (show a_.eval (.tmp 118) = .bool true from hD 69 rfl)),
                        .norm 120 rfl rfl rfl (fun a_ w_ hn_ hBt hr hR hD hO hS => ⟨⟨_, rfl⟩, fun _ => op_loadv W2ok ((hR 5 rfl).trans f5) (b5.keep hBt trivial), fun hne => absurd (hD 70 rfl) hne⟩),
                        .norm 121 rfl rfl rfl (fun a_ w_ hn_ hBt hr hR hD hO hS => ⟨⟨_, rfl⟩, fun _ => op_loadv W2ok ((hR 3 rfl).trans f3) (b3.keep hBt trivial), fun hne => absurd (hD 70 rfl) hne⟩),
                        .norm 122 rfl rfl rfl (fun a_ w_ hn_ hBt hr hR hD hO hS => ⟨⟨_, rfl⟩, fun _ => op_wgcd (L1 := xs.length + 2) (L2 := 1500) (isw_eq (show a_.eval (.tmp 120) = .agg #[.bool n_6, .slice a_6 m_6 c_6] from hD 71 rfl) (A6.rl hr) l6) (isw_eq (show a_.eval (.tmp 121) = .agg #[.bool ny, .slice ay my cy] from hD 72 rfl) (Ay.rl hr) Ly) (by omega) (by omega), fun hne => absurd (hD 70 rfl) hne⟩),
                        .norm 123 rfl rfl rfl (fun a_ w_ hn_ hBt hr hR hD hO hS => ⟨⟨_, rfl⟩, fun _ => op_loadv W2ok ((hR 2 rfl).trans f2) (b2.keep hBt trivial), fun hne => absurd (hD 70 rfl) hne⟩),
                        .norm 124 rfl rfl rfl (fun a_ w_ hn_ hBt hr hR hD hO hS => ⟨⟨_, rfl⟩, fun _ => op_loadv W2ok ((hR 3 rfl).trans f3) (b3.keep hBt trivial), fun hne => absurd (hD 70 rfl) hne⟩),
                        .norm 125 rfl rfl rfl (fun a_ w_ hn_ hBt hr hR hD hO hS => ⟨⟨_, rfl⟩, fun _ => op_wgcd (L1 := 1500) (L2 := 1500) (isw_eq (show a_.eval (.tmp 123) = .agg #[.bool nx, .slice ax mx cx] from hD 74 rfl) (Ax.rl hr) Lx) (isw_eq (show a_.eval (.tmp 124) = .agg #[.bool ny, .slice ay my cy] from hD 75 rfl) (Ay.rl hr) Ly) (by omega) (by omega), fun hne => absurd (hD 70 rfl) hne⟩),
                        .norm 126 rfl rfl rfl (fun a_ w_ hn_ hBt hr hR hD hO hS => ⟨⟨_, rfl⟩, fun _ => op_same (show OutW (((Int.gcd zx zy : Nat) : Int)) ((xs.length + 2) + (1500) + 1) (a_.eval (.tmp 122)) w_ from hD 73 rfl) (show OutW (((Int.gcd zx zy : Nat) : Int)) ((1500) + (1500) + 1) (a_.eval (.tmp 125)) w_ from hD 76 rfl) rfl, fun hne => absurd (hD 70 rfl) hne⟩),
                        .norm 127 rfl rfl rfl (fun a_ w_ hn_ hBt hr hR hD hO hS => op_pickb (show a_.eval (.tmp 119) = .bool true from hD 70 rfl) (show a_.eval (.tmp 126) = .bool true from hD 77 rfl)),
                        .norm 4 rfl rfl rfl (fun a_ w_ hn_ hBt hr hR hD hO hS => op_assign (show a_.eval (.tmp 127) = .bool true from hD 78 rfl)),
                        trivial⟩
                    · intro a20 w20 gs20 hn20 hd20 hBt hr hR hP hX hU
                      replace hn := hn20; replace hd := hd20.trans hd
                      have e4 : a20.eval (.tmp 4) = .bool true := hP 79 (by decide)
                      have f4 := e4
                      replace Ax := Ax.rl hr
                      replace Tx := Tx.rl hr
                      replace Ay := Ay.rl hr
                      replace Ty := Ty.rl hr
                      replace A6 := A6.rl hr
                      replace G15 := G15.rl hr
                      replace A15 := A15.rl hr
                      replace G16 := G16.rl hr
                      replace A16 := A16.rl hr
                      replace G18 := G18.rl hr
                      replace A18 := A18.rl hr
                      replace G19 := G19.rl hr
                      replace A19 := A19.rl hr
                      replace HB := HB.trans (hBt.below HB.size (UpOld.all (bx := []) trivial))
                      clear hBt hr hR hP hX hU
                      refine wp_ret ?_
                      repeat (first | refine then_ret ?_ | refine scope_ret ?_ | refine block_ret ?_)
                      exact bodyPost_ret (v := .bool true) (res_t rfl f4) hd ⟨rfl, HB⟩

end Lm
end Go.Proofs.Ytjhhjefobbhdlaa

namespace Go.Proofs.Ytjhhjefobbhdlaa
namespace wholeTopsLaw
open Go.ChangeShapes Go.WideShapes Go.ChangeAt Go.RowKit
open Go.ChangeMaps (open_string shut_string)

theorem own : ownKnob Try.prog.godebug = none := by kernel_rfl
theorem laidOut : laidOutB Try.prog = true := by kernel_rfl
theorem bytes4 : Try.prog.bytesOf 51 = 4 := by kernel_rfl

theorem sl_of {w : World} {x : Addr} {l c : Nat} {zs : List Int} (hl : l ≤ c) (hm : c ≤ maxLen) (hz : zs.length = c) (hcell : ∀ i, i < zs.length → w.cell? (x.add i) = some (.int .u32 (zs.getD i 0))) (hwz : ∀ n ∈ zs, (Lit.int .u32 n).wf = true) : Lm.Sl w (.slice (some x) l c) (zs.take l) := by
  have hll : (zs.take l).length = l := by rw [List.length_take]; omega
  refine ⟨some x, c, by rw [hll], by omega, hm, fun n hn => ?_, ?_⟩
  · have := bounds_u32 (hwz n (List.mem_of_mem_take hn))
    omega
  · by_cases h0 : l = 0
    · exact .inl (List.eq_nil_of_length_eq_zero (by omega))
    · obtain ⟨b, off, spot⟩ := x
      have h1 := hcell 0 (by omega)
      have hspot : spot = none := by simpa [Addr.add] using World.cell?_spot h1
      subst hspot
      refine .inr ⟨b, off, rfl, fun i hi => ?_⟩
      have h2 := hcell i (by omega)
      rw [Lm.getD_take _ _ _ (by omega)]
      have e : (⟨b, off, none⟩ : Addr).add i = ⟨b, off + i, none⟩ := by
        by_cases hi0 : i = 0
        · subst hi0; simp [Addr.add]
        · simp [Addr.add, hi0]
      rwa [e] at h2

set_option linter.unusedVariables false in
set_option maxRecDepth 100000 in
theorem lifted (os : Os) (started : os.Started) (H : Type) (enc : TypeId × Value → H) :
    ReturnsInHanded {} Try.checked os 6 .any (Rows.wholeTopsSpec.pre6 enc Try.prog Try.f6 Rows.wholeTopsRow.domain false) (Rows.wholeTopsSpec.post enc Try.prog Try.f6 false true false false) := by
  refine returnsInHanded_of_change_sized (C := Try.checked) own started (by kernel_rfl) Try.func6
    (ChangeSpec.witness6 (enc := enc) (C := Try.checked) false ⟨#[], #[.agg #[.bool false, .slice none 0 0], .agg #[.bool false, .slice none 0 0]], []⟩ 8 (by kernel_rfl) (by kernel_rfl) (by kernel_rfl) (by kernel_rfl)) ?_
  intro W base args ds gs before hval0 hW hcnd hsz0 _
  have hval : ∀ (j : Nat) t v, Try.f6.params[j]? = some t → args[j]? = some v → Value.okWide Try.prog W .any base t v := hval0
  have hW' := hW
  obtain ⟨p, q, hA0, hV, rfl, hfz, hnd⟩ := hW
  have hA : DataW.TrodAll enc Try.prog W 0 (fun _ => true) true Try.f6.params.toList args.toList ds p := hA0
  have hsz : (DataW.weightsEach Try.prog (Try.f6.params.toList ++ Rows.wholeTopsSpec.plain.varTypes Try.prog) (ds ++ gs)).all (· ≤ reachBytes) = true := hsz0
  rw [Try.params6] at hA hval hsz
  obtain ⟨v0, vs0, d0, ds0, p0, q0, hargs, rfl, rfl, h0, r0⟩ := trodAll_cons hA
  obtain ⟨v1, vs1, d1, ds1, p1, q1, rfl, rfl, rfl, h1, r1⟩ := trodAll_cons r0
  obtain ⟨rfl, rfl, rfl⟩ := trodAll_nil r1
  obtain rfl : args = #[v0, v1] := by cases args; simp_all
  obtain ⟨rfl, rfl⟩ := trodVars_none hV
  have k0 := h0
  have lt0 : ∀ x ∈ p0, x.block < W.heap.size := by obtain ⟨m, hm⟩ := k0; exact DataW.trod_lt m _ _ _ hm
  obtain ⟨g0, a0, len0, cap0, z0, hv0, w0, b0⟩ : ∃ ng ao n cap zs, v0 = .agg #[.bool ng, .slice ao n cap] ∧ Lm.Sl W (.slice ao n cap) zs ∧ n ≤ 35184372088832 := by
    obtain ⟨x0, x1, y0, y1, m, hv, hd, _, t0, t1⟩ := Go.Joins.open_agg2 Try.underlying24 (by kernel_rfl) (by kernel_rfl) (hval 0 24 v0 rfl rfl) h0
    obtain ⟨b, hb0, _⟩ := DataW.trod_bool Try.underlying4 t0
    obtain rfl : x0 = .bool b := by simpa using hb0
    rcases open_ints Try.underlying22 Try.underlying51 (by kernel_rfl) t1 with ⟨hcs, _⟩ | ⟨x, l, c, zs, hcs, _, hl, hm, hz, hx, hcell, hwz⟩
    · obtain rfl : x1 = .slice none 0 0 := by simpa using hcs
      exact ⟨b, none, 0, 0, [], hv, ⟨none, 0, rfl, Nat.le_refl _, by simp [maxLen], Lm.limb_nil, .inl rfl⟩, by omega⟩
    · obtain rfl : x1 = .slice (some x) l c := by simpa using hcs
      have hz' : zs.length = c := by simpa using hz
      have hx1 : y1.1 = .slice (lits .u32 (zs.take l)) (lits .u32 (zs.drop l)) := congrArg Prod.fst hx
      refine ⟨b, some x, l, c, _, hv, sl_of hl hm hz' hcell hwz, ?_⟩
      have hs := List.all_eq_true.1 hsz _ (DataW.weights_mem_each (j := 0) (t := 24) rfl (congrArg some hd) (((lits .u32 (zs.take l) : List (DataW H)).length + (lits .u32 (zs.drop l) : List (DataW H)).length) * Try.prog.bytesOf 51) (by rw [hx1]; simp [DataW.weights, DataW.weightsEach, Try.underlying24, Try.underlying22]))
      rw [bytes4] at hs
      simp only [lits, List.length_map, List.length_take, List.length_drop, reachBytes, decide_eq_true_eq] at hs
      omega
  subst hv0
  have k1 := h1
  have lt1 : ∀ x ∈ p1, x.block < W.heap.size := by obtain ⟨m, hm⟩ := k1; exact DataW.trod_lt m _ _ _ hm
  obtain ⟨g1, a1, len1, cap1, z1, hv1, w1, b1⟩ : ∃ ng ao n cap zs, v1 = .agg #[.bool ng, .slice ao n cap] ∧ Lm.Sl W (.slice ao n cap) zs ∧ n ≤ 35184372088832 := by
    obtain ⟨x0, x1, y0, y1, m, hv, hd, _, t0, t1⟩ := Go.Joins.open_agg2 Try.underlying24 (by kernel_rfl) (by kernel_rfl) (hval 1 24 v1 rfl rfl) h1
    obtain ⟨b, hb0, _⟩ := DataW.trod_bool Try.underlying4 t0
    obtain rfl : x0 = .bool b := by simpa using hb0
    rcases open_ints Try.underlying22 Try.underlying51 (by kernel_rfl) t1 with ⟨hcs, _⟩ | ⟨x, l, c, zs, hcs, _, hl, hm, hz, hx, hcell, hwz⟩
    · obtain rfl : x1 = .slice none 0 0 := by simpa using hcs
      exact ⟨b, none, 0, 0, [], hv, ⟨none, 0, rfl, Nat.le_refl _, by simp [maxLen], Lm.limb_nil, .inl rfl⟩, by omega⟩
    · obtain rfl : x1 = .slice (some x) l c := by simpa using hcs
      have hz' : zs.length = c := by simpa using hz
      have hx1 : y1.1 = .slice (lits .u32 (zs.take l)) (lits .u32 (zs.drop l)) := congrArg Prod.fst hx
      refine ⟨b, some x, l, c, _, hv, sl_of hl hm hz' hcell hwz, ?_⟩
      have hs := List.all_eq_true.1 hsz _ (DataW.weights_mem_each (j := 1) (t := 24) rfl (congrArg some hd) (((lits .u32 (zs.take l) : List (DataW H)).length + (lits .u32 (zs.drop l) : List (DataW H)).length) * Try.prog.bytesOf 51) (by rw [hx1]; simp [DataW.weights, DataW.weightsEach, Try.underlying24, Try.underlying22]))
      rw [bytes4] at hs
      simp only [lits, List.length_map, List.length_take, List.length_drop, reachBytes, decide_eq_true_eq] at hs
      omega
  subst hv1
  clear hA0 hval0
  refine (Lm.wtops_law W g0 a0 len0 cap0 z0 _ g1 a1 len1 cap1 z1 _ ⟨w0, rfl⟩ ⟨w1, rfl⟩ b0 b1).mono fun e W' ⟨he, bel⟩ => ?_
  subst he
  exact ⟨_, rfl, _, _, _, [], _, [], hW', trodAll_mk1 (shut_bool Try.underlying4 _), (trodAll_cons_mk (Below.trod laidOut (by kernel_rfl) (of_decide_eq_true (by kernel_rfl)) k0 bel lt0) (trodAll_cons_mk (Below.trod laidOut (by kernel_rfl) (of_decide_eq_true (by kernel_rfl)) k1 bel lt1) trodAll_mk0)), rfl, bel.frame _, fun h => by cases h⟩

theorem over : Rows.wholeTopsRow.holds Try.pinned (OpenSpec.ofChange Rows.wholeTopsSpec) :=
  OpenClaim.holds_of_wide 6 Try.f6 rfl rfl rfl rfl rfl rfl rfl ⟨rfl, rfl, rfl, rfl, rfl⟩ rfl rfl rfl rfl rfl (by kernel_rfl) Try.func6 (by kernel_rfl)
    (of_decide_eq_true (by kernel_rfl)) (by unfold Func.isWrapper; first | (rw [if_pos (by decide +kernel)]; kernel_rfl) | (rw [if_neg (by decide +kernel)]; exact ⟨rfl, rfl⟩))
    (fun os started H enc _ => lifted os started H enc)
end wholeTopsLaw

theorem wholeTops_holds : Rows.WholeTopsSaid := wholeTopsLaw.over
#print axioms wholeTops_holds
end Go.Proofs.Ytjhhjefobbhdlaa
