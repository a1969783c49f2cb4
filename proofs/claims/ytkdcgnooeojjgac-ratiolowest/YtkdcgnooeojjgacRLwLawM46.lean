/-
  Fractions: their order. Lowest terms, as numbers: fractions that are one number have one numerator and one denominator. No program is named here. The laws of fractions in lowest terms, as numbers. No program is named here. The order of fractions, as numbers; single operations on what is asked of it.
-/
import Derived.Test.YtkdcgnooeojjgacRLwLawM45
namespace Go.Proofs.Ytkdcgnooeojjgac
namespace Lm
open Go Go.RowKit

set_option maxRecDepth 20000 in
set_option maxHeartbeats 2000000 in
theorem rcmp_z (w : World) (Br : Nat) (nr : Bool) (ar : Option Addr) (mr cr : Nat) (rs : List Int) (pr : Int) (Ar : Ag w nr ar mr cr rs pr) (Lr : rs.length ≤ Br) (br : Option Addr) (kr dr : Nat) (rt : List Int) (qr : Int) (Sr : Sl w (.slice br kr dr) rt) (Vr : val rt = qr) (Mr : rt.length ≤ Br) (Bu : Nat) (nu : Bool) (au : Option Addr) (mu cu : Nat) (us : List Int) (pu : Int) (Au : Ag w nu au mu cu us pu) (Lu : us.length ≤ Bu) (bu : Option Addr) (ku du : Nat) (ut : List Int) (qu : Int) (Su : Sl w (.slice bu ku du) ut) (Vu : val ut = qu) (Mu : ut.length ≤ Bu) (hL : Br + Bu + 4 ≤ 100000) :
    Calls Try.prog 18 #[.agg #[.bool nr, .slice ar mr cr, .slice br kr dr], .agg #[.bool nu, .slice au mu cu, .slice bu ku du]] w fun e w' => ∃ v, e = .returned v ∧ (Eqs (.int .i64 (cmpI (tp pr qr * tq qu) (tp pu qu * tq qr)))) v w' ∧ Below w.heap.size w w' := by
  go_enter Try.func18, Try.ntmps18
  generalize hA : (Act.mk _ _) = aa
  have hn : aa.tmps.size = 26 := by rw [← hA]; rfl
  have hd : aa.defers = [] := by rw [← hA]
  have f0 : aa.eval (.tmp 0) = .agg #[.bool nr, .slice ar mr cr, .slice br kr dr] := by rw [← hA]; rfl
  have f1 : aa.eval (.tmp 1) = .agg #[.bool nu, .slice au mu cu, .slice bu ku du] := by rw [← hA]; rfl
  clear hA
  have HB : Below w.heap.size w w := Below.refl _ _
  have Dr : Ag w false br kr dr rt qr := ⟨Sr, Vr⟩
  have Du : Ag w false bu ku du ut qu := ⟨Su, Vu⟩
  refine wp_seq ?_
  refine region4 [some 2, some 3, some 4] [(fun _ _ => True), (fun _ _ => True), Eqs ((.int .i64 0))] [⟨R3, some 0, 0, 2, .agg #[.bool nr, .slice ar mr cr, .slice br kr dr], none, []⟩, ⟨R3, some 1, 0, 3, .agg #[.bool nu, .slice au mu cu, .slice bu ku du], none, []⟩] [] (by kernel_rfl) hn rfl (by kernel_rfl) (by kernel_rfl) (by kernel_rfl) (by kernel_rfl) (by kernel_rfl) (by kernel_rfl) ⟨True.mono4, True.mono4, Eqs.mono4 _, trivial⟩ (ok_cons R3ok (ok_cons R3ok ok_nil)) (IsOld.all (bx := [⟨R3, some 0, 0, 2, .agg #[.bool nr, .slice ar mr cr, .slice br kr dr], none, []⟩, ⟨R3, some 1, 0, 3, .agg #[.bool nu, .slice au mu cu, .slice bu ku du], none, []⟩]) ⟨someNe, someNe, trivial⟩) (DisOld.all (bx := [⟨R3, some 0, 0, 2, .agg #[.bool nr, .slice ar mr cr, .slice br kr dr], none, []⟩, ⟨R3, some 1, 0, 3, .agg #[.bool nu, .slice au mu cu, .slice bu ku du], none, []⟩]) ⟨someNe, someNe, trivial⟩) ?_ ?_
  · exact ⟨.alloc 0 _ rfl rfl (.inr ⟨_, rfl, r3_cs, fun a_ hR => (hR 0 rfl).trans f0⟩) rfl rfl rfl rfl rfl,
      .alloc 1 _ rfl rfl (.inr ⟨_, rfl, r3_cs, fun a_ hR => (hR 1 rfl).trans f1⟩) rfl rfl rfl rfl rfl,
      .norm 4 rfl rfl rfl (fun a_ w_ hn_ hBt hr hR hD hO hS => op_assign rfl),
      trivial⟩
  · intro a1 w1 gs1 hn1 hd1 hBt hr hR hP hX hU
    replace hn := hn1; replace hd := hd1.trans hd
    have b2 : BoxV R3 w1 (gs1 0) (.agg #[.bool nr, .slice ar mr cr, .slice br kr dr]) := (hX 0 _ rfl).2.2.2
    have f2 := (hX 0 _ rfl).1
    have u2 : w.heap.size ≤ gs1 0 := Nat.le_trans HB.size ((hX 0 _ rfl).2.2.1 (by simp))
    have b3 : BoxV R3 w1 (gs1 1) (.agg #[.bool nu, .slice au mu cu, .slice bu ku du]) := (hX 1 _ rfl).2.2.2
    have f3 := (hX 1 _ rfl).1
    have u3 : w.heap.size ≤ gs1 1 := Nat.le_trans HB.size ((hX 1 _ rfl).2.2.1 (by simp))
    have e4 : a1.eval (.tmp 4) = (.int .i64 0) := hP 2 (by decide)
    have f4 := e4
    replace Ar := Ar.rl hr
    replace Sr := Sr.rl hr
    replace Dr := Dr.rl hr
    replace Au := Au.rl hr
    replace Su := Su.rl hr
    replace Du := Du.rl hr
    replace HB := HB.trans (hBt.below HB.size (UpOld.all (bx := [⟨R3, some 0, 0, 2, .agg #[.bool nr, .slice ar mr cr, .slice br kr dr], none, []⟩, ⟨R3, some 1, 0, 3, .agg #[.bool nu, .slice au mu cu, .slice bu ku du], none, []⟩]) ⟨someNe, someNe, trivial⟩))
    clear hBt hr hR hP hX hU
    refine wp_seq ?_
    refine region4 [some 10, some 11, some 9, some 12, some 13, some 5, some 6, none, none] [Eqs (.agg #[.bool nr, .slice ar mr cr, .slice br kr dr]), Tup2 (IsW ((tp pr qr)) ((Br) + 2)) (IsW ((tq qr)) ((Br) + 2)), Tup2 (IsW ((tp pr qr)) ((Br) + 2)) (IsW ((tq qr)) ((Br) + 2)), IsW ((tp pr qr)) ((Br) + 2), IsW ((tq qr)) ((Br) + 2), (fun _ _ => True), (fun _ _ => True), (fun _ _ => True), (fun _ _ => True)] [⟨W2, some 5, 0, 5, .agg #[.bool false, .slice none 0 0], some (7, 12, 3), []⟩, ⟨W2, some 6, 0, 6, .agg #[.bool false, .slice none 0 0], some (8, 13, 4), []⟩] [] (by kernel_rfl) hn rfl (by kernel_rfl) (by kernel_rfl) (by kernel_rfl) (by kernel_rfl) (by kernel_rfl) (by kernel_rfl) ⟨Eqs.mono4 _, Tup2.mono4 (IsW.mono4 _ _) (IsW.mono4 _ _), Tup2.mono4 (IsW.mono4 _ _) (IsW.mono4 _ _), IsW.mono4 _ _, IsW.mono4 _ _, True.mono4, True.mono4, True.mono4, True.mono4, trivial⟩ (ok_cons W2ok (ok_cons W2ok ok_nil)) (IsOld.all (bx := [⟨W2, some 5, 0, 5, .agg #[.bool false, .slice none 0 0], some (7, 12, 3), []⟩, ⟨W2, some 6, 0, 6, .agg #[.bool false, .slice none 0 0], some (8, 13, 4), []⟩]) ⟨someNe, someNe, trivial⟩) (DisOld.all (bx := [⟨W2, some 5, 0, 5, .agg #[.bool false, .slice none 0 0], some (7, 12, 3), []⟩, ⟨W2, some 6, 0, 6, .agg #[.bool false, .slice none 0 0], some (8, 13, 4), []⟩]) ⟨someNe, someNe, trivial⟩) ?_ ?_
    · exact ⟨.norm 10 rfl rfl rfl (fun a_ w_ hn_ hBt hr hR hD hO hS => op_loadv R3ok ((hR 2 rfl).trans f2) (b2.keep hBt ⟨someNe, someNe, trivial⟩)),
        .norm 11 rfl rfl rfl (fun a_ w_ hn_ hBt hr hR hD hO hS => op_terms (isr_eq (show a_.eval (.tmp 10) = .agg #[.bool nr, .slice ar mr cr, .slice br kr dr] from hD 0 rfl) (Ar.rl hr) (Sr.rl hr) Vr Lr Mr) (by omega)),
        .norm 9 rfl rfl rfl (fun a_ w_ hn_ hBt hr hR hD hO hS => op_mvp (p := Tup2 (IsW ((tp pr qr)) ((Br) + 2)) (IsW ((tq qr)) ((Br) + 2))) (show Tup2 (IsW ((tp pr qr)) ((Br) + 2)) (IsW ((tq qr)) ((Br) + 2)) (a_.eval (.tmp 11)) w_ from hD 1 rfl)),
        .norm 12 rfl rfl rfl (fun a_ w_ hn_ hBt hr hR hD hO hS => op_ex20 (show Tup2 (IsW ((tp pr qr)) ((Br) + 2)) (IsW ((tq qr)) ((Br) + 2)) (a_.eval (.tmp 9)) w_ from hD 2 rfl)),
        .norm 13 rfl rfl rfl (fun a_ w_ hn_ hBt hr hR hD hO hS => op_ex21 (show Tup2 (IsW ((tp pr qr)) ((Br) + 2)) (IsW ((tq qr)) ((Br) + 2)) (a_.eval (.tmp 9)) w_ from hD 2 rfl)),
        .alloc 0 _ rfl rfl (.inl ⟨rfl, rfl⟩) rfl rfl rfl rfl rfl,
        .alloc 1 _ rfl rfl (.inl ⟨rfl, rfl⟩) rfl rfl rfl rfl rfl,
        .store 0 _ _ _ rfl rfl rfl rfl rfl rfl rfl (fun ia h => by cases h; rfl) rfl rfl rfl IsW.cs,
        .store 1 _ _ _ rfl rfl rfl rfl rfl rfl rfl (fun ia h => by cases h; rfl) rfl rfl rfl IsW.cs,
        trivial⟩
    · intro a2 w2 gs2 hn2 hd2 hBt hr hR hP hX hU
      replace hn := hn2; replace hd := hd2.trans hd
      replace b3 := b3.keep hBt ⟨someNe, someNe, trivial⟩
      obtain ⟨n_3, a_3, m_3, c_3, r_3, e12, A3, l3⟩ : IsW ((tp pr qr)) ((Br) + 2) (a2.eval (.tmp 12)) w2 := hP 3 (by decide)
      have b5 : BoxV W2 w2 (gs2 0) (.agg #[.bool n_3, .slice a_3 m_3 c_3]) := boxv_of (hX 0 _ rfl).2.2.2 e12
      have f5 := (hX 0 _ rfl).1
      have u5 : w.heap.size ≤ gs2 0 := Nat.le_trans HB.size ((hX 0 _ rfl).2.2.1 (by simp))
      obtain ⟨n_4, a_4, m_4, c_4, r_4, e13, A4, l4⟩ : IsW ((tq qr)) ((Br) + 2) (a2.eval (.tmp 13)) w2 := hP 4 (by decide)
      have b6 : BoxV W2 w2 (gs2 1) (.agg #[.bool n_4, .slice a_4 m_4 c_4]) := boxv_of (hX 1 _ rfl).2.2.2 e13
      have f6 := (hX 1 _ rfl).1
      have u6 : w.heap.size ≤ gs2 1 := Nat.le_trans HB.size ((hX 1 _ rfl).2.2.1 (by simp))
      replace f3 := (hR 3 rfl).trans f3
      replace f4 := (hR 4 rfl).trans f4
      replace Ar := Ar.rl hr
      replace Sr := Sr.rl hr
      replace Dr := Dr.rl hr
      replace Au := Au.rl hr
      replace Su := Su.rl hr
      replace Du := Du.rl hr
      replace HB := HB.trans (hBt.below HB.size (UpOld.all (bx := [⟨W2, some 5, 0, 5, .agg #[.bool false, .slice none 0 0], some (7, 12, 3), []⟩, ⟨W2, some 6, 0, 6, .agg #[.bool false, .slice none 0 0], some (8, 13, 4), []⟩]) ⟨someNe, someNe, trivial⟩))
      clear hBt hr hR hP hX hU
      refine wp_seq ?_
      refine region4 [some 15, some 16, some 14, some 17, some 18, some 7, some 8, none, none] [Eqs (.agg #[.bool nu, .slice au mu cu, .slice bu ku du]), Tup2 (IsW ((tp pu qu)) ((Bu) + 2)) (IsW ((tq qu)) ((Bu) + 2)), Tup2 (IsW ((tp pu qu)) ((Bu) + 2)) (IsW ((tq qu)) ((Bu) + 2)), IsW ((tp pu qu)) ((Bu) + 2), IsW ((tq qu)) ((Bu) + 2), (fun _ _ => True), (fun _ _ => True), (fun _ _ => True), (fun _ _ => True)] [⟨W2, some 5, 0, 7, .agg #[.bool false, .slice none 0 0], some (7, 17, 3), []⟩, ⟨W2, some 6, 0, 8, .agg #[.bool false, .slice none 0 0], some (8, 18, 4), []⟩] [] (by kernel_rfl) hn rfl (by kernel_rfl) (by kernel_rfl) (by kernel_rfl) (by kernel_rfl) (by kernel_rfl) (by kernel_rfl) ⟨Eqs.mono4 _, Tup2.mono4 (IsW.mono4 _ _) (IsW.mono4 _ _), Tup2.mono4 (IsW.mono4 _ _) (IsW.mono4 _ _), IsW.mono4 _ _, IsW.mono4 _ _, True.mono4, True.mono4, True.mono4, True.mono4, trivial⟩ (ok_cons W2ok (ok_cons W2ok ok_nil)) (IsOld.all (bx := [⟨W2, some 5, 0, 7, .agg #[.bool false, .slice none 0 0], some (7, 17, 3), []⟩, ⟨W2, some 6, 0, 8, .agg #[.bool false, .slice none 0 0], some (8, 18, 4), []⟩]) ⟨someNe, someNe, trivial⟩) (DisOld.all (bx := [⟨W2, some 5, 0, 7, .agg #[.bool false, .slice none 0 0], some (7, 17, 3), []⟩, ⟨W2, some 6, 0, 8, .agg #[.bool false, .slice none 0 0], some (8, 18, 4), []⟩]) ⟨someNe, someNe, trivial⟩) ?_ ?_
      · exact ⟨.norm 15 rfl rfl rfl (fun a_ w_ hn_ hBt hr hR hD hO hS => op_loadv R3ok ((hR 3 rfl).trans f3) (b3.keep hBt ⟨someNe, someNe, trivial⟩)),
          .norm 16 rfl rfl rfl (fun a_ w_ hn_ hBt hr hR hD hO hS => op_terms (isr_eq (show a_.eval (.tmp 15) = .agg #[.bool nu, .slice au mu cu, .slice bu ku du] from hD 0 rfl) (Au.rl hr) (Su.rl hr) Vu Lu Mu) (by omega)),
          .norm 14 rfl rfl rfl (fun a_ w_ hn_ hBt hr hR hD hO hS => op_mvp (p := Tup2 (IsW ((tp pu qu)) ((Bu) + 2)) (IsW ((tq qu)) ((Bu) + 2))) (show Tup2 (IsW ((tp pu qu)) ((Bu) + 2)) (IsW ((tq qu)) ((Bu) + 2)) (a_.eval (.tmp 16)) w_ from hD 1 rfl)),
          .norm 17 rfl rfl rfl (fun a_ w_ hn_ hBt hr hR hD hO hS => op_ex20 (show Tup2 (IsW ((tp pu qu)) ((Bu) + 2)) (IsW ((tq qu)) ((Bu) + 2)) (a_.eval (.tmp 14)) w_ from hD 2 rfl)),
          .norm 18 rfl rfl rfl (fun a_ w_ hn_ hBt hr hR hD hO hS => op_ex21 (show Tup2 (IsW ((tp pu qu)) ((Bu) + 2)) (IsW ((tq qu)) ((Bu) + 2)) (a_.eval (.tmp 14)) w_ from hD 2 rfl)),
          .alloc 0 _ rfl rfl (.inl ⟨rfl, rfl⟩) rfl rfl rfl rfl rfl,
          .alloc 1 _ rfl rfl (.inl ⟨rfl, rfl⟩) rfl rfl rfl rfl rfl,
          .store 0 _ _ _ rfl rfl rfl rfl rfl rfl rfl (fun ia h => by cases h; rfl) rfl rfl rfl IsW.cs,
          .store 1 _ _ _ rfl rfl rfl rfl rfl rfl rfl (fun ia h => by cases h; rfl) rfl rfl rfl IsW.cs,
          trivial⟩
      · intro a5 w5 gs5 hn5 hd5 hBt hr hR hP hX hU
        replace hn := hn5; replace hd := hd5.trans hd
        replace b5 := b5.keep hBt ⟨someNe, someNe, trivial⟩
        replace b6 := b6.keep hBt ⟨someNe, someNe, trivial⟩
        obtain ⟨n_6, a_6, m_6, c_6, r_6, e17, A6, l6⟩ : IsW ((tp pu qu)) ((Bu) + 2) (a5.eval (.tmp 17)) w5 := hP 3 (by decide)
        have b7 : BoxV W2 w5 (gs5 0) (.agg #[.bool n_6, .slice a_6 m_6 c_6]) := boxv_of (hX 0 _ rfl).2.2.2 e17
        have f7 := (hX 0 _ rfl).1
        have u7 : w.heap.size ≤ gs5 0 := Nat.le_trans HB.size ((hX 0 _ rfl).2.2.1 (by simp))
        obtain ⟨n_7, a_7, m_7, c_7, r_7, e18, A7, l7⟩ : IsW ((tq qu)) ((Bu) + 2) (a5.eval (.tmp 18)) w5 := hP 4 (by decide)
        have b8 : BoxV W2 w5 (gs5 1) (.agg #[.bool n_7, .slice a_7 m_7 c_7]) := boxv_of (hX 1 _ rfl).2.2.2 e18
        have f8 := (hX 1 _ rfl).1
        have u8 : w.heap.size ≤ gs5 1 := Nat.le_trans HB.size ((hX 1 _ rfl).2.2.1 (by simp))
        replace f4 := (hR 4 rfl).trans f4
        replace f5 := (hR 5 rfl).trans f5
        replace f6 := (hR 6 rfl).trans f6
        replace Ar := Ar.rl hr
        replace Sr := Sr.rl hr
        replace Dr := Dr.rl hr
        replace Au := Au.rl hr
        replace Su := Su.rl hr
        replace Du := Du.rl hr
        replace A3 := A3.rl hr
        replace A4 := A4.rl hr
        replace HB := HB.trans (hBt.below HB.size (UpOld.all (bx := [⟨W2, some 5, 0, 7, .agg #[.bool false, .slice none 0 0], some (7, 17, 3), []⟩, ⟨W2, some 6, 0, 8, .agg #[.bool false, .slice none 0 0], some (8, 18, 4), []⟩]) ⟨someNe, someNe, trivial⟩))
        clear hBt hr hR hP hX hU
        refine wp_seq ?_
        refine region4 [some 19, some 20, some 21, some 22, some 23, some 24, some 25, some 4] [Eqs (.agg #[.bool n_3, .slice a_3 m_3 c_3]), Eqs (.agg #[.bool n_7, .slice a_7 m_7 c_7]), OutW (((tp pr qr) * (tq qu))) (((Br) + 2) + ((Bu) + 2)), Eqs (.agg #[.bool n_6, .slice a_6 m_6 c_6]), Eqs (.agg #[.bool n_4, .slice a_4 m_4 c_4]), OutW (((tp pu qu) * (tq qr))) (((Bu) + 2) + ((Br) + 2)), Eqs (.int .i64 (cmpI ((tp pr qr) * (tq qu)) ((tp pu qu) * (tq qr)))), Eqs (.int .i64 (cmpI ((tp pr qr) * (tq qu)) ((tp pu qu) * (tq qr))))] [] [] (by kernel_rfl) hn rfl (by kernel_rfl) (by kernel_rfl) (by kernel_rfl) (by kernel_rfl) (by kernel_rfl) (by kernel_rfl) ⟨Eqs.mono4 _, Eqs.mono4 _, OutW.mono4 _ _, Eqs.mono4 _, Eqs.mono4 _, OutW.mono4 _ _, Eqs.mono4 _, Eqs.mono4 _, trivial⟩ ok_nil (IsOld.all (bx := []) trivial) (DisOld.all (bx := []) trivial) ?_ ?_
        · exact ⟨.norm 19 rfl rfl rfl (fun a_ w_ hn_ hBt hr hR hD hO hS => op_loadv W2ok ((hR 5 rfl).trans f5) (b5.keep hBt trivial)),
            .norm 20 rfl rfl rfl (fun a_ w_ hn_ hBt hr hR hD hO hS => op_loadv W2ok ((hR 8 rfl).trans f8) (b8.keep hBt trivial)),
            .norm 21 rfl rfl rfl (fun a_ w_ hn_ hBt hr hR hD hO hS => op_mul (isw_eq (show a_.eval (.tmp 19) = .agg #[.bool n_3, .slice a_3 m_3 c_3] from hD 0 rfl) (A3.rl hr) l3) (isw_eq (show a_.eval (.tmp 20) = .agg #[.bool n_7, .slice a_7 m_7 c_7] from hD 1 rfl) (A7.rl hr) l7) (by omega) (by omega)),
            .norm 22 rfl rfl rfl (fun a_ w_ hn_ hBt hr hR hD hO hS => op_loadv W2ok ((hR 7 rfl).trans f7) (b7.keep hBt trivial)),
            .norm 23 rfl rfl rfl (fun a_ w_ hn_ hBt hr hR hD hO hS => op_loadv W2ok ((hR 6 rfl).trans f6) (b6.keep hBt trivial)),
            .norm 24 rfl rfl rfl (fun a_ w_ hn_ hBt hr hR hD hO hS => op_mul (isw_eq (show a_.eval (.tmp 22) = .agg #[.bool n_6, .slice a_6 m_6 c_6] from hD 3 rfl) (A6.rl hr) l6) (isw_eq (show a_.eval (.tmp 23) = .agg #[.bool n_4, .slice a_4 m_4 c_4] from hD 4 rfl) (A4.rl hr) l4) (by omega) (by omega)),
            .norm 25 rfl rfl rfl (fun a_ w_ hn_ hBt hr hR hD hO hS => op_cmp (show OutW (((tp pr qr) * (tq qu))) (((Br) + 2) + ((Bu) + 2)) (a_.eval (.tmp 21)) w_ from hD 2 rfl).is (show OutW (((tp pu qu) * (tq qr))) (((Bu) + 2) + ((Br) + 2)) (a_.eval (.tmp 24)) w_ from hD 5 rfl).is (by omega) (by omega)),
            .norm 4 rfl rfl rfl (fun a_ w_ hn_ hBt hr hR hD hO hS => op_assign (show a_.eval (.tmp 25) = .int .i64 (cmpI ((tp pr qr) * (tq qu)) ((tp pu qu) * (tq qr))) from hD 6 rfl)),
            trivial⟩
        · intro a8 w8 gs8 hn8 hd8 hBt hr hR hP hX hU
          replace hn := hn8; replace hd := hd8.trans hd
          have e4 : a8.eval (.tmp 4) = .int .i64 (cmpI ((tp pr qr) * (tq qu)) ((tp pu qu) * (tq qr))) := hP 7 (by decide)
          have f4 := e4
          replace Ar := Ar.rl hr
          replace Sr := Sr.rl hr
          replace Dr := Dr.rl hr
          replace Au := Au.rl hr
          replace Su := Su.rl hr
          replace Du := Du.rl hr
          replace A3 := A3.rl hr
          replace A4 := A4.rl hr
          replace A6 := A6.rl hr
          replace A7 := A7.rl hr
          replace HB := HB.trans (hBt.below HB.size (UpOld.all (bx := []) trivial))
          clear hBt hr hR hP hX hU
          refine wp_ret ?_
          repeat (first | refine then_ret ?_ | refine scope_ret ?_ | refine block_ret ?_)
          exact bodyPost_ret (v := .int .i64 (cmpI ((tp pr qr) * (tq qu)) ((tp pu qu) * (tq qr)))) (res_t rfl f4) hd ⟨_, rfl, rfl, HB⟩

theorem has_rcmp : Has Try.prog 18 := by unfold Has; kernel_rfl
theorem op_rcmp {dst : Option Tmp} {ty : TypeId} {pos : String} {after : Array Edge} {guard : Option (Nat × Bool)} {a : Act} {w : World} {ats : Array TypeId} {i j : Nat} {Br : Nat} {pr qr : Int} (Hr : IsR pr qr Br (a.eval (.tmp i)) w) {Bu : Nat} {pu qu : Int} (Hu : IsR pu qu Bu (a.eval (.tmp j)) w) (hL : Br + Bu + 4 ≤ 100000) :
    Does Try.prog { dst, op := .call { callee := .value (.func 18), args := #[.tmp i, .tmp j], argTypes := ats }, type := ty, pos, after, guard } a.eval w fun v w' => Below w.heap.size w w' ∧ (Eqs (.int .i64 (cmpI (tp pr qr * tq qu) (tp pu qu * tq qr)))) v w' := by
  obtain ⟨nr, ar, mr, cr, rs, br, kr, dr, rt, er, Ar, Sr, Vr, Lr, Mr⟩ := Hr
  obtain ⟨nu, au, mu, cu, us, bu, ku, du, ut, eu, Au, Su, Vu, Lu, Mu⟩ := Hu
  refine does_call has_rcmp _ (by simp only [List.map_toArray, List.map_cons, List.map_nil, er, eu]) ((rcmp_z w Br _ _ _ _ _ _ Ar Lr _ _ _ _ _ Sr Vr Mr Bu _ _ _ _ _ _ Au Lu _ _ _ _ _ Su Vu Mu hL).mono ?_)
  rintro e w' ⟨v, rfl, h1, hb⟩
  exact ⟨_, rfl, hb, h1⟩

end Lm
end Go.Proofs.Ytkdcgnooeojjgac

namespace Go.Proofs.Ytkdcgnooeojjgac
namespace Lm

/-- Both by the greatest common divisor. -/
theorem low_parts (p : Int) {q : Int} (hq : q ≠ 0) : ∃ g a b : Int, 0 < g ∧ p = g * a ∧ q = g * b ∧ b ≠ 0 ∧ Int.gcd a b = 1 ∧ nm p q = Int.sign b * a ∧ dn p q = Int.sign b * b := by
  have hg := gcd_pos_right (p := p) hq
  obtain ⟨a, ha⟩ : ((Int.gcd p q : Nat) : Int) ∣ p := Int.gcd_dvd_left p q
  obtain ⟨b, hb⟩ : ((Int.gcd p q : Nat) : Int) ∣ q := Int.gcd_dvd_right p q
  have ea : p / ((Int.gcd p q : Nat) : Int) = a := by
    conv => lhs; lhs; rw [ha]
    exact Int.mul_ediv_cancel_left _ (by omega)
  have eb : q / ((Int.gcd p q : Nat) : Int) = b := by
    conv => lhs; lhs; rw [hb]
    exact Int.mul_ediv_cancel_left _ (by omega)
  have hs : Int.sign q = Int.sign b := by
    rw [hb, Int.sign_mul, Int.sign_eq_one_of_pos hg, Int.one_mul]
  have hc : Int.gcd a b = 1 := by
    have := Int.gcd_ediv_gcd_ediv_gcd (i := p) (j := q) (by omega)
    rwa [ea, eb] at this
  refine ⟨_, a, b, hg, ha, hb, ?_, hc, ?_, ?_⟩
  · rintro rfl
    rw [Int.mul_zero] at hb
    exact hq hb
  · unfold nm
    rw [ea, hs]
  · unfold dn
    rw [eb, hs]

theorem sign_self_pos {b : Int} (h : b ≠ 0) : 0 < Int.sign b * b := by
  rcases Int.lt_trichotomy b 0 with h1 | h1 | h1
  · rw [Int.sign_eq_neg_one_of_neg h1]; omega
  · exact absurd h1 h
  · rw [Int.sign_eq_one_of_pos h1]; omega

theorem dn_pos (p : Int) {q : Int} (hq : q ≠ 0) : 0 < dn p q := by
  obtain ⟨g, a, b, _, _, _, hb, _, _, e⟩ := low_parts p hq
  rw [e]
  exact sign_self_pos hb
theorem dn_ne (p : Int) {q : Int} (hq : q ≠ 0) : dn p q ≠ 0 := by
  have := dn_pos p hq
  omega
theorem low_cross (p : Int) {q : Int} (hq : q ≠ 0) : nm p q * q = p * dn p q := by
  obtain ⟨g, a, b, _, hp, hq', _, _, e1, e2⟩ := low_parts p hq
  rw [e1, e2]
  grind
theorem low_cop (p : Int) {q : Int} (hq : q ≠ 0) : Int.gcd (nm p q) (dn p q) = 1 := by
  obtain ⟨g, a, b, _, _, _, hb, hc, e1, e2⟩ := low_parts p hq
  rw [e1, e2]
  rcases Int.lt_trichotomy b 0 with h1 | h1 | h1
  · rw [Int.sign_eq_neg_one_of_neg h1]; simpa using hc
  · exact absurd h1 hb
  · rw [Int.sign_eq_one_of_pos h1]; simpa using hc

theorem dvd_cop {n d k : Int} (hc : Int.gcd n d = 1) (h : d ∣ n * k) : d ∣ k := by
  have h1 : d.natAbs ∣ n.natAbs * k.natAbs := by rw [← Int.natAbs_mul]; exact Int.natAbs_dvd_natAbs.2 h
  have hc' : Nat.Coprime d.natAbs n.natAbs := by
    unfold Nat.Coprime
    rw [Nat.gcd_comm]
    exact hc
  exact Int.natAbs_dvd_natAbs.1 (hc'.dvd_of_dvd_mul_left h1)

/-- Fractions that are one number are told alike. -/
theorem low_eq {p q p' q' : Int} (hq : q ≠ 0) (hq' : q' ≠ 0) (h : p * q' = p' * q) : nm p q = nm p' q' ∧ dn p q = dn p' q' := by
  have c1 := low_cross p hq
  have c2 := low_cross p' hq'
  have d1 := dn_pos p hq
  have d2 := dn_pos p' hq'
  have hx : nm p q * dn p' q' = nm p' q' * dn p q := by
    apply Int.eq_of_mul_eq_mul_right (Int.mul_ne_zero hq hq')
    grind
  have e1 : dn p q ∣ dn p' q' := dvd_cop (low_cop p hq) ⟨nm p' q', by rw [hx, Int.mul_comm]⟩
  have e2 : dn p' q' ∣ dn p q := dvd_cop (low_cop p' hq') ⟨nm p q, by rw [← hx, Int.mul_comm]⟩
  have e : dn p q = dn p' q' := Int.dvd_antisymm (by omega) (by omega) e1 e2
  refine ⟨?_, e⟩
  rw [e] at hx
  exact Int.eq_of_mul_eq_mul_right (by omega) hx

theorem low_eq_iff {p q p' q' : Int} (hq : q ≠ 0) (hq' : q' ≠ 0) : (nm p q = nm p' q' ∧ dn p q = dn p' q') ↔ p * q' = p' * q := by
  refine ⟨fun ⟨h1, h2⟩ => ?_, low_eq hq hq'⟩
  have c1 := low_cross p hq
  have c2 := low_cross p' hq'
  have d2 := dn_ne p' hq'
  rw [h1, h2] at c1
  apply Int.eq_of_mul_eq_mul_right d2
  grind

theorem tp_low (p : Int) {q : Int} (hq : q ≠ 0) : tp (nm p q) (dn p q) = nm p q := by rw [tp, if_neg (dn_ne p hq)]
theorem tq_low (p : Int) {q : Int} (hq : q ≠ 0) : tq (dn p q) = dn p q := by rw [tq, if_neg (dn_ne p hq)]

end Lm
end Go.Proofs.Ytkdcgnooeojjgac

namespace Go.Proofs.Ytkdcgnooeojjgac
namespace Lm

theorem fld_addc {P1 Q1 P2 Q2 : Int} (h1 : Q1 ≠ 0) (h2 : Q2 ≠ 0) : nm (P1 * Q2 + P2 * Q1) (Q1 * Q2) = nm (P2 * Q1 + P1 * Q2) (Q2 * Q1) ∧ dn (P1 * Q2 + P2 * Q1) (Q1 * Q2) = dn (P2 * Q1 + P1 * Q2) (Q2 * Q1) := by
  refine low_eq (by simp_all) (by simp_all) ?_
  grind

theorem fld_mulc {P1 Q1 P2 Q2 : Int} (h1 : Q1 ≠ 0) (h2 : Q2 ≠ 0) : nm (P1 * P2) (Q1 * Q2) = nm (P2 * P1) (Q2 * Q1) ∧ dn (P1 * P2) (Q1 * Q2) = dn (P2 * P1) (Q2 * Q1) := by
  refine low_eq (by simp_all) (by simp_all) ?_
  grind

theorem fld_adda {P1 Q1 P2 Q2 P3 Q3 : Int} (h1 : Q1 ≠ 0) (h2 : Q2 ≠ 0) (h3 : Q3 ≠ 0) : nm (tp (nm (P1 * Q2 + P2 * Q1) (Q1 * Q2)) (dn (P1 * Q2 + P2 * Q1) (Q1 * Q2)) * Q3 + P3 * tq (dn (P1 * Q2 + P2 * Q1) (Q1 * Q2))) (tq (dn (P1 * Q2 + P2 * Q1) (Q1 * Q2)) * Q3) = nm (P1 * tq (dn (P2 * Q3 + P3 * Q2) (Q2 * Q3)) + tp (nm (P2 * Q3 + P3 * Q2) (Q2 * Q3)) (dn (P2 * Q3 + P3 * Q2) (Q2 * Q3)) * Q1) (Q1 * tq (dn (P2 * Q3 + P3 * Q2) (Q2 * Q3))) ∧ dn (tp (nm (P1 * Q2 + P2 * Q1) (Q1 * Q2)) (dn (P1 * Q2 + P2 * Q1) (Q1 * Q2)) * Q3 + P3 * tq (dn (P1 * Q2 + P2 * Q1) (Q1 * Q2))) (tq (dn (P1 * Q2 + P2 * Q1) (Q1 * Q2)) * Q3) = dn (P1 * tq (dn (P2 * Q3 + P3 * Q2) (Q2 * Q3)) + tp (nm (P2 * Q3 + P3 * Q2) (Q2 * Q3)) (dn (P2 * Q3 + P3 * Q2) (Q2 * Q3)) * Q1) (Q1 * tq (dn (P2 * Q3 + P3 * Q2) (Q2 * Q3))) := by
  have b0 : Q1 * Q2 ≠ 0 := (Int.mul_ne_zero h1 h2)
  have c0 := low_cross (P1 * Q2 + P2 * Q1) b0
  have d0 := dn_ne (P1 * Q2 + P2 * Q1) b0
  rw [tp_low (P1 * Q2 + P2 * Q1) b0, tq_low (P1 * Q2 + P2 * Q1) b0]
  have b1 : Q2 * Q3 ≠ 0 := (Int.mul_ne_zero h2 h3)
  have c1 := low_cross (P2 * Q3 + P3 * Q2) b1
  have d1 := dn_ne (P2 * Q3 + P3 * Q2) b1
  rw [tp_low (P2 * Q3 + P3 * Q2) b1, tq_low (P2 * Q3 + P3 * Q2) b1]
  generalize nm (P1 * Q2 + P2 * Q1) (Q1 * Q2) = N0 at *
  generalize dn (P1 * Q2 + P2 * Q1) (Q1 * Q2) = D0 at *
  generalize nm (P2 * Q3 + P3 * Q2) (Q2 * Q3) = N1 at *
  generalize dn (P2 * Q3 + P3 * Q2) (Q2 * Q3) = D1 at *
  refine low_eq (by simp_all) (by simp_all) ?_
  apply Int.eq_of_mul_eq_mul_right (show Q1 * Q2 * Q3 ≠ 0 from (Int.mul_ne_zero (Int.mul_ne_zero h1 h2) h3))
  grind

theorem fld_mula {P1 Q1 P2 Q2 P3 Q3 : Int} (h1 : Q1 ≠ 0) (h2 : Q2 ≠ 0) (h3 : Q3 ≠ 0) : nm (tp (nm (P1 * P2) (Q1 * Q2)) (dn (P1 * P2) (Q1 * Q2)) * P3) (tq (dn (P1 * P2) (Q1 * Q2)) * Q3) = nm (P1 * tp (nm (P2 * P3) (Q2 * Q3)) (dn (P2 * P3) (Q2 * Q3))) (Q1 * tq (dn (P2 * P3) (Q2 * Q3))) ∧ dn (tp (nm (P1 * P2) (Q1 * Q2)) (dn (P1 * P2) (Q1 * Q2)) * P3) (tq (dn (P1 * P2) (Q1 * Q2)) * Q3) = dn (P1 * tp (nm (P2 * P3) (Q2 * Q3)) (dn (P2 * P3) (Q2 * Q3))) (Q1 * tq (dn (P2 * P3) (Q2 * Q3))) := by
  have b0 : Q1 * Q2 ≠ 0 := (Int.mul_ne_zero h1 h2)
  have c0 := low_cross (P1 * P2) b0
  have d0 := dn_ne (P1 * P2) b0
  rw [tp_low (P1 * P2) b0, tq_low (P1 * P2) b0]
  have b1 : Q2 * Q3 ≠ 0 := (Int.mul_ne_zero h2 h3)
  have c1 := low_cross (P2 * P3) b1
  have d1 := dn_ne (P2 * P3) b1
  rw [tp_low (P2 * P3) b1, tq_low (P2 * P3) b1]
  generalize nm (P1 * P2) (Q1 * Q2) = N0 at *
  generalize dn (P1 * P2) (Q1 * Q2) = D0 at *
  generalize nm (P2 * P3) (Q2 * Q3) = N1 at *
  generalize dn (P2 * P3) (Q2 * Q3) = D1 at *
  refine low_eq (by simp_all) (by simp_all) ?_
  apply Int.eq_of_mul_eq_mul_right (show Q1 * Q2 * Q3 ≠ 0 from (Int.mul_ne_zero (Int.mul_ne_zero h1 h2) h3))
  grind

theorem fld_dist {P1 Q1 P2 Q2 P3 Q3 : Int} (h1 : Q1 ≠ 0) (h2 : Q2 ≠ 0) (h3 : Q3 ≠ 0) : nm (P1 * tp (nm (P2 * Q3 + P3 * Q2) (Q2 * Q3)) (dn (P2 * Q3 + P3 * Q2) (Q2 * Q3))) (Q1 * tq (dn (P2 * Q3 + P3 * Q2) (Q2 * Q3))) = nm (tp (nm (P1 * P2) (Q1 * Q2)) (dn (P1 * P2) (Q1 * Q2)) * tq (dn (P1 * P3) (Q1 * Q3)) + tp (nm (P1 * P3) (Q1 * Q3)) (dn (P1 * P3) (Q1 * Q3)) * tq (dn (P1 * P2) (Q1 * Q2))) (tq (dn (P1 * P2) (Q1 * Q2)) * tq (dn (P1 * P3) (Q1 * Q3))) ∧ dn (P1 * tp (nm (P2 * Q3 + P3 * Q2) (Q2 * Q3)) (dn (P2 * Q3 + P3 * Q2) (Q2 * Q3))) (Q1 * tq (dn (P2 * Q3 + P3 * Q2) (Q2 * Q3))) = dn (tp (nm (P1 * P2) (Q1 * Q2)) (dn (P1 * P2) (Q1 * Q2)) * tq (dn (P1 * P3) (Q1 * Q3)) + tp (nm (P1 * P3) (Q1 * Q3)) (dn (P1 * P3) (Q1 * Q3)) * tq (dn (P1 * P2) (Q1 * Q2))) (tq (dn (P1 * P2) (Q1 * Q2)) * tq (dn (P1 * P3) (Q1 * Q3))) := by
  have b0 : Q2 * Q3 ≠ 0 := (Int.mul_ne_zero h2 h3)
  have c0 := low_cross (P2 * Q3 + P3 * Q2) b0
  have d0 := dn_ne (P2 * Q3 + P3 * Q2) b0
  rw [tp_low (P2 * Q3 + P3 * Q2) b0, tq_low (P2 * Q3 + P3 * Q2) b0]
  have b1 : Q1 * Q2 ≠ 0 := (Int.mul_ne_zero h1 h2)
  have c1 := low_cross (P1 * P2) b1
  have d1 := dn_ne (P1 * P2) b1
  rw [tp_low (P1 * P2) b1, tq_low (P1 * P2) b1]
  have b2 : Q1 * Q3 ≠ 0 := (Int.mul_ne_zero h1 h3)
  have c2 := low_cross (P1 * P3) b2
  have d2 := dn_ne (P1 * P3) b2
  rw [tp_low (P1 * P3) b2, tq_low (P1 * P3) b2]
  generalize nm (P2 * Q3 + P3 * Q2) (Q2 * Q3) = N0 at *
  generalize dn (P2 * Q3 + P3 * Q2) (Q2 * Q3) = D0 at *
  generalize nm (P1 * P2) (Q1 * Q2) = N1 at *
  generalize dn (P1 * P2) (Q1 * Q2) = D1 at *
  generalize nm (P1 * P3) (Q1 * Q3) = N2 at *
  generalize dn (P1 * P3) (Q1 * Q3) = D2 at *
  refine low_eq (by simp_all) (by simp_all) ?_
  apply Int.eq_of_mul_eq_mul_right (show Q1 * Q2 * Q3 * Q1 ≠ 0 from (Int.mul_ne_zero (Int.mul_ne_zero (Int.mul_ne_zero h1 h2) h3) h1))
  grind

theorem fld_sub {P1 Q1 P2 Q2 : Int} (h1 : Q1 ≠ 0) (h2 : Q2 ≠ 0) : nm (tp (nm (P1 * Q2 + P2 * Q1) (Q1 * Q2)) (dn (P1 * Q2 + P2 * Q1) (Q1 * Q2)) * Q2 - P2 * tq (dn (P1 * Q2 + P2 * Q1) (Q1 * Q2))) (tq (dn (P1 * Q2 + P2 * Q1) (Q1 * Q2)) * Q2) = nm (P1) (Q1) ∧ dn (tp (nm (P1 * Q2 + P2 * Q1) (Q1 * Q2)) (dn (P1 * Q2 + P2 * Q1) (Q1 * Q2)) * Q2 - P2 * tq (dn (P1 * Q2 + P2 * Q1) (Q1 * Q2))) (tq (dn (P1 * Q2 + P2 * Q1) (Q1 * Q2)) * Q2) = dn (P1) (Q1) := by
  have b0 : Q1 * Q2 ≠ 0 := (Int.mul_ne_zero h1 h2)
  have c0 := low_cross (P1 * Q2 + P2 * Q1) b0
  have d0 := dn_ne (P1 * Q2 + P2 * Q1) b0
  rw [tp_low (P1 * Q2 + P2 * Q1) b0, tq_low (P1 * Q2 + P2 * Q1) b0]
  generalize nm (P1 * Q2 + P2 * Q1) (Q1 * Q2) = N0 at *
  generalize dn (P1 * Q2 + P2 * Q1) (Q1 * Q2) = D0 at *
  refine low_eq (by simp_all) (by simp_all) ?_
  apply Int.eq_of_mul_eq_mul_right (show Q1 * Q2 ≠ 0 from (Int.mul_ne_zero h1 h2))
  grind

theorem fld_div {P1 Q1 P2 Q2 : Int} (h1 : Q1 ≠ 0) (h2 : Q2 ≠ 0) (hp : P2 ≠ 0) : nm (tp (nm (P1 * P2) (Q1 * Q2)) (dn (P1 * P2) (Q1 * Q2)) * Q2) (tq (dn (P1 * P2) (Q1 * Q2)) * P2) = nm (P1) (Q1) ∧ dn (tp (nm (P1 * P2) (Q1 * Q2)) (dn (P1 * P2) (Q1 * Q2)) * Q2) (tq (dn (P1 * P2) (Q1 * Q2)) * P2) = dn (P1) (Q1) := by
  have b0 : Q1 * Q2 ≠ 0 := (Int.mul_ne_zero h1 h2)
  have c0 := low_cross (P1 * P2) b0
  have d0 := dn_ne (P1 * P2) b0
  rw [tp_low (P1 * P2) b0, tq_low (P1 * P2) b0]
  generalize nm (P1 * P2) (Q1 * Q2) = N0 at *
  generalize dn (P1 * P2) (Q1 * Q2) = D0 at *
  refine low_eq (by simp_all) (by simp_all) ?_
  apply Int.eq_of_mul_eq_mul_right (show Q1 * Q2 ≠ 0 from (Int.mul_ne_zero h1 h2))
  grind

theorem fld_neg {P1 Q1 : Int} (h1 : Q1 ≠ 0) : Int.sign (tp (nm (P1 * tq (dn (-(P1)) (Q1)) + tp (nm (-(P1)) (Q1)) (dn (-(P1)) (Q1)) * Q1) (Q1 * tq (dn (-(P1)) (Q1)))) (dn (P1 * tq (dn (-(P1)) (Q1)) + tp (nm (-(P1)) (Q1)) (dn (-(P1)) (Q1)) * Q1) (Q1 * tq (dn (-(P1)) (Q1))))) = 0 := by
  have c0 := low_cross (-P1) h1
  have d0 := dn_ne (-P1) h1
  rw [tp_low (-P1) h1, tq_low (-P1) h1]
  generalize nm (-P1) Q1 = N0 at *
  generalize dn (-P1) Q1 = D0 at *
  have b : Q1 * D0 ≠ 0 := Int.mul_ne_zero h1 d0
  rw [tp_low _ b]
  have e : P1 * D0 + N0 * Q1 = 0 := by grind
  rw [e]
  simp [nm]

end Lm
end Go.Proofs.Ytkdcgnooeojjgac

namespace Go.Proofs.Ytkdcgnooeojjgac
namespace Lm
open Go Go.RowKit

theorem cmpI_sign (x y : Int) : cmpI x y = Int.sign (x - y) := by
  rcases Int.lt_trichotomy x y with h | h | h
  · rw [cmpI_lt h, Int.sign_eq_neg_one_of_neg (by omega)]
  · rw [h, cmpI_eq rfl, Int.sub_self]; rfl
  · rw [cmpI_gt h, Int.sign_eq_one_of_pos (by omega)]

theorem sign_of {c d x y : Int} (hc : 0 < c) (hd : 0 < d) (h : c * x = d * y) : Int.sign x = Int.sign y := by
  have h1 : Int.sign (c * x) = Int.sign x := by rw [Int.sign_mul, Int.sign_eq_one_of_pos hc, Int.one_mul]
  have h2 : Int.sign (d * y) = Int.sign y := by rw [Int.sign_mul, Int.sign_eq_one_of_pos hd, Int.one_mul]
  rw [← h1, h, h2]

theorem ord_anti (x y : Int) : cmpI y x = -cmpI x y := by
  rw [cmpI_sign, cmpI_sign, ← Int.sign_neg, Int.neg_sub]

theorem mul_pos3 {a b : Int} (h1 : 0 < a) (h2 : 0 < b) : 0 < a * b := Int.mul_pos h1 h2

theorem ord_add {P1 Q1 P2 Q2 P3 Q3 : Int} (h1 : 0 < Q1) (h2 : 0 < Q2) (h3 : 0 < Q3) :
    cmpI (tp (nm (P1 * Q3 + P3 * Q1) (Q1 * Q3)) (dn (P1 * Q3 + P3 * Q1) (Q1 * Q3)) * tq (dn (P2 * Q3 + P3 * Q2) (Q2 * Q3))) (tp (nm (P2 * Q3 + P3 * Q2) (Q2 * Q3)) (dn (P2 * Q3 + P3 * Q2) (Q2 * Q3)) * tq (dn (P1 * Q3 + P3 * Q1) (Q1 * Q3))) = cmpI (P1 * Q2) (P2 * Q1) := by
  have b0 : Q1 * Q3 ≠ 0 := Int.mul_ne_zero (by omega) (by omega)
  have b1 : Q2 * Q3 ≠ 0 := Int.mul_ne_zero (by omega) (by omega)
  have c0 := low_cross (P1 * Q3 + P3 * Q1) b0
  have c1 := low_cross (P2 * Q3 + P3 * Q2) b1
  have d0 := dn_pos (P1 * Q3 + P3 * Q1) b0
  have d1 := dn_pos (P2 * Q3 + P3 * Q2) b1
  rw [tp_low _ b0, tq_low _ b1, tp_low _ b1, tq_low _ b0, cmpI_sign, cmpI_sign]
  generalize nm (P1 * Q3 + P3 * Q1) (Q1 * Q3) = N0 at *
  generalize dn (P1 * Q3 + P3 * Q1) (Q1 * Q3) = D0 at *
  generalize nm (P2 * Q3 + P3 * Q2) (Q2 * Q3) = N1 at *
  generalize dn (P2 * Q3 + P3 * Q2) (Q2 * Q3) = D1 at *
  refine sign_of (c := (Q1 * Q3) * (Q2 * Q3)) (d := (D0 * D1) * (Q3 * Q3)) (Int.mul_pos (Int.mul_pos h1 h3) (Int.mul_pos h2 h3)) (Int.mul_pos (Int.mul_pos d0 d1) (Int.mul_pos h3 h3)) ?_
  grind

theorem ord_mul {P1 Q1 P2 Q2 P3 Q3 : Int} (h1 : 0 < Q1) (h2 : 0 < Q2) (h3 : 0 < Q3) :
    cmpI (tp (nm (P1 * P3) (Q1 * Q3)) (dn (P1 * P3) (Q1 * Q3)) * tq (dn (P2 * P3) (Q2 * Q3))) (tp (nm (P2 * P3) (Q2 * Q3)) (dn (P2 * P3) (Q2 * Q3)) * tq (dn (P1 * P3) (Q1 * Q3))) = cmpI (P1 * Q2) (P2 * Q1) * Int.sign P3 := by
  have b0 : Q1 * Q3 ≠ 0 := Int.mul_ne_zero (by omega) (by omega)
  have b1 : Q2 * Q3 ≠ 0 := Int.mul_ne_zero (by omega) (by omega)
  have c0 := low_cross (P1 * P3) b0
  have c1 := low_cross (P2 * P3) b1
  have d0 := dn_pos (P1 * P3) b0
  have d1 := dn_pos (P2 * P3) b1
  rw [tp_low _ b0, tq_low _ b1, tp_low _ b1, tq_low _ b0, cmpI_sign, cmpI_sign, ← Int.sign_mul]
  generalize nm (P1 * P3) (Q1 * Q3) = N0 at *
  generalize dn (P1 * P3) (Q1 * Q3) = D0 at *
  generalize nm (P2 * P3) (Q2 * Q3) = N1 at *
  generalize dn (P2 * P3) (Q2 * Q3) = D1 at *
  refine sign_of (c := (Q1 * Q3) * (Q2 * Q3)) (d := (D0 * D1) * Q3) (Int.mul_pos (Int.mul_pos h1 h3) (Int.mul_pos h2 h3)) (Int.mul_pos (Int.mul_pos d0 d1) h3) ?_
  grind

theorem ord_sub {P1 Q1 P2 Q2 : Int} (h1 : 0 < Q1) (h2 : 0 < Q2) :
    Int.sign (tp (nm (P1 * Q2 - P2 * Q1) (Q1 * Q2)) (dn (P1 * Q2 - P2 * Q1) (Q1 * Q2))) = cmpI (P1 * Q2) (P2 * Q1) := by
  have b0 : Q1 * Q2 ≠ 0 := Int.mul_ne_zero (by omega) (by omega)
  have c0 := low_cross (P1 * Q2 - P2 * Q1) b0
  have d0 := dn_pos (P1 * Q2 - P2 * Q1) b0
  rw [tp_low _ b0, cmpI_sign]
  generalize nm (P1 * Q2 - P2 * Q1) (Q1 * Q2) = N0 at *
  generalize dn (P1 * Q2 - P2 * Q1) (Q1 * Q2) = D0 at *
  refine sign_of (c := Q1 * Q2) (d := D0) (Int.mul_pos h1 h2) d0 ?_
  grind

theorem ord_same {P1 Q1 P2 Q2 : Int} (h1 : 0 < Q1) (h2 : 0 < Q2) : decide (cmpI (P1 * Q2) (P2 * Q1) = 0) = decide (nm P1 Q1 = nm P2 Q2 ∧ dn P1 Q1 = dn P2 Q2) := by
  refine decide_eq_decide.2 ?_
  rw [low_eq_iff (by omega) (by omega), cmpI_sign, sign_zero_iff]
  omega

theorem ord_trans {P1 Q1 P2 Q2 P3 Q3 : Int} (h1 : 0 < Q1) (h2 : 0 < Q2) (h3 : 0 < Q3) (a : ¬ 0 < cmpI (P1 * Q2) (P2 * Q1)) (b : ¬ 0 < cmpI (P2 * Q3) (P3 * Q2)) : cmpI (P1 * Q3) (P3 * Q1) ≤ 0 := by
  have key : ∀ x y, ¬ 0 < cmpI x y ↔ x ≤ y := by
    intro x y
    rcases Int.lt_trichotomy x y with h | h | h
    · rw [cmpI_lt h]; omega
    · rw [cmpI_eq h]; omega
    · rw [cmpI_gt h]; omega
  rw [key] at a b
  have hh : ¬ 0 < cmpI (P1 * Q3) (P3 * Q1) := by
    rw [key]
    have e1 : P1 * Q2 * Q3 ≤ P2 * Q1 * Q3 := Int.mul_le_mul_of_nonneg_right a (by omega)
    have e2 : P2 * Q3 * Q1 ≤ P3 * Q2 * Q1 := Int.mul_le_mul_of_nonneg_right b (by omega)
    have e3 : P1 * Q3 * Q2 ≤ P3 * Q1 * Q2 := by
      have x1 : P1 * Q2 * Q3 = P1 * Q3 * Q2 := by grind
      have x2 : P2 * Q1 * Q3 = P2 * Q3 * Q1 := by grind
      have x3 : P3 * Q2 * Q1 = P3 * Q1 * Q2 := by grind
      omega
    exact Int.le_of_mul_le_mul_right e3 h2
  omega

section
variable {dst : Option Tmp} {ty : TypeId} {pos : String} {after : Array Edge} {guard : Option (Nat × Bool)} {a : Act} {w : World} {i j : Nat} {u v : Int}
theorem op_neqf (h1 : a.eval (.tmp i) = .int .i64 u) (h2 : a.eval (.tmp j) = .int .i64 v) (h : u = v) :
    Does Try.prog { dst, op := .binOp .neq 3 (.tmp i) (.tmp j) 3, type := ty, pos, after, guard } a.eval w fun v w' => Below w.heap.size w w' ∧ Eqs (.bool false) v w' := by
  refine does_bin (v := .bool false) ?_ ?_ ⟨Below.refl _ _, rfl⟩
  · rw [h1, h2]; simp [go_sem]
  · rw [h1, h2]; simp [go_sem, h]
theorem op_negi (h1 : a.eval (.tmp i) = .int .i64 u) (h : -1 ≤ u ∧ u ≤ 1) :
    Does Try.prog { dst, op := .unOp .neg 3 (.tmp i), type := ty, pos, after, guard } a.eval w fun v w' => Below w.heap.size w w' ∧ Eqs (.int .i64 (-u)) v w' := by
  refine does_un (v := .int .i64 (-u)) ?_ ⟨Below.refl _ _, rfl⟩
  rw [h1]
  simp [go_sem]
  exact wrap64 (by omega) (by omega)
theorem op_timesi {z : Int} (h1 : a.eval (.tmp i) = .int .i64 u) (h2 : a.eval (.tmp j) = .int .i64 v) (h : z = u * v) (hz : -1 ≤ z ∧ z ≤ 1) :
    Does Try.prog { dst, op := .binOp .mul 3 (.tmp i) (.tmp j) 3, type := ty, pos, after, guard } a.eval w fun v' w' => Below w.heap.size w w' ∧ Eqs (.int .i64 z) v' w' :=
  (op_times h1 h2).mono (fun v' w' ⟨hb, e⟩ => ⟨hb, by rw [Eqs, show v' = _ from e, ← h, wrap64 (by omega) (by omega)]⟩)
theorem op_gtrt (h1 : a.eval (.tmp i) = .int .i64 u) (h : v < u) :
    Does Try.prog { dst, op := .binOp .gtr 3 (.tmp i) (.const (.int .i64 v)) 3, type := ty, pos, after, guard } a.eval w fun v' w' => Below w.heap.size w w' ∧ Eqs (.bool true) v' w' :=
  (op_gtrk h1).mono (fun v' w' ⟨hb, e⟩ => ⟨hb, by rw [Eqs, show v' = _ from e, decide_eq_true h]⟩)
theorem op_gtrf (h1 : a.eval (.tmp i) = .int .i64 u) (h : ¬ v < u) :
    Does Try.prog { dst, op := .binOp .gtr 3 (.tmp i) (.const (.int .i64 v)) 3, type := ty, pos, after, guard } a.eval w fun v' w' => Below w.heap.size w w' ∧ Eqs (.bool false) v' w' :=
  (op_gtrk h1).mono (fun v' w' ⟨hb, e⟩ => ⟨hb, by rw [Eqs, show v' = _ from e, decide_eq_false h]⟩)
theorem op_leqt (h1 : a.eval (.tmp i) = .int .i64 u) (h : u ≤ v) :
    Does Try.prog { dst, op := .binOp .leq 3 (.tmp i) (.const (.int .i64 v)) 3, type := ty, pos, after, guard } a.eval w fun v' w' => Below w.heap.size w w' ∧ Eqs (.bool true) v' w' := by
  refine does_bin (v := .bool true) ?_ ?_ ⟨Below.refl _ _, rfl⟩
  · rw [h1]; simp [go_sem, Act.eval]
  · rw [h1]; simp [go_sem, Act.eval, h]
theorem op_leqf (h1 : a.eval (.tmp i) = .int .i64 u) (h : ¬ u ≤ v) :
    Does Try.prog { dst, op := .binOp .leq 3 (.tmp i) (.const (.int .i64 v)) 3, type := ty, pos, after, guard } a.eval w fun v' w' => Below w.heap.size w w' ∧ Eqs (.bool false) v' w' := by
  refine does_bin (v := .bool false) ?_ ?_ ⟨Below.refl _ _, rfl⟩
  · rw [h1]; simp [go_sem, Act.eval]
  · rw [h1]; simp [go_sem, Act.eval]; omega
theorem op_eqlbt {b c : Bool} (h1 : a.eval (.tmp i) = .bool b) (h2 : a.eval (.tmp j) = .bool c) (h : b = c) :
    Does Try.prog { dst, op := .binOp .eql 4 (.tmp i) (.tmp j) 4, type := ty, pos, after, guard } a.eval w fun v w' => Below w.heap.size w w' ∧ Eqs (.bool true) v w' :=
  (op_eqlb h1 h2).mono (fun v' w' ⟨hb, e⟩ => ⟨hb, by rw [Eqs, show v' = _ from e, h]; simp⟩)
theorem op_neqbf {b c : Bool} (h1 : a.eval (.tmp i) = .bool b) (h2 : a.eval (.tmp j) = .bool c) (h : b = c) :
    Does Try.prog { dst, op := .binOp .neq 4 (.tmp i) (.tmp j) 4, type := ty, pos, after, guard } a.eval w fun v w' => Below w.heap.size w w' ∧ Eqs (.bool false) v w' :=
  (op_neqb h1 h2).mono (fun v' w' ⟨hb, e⟩ => ⟨hb, by rw [Eqs, show v' = _ from e, h]; simp⟩)
end
theorem cmpI_range (x y : Int) : -1 ≤ cmpI x y ∧ cmpI x y ≤ 1 := by
  rw [cmpI_sign]
  exact sign_three _

end Lm
end Go.Proofs.Ytkdcgnooeojjgac
