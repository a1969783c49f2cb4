/-
  The given statement on RatioReads, for every input: the call answers true, and each argument reads behind it as it read before. No condition beyond the statement's own. Beside it: RatioReads answers true, whatever fraction it is handed.
-/
import Derived.Test.YtpofkigboedliaaRows
import Derived.ProofKit
import Derived.OpenShut
import Derived.ShutString
import Derived.ChangeOld
import Derived.SizedLaws
import Derived.Lib.SmallJoins
import Derived.Test.YtpofkigboedliaaRRdLawZ4
namespace Go.Proofs.Ytpofkigboedliaa
namespace Lm
open Go Go.RowKit
set_option maxRecDepth 20000 in
set_option maxHeartbeats 8000000 in
theorem rreads_law (w : World) (nr : Bool) (ar : Option Addr) (mr cr : Nat) (rs : List Int) (pr : Int) (br : Option Addr) (kr dr : Nat) (rt : List Int) (qr : Int) (Ar : Ag w nr ar mr cr rs pr) (Sr : Sl w (.slice br kr dr) rt) (Vr : val rt = qr) (gr35 : mr ≤ 35184372088832) (jr35 : kr ≤ 35184372088832) :
    Calls Try.prog 4 #[.agg #[.bool nr, .slice ar mr cr, .slice br kr dr]] w fun e w' => e = .returned (.bool true) ∧ Below w.heap.size w w' := by
  go_enter Try.func4, Try.ntmps4
  generalize hA : (Act.mk _ _) = aa
  have hn : aa.tmps.size = 118 := by rw [← hA]; rfl
  have hd : aa.defers = [] := by rw [← hA]
  have f0 : aa.eval (.tmp 0) = .agg #[.bool nr, .slice ar mr cr, .slice br kr dr] := by rw [← hA]; rfl
  clear hA
  have HB : Below w.heap.size w w := Below.refl _ _
  have Tr := Ar.sl; have Dr : Ag w false br kr dr rt qr := ⟨Sr, Vr⟩
  have Ar0 := Ar; have Sr0 := Sr
  have hq0 : 0 < tq qr := tq_gt (by rw [← Vr]; exact (val_bounds Sr.parts.2.2.2).1)
  obtain ⟨mP, hmP⟩ := isLen_of (nm (tp pr qr) (tq qr)); obtain ⟨mQ, hmQ⟩ := isLen_of (dn (tp pr qr) (tq qr))
  have hmQ' : IsLen (dn (tp pr qr) (tq qr)) mQ := by have h := dn_pos (tp pr qr) (tq_ne qr); rwa [show (((dn (tp pr qr) (tq qr)).natAbs : Nat) : Int) = dn (tp pr qr) (tq qr) by omega] at hmQ
  refine wp_seq ?_
  refine region4 [some 1, some 2] [(fun _ _ => True), Eqs ((.bool false))] [⟨R3, some 0, 0, 1, .agg #[.bool nr, .slice ar mr cr, .slice br kr dr], none, []⟩] [] (by kernel_rfl) hn rfl (by kernel_rfl) (by kernel_rfl) (by kernel_rfl) (by kernel_rfl) (by kernel_rfl) (by kernel_rfl) ⟨True.mono4, Eqs.mono4 _, trivial⟩ (ok_cons R3ok ok_nil) (IsOld.all (bx := [⟨R3, some 0, 0, 1, .agg #[.bool nr, .slice ar mr cr, .slice br kr dr], none, []⟩]) ⟨someNe, trivial⟩) (DisOld.all (bx := [⟨R3, some 0, 0, 1, .agg #[.bool nr, .slice ar mr cr, .slice br kr dr], none, []⟩]) ⟨someNe, trivial⟩) ?_ ?_
  · exact ⟨.alloc 0 _ rfl rfl (.inr ⟨_, rfl, r3_cs, fun a_ hR => (hR 0 rfl).trans f0⟩) rfl rfl rfl rfl rfl,
      .norm 2 rfl rfl rfl (fun a_ w_ hn_ hBt hr hR hD hO hS => op_assign rfl),
      trivial⟩
  intro a1 w1 gs1 hn1 hd1 hBt hr hR hP hX hU
  replace hn := hn1; replace hd := hd1.trans hd
  have b1 : BoxV R3 w1 (gs1 0) (.agg #[.bool nr, .slice ar mr cr, .slice br kr dr]) := (hX 0 _ rfl).2.2.2
  have f1 := (hX 0 _ rfl).1
  have u1 : w.heap.size ≤ gs1 0 := Nat.le_trans HB.size ((hX 0 _ rfl).2.2.1 (by simp))
  have e2 : a1.eval (.tmp 2) = (.bool false) := hP 1 (by decide)
  have f2 := e2
  replace Ar := Ar.rl hr
  replace Sr := Sr.rl hr
  replace Dr := Dr.rl hr
  replace Tr := Tr.rl hr
  replace HB := HB.trans (hBt.below HB.size (UpOld.all (bx := [⟨R3, some 0, 0, 1, .agg #[.bool nr, .slice ar mr cr, .slice br kr dr], none, []⟩]) ⟨someNe, trivial⟩))
  clear hBt hr hR hP hX hU
  refine wp_seq ?_
  refine wp_seq ?_
  refine region4 [some 16, some 17] [Eqs (.bool true), Eqs (.bool false)] [] [] (by kernel_rfl) hn rfl (by kernel_rfl) (by kernel_rfl) (by kernel_rfl) (by kernel_rfl) (by kernel_rfl) (by kernel_rfl) ⟨Eqs.mono4 _, Eqs.mono4 _, trivial⟩ ok_nil (IsOld.all (bx := []) trivial) (DisOld.all (bx := []) trivial) ?_ ?_
  · exact ⟨.norm 16 rfl rfl rfl (fun a_ w_ hn_ hBt hr hR hD hO hS => op_rawake),
      .norm 17 rfl rfl rfl (fun a_ w_ hn_ hBt hr hR hD hO hS => op_not (show a_.eval (.tmp 16) = .bool true from hD 0 rfl)),
      trivial⟩
  intro a2 w2 gs2 hn2 hd2 hBt hr hR hP hX hU
  replace hn := hn2; replace hd := hd2.trans hd
  replace b1 := b1.keep hBt trivial
  replace f1 := (hR 1 rfl).trans f1
  replace f2 := (hR 2 rfl).trans f2
  have e17 : a2.eval (.tmp 17) = .bool false := hP 1 (by decide)
  have f17 := e17
  replace Ar := Ar.rl hr
  replace Sr := Sr.rl hr
  replace Dr := Dr.rl hr
  replace Tr := Tr.rl hr
  replace HB := HB.trans (hBt.below HB.size (UpOld.all (bx := []) trivial))
  clear hBt hr hR hP hX hU
  refine wp_cond_false f17 ?_
  refine wp_skip ?_
  refine wp_seq ?_
  refine wp_seq ?_
  refine region4 [some 18, some 19, some 20] [Eqs (.agg #[.bool nr, .slice ar mr cr, .slice br kr dr]), Eqs (.int .i64 (1 + (mr : Int) + (kr : Int))), Eqs (.bool (decide (1500 < (1 + (mr : Int) + (kr : Int)))))] [] [] (by kernel_rfl) hn rfl (by kernel_rfl) (by kernel_rfl) (by kernel_rfl) (by kernel_rfl) (by kernel_rfl) (by kernel_rfl) ⟨Eqs.mono4 _, Eqs.mono4 _, Eqs.mono4 _, trivial⟩ ok_nil (IsOld.all (bx := []) trivial) (DisOld.all (bx := []) trivial) ?_ ?_
  · exact ⟨.norm 18 rfl rfl rfl (fun a_ w_ hn_ hBt hr hR hD hO hS => op_loadv R3ok ((hR 1 rfl).trans f1) (b1.keep hBt trivial)),
      .norm 19 rfl rfl rfl (fun a_ w_ hn_ hBt hr hR hD hO hS => op_rlen (show a_.eval (.tmp 18) = .agg #[.bool nr, .slice ar mr cr, .slice br kr dr] from hD 0 rfl) (by omega) (by omega)),
      .norm 20 rfl rfl rfl (fun a_ w_ hn_ hBt hr hR hD hO hS => op_gtrk (show a_.eval (.tmp 19) = .int .i64 (1 + (mr : Int) + (kr : Int)) from hD 1 rfl)),
      trivial⟩
  intro a3 w3 gs3 hn3 hd3 hBt hr hR hP hX hU
  replace hn := hn3; replace hd := hd3.trans hd
  replace b1 := b1.keep hBt trivial
  replace f1 := (hR 1 rfl).trans f1
  replace f2 := (hR 2 rfl).trans f2
  have e20 : a3.eval (.tmp 20) = .bool (decide (1500 < (1 + (mr : Int) + (kr : Int)))) := hP 2 (by decide)
  have f20 := e20
  replace Ar := Ar.rl hr
  replace Sr := Sr.rl hr
  replace Dr := Dr.rl hr
  replace Tr := Tr.rl hr
  replace HB := HB.trans (hBt.below HB.size (UpOld.all (bx := []) trivial))
  clear hBt hr hR hP hX hU
  refine wp_cond_split f20 (fun hc20 => ?_) (fun hc20 => ?_)
  · skip
    refine wp_seq ?_
    refine region4 [some 2] [Eqs ((.bool true))] [] [] (by kernel_rfl) hn rfl (by kernel_rfl) (by kernel_rfl) (by kernel_rfl) (by kernel_rfl) (by kernel_rfl) (by kernel_rfl) ⟨Eqs.mono4 _, trivial⟩ ok_nil (IsOld.all (bx := []) trivial) (DisOld.all (bx := []) trivial) ?_ ?_
    · exact ⟨.norm 2 rfl rfl rfl (fun a_ w_ hn_ hBt hr hR hD hO hS => op_assign rfl),
        trivial⟩
    intro a4 w4 gs4 hn4 hd4 hBt hr hR hP hX hU
    replace hn := hn4; replace hd := hd4.trans hd
    replace b1 := b1.keep hBt trivial
    replace f1 := (hR 1 rfl).trans f1
    have e2 : a4.eval (.tmp 2) = (.bool true) := hP 0 (by decide)
    have f2 := e2
    replace Ar := Ar.rl hr
    replace Sr := Sr.rl hr
    replace Dr := Dr.rl hr
    replace Tr := Tr.rl hr
    replace HB := HB.trans (hBt.below HB.size (UpOld.all (bx := []) trivial))
    clear hBt hr hR hP hX hU
    refine wp_ret ?_
    repeat (first | refine then_ret ?_ | refine scope_ret ?_ | refine block_ret ?_)
    exact bodyPost_ret (v := .bool true) (res_t rfl f2) hd ⟨rfl, HB⟩
  · skip
    have hlen := of_decide_eq_false hc20
    have or_ := Ar.sl.parts.1; have Lr : rs.length ≤ 1500 := by omega
    have yr_ := Sr.parts.1; have Mr : rt.length ≤ 1500 := by omega
    refine wp_skip ?_
    refine wp_seq ?_
    refine wp_of_good (by kernel_rfl) (by kernel_rfl) (fun w_0 hb_0 => ?_)
    replace b1 := b1.below hb_0
    replace Ar := Ar.below hb_0
    replace Sr := Sr.below hb_0
    replace Dr := Dr.below hb_0
    replace Tr := Tr.below hb_0
    replace HB := HB.trans (hb_0.mono HB.size); clear hb_0
    refine good6 0 0 (some 0) [some 3, some 4] [(fun _ _ => True), (fun _ _ => True)] [] [] [] [] [] (by kernel_rfl) hn rfl (by kernel_rfl) (by kernel_rfl) (by kernel_rfl) (by kernel_rfl) (by kernel_rfl) (by kernel_rfl) (by kernel_rfl) (by kernel_rfl) (by kernel_rfl) (by decide) ⟨True.mono5, True.mono5, trivial⟩ trivial xok_nil ok_nil (IsOld.all (bx := []) trivial) (DisOld.all (bx := []) trivial) trivial ?_ ?_ ?_
    · exact ⟨.inl rfl,
        .inl rfl,
        trivial⟩
    rotate_left
    · exact fun h => by cases h
    intro t_ o_ ht_ ho_ a5 w5 gs5 B5 T5 F_
    obtain rfl := Option.some.inj ht_; obtain rfl := Option.some.inj ho_; clear ht_ ho_
    obtain ⟨hn5, hd5, hBt, hr, hR, hP, hTs, hLi, hX, hU, hRel, hSl⟩ := F_
    replace hn := hn5; replace hd := hd5.trans hd
    replace b1 := b1.keep5 hBt trivial trivial
    replace f1 := (hR 1 rfl).trans f1
    replace f2 := (hR 2 rfl).trans f2
    replace Ar := Ar.ru hr
    replace Sr := Sr.ru hr
    replace Dr := Dr.ru hr
    replace Tr := Tr.ru hr
    replace HB := HB.trans (hBt.below HB.size (UpOld.all (bx := []) trivial) (UpX.all (bx := []) trivial))
    clear hBt hr hR hP hTs hLi hX hU hRel hSl
    refine ⟨trivial, op_lendn.mono ?_⟩
    rintro v_ w6 ⟨rfl, LNa, hbN⟩
    obtain ⟨gLa, hga⟩ : ∃ g, g = w5.heap.size := ⟨_, rfl⟩
    rw [← hga] at LNa ⊢
    have uLa : w.heap.size ≤ gLa := by rw [hga]; exact HB.size
    replace b1 := b1.below hbN
    replace Ar := Ar.below hbN
    replace Sr := Sr.below hbN
    replace Dr := Dr.below hbN
    replace Tr := Tr.below hbN
    replace HB := HB.trans (hbN.mono HB.size); clear hbN
    change Good _ _ _ _ _ (Act.put a5 (some 3) (.pointer (some ⟨gLa, 0, none⟩))) _
    have q_ : 3 < a5.tmps.size := by rw [hn]; decide
    generalize hA_ : Act.put a5 (some 3) (.pointer (some ⟨gLa, 0, none⟩)) = a7
    replace hn : a7.tmps.size = 118 := by rw [← hA_, put_tmps]; simp [hn]
    replace hd : a7.defers = [] := by rw [← hA_]; exact hd
    replace f1 : a7.eval (.tmp 1) = .pointer (some ⟨gs1 0, 0, none⟩) := by rw [← hA_]; exact (eval_put_ne (by decide)).trans f1
    replace f2 : a7.eval (.tmp 2) = (.bool false) := by rw [← hA_]; exact (eval_put_ne (by decide)).trans f2
    have f3 : a7.eval (.tmp 3) = .pointer (some ⟨gLa, 0, none⟩) := by rw [← hA_]; exact eval_put_same q_
    clear q_
    clear hA_
    refine good6 1 1 (some 1) [some 3, some 4] [Eqs (.pointer (some ⟨gLa, 0, none⟩)), (fun _ _ => True)] [] [] [] [] [] (by kernel_rfl) hn rfl (by kernel_rfl) (by kernel_rfl) (by kernel_rfl) (by kernel_rfl) (by kernel_rfl) (by kernel_rfl) (by kernel_rfl) (by kernel_rfl) (by kernel_rfl) (by decide) ⟨Eqs.mono5 _, True.mono5, trivial⟩ trivial xok_nil ok_nil (IsOld.all (bx := []) trivial) (DisOld.all (bx := []) trivial) ⟨trivial, f3⟩ ?_ ?_ ?_
    · exact ⟨.inl rfl,
        .inl rfl,
        trivial⟩
    rotate_left
    · exact fun h => by cases h
    intro t_ o_ ht_ ho_ a8 w8 gs8 B8 T8 F_
    obtain rfl := Option.some.inj ht_; obtain rfl := Option.some.inj ho_; clear ht_ ho_
    obtain ⟨hn8, hd8, hBt, hr, hR, hP, hTs, hLi, hX, hU, hRel, hSl⟩ := F_
    replace hn := hn8; replace hd := hd8.trans hd
    replace b1 := b1.keep5 hBt trivial trivial
    replace f1 := (hR 1 rfl).trans f1
    replace f2 := (hR 2 rfl).trans f2
    have e3 : a8.eval (.tmp 3) = .pointer (some ⟨gLa, 0, none⟩) := hP 0 (by decide)
    have f3 := e3
    have hBl_ := hBt.below (Nat.le_refl _) (UpOld.all (bx := []) trivial) (UpX.all (bx := []) trivial)
    replace Ar := Ar.ru hr
    replace Sr := Sr.ru hr
    replace Dr := Dr.ru hr
    replace Tr := Tr.ru hr
    replace LNa := LNa.below hBl_
    replace HB := HB.trans (hBt.below HB.size (UpOld.all (bx := []) trivial) (UpX.all (bx := []) trivial))
    clear hBt hr hR hP hTs hLi hX hU hRel hSl
    refine ⟨trivial, op_lendn.mono ?_⟩
    rintro v_ w9 ⟨rfl, LNb, hbN⟩
    obtain ⟨gLb, hgb⟩ : ∃ g, g = w8.heap.size := ⟨_, rfl⟩
    rw [← hgb] at LNb ⊢
    have uLb : w.heap.size ≤ gLb := by rw [hgb]; exact HB.size
    have nLab : gLa ≠ gLb := by have := LNa.lt; omega
    replace b1 := b1.below hbN
    replace Ar := Ar.below hbN
    replace Sr := Sr.below hbN
    replace Dr := Dr.below hbN
    replace Tr := Tr.below hbN
    replace LNa := LNa.below hbN
    replace HB := HB.trans (hbN.mono HB.size); clear hbN
    change Good _ _ _ _ _ (Act.put a8 (some 4) (.pointer (some ⟨gLb, 0, none⟩))) _
    have q_ : 4 < a8.tmps.size := by rw [hn]; decide
    generalize hA_ : Act.put a8 (some 4) (.pointer (some ⟨gLb, 0, none⟩)) = a10
    replace hn : a10.tmps.size = 118 := by rw [← hA_, put_tmps]; simp [hn]
    replace hd : a10.defers = [] := by rw [← hA_]; exact hd
    replace f1 : a10.eval (.tmp 1) = .pointer (some ⟨gs1 0, 0, none⟩) := by rw [← hA_]; exact (eval_put_ne (by decide)).trans f1
    replace f2 : a10.eval (.tmp 2) = (.bool false) := by rw [← hA_]; exact (eval_put_ne (by decide)).trans f2
    replace f3 : a10.eval (.tmp 3) = .pointer (some ⟨gLa, 0, none⟩) := by rw [← hA_]; exact (eval_put_ne (by decide)).trans f3
    have f4 : a10.eval (.tmp 4) = .pointer (some ⟨gLb, 0, none⟩) := by rw [← hA_]; exact eval_put_same q_
    clear q_
    clear hA_
    refine good6 2 2 none [some 3, some 4] [Eqs (.pointer (some ⟨gLa, 0, none⟩)), Eqs (.pointer (some ⟨gLb, 0, none⟩))] [] [] [] [] [] (by kernel_rfl) hn rfl (by kernel_rfl) (by kernel_rfl) (by kernel_rfl) (by kernel_rfl) (by kernel_rfl) (by kernel_rfl) (by kernel_rfl) (by kernel_rfl) (by kernel_rfl) (by decide) ⟨Eqs.mono5 _, Eqs.mono5 _, trivial⟩ trivial xok_nil ok_nil (IsOld.all (bx := []) trivial) (DisOld.all (bx := []) trivial) ⟨⟨trivial, f3⟩, f4⟩ ?_ ?_ ?_
    · exact ⟨.inl rfl,
        .inl rfl,
        trivial⟩
    · exact fun _ _ h => by cases h
    intro _ a11 w11 gs11 B11 T11 F_
    obtain ⟨hn11, hd11, hBt, hr, hR, hP, hTs, hLi, hX, hU, hRel, hSl⟩ := F_
    replace hn := hn11; replace hd := hd11.trans hd
    replace b1 := b1.keep5 hBt trivial trivial
    replace f1 := (hR 1 rfl).trans f1
    replace f2 := (hR 2 rfl).trans f2
    have e3 : a11.eval (.tmp 3) = .pointer (some ⟨gLa, 0, none⟩) := hP 0 (by decide)
    have f3 := e3
    have e4 : a11.eval (.tmp 4) = .pointer (some ⟨gLb, 0, none⟩) := hP 1 (by decide)
    have f4 := e4
    have hBl_ := hBt.below (Nat.le_refl _) (UpOld.all (bx := []) trivial) (UpX.all (bx := []) trivial)
    replace Ar := Ar.ru hr
    replace Sr := Sr.ru hr
    replace Dr := Dr.ru hr
    replace Tr := Tr.ru hr
    replace LNa := LNa.below hBl_
    replace LNb := LNb.below hBl_
    replace HB := HB.trans (hBt.below HB.size (UpOld.all (bx := []) trivial) (UpX.all (bx := []) trivial))
    clear hBt hr hR hP hTs hLi hX hU hRel hSl
    refine wp_seq ?_
    refine wp_of_good (by kernel_rfl) (by kernel_rfl) (fun w_0 hb_0 => ?_)
    replace b1 := b1.below hb_0
    replace Ar := Ar.below hb_0
    replace Sr := Sr.below hb_0
    replace Dr := Dr.below hb_0
    replace Tr := Tr.below hb_0
    replace LNa := LNa.below hb_0
    replace LNb := LNb.below hb_0
    replace HB := HB.trans (hb_0.mono HB.size); clear hb_0
    refine good6 0 1 (some 1) [some 21, some 22, some 5, none] [Eqs (.agg #[.bool nr, .slice ar mr cr, .slice br kr dr]), (fun _ _ => True), (fun _ _ => True), (fun _ _ => True)] [] [] [] [] [] (by kernel_rfl) hn rfl (by kernel_rfl) (by kernel_rfl) (by kernel_rfl) (by kernel_rfl) (by kernel_rfl) (by kernel_rfl) (by kernel_rfl) (by kernel_rfl) (by kernel_rfl) (by decide) ⟨Eqs.mono5 _, True.mono5, True.mono5, True.mono5, trivial⟩ trivial xok_nil ok_nil (IsOld.all (bx := []) trivial) (DisOld.all (bx := []) trivial) trivial ?_ ?_ ?_
    · exact ⟨.inr (.norm 21 rfl rfl (nxt rfl) rfl (fun a_ w_ hn_ hBt hr hR hD hO hS => d6 rfl (op_loadv R3ok ((hR 1 rfl).trans f1) (b1.keep5 hBt trivial trivial)))),
        .inl rfl,
        .inl rfl,
        .inl rfl,
        trivial⟩
    rotate_left
    · exact fun h => by cases h
    intro t_ o_ ht_ ho_ a12 w12 gs12 B12 T12 F_
    obtain rfl := Option.some.inj ht_; obtain rfl := Option.some.inj ho_; clear ht_ ho_
    obtain ⟨hn12, hd12, hBt, hr, hR, hP, hTs, hLi, hX, hU, hRel, hSl⟩ := F_
    replace hn := hn12; replace hd := hd12.trans hd
    replace b1 := b1.keep5 hBt trivial trivial
    replace f1 := (hR 1 rfl).trans f1
    replace f2 := (hR 2 rfl).trans f2
    replace f3 := (hR 3 rfl).trans f3
    replace f4 := (hR 4 rfl).trans f4
    have e21 : a12.eval (.tmp 21) = .agg #[.bool nr, .slice ar mr cr, .slice br kr dr] := hP 0 (by decide)
    have f21 := e21
    have hBl_ := hBt.below (Nat.le_refl _) (UpOld.all (bx := []) trivial) (UpX.all (bx := []) trivial)
    replace Ar := Ar.ru hr
    replace Sr := Sr.ru hr
    replace Dr := Dr.ru hr
    replace Tr := Tr.ru hr
    replace LNa := LNa.below hBl_
    replace LNb := LNb.below hBl_
    replace HB := HB.trans (hBt.below HB.size (UpOld.all (bx := []) trivial) (UpX.all (bx := []) trivial))
    clear hBt hr hR hP hTs hLi hX hU hRel hSl
    refine ⟨trivial, (op_lent f21 f3 f4 LNa LNb nLab Ar Lr Sr Vr Mr).mono ?_⟩
    rintro v_ w13 ⟨ga, gb, rfl, LSa, LSb, uga, ugb, hgab, t2_⟩
    replace b1 := b1.touch2 t2_ (lendn_box (by decide) LNa b1) (lendn_box (by decide) LNb b1)
    have uwa : w.heap.size ≤ ga := Nat.le_trans HB.size uga; have uwb : w.heap.size ≤ gb := Nat.le_trans HB.size ugb
    replace HB := HB.trans (t2_.below uLa uLb HB.size); clear t2_ LNa LNb
    replace Ar := Ar0.below HB; replace Sr := Sr0.below HB; replace Dr : Ag _ false br kr dr rt qr := ⟨Sr, Vr⟩; replace Tr := Ar.sl
    have AL : Ag w13 nr (some ⟨ga, 5, none⟩) rs.length (rs.length + 5) rs pr := ⟨LSa.sl (by omega), Ar0.worth⟩; have SL := LSb.sl (by omega)
    change Good _ _ _ _ _ (Act.put a12 (some 22) (.agg #[.bool nr, .slice (some ⟨ga, 5, none⟩) rs.length (rs.length + 5), .slice (some ⟨gb, 5, none⟩) rt.length (rt.length + 5)])) _
    have q_ : 22 < a12.tmps.size := by rw [hn]; decide
    generalize hA_ : Act.put a12 (some 22) (.agg #[.bool nr, .slice (some ⟨ga, 5, none⟩) rs.length (rs.length + 5), .slice (some ⟨gb, 5, none⟩) rt.length (rt.length + 5)]) = a14
    replace hn : a14.tmps.size = 118 := by rw [← hA_, put_tmps]; simp [hn]
    replace hd : a14.defers = [] := by rw [← hA_]; exact hd
    replace f1 : a14.eval (.tmp 1) = .pointer (some ⟨gs1 0, 0, none⟩) := by rw [← hA_]; exact (eval_put_ne (by decide)).trans f1
    replace f2 : a14.eval (.tmp 2) = (.bool false) := by rw [← hA_]; exact (eval_put_ne (by decide)).trans f2
    replace f3 : a14.eval (.tmp 3) = .pointer (some ⟨gLa, 0, none⟩) := by rw [← hA_]; exact (eval_put_ne (by decide)).trans f3
    replace f4 : a14.eval (.tmp 4) = .pointer (some ⟨gLb, 0, none⟩) := by rw [← hA_]; exact (eval_put_ne (by decide)).trans f4
    replace f21 : a14.eval (.tmp 21) = .agg #[.bool nr, .slice ar mr cr, .slice br kr dr] := by rw [← hA_]; exact (eval_put_ne (by decide)).trans f21
    have f22 : a14.eval (.tmp 22) = .agg #[.bool nr, .slice (some ⟨ga, 5, none⟩) rs.length (rs.length + 5), .slice (some ⟨gb, 5, none⟩) rt.length (rt.length + 5)] := by rw [← hA_]; exact eval_put_same q_
    clear q_
    clear hA_
    refine good6 2 4 none [some 21, some 22, some 5, none] [Eqs (.agg #[.bool nr, .slice ar mr cr, .slice br kr dr]), Eqs (.agg #[.bool nr, .slice (some ⟨ga, 5, none⟩) rs.length (rs.length + 5), .slice (some ⟨gb, 5, none⟩) rt.length (rt.length + 5)]), (fun _ _ => True), (fun _ _ => True)] [] [] [⟨R3, some 2, 0, 5, .agg #[.bool false, .slice none 0 0, .slice none 0 0], some (3, 22, 1), []⟩] [] [] (by kernel_rfl) hn rfl (by kernel_rfl) (by kernel_rfl) (by kernel_rfl) (by kernel_rfl) (by kernel_rfl) (by kernel_rfl) (by kernel_rfl) (by kernel_rfl) (by kernel_rfl) (by decide) ⟨Eqs.mono5 _, Eqs.mono5 _, True.mono5, True.mono5, trivial⟩ trivial xok_nil (ok_cons R3ok ok_nil) (IsOld.all (bx := [⟨R3, some 2, 0, 5, .agg #[.bool false, .slice none 0 0, .slice none 0 0], some (3, 22, 1), []⟩]) ⟨someNe, trivial⟩) (DisOld.all (bx := [⟨R3, some 2, 0, 5, .agg #[.bool false, .slice none 0 0, .slice none 0 0], some (3, 22, 1), []⟩]) ⟨someNe, trivial⟩) ⟨⟨trivial, f21⟩, f22⟩ ?_ ?_ ?_
    · exact ⟨.inl rfl,
        .inl rfl,
        .inr (.alloc 0 _ rfl rfl (.inl ⟨rfl, rfl⟩) rfl rfl rfl rfl rfl (nxt rfl) rfl rfl),
        .inr (.store 0 _ _ _ rfl rfl rfl rfl rfl rfl rfl rfl rfl (nxt rfl) (fun ia h => by cases h; rfl) rfl rfl rfl (eqs_cs r3_cs)),
        trivial⟩
    · exact fun _ _ h => by cases h
    intro _ a15 w15 gs15 B15 T15 F_
    obtain ⟨hn15, hd15, hBt, hr, hR, hP, hTs, hLi, hX, hU, hRel, hSl⟩ := F_
    replace hn := hn15; replace hd := hd15.trans hd
    have lq15LSa := LSa.lt
    have lq15LSb := LSb.lt
    replace b1 := b1.keep5 hBt ⟨someNe, trivial⟩ trivial
    have e22 : a15.eval (.tmp 22) = .agg #[.bool nr, .slice (some ⟨ga, 5, none⟩) rs.length (rs.length + 5), .slice (some ⟨gb, 5, none⟩) rt.length (rt.length + 5)] := hP 1 (by decide)
    have b5 : BoxV R3 w15 (gs15 0) (.agg #[.bool nr, .slice (some ⟨ga, 5, none⟩) rs.length (rs.length + 5), .slice (some ⟨gb, 5, none⟩) rt.length (rt.length + 5)]) := boxv_of (hX 0 _ rfl).2.2.2 e22
    have f5 := (hX 0 _ rfl).1
    have v5 := (hX 0 _ rfl).2.2.1 (by simp)
    have u5 : w.heap.size ≤ gs15 0 := Nat.le_trans HB.size v5
    replace f1 := (hR 1 rfl).trans f1
    replace f2 := (hR 2 rfl).trans f2
    replace f3 := (hR 3 rfl).trans f3
    replace f4 := (hR 4 rfl).trans f4
    have hBl_ := hBt.below (Nat.le_refl _) (UpOld.all (bx := [⟨R3, some 2, 0, 5, .agg #[.bool false, .slice none 0 0, .slice none 0 0], some (3, 22, 1), []⟩]) ⟨someNe, trivial⟩) (UpX.all (bx := []) trivial)
    replace Ar := Ar.ru hr
    replace Sr := Sr.ru hr
    replace Dr := Dr.ru hr
    replace Tr := Tr.ru hr
    replace LSa := LSa.below hBl_
    replace LSb := LSb.below hBl_
    replace AL := AL.ru hr
    replace SL := SL.ru hr
    replace HB := HB.trans (hBt.below HB.size (UpOld.all (bx := [⟨R3, some 2, 0, 5, .agg #[.bool false, .slice none 0 0, .slice none 0 0], some (3, 22, 1), []⟩]) ⟨someNe, trivial⟩) (UpX.all (bx := []) trivial))
    clear hBt hr hR hP hTs hLi hX hU hRel hSl
    refine wp_seq ?_
    refine region4 [some 23, some 24, some 6, none] [Eqs (.agg #[.bool nr, .slice (some ⟨ga, 5, none⟩) rs.length (rs.length + 5), .slice (some ⟨gb, 5, none⟩) rt.length (rt.length + 5)]), FrR (w15.heap.size) ((nm (tp pr qr) (tq qr))) ((dn (tp pr qr) (tq qr))) (2 * ((1500) + 2)), (fun _ _ => True), (fun _ _ => True)] [⟨R3, some 2, 0, 6, .agg #[.bool false, .slice none 0 0, .slice none 0 0], some (3, 24, 1), []⟩] [] (by kernel_rfl) hn rfl (by kernel_rfl) (by kernel_rfl) (by kernel_rfl) (by kernel_rfl) (by kernel_rfl) (by kernel_rfl) ⟨Eqs.mono4 _, FrR.mono4 _ _ _ _, True.mono4, True.mono4, trivial⟩ (ok_cons R3ok ok_nil) (IsOld.all (bx := [⟨R3, some 2, 0, 6, .agg #[.bool false, .slice none 0 0, .slice none 0 0], some (3, 24, 1), []⟩]) ⟨someNe, trivial⟩) (DisOld.all (bx := [⟨R3, some 2, 0, 6, .agg #[.bool false, .slice none 0 0, .slice none 0 0], some (3, 24, 1), []⟩]) ⟨someNe, trivial⟩) ?_ ?_
    · exact ⟨.norm 23 rfl rfl rfl (fun a_ w_ hn_ hBt hr hR hD hO hS => op_loadv R3ok ((hR 5 rfl).trans f5) (b5.keep hBt ⟨someNe, trivial⟩)),
        .norm 24 rfl rfl rfl (fun a_ w_ hn_ hBt hr hR hD hO hS => frlow hr.size (op_rtrimF (isr_eq (show a_.eval (.tmp 23) = .agg #[.bool nr, .slice (some ⟨ga, 5, none⟩) rs.length (rs.length + 5), .slice (some ⟨gb, 5, none⟩) rt.length (rt.length + 5)] from hD 0 rfl) (AL.rl hr) (SL.rl hr) Vr Lr Mr) (by omega))),
        .alloc 0 _ rfl rfl (.inl ⟨rfl, rfl⟩) rfl rfl rfl rfl rfl,
        .store 0 _ _ _ rfl rfl rfl rfl rfl rfl rfl (fun ia h => by cases h; rfl) rfl rfl rfl FrR.cs,
        trivial⟩
    intro a16 w16 gs16 hn16 hd16 hBt hr hR hP hX hU
    replace hn := hn16; replace hd := hd16.trans hd
    replace b1 := b1.keep hBt ⟨someNe, trivial⟩
    replace b5 := b5.keep hBt ⟨someNe, trivial⟩
    obtain ⟨T17, ft17, n_17, a_17, c_17, r_17, b_17, d_17, s_17, Bp17, Tp17, Bq17, Tq17, e24, F17, H17, fb17, fd17, l17, k17⟩ : FrR (w15.heap.size) ((nm (tp pr qr) (tq qr))) ((dn (tp pr qr) (tq qr))) (2 * ((1500) + 2)) (a16.eval (.tmp 24)) w16 := hP 1 (by decide)
    have G17 := F17.wh; have K17 := H17.got; have A17 := G17.ag; have S17 := K17.sl; have V17 := K17.val; have HT17 : SzGe T17 w16 := ft17
    have lq17LSa := LSa.lt
    have lq17LSb := LSb.lt
    have b6 : BoxV R3 w16 (gs16 0) (.agg #[.bool n_17, .slice a_17 r_17.length c_17, .slice b_17 s_17.length d_17]) := boxv_of (hX 0 _ rfl).2.2.2 e24
    have f6 := (hX 0 _ rfl).1
    have u6 : w.heap.size ≤ gs16 0 := Nat.le_trans HB.size ((hX 0 _ rfl).2.2.1 (by simp))
    replace f1 := (hR 1 rfl).trans f1
    replace f2 := (hR 2 rfl).trans f2
    replace f3 := (hR 3 rfl).trans f3
    replace f4 := (hR 4 rfl).trans f4
    replace f5 := (hR 5 rfl).trans f5
    replace Ar := Ar.rl hr
    replace Sr := Sr.rl hr
    replace Dr := Dr.rl hr
    replace Tr := Tr.rl hr
    replace AL := AL.rl hr
    replace SL := SL.rl hr
    replace HB := HB.trans (hBt.below HB.size (UpOld.all (bx := [⟨R3, some 2, 0, 6, .agg #[.bool false, .slice none 0 0, .slice none 0 0], some (3, 24, 1), []⟩]) ⟨someNe, trivial⟩))
    have hBl_ := hBt.below (Nat.le_refl _) (UpOld.all (bx := [⟨R3, some 2, 0, 6, .agg #[.bool false, .slice none 0 0, .slice none 0 0], some (3, 24, 1), []⟩]) ⟨someNe, trivial⟩)
    replace LSa := LSa.below hBl_
    replace LSb := LSb.below hBl_
    clear hBt hr hR hP hX hU
    refine wp_seq ?_
    refine region4 [some 25, some 26, some 7, none] [Eqs (.agg #[.bool nr, .slice (some ⟨ga, 5, none⟩) rs.length (rs.length + 5), .slice (some ⟨gb, 5, none⟩) rt.length (rt.length + 5)]), FrW (w16.heap.size) ((tp pr qr / tq qr)) ((1500) + 6), (fun _ _ => True), (fun _ _ => True)] [⟨W2, some 2, 0, 7, .agg #[.bool false, .slice none 0 0], some (3, 26, 1), []⟩] [] (by kernel_rfl) hn rfl (by kernel_rfl) (by kernel_rfl) (by kernel_rfl) (by kernel_rfl) (by kernel_rfl) (by kernel_rfl) ⟨Eqs.mono4 _, FrW.mono4 _ _ _, True.mono4, True.mono4, trivial⟩ (ok_cons W2ok ok_nil) (IsOld.all (bx := [⟨W2, some 2, 0, 7, .agg #[.bool false, .slice none 0 0], some (3, 26, 1), []⟩]) ⟨someNe, trivial⟩) (DisOld.all (bx := [⟨W2, some 2, 0, 7, .agg #[.bool false, .slice none 0 0], some (3, 26, 1), []⟩]) ⟨someNe, trivial⟩) ?_ ?_
    · exact ⟨.norm 25 rfl rfl rfl (fun a_ w_ hn_ hBt hr hR hD hO hS => op_loadv R3ok ((hR 5 rfl).trans f5) (b5.keep hBt ⟨someNe, trivial⟩)),
        .norm 26 rfl rfl rfl (fun a_ w_ hn_ hBt hr hR hD hO hS => frw1 hr.size (op_rfloorF (isr_eq (show a_.eval (.tmp 25) = .agg #[.bool nr, .slice (some ⟨ga, 5, none⟩) rs.length (rs.length + 5), .slice (some ⟨gb, 5, none⟩) rt.length (rt.length + 5)] from hD 0 rfl) (AL.rl hr) (SL.rl hr) Vr Lr Mr) (by omega))),
        .alloc 0 _ rfl rfl (.inl ⟨rfl, rfl⟩) rfl rfl rfl rfl rfl,
        .store 0 _ _ _ rfl rfl rfl rfl rfl rfl rfl (fun ia h => by cases h; rfl) rfl rfl rfl FrW.cs,
        trivial⟩
    intro a18 w18 gs18 hn18 hd18 hBt hr hR hP hX hU
    replace hn := hn18; replace hd := hd18.trans hd
    replace b1 := b1.keep hBt ⟨someNe, trivial⟩
    replace b5 := b5.keep hBt ⟨someNe, trivial⟩
    replace b6 := b6.keep hBt ⟨someNe, trivial⟩
    obtain ⟨n_19, a_19, c_19, r_19, B19, T19, e26, F19, fb19, ft19, l19⟩ : FrW (w16.heap.size) ((tp pr qr / tq qr)) ((1500) + 6) (a18.eval (.tmp 26)) w18 := hP 1 (by decide)
    have G19 := F19.wh; have A19 := G19.ag
    have lq19LSa := LSa.lt
    have lq19LSb := LSb.lt
    have lq19HT17 := HT17.le
    have HT19 : SzGe T19 w18 := ft19
    have b7 : BoxV W2 w18 (gs18 0) (.agg #[.bool n_19, .slice a_19 r_19.length c_19]) := boxv_of (hX 0 _ rfl).2.2.2 e26
    have f7 := (hX 0 _ rfl).1
    have u7 : w.heap.size ≤ gs18 0 := Nat.le_trans HB.size ((hX 0 _ rfl).2.2.1 (by simp))
    replace f1 := (hR 1 rfl).trans f1
    replace f2 := (hR 2 rfl).trans f2
    replace f3 := (hR 3 rfl).trans f3
    replace f4 := (hR 4 rfl).trans f4
    replace f5 := (hR 5 rfl).trans f5
    replace f6 := (hR 6 rfl).trans f6
    replace Ar := Ar.rl hr
    replace Sr := Sr.rl hr
    replace Dr := Dr.rl hr
    replace Tr := Tr.rl hr
    replace AL := AL.rl hr
    replace SL := SL.rl hr
    replace F17 := F17.rl hr
    replace H17 := H17.rl hr
    replace G17 := G17.rl hr
    replace A17 := A17.rl hr
    replace K17 := K17.rl hr
    replace S17 := S17.rl hr
    replace HT17 := HT17.rl hr
    replace HB := HB.trans (hBt.below HB.size (UpOld.all (bx := [⟨W2, some 2, 0, 7, .agg #[.bool false, .slice none 0 0], some (3, 26, 1), []⟩]) ⟨someNe, trivial⟩))
    have hBl_ := hBt.below (Nat.le_refl _) (UpOld.all (bx := [⟨W2, some 2, 0, 7, .agg #[.bool false, .slice none 0 0], some (3, 26, 1), []⟩]) ⟨someNe, trivial⟩)
    replace LSa := LSa.below hBl_
    replace LSb := LSb.below hBl_
    clear hBt hr hR hP hX hU
    refine wp_seq ?_
    refine region4 [some 27, some 28, some 8, none] [Eqs (.agg #[.bool nr, .slice (some ⟨ga, 5, none⟩) rs.length (rs.length + 5), .slice (some ⟨gb, 5, none⟩) rt.length (rt.length + 5)]), FrR (w18.heap.size) ((nm (-(tp pr qr)) (tq qr))) ((dn (-(tp pr qr)) (tq qr))) (2 * ((1500) + 2)), (fun _ _ => True), (fun _ _ => True)] [⟨R3, some 2, 0, 8, .agg #[.bool false, .slice none 0 0, .slice none 0 0], some (3, 28, 1), []⟩] [] (by kernel_rfl) hn rfl (by kernel_rfl) (by kernel_rfl) (by kernel_rfl) (by kernel_rfl) (by kernel_rfl) (by kernel_rfl) ⟨Eqs.mono4 _, FrR.mono4 _ _ _ _, True.mono4, True.mono4, trivial⟩ (ok_cons R3ok ok_nil) (IsOld.all (bx := [⟨R3, some 2, 0, 8, .agg #[.bool false, .slice none 0 0, .slice none 0 0], some (3, 28, 1), []⟩]) ⟨someNe, trivial⟩) (DisOld.all (bx := [⟨R3, some 2, 0, 8, .agg #[.bool false, .slice none 0 0, .slice none 0 0], some (3, 28, 1), []⟩]) ⟨someNe, trivial⟩) ?_ ?_
    · exact ⟨.norm 27 rfl rfl rfl (fun a_ w_ hn_ hBt hr hR hD hO hS => op_loadv R3ok ((hR 5 rfl).trans f5) (b5.keep hBt ⟨someNe, trivial⟩)),
        .norm 28 rfl rfl rfl (fun a_ w_ hn_ hBt hr hR hD hO hS => frlow hr.size (op_rnegF (isr_eq (show a_.eval (.tmp 27) = .agg #[.bool nr, .slice (some ⟨ga, 5, none⟩) rs.length (rs.length + 5), .slice (some ⟨gb, 5, none⟩) rt.length (rt.length + 5)] from hD 0 rfl) (AL.rl hr) (SL.rl hr) Vr Lr Mr) (by omega))),
        .alloc 0 _ rfl rfl (.inl ⟨rfl, rfl⟩) rfl rfl rfl rfl rfl,
        .store 0 _ _ _ rfl rfl rfl rfl rfl rfl rfl (fun ia h => by cases h; rfl) rfl rfl rfl FrR.cs,
        trivial⟩
    intro a20 w20 gs20 hn20 hd20 hBt hr hR hP hX hU
    replace hn := hn20; replace hd := hd20.trans hd
    replace b1 := b1.keep hBt ⟨someNe, trivial⟩
    replace b5 := b5.keep hBt ⟨someNe, trivial⟩
    replace b6 := b6.keep hBt ⟨someNe, trivial⟩
    replace b7 := b7.keep hBt ⟨someNe, trivial⟩
    obtain ⟨T21, ft21, n_21, a_21, c_21, r_21, b_21, d_21, s_21, Bp21, Tp21, Bq21, Tq21, e28, F21, H21, fb21, fd21, l21, k21⟩ : FrR (w18.heap.size) ((nm (-(tp pr qr)) (tq qr))) ((dn (-(tp pr qr)) (tq qr))) (2 * ((1500) + 2)) (a20.eval (.tmp 28)) w20 := hP 1 (by decide)
    have G21 := F21.wh; have K21 := H21.got; have A21 := G21.ag; have S21 := K21.sl; have V21 := K21.val; have HT21 : SzGe T21 w20 := ft21
    have lq21LSa := LSa.lt
    have lq21LSb := LSb.lt
    have lq21HT17 := HT17.le
    have lq21HT19 := HT19.le
    have b8 : BoxV R3 w20 (gs20 0) (.agg #[.bool n_21, .slice a_21 r_21.length c_21, .slice b_21 s_21.length d_21]) := boxv_of (hX 0 _ rfl).2.2.2 e28
    have f8 := (hX 0 _ rfl).1
    have u8 : w.heap.size ≤ gs20 0 := Nat.le_trans HB.size ((hX 0 _ rfl).2.2.1 (by simp))
    replace f1 := (hR 1 rfl).trans f1
    replace f2 := (hR 2 rfl).trans f2
    replace f3 := (hR 3 rfl).trans f3
    replace f4 := (hR 4 rfl).trans f4
    replace f5 := (hR 5 rfl).trans f5
    replace f6 := (hR 6 rfl).trans f6
    replace f7 := (hR 7 rfl).trans f7
    replace Ar := Ar.rl hr
    replace Sr := Sr.rl hr
    replace Dr := Dr.rl hr
    replace Tr := Tr.rl hr
    replace AL := AL.rl hr
    replace SL := SL.rl hr
    replace F17 := F17.rl hr
    replace H17 := H17.rl hr
    replace G17 := G17.rl hr
    replace A17 := A17.rl hr
    replace K17 := K17.rl hr
    replace S17 := S17.rl hr
    replace HT17 := HT17.rl hr
    replace F19 := F19.rl hr
    replace G19 := G19.rl hr
    replace A19 := A19.rl hr
    replace HT19 := HT19.rl hr
    replace HB := HB.trans (hBt.below HB.size (UpOld.all (bx := [⟨R3, some 2, 0, 8, .agg #[.bool false, .slice none 0 0, .slice none 0 0], some (3, 28, 1), []⟩]) ⟨someNe, trivial⟩))
    have hBl_ := hBt.below (Nat.le_refl _) (UpOld.all (bx := [⟨R3, some 2, 0, 8, .agg #[.bool false, .slice none 0 0, .slice none 0 0], some (3, 28, 1), []⟩]) ⟨someNe, trivial⟩)
    replace LSa := LSa.below hBl_
    replace LSb := LSb.below hBl_
    clear hBt hr hR hP hX hU
    refine wp_seq ?_
    refine region4 [some 30, some 31, some 29, some 32, some 33, some 9, none, some 10] [Eqs (.agg #[.bool nr, .slice (some ⟨ga, 5, none⟩) rs.length (rs.length + 5), .slice (some ⟨gb, 5, none⟩) rt.length (rt.length + 5)]), Tup2 (FrW (w20.heap.size) ((wZ (tp pr qr) (tq qr))) ((1500) + 6)) (Eqs (.bool (wB (tp pr qr) (tq qr)))), Tup2 (FrW (w20.heap.size) ((wZ (tp pr qr) (tq qr))) ((1500) + 6)) (Eqs (.bool (wB (tp pr qr) (tq qr)))), FrW (w20.heap.size) ((wZ (tp pr qr) (tq qr))) ((1500) + 6), Eqs (.bool (wB (tp pr qr) (tq qr))), (fun _ _ => True), (fun _ _ => True), Eqs (.bool (wB (tp pr qr) (tq qr)))] [⟨W2, some 5, 0, 9, .agg #[.bool false, .slice none 0 0], some (6, 32, 3), []⟩] [] (by kernel_rfl) hn rfl (by kernel_rfl) (by kernel_rfl) (by kernel_rfl) (by kernel_rfl) (by kernel_rfl) (by kernel_rfl) ⟨Eqs.mono4 _, Tup2.mono4 (FrW.mono4 _ _ _) (Eqs.mono4 _), Tup2.mono4 (FrW.mono4 _ _ _) (Eqs.mono4 _), FrW.mono4 _ _ _, Eqs.mono4 _, True.mono4, True.mono4, Eqs.mono4 _, trivial⟩ (ok_cons W2ok ok_nil) (IsOld.all (bx := [⟨W2, some 5, 0, 9, .agg #[.bool false, .slice none 0 0], some (6, 32, 3), []⟩]) ⟨someNe, trivial⟩) (DisOld.all (bx := [⟨W2, some 5, 0, 9, .agg #[.bool false, .slice none 0 0], some (6, 32, 3), []⟩]) ⟨someNe, trivial⟩) ?_ ?_
    · exact ⟨.norm 30 rfl rfl rfl (fun a_ w_ hn_ hBt hr hR hD hO hS => op_loadv R3ok ((hR 5 rfl).trans f5) (b5.keep hBt ⟨someNe, trivial⟩)),
        .norm 31 rfl rfl rfl (fun a_ w_ hn_ hBt hr hR hD hO hS => frwlow hr.size (op_rwholeU (isr_eq (show a_.eval (.tmp 30) = .agg #[.bool nr, .slice (some ⟨ga, 5, none⟩) rs.length (rs.length + 5), .slice (some ⟨gb, 5, none⟩) rt.length (rt.length + 5)] from hD 0 rfl) (AL.rl hr) (SL.rl hr) Vr Lr Mr) (by omega))),
        .norm 29 rfl rfl rfl (fun a_ w_ hn_ hBt hr hR hD hO hS => op_mvp (p := Tup2 (FrW (w20.heap.size) ((wZ (tp pr qr) (tq qr))) ((1500) + 6)) (Eqs (.bool (wB (tp pr qr) (tq qr))))) (show Tup2 (FrW (w20.heap.size) ((wZ (tp pr qr) (tq qr))) ((1500) + 6)) (Eqs (.bool (wB (tp pr qr) (tq qr)))) (a_.eval (.tmp 31)) w_ from hD 1 rfl)),
        .norm 32 rfl rfl rfl (fun a_ w_ hn_ hBt hr hR hD hO hS => op_ex20 (show Tup2 (FrW (w20.heap.size) ((wZ (tp pr qr) (tq qr))) ((1500) + 6)) (Eqs (.bool (wB (tp pr qr) (tq qr)))) (a_.eval (.tmp 29)) w_ from hD 2 rfl)),
        .norm 33 rfl rfl rfl (fun a_ w_ hn_ hBt hr hR hD hO hS => op_ex21 (show Tup2 (FrW (w20.heap.size) ((wZ (tp pr qr) (tq qr))) ((1500) + 6)) (Eqs (.bool (wB (tp pr qr) (tq qr)))) (a_.eval (.tmp 29)) w_ from hD 2 rfl)),
        .alloc 0 _ rfl rfl (.inl ⟨rfl, rfl⟩) rfl rfl rfl rfl rfl,
        .store 0 _ _ _ rfl rfl rfl rfl rfl rfl rfl (fun ia h => by cases h; rfl) rfl rfl rfl FrW.cs,
        .norm 10 rfl rfl rfl (fun a_ w_ hn_ hBt hr hR hD hO hS => op_assign (show a_.eval (.tmp 33) = .bool (wB (tp pr qr) (tq qr)) from hD 4 rfl)),
        trivial⟩
    intro a22 w22 gs22 hn22 hd22 hBt hr hR hP hX hU
    replace hn := hn22; replace hd := hd22.trans hd
    replace b1 := b1.keep hBt ⟨someNe, trivial⟩
    replace b5 := b5.keep hBt ⟨someNe, trivial⟩
    replace b6 := b6.keep hBt ⟨someNe, trivial⟩
    replace b7 := b7.keep hBt ⟨someNe, trivial⟩
    replace b8 := b8.keep hBt ⟨someNe, trivial⟩
    obtain ⟨n_23, a_23, c_23, r_23, B23, T23, e32, F23, fb23, ft23, l23⟩ : FrW (w20.heap.size) ((wZ (tp pr qr) (tq qr))) ((1500) + 6) (a22.eval (.tmp 32)) w22 := hP 3 (by decide)
    have G23 := F23.wh; have A23 := G23.ag
    have lq23LSa := LSa.lt
    have lq23LSb := LSb.lt
    have lq23HT17 := HT17.le
    have lq23HT19 := HT19.le
    have lq23HT21 := HT21.le
    have HT23 : SzGe T23 w22 := ft23
    have b9 : BoxV W2 w22 (gs22 0) (.agg #[.bool n_23, .slice a_23 r_23.length c_23]) := boxv_of (hX 0 _ rfl).2.2.2 e32
    have f9 := (hX 0 _ rfl).1
    have u9 : w.heap.size ≤ gs22 0 := Nat.le_trans HB.size ((hX 0 _ rfl).2.2.1 (by simp))
    replace f1 := (hR 1 rfl).trans f1
    replace f2 := (hR 2 rfl).trans f2
    replace f3 := (hR 3 rfl).trans f3
    replace f4 := (hR 4 rfl).trans f4
    replace f5 := (hR 5 rfl).trans f5
    replace f6 := (hR 6 rfl).trans f6
    replace f7 := (hR 7 rfl).trans f7
    replace f8 := (hR 8 rfl).trans f8
    have e10 : a22.eval (.tmp 10) = .bool (wB (tp pr qr) (tq qr)) := hP 7 (by decide)
    have f10 := e10
    replace Ar := Ar.rl hr
    replace Sr := Sr.rl hr
    replace Dr := Dr.rl hr
    replace Tr := Tr.rl hr
    replace AL := AL.rl hr
    replace SL := SL.rl hr
    replace F17 := F17.rl hr
    replace H17 := H17.rl hr
    replace G17 := G17.rl hr
    replace A17 := A17.rl hr
    replace K17 := K17.rl hr
    replace S17 := S17.rl hr
    replace HT17 := HT17.rl hr
    replace F19 := F19.rl hr
    replace G19 := G19.rl hr
    replace A19 := A19.rl hr
    replace HT19 := HT19.rl hr
    replace F21 := F21.rl hr
    replace H21 := H21.rl hr
    replace G21 := G21.rl hr
    replace A21 := A21.rl hr
    replace K21 := K21.rl hr
    replace S21 := S21.rl hr
    replace HT21 := HT21.rl hr
    replace HB := HB.trans (hBt.below HB.size (UpOld.all (bx := [⟨W2, some 5, 0, 9, .agg #[.bool false, .slice none 0 0], some (6, 32, 3), []⟩]) ⟨someNe, trivial⟩))
    have hBl_ := hBt.below (Nat.le_refl _) (UpOld.all (bx := [⟨W2, some 5, 0, 9, .agg #[.bool false, .slice none 0 0], some (6, 32, 3), []⟩]) ⟨someNe, trivial⟩)
    replace LSa := LSa.below hBl_
    replace LSb := LSb.below hBl_
    clear hBt hr hR hP hX hU
    refine wp_seq ?_
    refine region4 [some 34, some 35, some 11] [Eqs (.agg #[.bool nr, .slice (some ⟨ga, 5, none⟩) rs.length (rs.length + 5), .slice (some ⟨gb, 5, none⟩) rt.length (rt.length + 5)]), Eqs (.int .i64 (Int.sign (tp pr qr))), Eqs (.int .i64 (Int.sign (tp pr qr)))] [] [] (by kernel_rfl) hn rfl (by kernel_rfl) (by kernel_rfl) (by kernel_rfl) (by kernel_rfl) (by kernel_rfl) (by kernel_rfl) ⟨Eqs.mono4 _, Eqs.mono4 _, Eqs.mono4 _, trivial⟩ ok_nil (IsOld.all (bx := []) trivial) (DisOld.all (bx := []) trivial) ?_ ?_
    · exact ⟨.norm 34 rfl rfl rfl (fun a_ w_ hn_ hBt hr hR hD hO hS => op_loadv R3ok ((hR 5 rfl).trans f5) (b5.keep hBt trivial)),
        .norm 35 rfl rfl rfl (fun a_ w_ hn_ hBt hr hR hD hO hS => op_rsign (isr_eq (show a_.eval (.tmp 34) = .agg #[.bool nr, .slice (some ⟨ga, 5, none⟩) rs.length (rs.length + 5), .slice (some ⟨gb, 5, none⟩) rt.length (rt.length + 5)] from hD 0 rfl) (AL.rl hr) (SL.rl hr) Vr Lr Mr) (by omega)),
        .norm 11 rfl rfl rfl (fun a_ w_ hn_ hBt hr hR hD hO hS => op_assign (show a_.eval (.tmp 35) = .int .i64 (Int.sign (tp pr qr)) from hD 1 rfl)),
        trivial⟩
    intro a24 w24 gs24 hn24 hd24 hBt hr hR hP hX hU
    replace hn := hn24; replace hd := hd24.trans hd
    replace b1 := b1.keep hBt trivial
    replace b5 := b5.keep hBt trivial
    replace b6 := b6.keep hBt trivial
    replace b7 := b7.keep hBt trivial
    replace b8 := b8.keep hBt trivial
    replace b9 := b9.keep hBt trivial
    replace f1 := (hR 1 rfl).trans f1
    replace f2 := (hR 2 rfl).trans f2
    replace f3 := (hR 3 rfl).trans f3
    replace f4 := (hR 4 rfl).trans f4
    replace f5 := (hR 5 rfl).trans f5
    replace f6 := (hR 6 rfl).trans f6
    replace f7 := (hR 7 rfl).trans f7
    replace f8 := (hR 8 rfl).trans f8
    replace f9 := (hR 9 rfl).trans f9
    replace f10 := (hR 10 rfl).trans f10
    have e11 : a24.eval (.tmp 11) = .int .i64 (Int.sign (tp pr qr)) := hP 2 (by decide)
    have f11 := e11
    replace Ar := Ar.rl hr
    replace Sr := Sr.rl hr
    replace Dr := Dr.rl hr
    replace Tr := Tr.rl hr
    replace AL := AL.rl hr
    replace SL := SL.rl hr
    replace F17 := F17.rl hr
    replace H17 := H17.rl hr
    replace G17 := G17.rl hr
    replace A17 := A17.rl hr
    replace K17 := K17.rl hr
    replace S17 := S17.rl hr
    replace HT17 := HT17.rl hr
    replace F19 := F19.rl hr
    replace G19 := G19.rl hr
    replace A19 := A19.rl hr
    replace HT19 := HT19.rl hr
    replace F21 := F21.rl hr
    replace H21 := H21.rl hr
    replace G21 := G21.rl hr
    replace A21 := A21.rl hr
    replace K21 := K21.rl hr
    replace S21 := S21.rl hr
    replace HT21 := HT21.rl hr
    replace F23 := F23.rl hr
    replace G23 := G23.rl hr
    replace A23 := A23.rl hr
    replace HT23 := HT23.rl hr
    replace HB := HB.trans (hBt.below HB.size (UpOld.all (bx := []) trivial))
    have hBl_ := hBt.below (Nat.le_refl _) (UpOld.all (bx := []) trivial)
    replace LSa := LSa.below hBl_
    replace LSb := LSb.below hBl_
    clear hBt hr hR hP hX hU
    refine wp_seq ?_
    refine region4 [some 36, some 37, some 12] [Eqs (.agg #[.bool nr, .slice (some ⟨ga, 5, none⟩) rs.length (rs.length + 5), .slice (some ⟨gb, 5, none⟩) rt.length (rt.length + 5)]), Eqs (.int .i64 ((max mP mQ : Nat) : Int)), Eqs (.int .i64 ((max mP mQ : Nat) : Int))] [] [] (by kernel_rfl) hn rfl (by kernel_rfl) (by kernel_rfl) (by kernel_rfl) (by kernel_rfl) (by kernel_rfl) (by kernel_rfl) ⟨Eqs.mono4 _, Eqs.mono4 _, Eqs.mono4 _, trivial⟩ ok_nil (IsOld.all (bx := []) trivial) (DisOld.all (bx := []) trivial) ?_ ?_
    · exact ⟨.norm 36 rfl rfl rfl (fun a_ w_ hn_ hBt hr hR hD hO hS => op_loadv R3ok ((hR 5 rfl).trans f5) (b5.keep hBt trivial)),
        .norm 37 rfl rfl rfl (fun a_ w_ hn_ hBt hr hR hD hO hS => op_rlimbs (isr_eq (show a_.eval (.tmp 36) = .agg #[.bool nr, .slice (some ⟨ga, 5, none⟩) rs.length (rs.length + 5), .slice (some ⟨gb, 5, none⟩) rt.length (rt.length + 5)] from hD 0 rfl) (AL.rl hr) (SL.rl hr) Vr Lr Mr) (by omega) mP mQ hmP hmQ'),
        .norm 12 rfl rfl rfl (fun a_ w_ hn_ hBt hr hR hD hO hS => op_assign (show a_.eval (.tmp 37) = .int .i64 ((max mP mQ : Nat) : Int) from hD 1 rfl)),
        trivial⟩
    intro a25 w25 gs25 hn25 hd25 hBt hr hR hP hX hU
    replace hn := hn25; replace hd := hd25.trans hd
    replace b1 := b1.keep hBt trivial
    replace b6 := b6.keep hBt trivial
    replace b7 := b7.keep hBt trivial
    replace b8 := b8.keep hBt trivial
    replace b9 := b9.keep hBt trivial
    replace f1 := (hR 1 rfl).trans f1
    replace f2 := (hR 2 rfl).trans f2
    replace f3 := (hR 3 rfl).trans f3
    replace f4 := (hR 4 rfl).trans f4
    replace f6 := (hR 6 rfl).trans f6
    replace f7 := (hR 7 rfl).trans f7
    replace f8 := (hR 8 rfl).trans f8
    replace f9 := (hR 9 rfl).trans f9
    replace f10 := (hR 10 rfl).trans f10
    replace f11 := (hR 11 rfl).trans f11
    have e12 : a25.eval (.tmp 12) = .int .i64 ((max mP mQ : Nat) : Int) := hP 2 (by decide)
    have f12 := e12
    replace Ar := Ar.rl hr
    replace Sr := Sr.rl hr
    replace Dr := Dr.rl hr
    replace Tr := Tr.rl hr
    replace AL := AL.rl hr
    replace SL := SL.rl hr
    replace F17 := F17.rl hr
    replace H17 := H17.rl hr
    replace G17 := G17.rl hr
    replace A17 := A17.rl hr
    replace K17 := K17.rl hr
    replace S17 := S17.rl hr
    replace HT17 := HT17.rl hr
    replace F19 := F19.rl hr
    replace G19 := G19.rl hr
    replace A19 := A19.rl hr
    replace HT19 := HT19.rl hr
    replace F21 := F21.rl hr
    replace H21 := H21.rl hr
    replace G21 := G21.rl hr
    replace A21 := A21.rl hr
    replace K21 := K21.rl hr
    replace S21 := S21.rl hr
    replace HT21 := HT21.rl hr
    replace F23 := F23.rl hr
    replace G23 := G23.rl hr
    replace A23 := A23.rl hr
    replace HT23 := HT23.rl hr
    replace HB := HB.trans (hBt.below HB.size (UpOld.all (bx := []) trivial))
    have hBl_ := hBt.below (Nat.le_refl _) (UpOld.all (bx := []) trivial)
    replace LSa := LSa.below hBl_
    replace LSb := LSb.below hBl_
    clear hBt hr hR hP hX hU
    refine wp_seq ?_
    refine region4 [some 39, some 40, some 38, some 41, some 42, some 13, none, some 14] [Eqs (.agg #[.bool nr, .slice ar mr cr, .slice br kr dr]), Tup2 (FrW (w25.heap.size) ((wZ (tp pr qr) (tq qr))) (6 * (1500) + 10)) (Eqs (.bool (wB (tp pr qr) (tq qr)))), Tup2 (FrW (w25.heap.size) ((wZ (tp pr qr) (tq qr))) (6 * (1500) + 10)) (Eqs (.bool (wB (tp pr qr) (tq qr)))), FrW (w25.heap.size) ((wZ (tp pr qr) (tq qr))) (6 * (1500) + 10), Eqs (.bool (wB (tp pr qr) (tq qr))), (fun _ _ => True), (fun _ _ => True), Eqs (.bool (wB (tp pr qr) (tq qr)))] [⟨W2, some 5, 0, 13, .agg #[.bool false, .slice none 0 0], some (6, 41, 3), []⟩] [] (by kernel_rfl) hn rfl (by kernel_rfl) (by kernel_rfl) (by kernel_rfl) (by kernel_rfl) (by kernel_rfl) (by kernel_rfl) ⟨Eqs.mono4 _, Tup2.mono4 (FrW.mono4 _ _ _) (Eqs.mono4 _), Tup2.mono4 (FrW.mono4 _ _ _) (Eqs.mono4 _), FrW.mono4 _ _ _, Eqs.mono4 _, True.mono4, True.mono4, Eqs.mono4 _, trivial⟩ (ok_cons W2ok ok_nil) (IsOld.all (bx := [⟨W2, some 5, 0, 13, .agg #[.bool false, .slice none 0 0], some (6, 41, 3), []⟩]) ⟨someNe, trivial⟩) (DisOld.all (bx := [⟨W2, some 5, 0, 13, .agg #[.bool false, .slice none 0 0], some (6, 41, 3), []⟩]) ⟨someNe, trivial⟩) ?_ ?_
    · exact ⟨.norm 39 rfl rfl rfl (fun a_ w_ hn_ hBt hr hR hD hO hS => op_loadv R3ok ((hR 1 rfl).trans f1) (b1.keep hBt ⟨someNe, trivial⟩)),
        .norm 40 rfl rfl rfl (fun a_ w_ hn_ hBt hr hR hD hO hS => frwlow hr.size (op_q3wholeU (isr_eq (show a_.eval (.tmp 39) = .agg #[.bool nr, .slice ar mr cr, .slice br kr dr] from hD 0 rfl) (Ar.rl hr) (Sr.rl hr) Vr Lr Mr) (by omega) hq0)),
        .norm 38 rfl rfl rfl (fun a_ w_ hn_ hBt hr hR hD hO hS => op_mvp (p := Tup2 (FrW (w25.heap.size) ((wZ (tp pr qr) (tq qr))) (6 * (1500) + 10)) (Eqs (.bool (wB (tp pr qr) (tq qr))))) (show Tup2 (FrW (w25.heap.size) ((wZ (tp pr qr) (tq qr))) (6 * (1500) + 10)) (Eqs (.bool (wB (tp pr qr) (tq qr)))) (a_.eval (.tmp 40)) w_ from hD 1 rfl)),
        .norm 41 rfl rfl rfl (fun a_ w_ hn_ hBt hr hR hD hO hS => op_ex20 (show Tup2 (FrW (w25.heap.size) ((wZ (tp pr qr) (tq qr))) (6 * (1500) + 10)) (Eqs (.bool (wB (tp pr qr) (tq qr)))) (a_.eval (.tmp 38)) w_ from hD 2 rfl)),
        .norm 42 rfl rfl rfl (fun a_ w_ hn_ hBt hr hR hD hO hS => op_ex21 (show Tup2 (FrW (w25.heap.size) ((wZ (tp pr qr) (tq qr))) (6 * (1500) + 10)) (Eqs (.bool (wB (tp pr qr) (tq qr)))) (a_.eval (.tmp 38)) w_ from hD 2 rfl)),
        .alloc 0 _ rfl rfl (.inl ⟨rfl, rfl⟩) rfl rfl rfl rfl rfl,
        .store 0 _ _ _ rfl rfl rfl rfl rfl rfl rfl (fun ia h => by cases h; rfl) rfl rfl rfl FrW.cs,
        .norm 14 rfl rfl rfl (fun a_ w_ hn_ hBt hr hR hD hO hS => op_assign (show a_.eval (.tmp 42) = .bool (wB (tp pr qr) (tq qr)) from hD 4 rfl)),
        trivial⟩
    intro a26 w26 gs26 hn26 hd26 hBt hr hR hP hX hU
    replace hn := hn26; replace hd := hd26.trans hd
    replace b1 := b1.keep hBt ⟨someNe, trivial⟩
    replace b6 := b6.keep hBt ⟨someNe, trivial⟩
    replace b7 := b7.keep hBt ⟨someNe, trivial⟩
    replace b8 := b8.keep hBt ⟨someNe, trivial⟩
    replace b9 := b9.keep hBt ⟨someNe, trivial⟩
    obtain ⟨n_27, a_27, c_27, r_27, B27, T27, e41, F27, fb27, ft27, l27⟩ : FrW (w25.heap.size) ((wZ (tp pr qr) (tq qr))) (6 * (1500) + 10) (a26.eval (.tmp 41)) w26 := hP 3 (by decide)
    have G27 := F27.wh; have A27 := G27.ag
    have lq27LSa := LSa.lt
    have lq27LSb := LSb.lt
    have lq27HT17 := HT17.le
    have lq27HT19 := HT19.le
    have lq27HT21 := HT21.le
    have lq27HT23 := HT23.le
    have HT27 : SzGe T27 w26 := ft27
    have b13 : BoxV W2 w26 (gs26 0) (.agg #[.bool n_27, .slice a_27 r_27.length c_27]) := boxv_of (hX 0 _ rfl).2.2.2 e41
    have f13 := (hX 0 _ rfl).1
    have u13 : w.heap.size ≤ gs26 0 := Nat.le_trans HB.size ((hX 0 _ rfl).2.2.1 (by simp))
    replace f1 := (hR 1 rfl).trans f1
    replace f2 := (hR 2 rfl).trans f2
    replace f3 := (hR 3 rfl).trans f3
    replace f4 := (hR 4 rfl).trans f4
    replace f6 := (hR 6 rfl).trans f6
    replace f7 := (hR 7 rfl).trans f7
    replace f8 := (hR 8 rfl).trans f8
    replace f9 := (hR 9 rfl).trans f9
    replace f10 := (hR 10 rfl).trans f10
    replace f11 := (hR 11 rfl).trans f11
    replace f12 := (hR 12 rfl).trans f12
    have e14 : a26.eval (.tmp 14) = .bool (wB (tp pr qr) (tq qr)) := hP 7 (by decide)
    have f14 := e14
    replace Ar := Ar.rl hr
    replace Sr := Sr.rl hr
    replace Dr := Dr.rl hr
    replace Tr := Tr.rl hr
    replace AL := AL.rl hr
    replace SL := SL.rl hr
    replace F17 := F17.rl hr
    replace H17 := H17.rl hr
    replace G17 := G17.rl hr
    replace A17 := A17.rl hr
    replace K17 := K17.rl hr
    replace S17 := S17.rl hr
    replace HT17 := HT17.rl hr
    replace F19 := F19.rl hr
    replace G19 := G19.rl hr
    replace A19 := A19.rl hr
    replace HT19 := HT19.rl hr
    replace F21 := F21.rl hr
    replace H21 := H21.rl hr
    replace G21 := G21.rl hr
    replace A21 := A21.rl hr
    replace K21 := K21.rl hr
    replace S21 := S21.rl hr
    replace HT21 := HT21.rl hr
    replace F23 := F23.rl hr
    replace G23 := G23.rl hr
    replace A23 := A23.rl hr
    replace HT23 := HT23.rl hr
    replace HB := HB.trans (hBt.below HB.size (UpOld.all (bx := [⟨W2, some 5, 0, 13, .agg #[.bool false, .slice none 0 0], some (6, 41, 3), []⟩]) ⟨someNe, trivial⟩))
    have hBl_ := hBt.below (Nat.le_refl _) (UpOld.all (bx := [⟨W2, some 5, 0, 13, .agg #[.bool false, .slice none 0 0], some (6, 41, 3), []⟩]) ⟨someNe, trivial⟩)
    replace LSa := LSa.below hBl_
    replace LSb := LSb.below hBl_
    clear hBt hr hR hP hX hU
    refine wp_seq ?_
    refine wp_seq ?_
    refine wp_of_good (by kernel_rfl) (by kernel_rfl) (fun w_0 hb_0 => ?_)
    replace b1 := b1.below hb_0
    replace b6 := b6.below hb_0
    replace b7 := b7.below hb_0
    replace b8 := b8.below hb_0
    replace b9 := b9.below hb_0
    replace b13 := b13.below hb_0
    replace Ar := Ar.below hb_0
    replace Sr := Sr.below hb_0
    replace Dr := Dr.below hb_0
    replace Tr := Tr.below hb_0
    replace AL := AL.below hb_0
    replace SL := SL.below hb_0
    replace F17 := F17.below hb_0
    replace H17 := H17.below hb_0
    replace G17 := G17.below hb_0
    replace A17 := A17.below hb_0
    replace K17 := K17.below hb_0
    replace S17 := S17.below hb_0
    replace HT17 := HT17.below hb_0
    replace F19 := F19.below hb_0
    replace G19 := G19.below hb_0
    replace A19 := A19.below hb_0
    replace HT19 := HT19.below hb_0
    replace F21 := F21.below hb_0
    replace H21 := H21.below hb_0
    replace G21 := G21.below hb_0
    replace A21 := A21.below hb_0
    replace K21 := K21.below hb_0
    replace S21 := S21.below hb_0
    replace HT21 := HT21.below hb_0
    replace F23 := F23.below hb_0
    replace G23 := G23.below hb_0
    replace A23 := A23.below hb_0
    replace HT23 := HT23.below hb_0
    replace F27 := F27.below hb_0
    replace G27 := G27.below hb_0
    replace A27 := A27.below hb_0
    replace HT27 := HT27.below hb_0
    replace LSa := LSa.below hb_0
    replace LSb := LSb.below hb_0
    replace HB := HB.trans (hb_0.mono HB.size); clear hb_0
    refine good6 0 3 (some 3) [some 43, some 44, some 45, some 46, some 47, some 48, some 49, some 50, some 51, some 52, some 53, some 54, some 55, some 56, some 57, some 58, some 59, some 60, some 61, some 62, some 63, some 64, some 65, some 66, some 67, some 68, some 69, some 70] [Eqs (.pointer (some ⟨gs1 0, 0, none⟩)), Eqs (.pointer (some ⟨gs1 0, 1, none⟩)), Eqs (.slice ar mr cr), (fun _ _ => True), (fun _ _ => True), (fun _ _ => True), (fun _ _ => True), (fun _ _ => True), (fun _ _ => True), (fun _ _ => True), (fun _ _ => True), (fun _ _ => True), (fun _ _ => True), (fun _ _ => True), (fun _ _ => True), (fun _ _ => True), (fun _ _ => True), (fun _ _ => True), (fun _ _ => True), (fun _ _ => True), (fun _ _ => True), (fun _ _ => True), (fun _ _ => True), (fun _ _ => True), (fun _ _ => True), (fun _ _ => True), (fun _ _ => True), (fun _ _ => True)] [] [] [] [] [] (by kernel_rfl) hn rfl (by kernel_rfl) (by kernel_rfl) (by kernel_rfl) (by kernel_rfl) (by kernel_rfl) (by kernel_rfl) (by kernel_rfl) (by kernel_rfl) (by kernel_rfl) (by decide) ⟨Eqs.mono5 _, Eqs.mono5 _, Eqs.mono5 _, True.mono5, True.mono5, True.mono5, True.mono5, True.mono5, True.mono5, True.mono5, True.mono5, True.mono5, True.mono5, True.mono5, True.mono5, True.mono5, True.mono5, True.mono5, True.mono5, True.mono5, True.mono5, True.mono5, True.mono5, True.mono5, True.mono5, True.mono5, True.mono5, True.mono5, trivial⟩ trivial xok_nil ok_nil (IsOld.all (bx := []) trivial) (DisOld.all (bx := []) trivial) trivial ?_ ?_ ?_
    · exact ⟨.inr (.norm 43 rfl rfl (nxt rfl) rfl (fun a_ w_ hn_ hBt hr hR hD hO hS => d6 rfl (op_faR fa_num ((hR 1 rfl).trans f1)))),
        .inr (.norm 44 rfl rfl (nxt rfl) rfl (fun a_ w_ hn_ hBt hr hR hD hO hS => d6 rfl (op_fa fa_mag (show a_.eval (.tmp 43) = .pointer (some ⟨gs1 0, 0, none⟩) from hD 0 rfl)))),
        .inr (.norm 45 rfl rfl (nxt rfl) rfl (fun a_ w_ hn_ hBt hr hR hD hO hS => d6 rfl (op_ldrmag (show a_.eval (.tmp 44) = .pointer (some ⟨gs1 0, 1, none⟩) from hD 1 rfl) (b1.keep5 hBt trivial trivial)))),
        .inl rfl,
        .inl rfl,
        .inl rfl,
        .inl rfl,
        .inl rfl,
        .inl rfl,
        .inl rfl,
        .inl rfl,
        .inl rfl,
        .inl rfl,
        .inl rfl,
        .inl rfl,
        .inl rfl,
        .inl rfl,
        .inl rfl,
        .inl rfl,
        .inl rfl,
        .inl rfl,
        .inl rfl,
        .inl rfl,
        .inl rfl,
        .inl rfl,
        .inl rfl,
        .inl rfl,
        .inl rfl,
        trivial⟩
    rotate_left
    · exact fun h => by cases h
    intro t_ o_ ht_ ho_ a28 w28 gs28 B28 T28 F_
    obtain rfl := Option.some.inj ht_; obtain rfl := Option.some.inj ho_; clear ht_ ho_
    obtain ⟨hn28, hd28, hBt, hr, hR, hP, hTs, hLi, hX, hU, hRel, hSl⟩ := F_
    replace hn := hn28; replace hd := hd28.trans hd
    have lq28HT17 := HT17.le
    have lq28HT19 := HT19.le
    have lq28HT21 := HT21.le
    have lq28HT23 := HT23.le
    have lq28HT27 := HT27.le
    have lq28LSa := LSa.lt
    have lq28LSb := LSb.lt
    replace b1 := b1.keep5 hBt trivial trivial
    replace b6 := b6.keep5 hBt trivial trivial
    replace b7 := b7.keep5 hBt trivial trivial
    replace b8 := b8.keep5 hBt trivial trivial
    replace b9 := b9.keep5 hBt trivial trivial
    replace b13 := b13.keep5 hBt trivial trivial
    replace f1 := (hR 1 rfl).trans f1
    replace f2 := (hR 2 rfl).trans f2
    replace f3 := (hR 3 rfl).trans f3
    replace f4 := (hR 4 rfl).trans f4
    replace f6 := (hR 6 rfl).trans f6
    replace f7 := (hR 7 rfl).trans f7
    replace f8 := (hR 8 rfl).trans f8
    replace f9 := (hR 9 rfl).trans f9
    replace f10 := (hR 10 rfl).trans f10
    replace f11 := (hR 11 rfl).trans f11
    replace f12 := (hR 12 rfl).trans f12
    replace f13 := (hR 13 rfl).trans f13
    replace f14 := (hR 14 rfl).trans f14
    have e45 : a28.eval (.tmp 45) = .slice ar mr cr := hP 2 (by decide)
    have f45 := e45
    have hBl_ := hBt.below (Nat.le_refl _) (UpOld.all (bx := []) trivial) (UpX.all (bx := []) trivial)
    replace Ar := Ar.ru hr
    replace Sr := Sr.ru hr
    replace Dr := Dr.ru hr
    replace Tr := Tr.ru hr
    replace AL := AL.ru hr
    replace SL := SL.ru hr
    replace F17 := F17.ru hr
    replace H17 := H17.ru hr
    replace G17 := G17.ru hr
    replace A17 := A17.ru hr
    replace K17 := K17.ru hr
    replace S17 := S17.ru hr
    replace HT17 := HT17.ru hr
    replace F19 := F19.ru hr
    replace G19 := G19.ru hr
    replace A19 := A19.ru hr
    replace HT19 := HT19.ru hr
    replace F21 := F21.ru hr
    replace H21 := H21.ru hr
    replace G21 := G21.ru hr
    replace A21 := A21.ru hr
    replace K21 := K21.ru hr
    replace S21 := S21.ru hr
    replace HT21 := HT21.ru hr
    replace F23 := F23.ru hr
    replace G23 := G23.ru hr
    replace A23 := A23.ru hr
    replace HT23 := HT23.ru hr
    replace F27 := F27.ru hr
    replace G27 := G27.ru hr
    replace A27 := A27.ru hr
    replace HT27 := HT27.ru hr
    replace LSa := LSa.below hBl_
    replace LSb := LSb.below hBl_
    replace HB := HB.trans (hBt.below HB.size (UpOld.all (bx := []) trivial) (UpX.all (bx := []) trivial))
    clear hBt hr hR hP hTs hLi hX hU hRel hSl
    refine ⟨trivial, (op_back f3 f45 LSa (Ar.sl) (by omega) (fun h0 b off e => by have := Ar0.sl.lt h0 b off e; omega)).mono ?_⟩
    rintro v_ w29 ⟨rfl, hT_⟩
    replace b1 := b1.touch hT_ (lends_box (by decide) LSa b1)
    replace b6 := b6.touch hT_ (lends_box (by decide) LSa b6)
    replace b7 := b7.touch hT_ (lends_box (by decide) LSa b7)
    replace b8 := b8.touch hT_ (lends_box (by decide) LSa b8)
    replace b9 := b9.touch hT_ (lends_box (by decide) LSa b9)
    replace b13 := b13.touch hT_ (lends_box (by decide) LSa b13)
    replace F17 := F17.touch hT_ (by omega)
    replace H17 := H17.touch hT_ (by omega)
    replace HT17 := HT17.touch hT_
    replace F19 := F19.touch hT_ (by omega)
    replace HT19 := HT19.touch hT_
    replace F21 := F21.touch hT_ (by omega)
    replace H21 := H21.touch hT_ (by omega)
    replace HT21 := HT21.touch hT_
    replace F23 := F23.touch hT_ (by omega)
    replace HT23 := HT23.touch hT_
    replace F27 := F27.touch hT_ (by omega)
    replace HT27 := HT27.touch hT_
    replace LSb := LSb.touch hT_ (lends_ne LSa LSb).2 (by omega)
    replace G17 := F17.wh
    replace A17 := F17.wh.ag
    replace K17 := H17.got
    replace S17 := H17.got.sl
    replace G19 := F19.wh
    replace A19 := F19.wh.ag
    replace G21 := F21.wh
    replace A21 := F21.wh.ag
    replace K21 := H21.got
    replace S21 := H21.got.sl
    replace G23 := F23.wh
    replace A23 := F23.wh.ag
    replace G27 := F27.wh
    replace A27 := F27.wh.ag
    replace HB := HB.trans (hT_.below uwa HB.size); clear hT_ LSa AL SL
    replace Ar := Ar0.below HB; replace Sr := Sr0.below HB; replace Dr : Ag _ false br kr dr rt qr := ⟨Sr, Vr⟩; replace Tr := Ar.sl
    change Good _ _ _ _ _ (Act.put a28 (some 46) (.bool true)) _
    have q_ : 46 < a28.tmps.size := by rw [hn]; decide
    generalize hA_ : Act.put a28 (some 46) (.bool true) = a30
    replace hn : a30.tmps.size = 118 := by rw [← hA_, put_tmps]; simp [hn]
    replace hd : a30.defers = [] := by rw [← hA_]; exact hd
    replace f1 : a30.eval (.tmp 1) = .pointer (some ⟨gs1 0, 0, none⟩) := by rw [← hA_]; exact (eval_put_ne (by decide)).trans f1
    replace f2 : a30.eval (.tmp 2) = (.bool false) := by rw [← hA_]; exact (eval_put_ne (by decide)).trans f2
    replace f3 : a30.eval (.tmp 3) = .pointer (some ⟨gLa, 0, none⟩) := by rw [← hA_]; exact (eval_put_ne (by decide)).trans f3
    replace f4 : a30.eval (.tmp 4) = .pointer (some ⟨gLb, 0, none⟩) := by rw [← hA_]; exact (eval_put_ne (by decide)).trans f4
    replace f6 : a30.eval (.tmp 6) = .pointer (some ⟨gs16 0, 0, none⟩) := by rw [← hA_]; exact (eval_put_ne (by decide)).trans f6
    replace f7 : a30.eval (.tmp 7) = .pointer (some ⟨gs18 0, 0, none⟩) := by rw [← hA_]; exact (eval_put_ne (by decide)).trans f7
    replace f8 : a30.eval (.tmp 8) = .pointer (some ⟨gs20 0, 0, none⟩) := by rw [← hA_]; exact (eval_put_ne (by decide)).trans f8
    replace f9 : a30.eval (.tmp 9) = .pointer (some ⟨gs22 0, 0, none⟩) := by rw [← hA_]; exact (eval_put_ne (by decide)).trans f9
    replace f10 : a30.eval (.tmp 10) = .bool (wB (tp pr qr) (tq qr)) := by rw [← hA_]; exact (eval_put_ne (by decide)).trans f10
    replace f11 : a30.eval (.tmp 11) = .int .i64 (Int.sign (tp pr qr)) := by rw [← hA_]; exact (eval_put_ne (by decide)).trans f11
    replace f12 : a30.eval (.tmp 12) = .int .i64 ((max mP mQ : Nat) : Int) := by rw [← hA_]; exact (eval_put_ne (by decide)).trans f12
    replace f13 : a30.eval (.tmp 13) = .pointer (some ⟨gs26 0, 0, none⟩) := by rw [← hA_]; exact (eval_put_ne (by decide)).trans f13
    replace f14 : a30.eval (.tmp 14) = .bool (wB (tp pr qr) (tq qr)) := by rw [← hA_]; exact (eval_put_ne (by decide)).trans f14
    replace f45 : a30.eval (.tmp 45) = .slice ar mr cr := by rw [← hA_]; exact (eval_put_ne (by decide)).trans f45
    have f46 : a30.eval (.tmp 46) = .bool true := by rw [← hA_]; exact eval_put_same q_
    clear q_
    clear hA_
    refine good6 4 8 (some 8) [some 43, some 44, some 45, some 46, some 47, some 48, some 49, some 50, some 51, some 52, some 53, some 54, some 55, some 56, some 57, some 58, some 59, some 60, some 61, some 62, some 63, some 64, some 65, some 66, some 67, some 68, some 69, some 70] [(fun _ _ => True), (fun _ _ => True), Eqs (.slice ar mr cr), Eqs (.bool true), Eqs (.bool false), Eqs (.bool false), Eqs (.pointer (some ⟨gs1 0, 2, none⟩)), Eqs (.slice br kr dr), (fun _ _ => True), (fun _ _ => True), (fun _ _ => True), (fun _ _ => True), (fun _ _ => True), (fun _ _ => True), (fun _ _ => True), (fun _ _ => True), (fun _ _ => True), (fun _ _ => True), (fun _ _ => True), (fun _ _ => True), (fun _ _ => True), (fun _ _ => True), (fun _ _ => True), (fun _ _ => True), (fun _ _ => True), (fun _ _ => True), (fun _ _ => True), (fun _ _ => True)] [] [] [] [] [] (by kernel_rfl) hn rfl (by kernel_rfl) (by kernel_rfl) (by kernel_rfl) (by kernel_rfl) (by kernel_rfl) (by kernel_rfl) (by kernel_rfl) (by kernel_rfl) (by kernel_rfl) (by decide) ⟨True.mono5, True.mono5, Eqs.mono5 _, Eqs.mono5 _, Eqs.mono5 _, Eqs.mono5 _, Eqs.mono5 _, Eqs.mono5 _, True.mono5, True.mono5, True.mono5, True.mono5, True.mono5, True.mono5, True.mono5, True.mono5, True.mono5, True.mono5, True.mono5, True.mono5, True.mono5, True.mono5, True.mono5, True.mono5, True.mono5, True.mono5, True.mono5, True.mono5, trivial⟩ trivial xok_nil ok_nil (IsOld.all (bx := []) trivial) (DisOld.all (bx := []) trivial) ⟨⟨⟨⟨trivial, trivial⟩, trivial⟩, f45⟩, f46⟩ ?_ ?_ ?_
    · exact ⟨.inl rfl,
        .inl rfl,
        .inl rfl,
        .inl rfl,
        .inr (.norm 47 rfl rfl (nxt rfl) rfl (fun a_ w_ hn_ hBt hr hR hD hO hS => d6 rfl (op_not (show a_.eval (.tmp 46) = .bool true from hD 3 rfl)))),
        .inr (.norm 48 rfl rfl (nxt rfl) rfl (fun a_ w_ hn_ hBt hr hR hD hO hS => d6 rfl (op_mv (show a_.eval (.tmp 47) = .bool false from hD 4 rfl)))),
        .inr (.norm 49 rfl rfl (nxt rfl) rfl (fun a_ w_ hn_ hBt hr hR hD hO hS => ⟨⟨_, rfl⟩, fun _ => d6 rfl (op_faR fa_den ((hR 1 rfl).trans f1)), fun hne => absurd (hD 5 rfl) hne⟩)),
        .inr (.norm 50 rfl rfl (nxt rfl) rfl (fun a_ w_ hn_ hBt hr hR hD hO hS => ⟨⟨_, rfl⟩, fun _ => d6 rfl (op_ldden (show a_.eval (.tmp 49) = .pointer (some ⟨gs1 0, 2, none⟩) from hD 6 rfl) (b1.keep5 hBt trivial trivial)), fun hne => absurd (hD 5 rfl) hne⟩)),
        .inl rfl,
        .inl rfl,
        .inl rfl,
        .inl rfl,
        .inl rfl,
        .inl rfl,
        .inl rfl,
        .inl rfl,
        .inl rfl,
        .inl rfl,
        .inl rfl,
        .inl rfl,
        .inl rfl,
        .inl rfl,
        .inl rfl,
        .inl rfl,
        .inl rfl,
        .inl rfl,
        .inl rfl,
        .inl rfl,
        trivial⟩
    rotate_left
    · exact fun h => by cases h
    intro t_ o_ ht_ ho_ a31 w31 gs31 B31 T31 F_
    obtain rfl := Option.some.inj ht_; obtain rfl := Option.some.inj ho_; clear ht_ ho_
    obtain ⟨hn31, hd31, hBt, hr, hR, hP, hTs, hLi, hX, hU, hRel, hSl⟩ := F_
    replace hn := hn31; replace hd := hd31.trans hd
    have lq31HT17 := HT17.le
    have lq31HT19 := HT19.le
    have lq31HT21 := HT21.le
    have lq31HT23 := HT23.le
    have lq31HT27 := HT27.le
    have lq31LSb := LSb.lt
    replace b1 := b1.keep5 hBt trivial trivial
    replace b6 := b6.keep5 hBt trivial trivial
    replace b7 := b7.keep5 hBt trivial trivial
    replace b8 := b8.keep5 hBt trivial trivial
    replace b9 := b9.keep5 hBt trivial trivial
    replace b13 := b13.keep5 hBt trivial trivial
    replace f1 := (hR 1 rfl).trans f1
    replace f2 := (hR 2 rfl).trans f2
    replace f4 := (hR 4 rfl).trans f4
    replace f6 := (hR 6 rfl).trans f6
    replace f7 := (hR 7 rfl).trans f7
    replace f8 := (hR 8 rfl).trans f8
    replace f9 := (hR 9 rfl).trans f9
    replace f10 := (hR 10 rfl).trans f10
    replace f11 := (hR 11 rfl).trans f11
    replace f12 := (hR 12 rfl).trans f12
    replace f13 := (hR 13 rfl).trans f13
    replace f14 := (hR 14 rfl).trans f14
    have e48 : a31.eval (.tmp 48) = .bool false := hP 5 (by decide)
    have f48 := e48
    have e50 : a31.eval (.tmp 50) = .slice br kr dr := hP 7 (by decide)
    have f50 := e50
    have hBl_ := hBt.below (Nat.le_refl _) (UpOld.all (bx := []) trivial) (UpX.all (bx := []) trivial)
    replace Ar := Ar.ru hr
    replace Sr := Sr.ru hr
    replace Dr := Dr.ru hr
    replace Tr := Tr.ru hr
    replace F17 := F17.ru hr
    replace H17 := H17.ru hr
    replace G17 := G17.ru hr
    replace A17 := A17.ru hr
    replace K17 := K17.ru hr
    replace S17 := S17.ru hr
    replace HT17 := HT17.ru hr
    replace F19 := F19.ru hr
    replace G19 := G19.ru hr
    replace A19 := A19.ru hr
    replace HT19 := HT19.ru hr
    replace F21 := F21.ru hr
    replace H21 := H21.ru hr
    replace G21 := G21.ru hr
    replace A21 := A21.ru hr
    replace K21 := K21.ru hr
    replace S21 := S21.ru hr
    replace HT21 := HT21.ru hr
    replace F23 := F23.ru hr
    replace G23 := G23.ru hr
    replace A23 := A23.ru hr
    replace HT23 := HT23.ru hr
    replace F27 := F27.ru hr
    replace G27 := G27.ru hr
    replace A27 := A27.ru hr
    replace HT27 := HT27.ru hr
    replace LSb := LSb.below hBl_
    replace HB := HB.trans (hBt.below HB.size (UpOld.all (bx := []) trivial) (UpX.all (bx := []) trivial))
    clear hBt hr hR hP hTs hLi hX hU hRel hSl
    refine ⟨⟨⟨48, rfl⟩, f48⟩, (op_back f4 f50 LSb (Sr) (by omega) (fun h0 b off e => by have := Sr0.lt h0 b off e; omega)).mono ?_⟩
    rintro v_ w32 ⟨rfl, hT_⟩
    replace b1 := b1.touch hT_ (lends_box (by decide) LSb b1)
    replace b6 := b6.touch hT_ (lends_box (by decide) LSb b6)
    replace b7 := b7.touch hT_ (lends_box (by decide) LSb b7)
    replace b8 := b8.touch hT_ (lends_box (by decide) LSb b8)
    replace b9 := b9.touch hT_ (lends_box (by decide) LSb b9)
    replace b13 := b13.touch hT_ (lends_box (by decide) LSb b13)
    replace F17 := F17.touch hT_ (by omega)
    replace H17 := H17.touch hT_ (by omega)
    replace HT17 := HT17.touch hT_
    replace F19 := F19.touch hT_ (by omega)
    replace HT19 := HT19.touch hT_
    replace F21 := F21.touch hT_ (by omega)
    replace H21 := H21.touch hT_ (by omega)
    replace HT21 := HT21.touch hT_
    replace F23 := F23.touch hT_ (by omega)
    replace HT23 := HT23.touch hT_
    replace F27 := F27.touch hT_ (by omega)
    replace HT27 := HT27.touch hT_
    replace G17 := F17.wh
    replace A17 := F17.wh.ag
    replace K17 := H17.got
    replace S17 := H17.got.sl
    replace G19 := F19.wh
    replace A19 := F19.wh.ag
    replace G21 := F21.wh
    replace A21 := F21.wh.ag
    replace K21 := H21.got
    replace S21 := H21.got.sl
    replace G23 := F23.wh
    replace A23 := F23.wh.ag
    replace G27 := F27.wh
    replace A27 := F27.wh.ag
    replace HB := HB.trans (hT_.below uwb HB.size); clear hT_ LSb
    replace Ar := Ar0.below HB; replace Sr := Sr0.below HB; replace Dr : Ag _ false br kr dr rt qr := ⟨Sr, Vr⟩; replace Tr := Ar.sl
    change Good _ _ _ _ _ (Act.put a31 (some 51) (.bool true)) _
    have q_ : 51 < a31.tmps.size := by rw [hn]; decide
    generalize hA_ : Act.put a31 (some 51) (.bool true) = a33
    replace hn : a33.tmps.size = 118 := by rw [← hA_, put_tmps]; simp [hn]
    replace hd : a33.defers = [] := by rw [← hA_]; exact hd
    replace f1 : a33.eval (.tmp 1) = .pointer (some ⟨gs1 0, 0, none⟩) := by rw [← hA_]; exact (eval_put_ne (by decide)).trans f1
    replace f2 : a33.eval (.tmp 2) = (.bool false) := by rw [← hA_]; exact (eval_put_ne (by decide)).trans f2
    replace f4 : a33.eval (.tmp 4) = .pointer (some ⟨gLb, 0, none⟩) := by rw [← hA_]; exact (eval_put_ne (by decide)).trans f4
    replace f6 : a33.eval (.tmp 6) = .pointer (some ⟨gs16 0, 0, none⟩) := by rw [← hA_]; exact (eval_put_ne (by decide)).trans f6
    replace f7 : a33.eval (.tmp 7) = .pointer (some ⟨gs18 0, 0, none⟩) := by rw [← hA_]; exact (eval_put_ne (by decide)).trans f7
    replace f8 : a33.eval (.tmp 8) = .pointer (some ⟨gs20 0, 0, none⟩) := by rw [← hA_]; exact (eval_put_ne (by decide)).trans f8
    replace f9 : a33.eval (.tmp 9) = .pointer (some ⟨gs22 0, 0, none⟩) := by rw [← hA_]; exact (eval_put_ne (by decide)).trans f9
    replace f10 : a33.eval (.tmp 10) = .bool (wB (tp pr qr) (tq qr)) := by rw [← hA_]; exact (eval_put_ne (by decide)).trans f10
    replace f11 : a33.eval (.tmp 11) = .int .i64 (Int.sign (tp pr qr)) := by rw [← hA_]; exact (eval_put_ne (by decide)).trans f11
    replace f12 : a33.eval (.tmp 12) = .int .i64 ((max mP mQ : Nat) : Int) := by rw [← hA_]; exact (eval_put_ne (by decide)).trans f12
    replace f13 : a33.eval (.tmp 13) = .pointer (some ⟨gs26 0, 0, none⟩) := by rw [← hA_]; exact (eval_put_ne (by decide)).trans f13
    replace f14 : a33.eval (.tmp 14) = .bool (wB (tp pr qr) (tq qr)) := by rw [← hA_]; exact (eval_put_ne (by decide)).trans f14
    replace f48 : a33.eval (.tmp 48) = .bool false := by rw [← hA_]; exact (eval_put_ne (by decide)).trans f48
    replace f50 : a33.eval (.tmp 50) = .slice br kr dr := by rw [← hA_]; exact (eval_put_ne (by decide)).trans f50
    have f51 : a33.eval (.tmp 51) = .bool true := by rw [← hA_]; exact eval_put_same q_
    clear q_
    clear hA_
    refine good6 9 28 none [some 43, some 44, some 45, some 46, some 47, some 48, some 49, some 50, some 51, some 52, some 53, some 54, some 55, some 56, some 57, some 58, some 59, some 60, some 61, some 62, some 63, some 64, some 65, some 66, some 67, some 68, some 69, some 70] [(fun _ _ => True), (fun _ _ => True), (fun _ _ => True), (fun _ _ => True), (fun _ _ => True), Eqs (.bool false), (fun _ _ => True), Eqs (.slice br kr dr), Eqs (.bool true), Eqs (.bool false), Eqs (.bool false), Eqs (.bool false), Eqs (.int .i64 (Int.sign (tp pr qr))), Eqs (.agg #[.bool nr, .slice ar mr cr, .slice br kr dr]), Eqs (.int .i64 (Int.sign (tp pr qr))), Eqs (.bool false), Eqs (.bool false), Eqs (.bool false), Eqs (.int .i64 ((max mP mQ : Nat) : Int)), Eqs (.agg #[.bool nr, .slice ar mr cr, .slice br kr dr]), Eqs (.int .i64 ((max mP mQ : Nat) : Int)), Eqs (.bool false), Eqs (.bool false), Eqs (.bool false), Eqs (.bool (wB (tp pr qr) (tq qr))), Eqs (.bool (wB (tp pr qr) (tq qr))), Eqs (.bool false), Eqs (.bool false)] [] [] [] [] [] (by kernel_rfl) hn rfl (by kernel_rfl) (by kernel_rfl) (by kernel_rfl) (by kernel_rfl) (by kernel_rfl) (by kernel_rfl) (by kernel_rfl) (by kernel_rfl) (by kernel_rfl) (by decide) ⟨True.mono5, True.mono5, True.mono5, True.mono5, True.mono5, Eqs.mono5 _, True.mono5, Eqs.mono5 _, Eqs.mono5 _, Eqs.mono5 _, Eqs.mono5 _, Eqs.mono5 _, Eqs.mono5 _, Eqs.mono5 _, Eqs.mono5 _, Eqs.mono5 _, Eqs.mono5 _, Eqs.mono5 _, Eqs.mono5 _, Eqs.mono5 _, Eqs.mono5 _, Eqs.mono5 _, Eqs.mono5 _, Eqs.mono5 _, Eqs.mono5 _, Eqs.mono5 _, Eqs.mono5 _, Eqs.mono5 _, trivial⟩ trivial xok_nil ok_nil (IsOld.all (bx := []) trivial) (DisOld.all (bx := []) trivial) ⟨⟨⟨⟨⟨⟨⟨⟨⟨trivial, trivial⟩, trivial⟩, trivial⟩, trivial⟩, trivial⟩, f48⟩, trivial⟩, f50⟩, f51⟩ ?_ ?_ ?_
    · exact ⟨.inl rfl,
        .inl rfl,
        .inl rfl,
        .inl rfl,
        .inl rfl,
        .inl rfl,
        .inl rfl,
        .inl rfl,
        .inl rfl,
        .inr (.norm 52 rfl rfl (nxt rfl) rfl (fun a_ w_ hn_ hBt hr hR hD hO hS => ⟨⟨_, rfl⟩, fun _ => d6 rfl (op_not (show a_.eval (.tmp 51) = .bool true from hD 8 rfl)), fun hne => absurd (hD 5 rfl) hne⟩)),
        .inr (.norm 53 rfl rfl (nxt rfl) rfl (fun a_ w_ hn_ hBt hr hR hD hO hS => d6 rfl (op_pickb (show a_.eval (.tmp 48) = .bool false from hD 5 rfl) (show a_.eval (.tmp 52) = .bool false from hD 9 rfl)))),
        .inr (.norm 54 rfl rfl (nxt rfl) rfl (fun a_ w_ hn_ hBt hr hR hD hO hS => d6 rfl (op_mv (show a_.eval (.tmp 53) = .bool false from hD 10 rfl)))),
        .inr (.norm 55 rfl rfl (nxt rfl) rfl (fun a_ w_ hn_ hBt hr hR hD hO hS => ⟨⟨_, rfl⟩, fun _ => d6 rfl (op_mv ((hR 11 rfl).trans f11)), fun hne => absurd (hD 11 rfl) hne⟩)),
        .inr (.norm 56 rfl rfl (nxt rfl) rfl (fun a_ w_ hn_ hBt hr hR hD hO hS => ⟨⟨_, rfl⟩, fun _ => d6 rfl (op_loadv R3ok ((hR 1 rfl).trans f1) (b1.keep5 hBt trivial trivial)), fun hne => absurd (hD 11 rfl) hne⟩)),
        .inr (.norm 57 rfl rfl (nxt rfl) rfl (fun a_ w_ hn_ hBt hr hR hD hO hS => ⟨⟨_, rfl⟩, fun _ => d6 rfl ((by rw [← sgn_nm (x := tp pr qr) hq0]; exact op_q3sign (isr_eq (show a_.eval (.tmp 56) = .agg #[.bool nr, .slice ar mr cr, .slice br kr dr] from hD 13 rfl) (Ar.ru hr) (Sr.ru hr) Vr Lr Mr) (by omega))), fun hne => absurd (hD 11 rfl) hne⟩)),
        .inr (.norm 58 rfl rfl (nxt rfl) rfl (fun a_ w_ hn_ hBt hr hR hD hO hS => ⟨⟨_, rfl⟩, fun _ => d6 rfl (op_neqsame (show a_.eval (.tmp 55) = .int .i64 (Int.sign (tp pr qr)) from hD 12 rfl) (show a_.eval (.tmp 57) = .int .i64 (Int.sign (tp pr qr)) from hD 14 rfl)), fun hne => absurd (hD 11 rfl) hne⟩)),
        .inr (.norm 59 rfl rfl (nxt rfl) rfl (fun a_ w_ hn_ hBt hr hR hD hO hS => d6 rfl (op_pickb (show a_.eval (.tmp 54) = .bool false from hD 11 rfl) (show a_.eval (.tmp 58) = .bool false from hD 15 rfl)))),
        .inr (.norm 60 rfl rfl (nxt rfl) rfl (fun a_ w_ hn_ hBt hr hR hD hO hS => d6 rfl (op_mv (show a_.eval (.tmp 59) = .bool false from hD 16 rfl)))),
        .inr (.norm 61 rfl rfl (nxt rfl) rfl (fun a_ w_ hn_ hBt hr hR hD hO hS => ⟨⟨_, rfl⟩, fun _ => d6 rfl (op_mv ((hR 12 rfl).trans f12)), fun hne => absurd (hD 17 rfl) hne⟩)),
        .inr (.norm 62 rfl rfl (nxt rfl) rfl (fun a_ w_ hn_ hBt hr hR hD hO hS => ⟨⟨_, rfl⟩, fun _ => d6 rfl (op_loadv R3ok ((hR 1 rfl).trans f1) (b1.keep5 hBt trivial trivial)), fun hne => absurd (hD 17 rfl) hne⟩)),
        .inr (.norm 63 rfl rfl (nxt rfl) rfl (fun a_ w_ hn_ hBt hr hR hD hO hS => ⟨⟨_, rfl⟩, fun _ => d6 rfl (op_q3limbs (isr_eq (show a_.eval (.tmp 62) = .agg #[.bool nr, .slice ar mr cr, .slice br kr dr] from hD 19 rfl) (Ar.ru hr) (Sr.ru hr) Vr Lr Mr) (by omega) mP mQ hmP hmQ), fun hne => absurd (hD 17 rfl) hne⟩)),
        .inr (.norm 64 rfl rfl (nxt rfl) rfl (fun a_ w_ hn_ hBt hr hR hD hO hS => ⟨⟨_, rfl⟩, fun _ => d6 rfl (op_neqsame (show a_.eval (.tmp 61) = .int .i64 ((max mP mQ : Nat) : Int) from hD 18 rfl) (show a_.eval (.tmp 63) = .int .i64 ((max mP mQ : Nat) : Int) from hD 20 rfl)), fun hne => absurd (hD 17 rfl) hne⟩)),
        .inr (.norm 65 rfl rfl (nxt rfl) rfl (fun a_ w_ hn_ hBt hr hR hD hO hS => d6 rfl (op_pickb (show a_.eval (.tmp 60) = .bool false from hD 17 rfl) (show a_.eval (.tmp 64) = .bool false from hD 21 rfl)))),
        .inr (.norm 66 rfl rfl (nxt rfl) rfl (fun a_ w_ hn_ hBt hr hR hD hO hS => d6 rfl (op_mv (show a_.eval (.tmp 65) = .bool false from hD 22 rfl)))),
        .inr (.norm 67 rfl rfl (nxt rfl) rfl (fun a_ w_ hn_ hBt hr hR hD hO hS => ⟨⟨_, rfl⟩, fun _ => d6 rfl (op_mv ((hR 10 rfl).trans f10)), fun hne => absurd (hD 23 rfl) hne⟩)),
        .inr (.norm 68 rfl rfl (nxt rfl) rfl (fun a_ w_ hn_ hBt hr hR hD hO hS => ⟨⟨_, rfl⟩, fun _ => d6 rfl (op_mv ((hR 14 rfl).trans f14)), fun hne => absurd (hD 23 rfl) hne⟩)),
        .inr (.norm 69 rfl rfl (nxt rfl) rfl (fun a_ w_ hn_ hBt hr hR hD hO hS => ⟨⟨_, rfl⟩, fun _ => d6 rfl (op_neqbs (show a_.eval (.tmp 67) = .bool (wB (tp pr qr) (tq qr)) from hD 24 rfl) (show a_.eval (.tmp 68) = .bool (wB (tp pr qr) (tq qr)) from hD 25 rfl)), fun hne => absurd (hD 23 rfl) hne⟩)),
        .inr (.norm 70 rfl rfl (nxt rfl) rfl (fun a_ w_ hn_ hBt hr hR hD hO hS => d6 rfl (op_pickb (show a_.eval (.tmp 66) = .bool false from hD 23 rfl) (show a_.eval (.tmp 69) = .bool false from hD 26 rfl)))),
        trivial⟩
    · exact fun _ _ h => by cases h
    intro _ a34 w34 gs34 B34 T34 F_
    obtain ⟨hn34, hd34, hBt, hr, hR, hP, hTs, hLi, hX, hU, hRel, hSl⟩ := F_
    replace hn := hn34; replace hd := hd34.trans hd
    have lq34HT17 := HT17.le
    have lq34HT19 := HT19.le
    have lq34HT21 := HT21.le
    have lq34HT23 := HT23.le
    have lq34HT27 := HT27.le
    replace b1 := b1.keep5 hBt trivial trivial
    replace b6 := b6.keep5 hBt trivial trivial
    replace b7 := b7.keep5 hBt trivial trivial
    replace b8 := b8.keep5 hBt trivial trivial
    replace b9 := b9.keep5 hBt trivial trivial
    replace b13 := b13.keep5 hBt trivial trivial
    replace f1 := (hR 1 rfl).trans f1
    replace f2 := (hR 2 rfl).trans f2
    replace f6 := (hR 6 rfl).trans f6
    replace f7 := (hR 7 rfl).trans f7
    replace f8 := (hR 8 rfl).trans f8
    replace f9 := (hR 9 rfl).trans f9
    replace f13 := (hR 13 rfl).trans f13
    have e70 : a34.eval (.tmp 70) = .bool false := hP 27 (by decide)
    have f70 := e70
    replace Ar := Ar.ru hr
    replace Sr := Sr.ru hr
    replace Dr := Dr.ru hr
    replace Tr := Tr.ru hr
    replace F17 := F17.ru hr
    replace H17 := H17.ru hr
    replace G17 := G17.ru hr
    replace A17 := A17.ru hr
    replace K17 := K17.ru hr
    replace S17 := S17.ru hr
    replace HT17 := HT17.ru hr
    replace F19 := F19.ru hr
    replace G19 := G19.ru hr
    replace A19 := A19.ru hr
    replace HT19 := HT19.ru hr
    replace F21 := F21.ru hr
    replace H21 := H21.ru hr
    replace G21 := G21.ru hr
    replace A21 := A21.ru hr
    replace K21 := K21.ru hr
    replace S21 := S21.ru hr
    replace HT21 := HT21.ru hr
    replace F23 := F23.ru hr
    replace G23 := G23.ru hr
    replace A23 := A23.ru hr
    replace HT23 := HT23.ru hr
    replace F27 := F27.ru hr
    replace G27 := G27.ru hr
    replace A27 := A27.ru hr
    replace HT27 := HT27.ru hr
    replace HB := HB.trans (hBt.below HB.size (UpOld.all (bx := []) trivial) (UpX.all (bx := []) trivial))
    clear hBt hr hR hP hTs hLi hX hU hRel hSl
    refine wp_cond_false f70 ?_
    refine wp_skip ?_
    refine wp_seq ?_
    refine wp_of_good (by kernel_rfl) (by kernel_rfl) (fun w_0 hb_0 => ?_)
    replace b1 := b1.below hb_0
    replace b6 := b6.below hb_0
    replace b7 := b7.below hb_0
    replace b8 := b8.below hb_0
    replace b9 := b9.below hb_0
    replace b13 := b13.below hb_0
    replace Ar := Ar.below hb_0
    replace Sr := Sr.below hb_0
    replace Dr := Dr.below hb_0
    replace Tr := Tr.below hb_0
    replace F17 := F17.below hb_0
    replace H17 := H17.below hb_0
    replace G17 := G17.below hb_0
    replace A17 := A17.below hb_0
    replace K17 := K17.below hb_0
    replace S17 := S17.below hb_0
    replace HT17 := HT17.below hb_0
    replace F19 := F19.below hb_0
    replace G19 := G19.below hb_0
    replace A19 := A19.below hb_0
    replace HT19 := HT19.below hb_0
    replace F21 := F21.below hb_0
    replace H21 := H21.below hb_0
    replace G21 := G21.below hb_0
    replace A21 := A21.below hb_0
    replace K21 := K21.below hb_0
    replace S21 := S21.below hb_0
    replace HT21 := HT21.below hb_0
    replace F23 := F23.below hb_0
    replace G23 := G23.below hb_0
    replace A23 := A23.below hb_0
    replace HT23 := HT23.below hb_0
    replace F27 := F27.below hb_0
    replace G27 := G27.below hb_0
    replace A27 := A27.below hb_0
    replace HT27 := HT27.below hb_0
    replace HB := HB.trans (hb_0.mono HB.size); clear hb_0
    refine good6 0 1 (some 1) [some 71, some 72, some 15] [Eqs (.agg #[.slice none 0 0, .slice none 0 0]), (fun _ _ => True), (fun _ _ => True)] [] [] [] [] [] (by kernel_rfl) hn rfl (by kernel_rfl) (by kernel_rfl) (by kernel_rfl) (by kernel_rfl) (by kernel_rfl) (by kernel_rfl) (by kernel_rfl) (by kernel_rfl) (by kernel_rfl) (by decide) ⟨Eqs.mono5 _, True.mono5, True.mono5, trivial⟩ trivial xok_nil ok_nil (IsOld.all (bx := []) trivial) (DisOld.all (bx := []) trivial) trivial ?_ ?_ ?_
    · exact ⟨.inr (.norm 71 rfl rfl (nxt rfl) rfl (fun a_ w_ hn_ hBt hr hR hD hO hS => d6 rfl op_bBook)),
        .inl rfl,
        .inl rfl,
        trivial⟩
    rotate_left
    · exact fun h => by cases h
    intro t_ o_ ht_ ho_ a35 w35 gs35 B35 T35 F_
    obtain rfl := Option.some.inj ht_; obtain rfl := Option.some.inj ho_; clear ht_ ho_
    obtain ⟨hn35, hd35, hBt, hr, hR, hP, hTs, hLi, hX, hU, hRel, hSl⟩ := F_
    replace hn := hn35; replace hd := hd35.trans hd
    have lq35HT17 := HT17.le
    have lq35HT19 := HT19.le
    have lq35HT21 := HT21.le
    have lq35HT23 := HT23.le
    have lq35HT27 := HT27.le
    replace b1 := b1.keep5 hBt trivial trivial
    replace b6 := b6.keep5 hBt trivial trivial
    replace b7 := b7.keep5 hBt trivial trivial
    replace b8 := b8.keep5 hBt trivial trivial
    replace b9 := b9.keep5 hBt trivial trivial
    replace b13 := b13.keep5 hBt trivial trivial
    replace f1 := (hR 1 rfl).trans f1
    replace f2 := (hR 2 rfl).trans f2
    replace f6 := (hR 6 rfl).trans f6
    replace f7 := (hR 7 rfl).trans f7
    replace f8 := (hR 8 rfl).trans f8
    replace f9 := (hR 9 rfl).trans f9
    replace f13 := (hR 13 rfl).trans f13
    have e71 : a35.eval (.tmp 71) = .agg #[.slice none 0 0, .slice none 0 0] := hP 0 (by decide)
    have f71 := e71
    replace Ar := Ar.ru hr
    replace Sr := Sr.ru hr
    replace Dr := Dr.ru hr
    replace Tr := Tr.ru hr
    replace F17 := F17.ru hr
    replace H17 := H17.ru hr
    replace G17 := G17.ru hr
    replace A17 := A17.ru hr
    replace K17 := K17.ru hr
    replace S17 := S17.ru hr
    replace HT17 := HT17.ru hr
    replace F19 := F19.ru hr
    replace G19 := G19.ru hr
    replace A19 := A19.ru hr
    replace HT19 := HT19.ru hr
    replace F21 := F21.ru hr
    replace H21 := H21.ru hr
    replace G21 := G21.ru hr
    replace A21 := A21.ru hr
    replace K21 := K21.ru hr
    replace S21 := S21.ru hr
    replace HT21 := HT21.ru hr
    replace F23 := F23.ru hr
    replace G23 := G23.ru hr
    replace A23 := A23.ru hr
    replace HT23 := HT23.ru hr
    replace F27 := F27.ru hr
    replace G27 := G27.ru hr
    replace A27 := A27.ru hr
    replace HT27 := HT27.ru hr
    replace HB := HB.trans (hBt.below HB.size (UpOld.all (bx := []) trivial) (UpX.all (bx := []) trivial))
    clear hBt hr hR hP hTs hLi hX hU hRel hSl
    refine ⟨trivial, (op_bookn (Q := w.heap.size) f71).mono ?_⟩
    rintro v_ w36 ⟨rfl, BK, hbN⟩
    obtain ⟨pB, hpB⟩ : ∃ g, g = w35.heap.size := ⟨_, rfl⟩
    rw [← hpB] at BK ⊢
    have upB : w.heap.size ≤ pB := by rw [hpB]; exact HB.size
    replace b1 := b1.below hbN
    replace b6 := b6.below hbN
    replace b7 := b7.below hbN
    replace b8 := b8.below hbN
    replace b9 := b9.below hbN
    replace b13 := b13.below hbN
    replace Ar := Ar.below hbN
    replace Sr := Sr.below hbN
    replace Dr := Dr.below hbN
    replace Tr := Tr.below hbN
    replace F17 := F17.below hbN
    replace H17 := H17.below hbN
    replace G17 := G17.below hbN
    replace A17 := A17.below hbN
    replace K17 := K17.below hbN
    replace S17 := S17.below hbN
    replace HT17 := HT17.below hbN
    replace F19 := F19.below hbN
    replace G19 := G19.below hbN
    replace A19 := A19.below hbN
    replace HT19 := HT19.below hbN
    replace F21 := F21.below hbN
    replace H21 := H21.below hbN
    replace G21 := G21.below hbN
    replace A21 := A21.below hbN
    replace K21 := K21.below hbN
    replace S21 := S21.below hbN
    replace HT21 := HT21.below hbN
    replace F23 := F23.below hbN
    replace G23 := G23.below hbN
    replace A23 := A23.below hbN
    replace HT23 := HT23.below hbN
    replace F27 := F27.below hbN
    replace G27 := G27.below hbN
    replace A27 := A27.below hbN
    replace HT27 := HT27.below hbN
    replace HB := HB.trans (hbN.mono HB.size); clear hbN
    change Good _ _ _ _ _ (Act.put a35 (some 72) (.pointer (some ⟨pB, 0, none⟩))) _
    have q_ : 72 < a35.tmps.size := by rw [hn]; decide
    generalize hA_ : Act.put a35 (some 72) (.pointer (some ⟨pB, 0, none⟩)) = a37
    replace hn : a37.tmps.size = 118 := by rw [← hA_, put_tmps]; simp [hn]
    replace hd : a37.defers = [] := by rw [← hA_]; exact hd
    replace f1 : a37.eval (.tmp 1) = .pointer (some ⟨gs1 0, 0, none⟩) := by rw [← hA_]; exact (eval_put_ne (by decide)).trans f1
    replace f2 : a37.eval (.tmp 2) = (.bool false) := by rw [← hA_]; exact (eval_put_ne (by decide)).trans f2
    replace f6 : a37.eval (.tmp 6) = .pointer (some ⟨gs16 0, 0, none⟩) := by rw [← hA_]; exact (eval_put_ne (by decide)).trans f6
    replace f7 : a37.eval (.tmp 7) = .pointer (some ⟨gs18 0, 0, none⟩) := by rw [← hA_]; exact (eval_put_ne (by decide)).trans f7
    replace f8 : a37.eval (.tmp 8) = .pointer (some ⟨gs20 0, 0, none⟩) := by rw [← hA_]; exact (eval_put_ne (by decide)).trans f8
    replace f9 : a37.eval (.tmp 9) = .pointer (some ⟨gs22 0, 0, none⟩) := by rw [← hA_]; exact (eval_put_ne (by decide)).trans f9
    replace f13 : a37.eval (.tmp 13) = .pointer (some ⟨gs26 0, 0, none⟩) := by rw [← hA_]; exact (eval_put_ne (by decide)).trans f13
    replace f71 : a37.eval (.tmp 71) = .agg #[.slice none 0 0, .slice none 0 0] := by rw [← hA_]; exact (eval_put_ne (by decide)).trans f71
    have f72 : a37.eval (.tmp 72) = .pointer (some ⟨pB, 0, none⟩) := by rw [← hA_]; exact eval_put_same q_
    clear q_
    clear hA_
    refine good6 2 3 none [some 71, some 72, some 15] [Eqs (.agg #[.slice none 0 0, .slice none 0 0]), Eqs (.pointer (some ⟨pB, 0, none⟩)), Eqs (.pointer (some ⟨pB, 0, none⟩))] [] [] [] [] [] (by kernel_rfl) hn rfl (by kernel_rfl) (by kernel_rfl) (by kernel_rfl) (by kernel_rfl) (by kernel_rfl) (by kernel_rfl) (by kernel_rfl) (by kernel_rfl) (by kernel_rfl) (by decide) ⟨Eqs.mono5 _, Eqs.mono5 _, Eqs.mono5 _, trivial⟩ trivial xok_nil ok_nil (IsOld.all (bx := []) trivial) (DisOld.all (bx := []) trivial) ⟨⟨trivial, f71⟩, f72⟩ ?_ ?_ ?_
    · exact ⟨.inl rfl,
        .inl rfl,
        .inr (.norm 15 rfl rfl (nxt rfl) rfl (fun a_ w_ hn_ hBt hr hR hD hO hS => d6 rfl (op_assign (show a_.eval (.tmp 72) = .pointer (some ⟨pB, 0, none⟩) from hD 1 rfl)))),
        trivial⟩
    · exact fun _ _ h => by cases h
    intro _ a38 w38 gs38 B38 T38 F_
    obtain ⟨hn38, hd38, hBt, hr, hR, hP, hTs, hLi, hX, hU, hRel, hSl⟩ := F_
    replace hn := hn38; replace hd := hd38.trans hd
    have lq38HT17 := HT17.le
    have lq38HT19 := HT19.le
    have lq38HT21 := HT21.le
    have lq38HT23 := HT23.le
    have lq38HT27 := HT27.le
    have lq38BK := BK.lt.2
    replace b1 := b1.keep5 hBt trivial trivial
    replace b6 := b6.keep5 hBt trivial trivial
    replace b7 := b7.keep5 hBt trivial trivial
    replace b8 := b8.keep5 hBt trivial trivial
    replace b9 := b9.keep5 hBt trivial trivial
    replace b13 := b13.keep5 hBt trivial trivial
    replace f1 := (hR 1 rfl).trans f1
    replace f2 := (hR 2 rfl).trans f2
    replace f6 := (hR 6 rfl).trans f6
    replace f7 := (hR 7 rfl).trans f7
    replace f8 := (hR 8 rfl).trans f8
    replace f9 := (hR 9 rfl).trans f9
    replace f13 := (hR 13 rfl).trans f13
    have e15 : a38.eval (.tmp 15) = .pointer (some ⟨pB, 0, none⟩) := hP 2 (by decide)
    have f15 := e15
    have hBl_ := hBt.below (Nat.le_refl _) (UpOld.all (bx := []) trivial) (UpX.all (bx := []) trivial)
    replace Ar := Ar.ru hr
    replace Sr := Sr.ru hr
    replace Dr := Dr.ru hr
    replace Tr := Tr.ru hr
    replace F17 := F17.ru hr
    replace H17 := H17.ru hr
    replace G17 := G17.ru hr
    replace A17 := A17.ru hr
    replace K17 := K17.ru hr
    replace S17 := S17.ru hr
    replace HT17 := HT17.ru hr
    replace F19 := F19.ru hr
    replace G19 := G19.ru hr
    replace A19 := A19.ru hr
    replace HT19 := HT19.ru hr
    replace F21 := F21.ru hr
    replace H21 := H21.ru hr
    replace G21 := G21.ru hr
    replace A21 := A21.ru hr
    replace K21 := K21.ru hr
    replace S21 := S21.ru hr
    replace HT21 := HT21.ru hr
    replace F23 := F23.ru hr
    replace G23 := G23.ru hr
    replace A23 := A23.ru hr
    replace HT23 := HT23.ru hr
    replace F27 := F27.ru hr
    replace G27 := G27.ru hr
    replace A27 := A27.ru hr
    replace HT27 := HT27.ru hr
    replace BK := BK.below hBl_
    replace HB := HB.trans (hBt.below HB.size (UpOld.all (bx := []) trivial) (UpX.all (bx := []) trivial))
    clear hBt hr hR hP hTs hLi hX hU hRel hSl
    refine wp_seq ?_
    obtain ⟨NN, hNN⟩ : ∃ k, k = w38.heap.size := ⟨_, rfl⟩
    have HN : SzGe NN w38 := Nat.le_of_eq hNN
    have hWN : w.heap.size ≤ NN := by rw [hNN]; exact HB.size
    have hu17_ : T17 ≤ NN := by rw [hNN]; exact HT17.le
    have hu19_ : T19 ≤ NN := by rw [hNN]; exact HT19.le
    have hu21_ : T21 ≤ NN := by rw [hNN]; exact HT21.le
    have hu23_ : T23 ≤ NN := by rw [hNN]; exact HT23.le
    obtain ⟨p17, q17, Fn_, Nr17, Bl17⟩ := WFr.nr (K := w.heap.size) F17 (by omega); replace F17 := Fn_; clear Fn_
    have hq17 : q17 ≤ NN := Nr17.top hWN (by omega)
    have hb17 := hide (bk_out Bl17 BK)
    obtain ⟨p17q, q17q, Fn_, Nr17q, Bl17q⟩ := Fr.nr (K := w.heap.size) H17 (by omega); replace H17 := Fn_; clear Fn_
    have hq17q : q17q ≤ NN := Nr17q.top hWN (by omega)
    have hb17q := hide (bk_out Bl17q BK)
    obtain ⟨p19, q19, Fn_, Nr19, Bl19⟩ := WFr.nr (K := w.heap.size) F19 (by omega); replace F19 := Fn_; clear Fn_
    have hq19 : q19 ≤ NN := Nr19.top hWN (by omega)
    have hb19 := hide (bk_out Bl19 BK)
    obtain ⟨p21, q21, Fn_, Nr21, Bl21⟩ := WFr.nr (K := w.heap.size) F21 (by omega); replace F21 := Fn_; clear Fn_
    have hq21 : q21 ≤ NN := Nr21.top hWN (by omega)
    have hb21 := hide (bk_out Bl21 BK)
    obtain ⟨p21q, q21q, Fn_, Nr21q, Bl21q⟩ := Fr.nr (K := w.heap.size) H21 (by omega); replace H21 := Fn_; clear Fn_
    have hq21q : q21q ≤ NN := Nr21q.top hWN (by omega)
    have hb21q := hide (bk_out Bl21q BK)
    obtain ⟨p23, q23, Fn_, Nr23, Bl23⟩ := WFr.nr (K := w.heap.size) F23 (by omega); replace F23 := Fn_; clear Fn_
    have hq23 : q23 ≤ NN := Nr23.top hWN (by omega)
    have hb23 := hide (bk_out Bl23 BK)
    have ap17_17q := hide (Nr17.apart Nr17q (by omega))
    have ap17_19 := hide (Nr17.apart Nr19 (by omega))
    have ap17_21 := hide (Nr17.apart Nr21 (by omega))
    have ap17_21q := hide (Nr17.apart Nr21q (by omega))
    have ap17_23 := hide (Nr17.apart Nr23 (by omega))
    have ap17q_19 := hide (Nr17q.apart Nr19 (by omega))
    have ap17q_21 := hide (Nr17q.apart Nr21 (by omega))
    have ap17q_21q := hide (Nr17q.apart Nr21q (by omega))
    have ap17q_23 := hide (Nr17q.apart Nr23 (by omega))
    have ap19_21 := hide (Nr19.apart Nr21 (by omega))
    have ap19_21q := hide (Nr19.apart Nr21q (by omega))
    have ap19_23 := hide (Nr19.apart Nr23 (by omega))
    have ap21_21q := hide (Nr21.apart Nr21q (by omega))
    have ap21_23 := hide (Nr21.apart Nr23 (by omega))
    have ap21q_23 := hide (Nr21q.apart Nr23 (by omega))
    have lo17 := Nr17.lo
    have nb7_17 := hide (Bl17.out (by decide) b7)
    have nb8_17 := hide (Bl17.out (by decide) b8)
    have nb9_17 := hide (Bl17.out (by decide) b9)
    clear Bl17 Nr17
    have lo17q := Nr17q.lo
    have nb7_17q := hide (Bl17q.out (by decide) b7)
    have nb8_17q := hide (Bl17q.out (by decide) b8)
    have nb9_17q := hide (Bl17q.out (by decide) b9)
    clear Bl17q Nr17q
    have lo19 := Nr19.lo
    have nb7_19 := hide (Bl19.out (by decide) b7)
    have nb8_19 := hide (Bl19.out (by decide) b8)
    have nb9_19 := hide (Bl19.out (by decide) b9)
    clear Bl19 Nr19
    have lo21 := Nr21.lo
    have nb7_21 := hide (Bl21.out (by decide) b7)
    have nb8_21 := hide (Bl21.out (by decide) b8)
    have nb9_21 := hide (Bl21.out (by decide) b9)
    clear Bl21 Nr21
    have lo21q := Nr21q.lo
    have nb7_21q := hide (Bl21q.out (by decide) b7)
    have nb8_21q := hide (Bl21q.out (by decide) b8)
    have nb9_21q := hide (Bl21q.out (by decide) b9)
    clear Bl21q Nr21q
    have lo23 := Nr23.lo
    have nb7_23 := hide (Bl23.out (by decide) b7)
    have nb8_23 := hide (Bl23.out (by decide) b8)
    have nb9_23 := hide (Bl23.out (by decide) b9)
    clear Bl23 Nr23
    have kb7 : (gs18 0) < NN := by rw [hNN]; exact b7.lt
    have kb8 : (gs20 0) < NN := by rw [hNN]; exact b8.lt
    have kb9 : (gs22 0) < NN := by rw [hNN]; exact b9.lt
    have hbs : ∀ j ∈ ([] : List Nat), InU NN [] j := fun j hj => by cases hj
    refine wp_of_good (by kernel_rfl) (by kernel_rfl) (fun w_0 hb_0 => ?_)
    replace b1 := b1.below hb_0
    replace b6 := b6.below hb_0
    replace b7 := b7.below hb_0
    replace b8 := b8.below hb_0
    replace b9 := b9.below hb_0
    replace b13 := b13.below hb_0
    replace Ar := Ar.below hb_0
    replace Sr := Sr.below hb_0
    replace Dr := Dr.below hb_0
    replace Tr := Tr.below hb_0
    replace F17 := F17.below hb_0
    replace H17 := H17.below hb_0
    replace G17 := G17.below hb_0
    replace A17 := A17.below hb_0
    replace K17 := K17.below hb_0
    replace S17 := S17.below hb_0
    replace HT17 := HT17.below hb_0
    replace F19 := F19.below hb_0
    replace G19 := G19.below hb_0
    replace A19 := A19.below hb_0
    replace HT19 := HT19.below hb_0
    replace F21 := F21.below hb_0
    replace H21 := H21.below hb_0
    replace G21 := G21.below hb_0
    replace A21 := A21.below hb_0
    replace K21 := K21.below hb_0
    replace S21 := S21.below hb_0
    replace HT21 := HT21.below hb_0
    replace F23 := F23.below hb_0
    replace G23 := G23.below hb_0
    replace A23 := A23.below hb_0
    replace HT23 := HT23.below hb_0
    replace F27 := F27.below hb_0
    replace G27 := G27.below hb_0
    replace A27 := A27.below hb_0
    replace HT27 := HT27.below hb_0
    replace BK := BK.below hb_0
    replace HN := HN.below hb_0
    replace HB := HB.trans (hb_0.mono HB.size); clear hb_0
    refine good6 0 24 (some 24) [some 73, some 74, some 75, some 76, some 77, some 78, some 79, some 80, some 81, some 82, some 83, some 84, some 85, some 86, some 87, some 88, some 89, some 90, some 91, some 92, some 93, some 94, some 95, some 96, some 97, some 98, some 99, some 100, some 101, some 102, some 103, some 104, some 105, some 106, some 107, some 108, some 109, some 110, some 111, some 112, some 113, some 114, some 115, some 116, some 117, some 2] [Eqs (.agg #[.bool n_17, .slice a_17 r_17.length c_17, .slice b_17 s_17.length d_17]), Eqs (.agg #[.bool nr, .slice ar mr cr, .slice br kr dr]), OutR ((nm (tp pr qr) (tq qr))) ((dn (tp pr qr) (tq qr))) (12 * (1500) + 20), Eqs (.bool true), Eqs (.bool true), Eqs (.agg #[.bool n_19, .slice a_19 r_19.length c_19]), Eqs (.agg #[.bool nr, .slice ar mr cr, .slice br kr dr]), FrW (0) (((nm (tp pr qr) (tq qr)) / (dn (tp pr qr) (tq qr)))) (6 * (1500) + 16), Eqs (.bool true), Eqs (.bool true), Eqs (.bool true), Eqs (.agg #[.bool n_21, .slice a_21 r_21.length c_21, .slice b_21 s_21.length d_21]), Eqs (.agg #[.bool nr, .slice ar mr cr, .slice br kr dr]), OutR ((-(nm (tp pr qr) (tq qr)))) ((dn (tp pr qr) (tq qr))) (24 * (1500) + 40), Eqs (.bool true), Eqs (.bool true), Eqs (.bool true), Eqs (.agg #[.bool n_23, .slice a_23 r_23.length c_23]), Eqs (.agg #[.bool n_27, .slice a_27 r_27.length c_27]), Eqs (.bool true), Eqs (.bool true), Eqs (.bool true), Eqs (.pointer (some ⟨pB, 0, none⟩)), Eqs (.agg #[.bool n_17, .slice a_17 r_17.length c_17, .slice b_17 s_17.length d_17]), (fun _ _ => True), (fun _ _ => True), (fun _ _ => True), (fun _ _ => True), (fun _ _ => True), (fun _ _ => True), (fun _ _ => True), (fun _ _ => True), (fun _ _ => True), (fun _ _ => True), (fun _ _ => True), (fun _ _ => True), (fun _ _ => True), (fun _ _ => True), (fun _ _ => True), (fun _ _ => True), (fun _ _ => True), (fun _ _ => True), (fun _ _ => True), (fun _ _ => True), (fun _ _ => True), (fun _ _ => True)] [] [] [] [] [] (by kernel_rfl) hn rfl (by kernel_rfl) (by kernel_rfl) (by kernel_rfl) (by kernel_rfl) (by kernel_rfl) (by kernel_rfl) (by kernel_rfl) (by kernel_rfl) (by kernel_rfl) (by decide) ⟨Eqs.mono5 _, Eqs.mono5 _, OutR.mono5 _ _ _, Eqs.mono5 _, Eqs.mono5 _, Eqs.mono5 _, Eqs.mono5 _, FrW.mono5 _ _ _, Eqs.mono5 _, Eqs.mono5 _, Eqs.mono5 _, Eqs.mono5 _, Eqs.mono5 _, OutR.mono5 _ _ _, Eqs.mono5 _, Eqs.mono5 _, Eqs.mono5 _, Eqs.mono5 _, Eqs.mono5 _, Eqs.mono5 _, Eqs.mono5 _, Eqs.mono5 _, Eqs.mono5 _, Eqs.mono5 _, True.mono5, True.mono5, True.mono5, True.mono5, True.mono5, True.mono5, True.mono5, True.mono5, True.mono5, True.mono5, True.mono5, True.mono5, True.mono5, True.mono5, True.mono5, True.mono5, True.mono5, True.mono5, True.mono5, True.mono5, True.mono5, True.mono5, trivial⟩ trivial xok_nil ok_nil (IsOld.all (bx := []) trivial) (DisOld.all (bx := []) trivial) trivial ?_ ?_ ?_
    · exact ⟨.inr (.norm 73 rfl rfl (nxt rfl) rfl (fun a_ w_ hn_ hBt hr hR hD hO hS => d6 rfl (op_loadv R3ok ((hR 6 rfl).trans f6) (b6.keep5 hBt trivial trivial)))),
        .inr (.norm 74 rfl rfl (nxt rfl) rfl (fun a_ w_ hn_ hBt hr hR hD hO hS => d6 rfl (op_loadv R3ok ((hR 1 rfl).trans f1) (b1.keep5 hBt trivial trivial)))),
        .inr (.norm 75 rfl rfl (nxt rfl) rfl (fun a_ w_ hn_ hBt hr hR hD hO hS => d6 rfl (op_q3trim (isr_eq (show a_.eval (.tmp 74) = .agg #[.bool nr, .slice ar mr cr, .slice br kr dr] from hD 1 rfl) (Ar.ru hr) (Sr.ru hr) Vr Lr Mr) (by omega)))),
        .inr (.norm 76 rfl rfl (nxt rfl) rfl (fun a_ w_ hn_ hBt hr hR hD hO hS => d6 rfl (op_samer (outr_eq (show a_.eval (.tmp 73) = .agg #[.bool n_17, .slice a_17 r_17.length c_17, .slice b_17 s_17.length d_17] from hD 0 rfl) (G17.ru hr) (K17.ru hr) l17 k17) (show OutR ((nm (tp pr qr) (tq qr))) ((dn (tp pr qr) (tq qr))) (12 * (1500) + 20) (a_.eval (.tmp 75)) w_ from hD 2 rfl) ⟨rfl, rfl⟩))),
        .inr (.norm 77 rfl rfl (nxt rfl) rfl (fun a_ w_ hn_ hBt hr hR hD hO hS => d6 rfl (op_mv (show a_.eval (.tmp 76) = .bool true from hD 3 rfl)))),
        .inr (.norm 78 rfl rfl (nxt rfl) rfl (fun a_ w_ hn_ hBt hr hR hD hO hS => ⟨⟨_, rfl⟩, fun _ => d6 rfl (op_loadv W2ok ((hR 7 rfl).trans f7) (b7.keep5 hBt trivial trivial)), fun hne => absurd (hD 4 rfl) hne⟩)),
        .inr (.norm 79 rfl rfl (nxt rfl) rfl (fun a_ w_ hn_ hBt hr hR hD hO hS => ⟨⟨_, rfl⟩, fun _ => d6 rfl (op_loadv R3ok ((hR 1 rfl).trans f1) (b1.keep5 hBt trivial trivial)), fun hne => absurd (hD 4 rfl) hne⟩)),
        .inr (.norm 80 rfl rfl (nxt rfl) rfl (fun a_ w_ hn_ hBt hr hR hD hO hS => ⟨⟨_, rfl⟩, fun _ => d6 rfl (frw1 (Nat.zero_le _) (op_q3floorF (isr_eq (show a_.eval (.tmp 79) = .agg #[.bool nr, .slice ar mr cr, .slice br kr dr] from hD 6 rfl) (Ar.ru hr) (Sr.ru hr) Vr Lr Mr) (by omega))), fun hne => absurd (hD 4 rfl) hne⟩)),
        .inr (.norm 81 rfl rfl (nxt rfl) rfl (fun a_ w_ hn_ hBt hr hR hD hO hS => ⟨⟨_, rfl⟩, fun _ => d6 rfl (op_same (outw_eq (show a_.eval (.tmp 78) = .agg #[.bool n_19, .slice a_19 r_19.length c_19] from hD 5 rfl) (G19.ru hr) l19) (show FrW (0) (((nm (tp pr qr) (tq qr)) / (dn (tp pr qr) (tq qr)))) (6 * (1500) + 16) (a_.eval (.tmp 80)) w_ from hD 7 rfl).out (fl_nm hq0)), fun hne => absurd (hD 4 rfl) hne⟩)),
        .inr (.norm 82 rfl rfl (nxt rfl) rfl (fun a_ w_ hn_ hBt hr hR hD hO hS => d6 rfl (op_pickb (show a_.eval (.tmp 77) = .bool true from hD 4 rfl) (show a_.eval (.tmp 81) = .bool true from hD 8 rfl)))),
        .inr (.norm 83 rfl rfl (nxt rfl) rfl (fun a_ w_ hn_ hBt hr hR hD hO hS => d6 rfl (op_mv (show a_.eval (.tmp 82) = .bool true from hD 9 rfl)))),
        .inr (.norm 84 rfl rfl (nxt rfl) rfl (fun a_ w_ hn_ hBt hr hR hD hO hS => ⟨⟨_, rfl⟩, fun _ => d6 rfl (op_loadv R3ok ((hR 8 rfl).trans f8) (b8.keep5 hBt trivial trivial)), fun hne => absurd (hD 10 rfl) hne⟩)),
        .inr (.norm 85 rfl rfl (nxt rfl) rfl (fun a_ w_ hn_ hBt hr hR hD hO hS => ⟨⟨_, rfl⟩, fun _ => d6 rfl (op_loadv R3ok ((hR 1 rfl).trans f1) (b1.keep5 hBt trivial trivial)), fun hne => absurd (hD 10 rfl) hne⟩)),
        .inr (.norm 86 rfl rfl (nxt rfl) rfl (fun a_ w_ hn_ hBt hr hR hD hO hS => ⟨⟨_, rfl⟩, fun _ => d6 rfl (op_q3neg (isr_eq (show a_.eval (.tmp 85) = .agg #[.bool nr, .slice ar mr cr, .slice br kr dr] from hD 12 rfl) (Ar.ru hr) (Sr.ru hr) Vr Lr Mr) (by omega)), fun hne => absurd (hD 10 rfl) hne⟩)),
        .inr (.norm 87 rfl rfl (nxt rfl) rfl (fun a_ w_ hn_ hBt hr hR hD hO hS => ⟨⟨_, rfl⟩, fun _ => d6 rfl (op_samer (outr_eq (show a_.eval (.tmp 84) = .agg #[.bool n_21, .slice a_21 r_21.length c_21, .slice b_21 s_21.length d_21] from hD 11 rfl) (G21.ru hr) (K21.ru hr) l21 k21) (show OutR ((-(nm (tp pr qr) (tq qr)))) ((dn (tp pr qr) (tq qr))) (24 * (1500) + 40) (a_.eval (.tmp 86)) w_ from hD 13 rfl) ⟨nm_minus, dn_minus⟩), fun hne => absurd (hD 10 rfl) hne⟩)),
        .inr (.norm 88 rfl rfl (nxt rfl) rfl (fun a_ w_ hn_ hBt hr hR hD hO hS => d6 rfl (op_pickb (show a_.eval (.tmp 83) = .bool true from hD 10 rfl) (show a_.eval (.tmp 87) = .bool true from hD 14 rfl)))),
        .inr (.norm 89 rfl rfl (nxt rfl) rfl (fun a_ w_ hn_ hBt hr hR hD hO hS => d6 rfl (op_mv (show a_.eval (.tmp 88) = .bool true from hD 15 rfl)))),
        .inr (.norm 90 rfl rfl (nxt rfl) rfl (fun a_ w_ hn_ hBt hr hR hD hO hS => ⟨⟨_, rfl⟩, fun _ => d6 rfl (op_loadv W2ok ((hR 9 rfl).trans f9) (b9.keep5 hBt trivial trivial)), fun hne => absurd (hD 16 rfl) hne⟩)),
        .inr (.norm 91 rfl rfl (nxt rfl) rfl (fun a_ w_ hn_ hBt hr hR hD hO hS => ⟨⟨_, rfl⟩, fun _ => d6 rfl (op_loadv W2ok ((hR 13 rfl).trans f13) (b13.keep5 hBt trivial trivial)), fun hne => absurd (hD 16 rfl) hne⟩)),
        .inr (.norm 92 rfl rfl (nxt rfl) rfl (fun a_ w_ hn_ hBt hr hR hD hO hS => ⟨⟨_, rfl⟩, fun _ => d6 rfl (op_same (outw_eq (show a_.eval (.tmp 90) = .agg #[.bool n_23, .slice a_23 r_23.length c_23] from hD 17 rfl) (G23.ru hr) l23) (outw_eq (show a_.eval (.tmp 91) = .agg #[.bool n_27, .slice a_27 r_27.length c_27] from hD 18 rfl) (G27.ru hr) l27) rfl), fun hne => absurd (hD 16 rfl) hne⟩)),
        .inr (.norm 93 rfl rfl (nxt rfl) rfl (fun a_ w_ hn_ hBt hr hR hD hO hS => d6 rfl (op_pickb (show a_.eval (.tmp 89) = .bool true from hD 16 rfl) (show a_.eval (.tmp 92) = .bool true from hD 19 rfl)))),
        .inr (.norm 94 rfl rfl (nxt rfl) rfl (fun a_ w_ hn_ hBt hr hR hD hO hS => d6 rfl (op_mv (show a_.eval (.tmp 93) = .bool true from hD 20 rfl)))),
        .inr (.norm 95 rfl rfl (nxt rfl) rfl (fun a_ w_ hn_ hBt hr hR hD hO hS => ⟨⟨_, rfl⟩, fun _ => d6 rfl (op_mv ((hR 15 rfl).trans f15)), fun hne => absurd (hD 21 rfl) hne⟩)),
        .inr (.norm 96 rfl rfl (nxt rfl) rfl (fun a_ w_ hn_ hBt hr hR hD hO hS => ⟨⟨_, rfl⟩, fun _ => d6 rfl (op_loadv R3ok ((hR 6 rfl).trans f6) (b6.keep5 hBt trivial trivial)), fun hne => absurd (hD 21 rfl) hne⟩)),
        .inl rfl,
        .inl rfl,
        .inl rfl,
        .inl rfl,
        .inl rfl,
        .inl rfl,
        .inl rfl,
        .inl rfl,
        .inl rfl,
        .inl rfl,
        .inl rfl,
        .inl rfl,
        .inl rfl,
        .inl rfl,
        .inl rfl,
        .inl rfl,
        .inl rfl,
        .inl rfl,
        .inl rfl,
        .inl rfl,
        .inl rfl,
        .inl rfl,
        trivial⟩
    rotate_left
    · exact fun h => by cases h
    intro t_ o_ ht_ ho_ a39 w39 gs39 B39 T39 F_
    obtain rfl := Option.some.inj ht_; obtain rfl := Option.some.inj ho_; clear ht_ ho_
    obtain ⟨hn39, hd39, hBt, hr, hR, hP, hTs, hLi, hX, hU, hRel, hSl⟩ := F_
    replace hn := hn39; replace hd := hd39.trans hd
    have lq39HT17 := HT17.le
    have lq39HT19 := HT19.le
    have lq39HT21 := HT21.le
    have lq39HT23 := HT23.le
    have lq39HT27 := HT27.le
    have lq39BK := BK.lt.2
    have lq39HN := HN.le
    replace b7 := b7.keep5 hBt trivial trivial
    replace b8 := b8.keep5 hBt trivial trivial
    replace b9 := b9.keep5 hBt trivial trivial
    replace f2 := (hSl 45 2 (by decide) rfl).trans f2
    replace f7 := (hR 7 rfl).trans f7
    replace f8 := (hR 8 rfl).trans f8
    replace f9 := (hR 9 rfl).trans f9
    replace f15 := (hR 15 rfl).trans f15
    have e94 : a39.eval (.tmp 94) = .bool true := hP 21 (by decide)
    have f94 := e94
    have e95 : a39.eval (.tmp 95) = .pointer (some ⟨pB, 0, none⟩) := hP 22 (by decide)
    have f95 := e95
    have e96 : a39.eval (.tmp 96) = .agg #[.bool n_17, .slice a_17 r_17.length c_17, .slice b_17 s_17.length d_17] := hP 23 (by decide)
    have f96 := e96
    have hBl_ := hBt.below (Nat.le_refl _) (UpOld.all (bx := []) trivial) (UpX.all (bx := []) trivial)
    replace Ar := Ar.ru hr
    replace Sr := Sr.ru hr
    replace Dr := Dr.ru hr
    replace Tr := Tr.ru hr
    replace F17 := F17.ru hr
    replace H17 := H17.ru hr
    replace G17 := G17.ru hr
    replace A17 := A17.ru hr
    replace K17 := K17.ru hr
    replace S17 := S17.ru hr
    replace HT17 := HT17.ru hr
    replace F19 := F19.ru hr
    replace G19 := G19.ru hr
    replace A19 := A19.ru hr
    replace HT19 := HT19.ru hr
    replace F21 := F21.ru hr
    replace H21 := H21.ru hr
    replace G21 := G21.ru hr
    replace A21 := A21.ru hr
    replace K21 := K21.ru hr
    replace S21 := S21.ru hr
    replace HT21 := HT21.ru hr
    replace F23 := F23.ru hr
    replace G23 := G23.ru hr
    replace A23 := A23.ru hr
    replace HT23 := HT23.ru hr
    replace F27 := F27.ru hr
    replace G27 := G27.ru hr
    replace A27 := A27.ru hr
    replace HT27 := HT27.ru hr
    replace BK := BK.below hBl_
    replace HN := HN.ru hr
    replace HB := HB.trans (hBt.below HB.size (UpOld.all (bx := []) trivial) (UpX.all (bx := []) trivial))
    clear hBt hr hR hP hTs hLi hX hU hRel hSl
    refine ⟨⟨⟨94, rfl⟩, f94⟩, (op_ownr f95 f96 BK (by decide) F17 H17 lo17 lo17q HB.size (Nat.le_trans hq17 HN.le) (Nat.le_trans hq17q HN.le) (fun j hj => (apt_nil hq17) j (hbs j hj)) (fun j hj => (apt_nil hq17q) j (hbs j hj)) ap17_17q.out hb17q.out).mono ?_⟩
    rintro v_ w40 ⟨rfl, bs40, ks_, BK_, kp_, hj_⟩
    have hbs_ := growU2 HN.le hbs hj_
    replace b7 := b7.kp kp_ (bsT_ne (by decide) BK b7) (fun h => (nin_cons nb7_17q.out (nin_cons nb7_17.out (nin_nil kb7))) (hbs_ _ (.inr h)))
    replace b8 := b8.kp kp_ (bsT_ne (by decide) BK b8) (fun h => (nin_cons nb8_17q.out (nin_cons nb8_17.out (nin_nil kb8))) (hbs_ _ (.inr h)))
    replace b9 := b9.kp kp_ (bsT_ne (by decide) BK b9) (fun h => (nin_cons nb9_17q.out (nin_cons nb9_17.out (nin_nil kb9))) (hbs_ _ (.inr h)))
    replace F19 := F19.kp kp_ hb19.out (fun j hj => (apt_cons ap17q_19.out (apt_cons ap17_19.out (apt_nil hq19))) j (hbs_ j (.inr hj)))
    replace HT19 := HT19.kp kp_
    replace F21 := F21.kp kp_ hb21.out (fun j hj => (apt_cons ap17q_21.out (apt_cons ap17_21.out (apt_nil hq21))) j (hbs_ j (.inr hj)))
    replace H21 := H21.kp kp_ hb21q.out (fun j hj => (apt_cons ap17q_21q.out (apt_cons ap17_21q.out (apt_nil hq21q))) j (hbs_ j (.inr hj)))
    replace HT21 := HT21.kp kp_
    replace F23 := F23.kp kp_ hb23.out (fun j hj => (apt_cons ap17q_23.out (apt_cons ap17_23.out (apt_nil hq23))) j (hbs_ j (.inr hj)))
    replace HT23 := HT23.kp kp_
    replace HT27 := HT27.kp kp_
    replace HN := HN.kp kp_
    replace HB := HB.trans (kp_.below upB (fun j hj => (low_cons lo17q (low_cons lo17 (low_nil hWN))) j (hbs_ j (.inr hj))) HB.size)
    replace BK := BK_; replace hbs : ∀ j ∈ bs40, _ := fun j hj => hbs_ j (.inl hj); clear BK_ hbs_ kp_ hj_ F17 H17 G17 A17 K17 S17 HT17 G19 A19 G21 A21 K21 S21 G23 A23 F27 G27 A27
    replace Ar := Ar0.below HB; replace Sr := Sr0.below HB; replace Dr : Ag _ false br kr dr rt qr := ⟨Sr, Vr⟩; replace Tr := Ar.sl
    change Good _ _ _ _ _ (Act.put a39 (some 97) (.bool true)) _
    have q_ : 97 < a39.tmps.size := by rw [hn]; decide
    generalize hA_ : Act.put a39 (some 97) (.bool true) = a41
    replace hn : a41.tmps.size = 118 := by rw [← hA_, put_tmps]; simp [hn]
    replace hd : a41.defers = [] := by rw [← hA_]; exact hd
    replace f2 : a41.eval (.tmp 2) = (.bool false) := by rw [← hA_]; exact (eval_put_ne (by decide)).trans f2
    replace f7 : a41.eval (.tmp 7) = .pointer (some ⟨gs18 0, 0, none⟩) := by rw [← hA_]; exact (eval_put_ne (by decide)).trans f7
    replace f8 : a41.eval (.tmp 8) = .pointer (some ⟨gs20 0, 0, none⟩) := by rw [← hA_]; exact (eval_put_ne (by decide)).trans f8
    replace f9 : a41.eval (.tmp 9) = .pointer (some ⟨gs22 0, 0, none⟩) := by rw [← hA_]; exact (eval_put_ne (by decide)).trans f9
    replace f15 : a41.eval (.tmp 15) = .pointer (some ⟨pB, 0, none⟩) := by rw [← hA_]; exact (eval_put_ne (by decide)).trans f15
    replace f94 : a41.eval (.tmp 94) = .bool true := by rw [← hA_]; exact (eval_put_ne (by decide)).trans f94
    replace f95 : a41.eval (.tmp 95) = .pointer (some ⟨pB, 0, none⟩) := by rw [← hA_]; exact (eval_put_ne (by decide)).trans f95
    replace f96 : a41.eval (.tmp 96) = .agg #[.bool n_17, .slice a_17 r_17.length c_17, .slice b_17 s_17.length d_17] := by rw [← hA_]; exact (eval_put_ne (by decide)).trans f96
    have f97 : a41.eval (.tmp 97) = .bool true := by rw [← hA_]; exact eval_put_same q_
    clear q_
    clear hA_
    refine good6 25 29 (some 29) [some 73, some 74, some 75, some 76, some 77, some 78, some 79, some 80, some 81, some 82, some 83, some 84, some 85, some 86, some 87, some 88, some 89, some 90, some 91, some 92, some 93, some 94, some 95, some 96, some 97, some 98, some 99, some 100, some 101, some 102, some 103, some 104, some 105, some 106, some 107, some 108, some 109, some 110, some 111, some 112, some 113, some 114, some 115, some 116, some 117, some 2] [(fun _ _ => True), (fun _ _ => True), (fun _ _ => True), (fun _ _ => True), (fun _ _ => True), (fun _ _ => True), (fun _ _ => True), (fun _ _ => True), (fun _ _ => True), (fun _ _ => True), (fun _ _ => True), (fun _ _ => True), (fun _ _ => True), (fun _ _ => True), (fun _ _ => True), (fun _ _ => True), (fun _ _ => True), (fun _ _ => True), (fun _ _ => True), (fun _ _ => True), (fun _ _ => True), Eqs (.bool true), Eqs (.pointer (some ⟨pB, 0, none⟩)), Eqs (.agg #[.bool n_17, .slice a_17 r_17.length c_17, .slice b_17 s_17.length d_17]), Eqs (.bool true), Eqs (.bool true), Eqs (.bool true), Eqs (.pointer (some ⟨pB, 0, none⟩)), Eqs (.agg #[.bool n_21, .slice a_21 r_21.length c_21, .slice b_21 s_21.length d_21]), (fun _ _ => True), (fun _ _ => True), (fun _ _ => True), (fun _ _ => True), (fun _ _ => True), (fun _ _ => True), (fun _ _ => True), (fun _ _ => True), (fun _ _ => True), (fun _ _ => True), (fun _ _ => True), (fun _ _ => True), (fun _ _ => True), (fun _ _ => True), (fun _ _ => True), (fun _ _ => True), (fun _ _ => True)] [] [] [] [] [] (by kernel_rfl) hn rfl (by kernel_rfl) (by kernel_rfl) (by kernel_rfl) (by kernel_rfl) (by kernel_rfl) (by kernel_rfl) (by kernel_rfl) (by kernel_rfl) (by kernel_rfl) (by decide) ⟨True.mono5, True.mono5, True.mono5, True.mono5, True.mono5, True.mono5, True.mono5, True.mono5, True.mono5, True.mono5, True.mono5, True.mono5, True.mono5, True.mono5, True.mono5, True.mono5, True.mono5, True.mono5, True.mono5, True.mono5, True.mono5, Eqs.mono5 _, Eqs.mono5 _, Eqs.mono5 _, Eqs.mono5 _, Eqs.mono5 _, Eqs.mono5 _, Eqs.mono5 _, Eqs.mono5 _, True.mono5, True.mono5, True.mono5, True.mono5, True.mono5, True.mono5, True.mono5, True.mono5, True.mono5, True.mono5, True.mono5, True.mono5, True.mono5, True.mono5, True.mono5, True.mono5, True.mono5, trivial⟩ trivial xok_nil ok_nil (IsOld.all (bx := []) trivial) (DisOld.all (bx := []) trivial) ⟨⟨⟨⟨⟨⟨⟨⟨⟨⟨⟨⟨⟨⟨⟨⟨⟨⟨⟨⟨⟨⟨⟨⟨⟨trivial, trivial⟩, trivial⟩, trivial⟩, trivial⟩, trivial⟩, trivial⟩, trivial⟩, trivial⟩, trivial⟩, trivial⟩, trivial⟩, trivial⟩, trivial⟩, trivial⟩, trivial⟩, trivial⟩, trivial⟩, trivial⟩, trivial⟩, trivial⟩, trivial⟩, f94⟩, f95⟩, f96⟩, f97⟩ ?_ ?_ ?_
    · exact ⟨.inl rfl,
        .inl rfl,
        .inl rfl,
        .inl rfl,
        .inl rfl,
        .inl rfl,
        .inl rfl,
        .inl rfl,
        .inl rfl,
        .inl rfl,
        .inl rfl,
        .inl rfl,
        .inl rfl,
        .inl rfl,
        .inl rfl,
        .inl rfl,
        .inl rfl,
        .inl rfl,
        .inl rfl,
        .inl rfl,
        .inl rfl,
        .inl rfl,
        .inl rfl,
        .inl rfl,
        .inl rfl,
        .inr (.norm 98 rfl rfl (nxt rfl) rfl (fun a_ w_ hn_ hBt hr hR hD hO hS => d6 rfl (op_pickb (show a_.eval (.tmp 94) = .bool true from hD 21 rfl) (show a_.eval (.tmp 97) = .bool true from hD 24 rfl)))),
        .inr (.norm 99 rfl rfl (nxt rfl) rfl (fun a_ w_ hn_ hBt hr hR hD hO hS => d6 rfl (op_mv (show a_.eval (.tmp 98) = .bool true from hD 25 rfl)))),
        .inr (.norm 100 rfl rfl (nxt rfl) rfl (fun a_ w_ hn_ hBt hr hR hD hO hS => ⟨⟨_, rfl⟩, fun _ => d6 rfl (op_mv ((hR 15 rfl).trans f15)), fun hne => absurd (hD 26 rfl) hne⟩)),
        .inr (.norm 101 rfl rfl (nxt rfl) rfl (fun a_ w_ hn_ hBt hr hR hD hO hS => ⟨⟨_, rfl⟩, fun _ => d6 rfl (op_loadv R3ok ((hR 8 rfl).trans f8) (b8.keep5 hBt trivial trivial)), fun hne => absurd (hD 26 rfl) hne⟩)),
        .inl rfl,
        .inl rfl,
        .inl rfl,
        .inl rfl,
        .inl rfl,
        .inl rfl,
        .inl rfl,
        .inl rfl,
        .inl rfl,
        .inl rfl,
        .inl rfl,
        .inl rfl,
        .inl rfl,
        .inl rfl,
        .inl rfl,
        .inl rfl,
        .inl rfl,
        trivial⟩
    rotate_left
    · exact fun h => by cases h
    intro t_ o_ ht_ ho_ a42 w42 gs42 B42 T42 F_
    obtain rfl := Option.some.inj ht_; obtain rfl := Option.some.inj ho_; clear ht_ ho_
    obtain ⟨hn42, hd42, hBt, hr, hR, hP, hTs, hLi, hX, hU, hRel, hSl⟩ := F_
    replace hn := hn42; replace hd := hd42.trans hd
    have lq42HT19 := HT19.le
    have lq42HT21 := HT21.le
    have lq42HT23 := HT23.le
    have lq42HT27 := HT27.le
    have lq42BK := BK.lt.2
    have lq42HN := HN.le
    replace b7 := b7.keep5 hBt trivial trivial
    replace b9 := b9.keep5 hBt trivial trivial
    replace f2 := (hSl 45 2 (by decide) rfl).trans f2
    replace f7 := (hR 7 rfl).trans f7
    replace f9 := (hR 9 rfl).trans f9
    replace f15 := (hR 15 rfl).trans f15
    have e99 : a42.eval (.tmp 99) = .bool true := hP 26 (by decide)
    have f99 := e99
    have e100 : a42.eval (.tmp 100) = .pointer (some ⟨pB, 0, none⟩) := hP 27 (by decide)
    have f100 := e100
    have e101 : a42.eval (.tmp 101) = .agg #[.bool n_21, .slice a_21 r_21.length c_21, .slice b_21 s_21.length d_21] := hP 28 (by decide)
    have f101 := e101
    have hBl_ := hBt.below (Nat.le_refl _) (UpOld.all (bx := []) trivial) (UpX.all (bx := []) trivial)
    replace Ar := Ar.ru hr
    replace Sr := Sr.ru hr
    replace Dr := Dr.ru hr
    replace Tr := Tr.ru hr
    replace F19 := F19.ru hr
    replace HT19 := HT19.ru hr
    replace F21 := F21.ru hr
    replace H21 := H21.ru hr
    replace HT21 := HT21.ru hr
    replace F23 := F23.ru hr
    replace HT23 := HT23.ru hr
    replace HT27 := HT27.ru hr
    replace BK := BK.below hBl_
    replace HN := HN.ru hr
    replace HB := HB.trans (hBt.below HB.size (UpOld.all (bx := []) trivial) (UpX.all (bx := []) trivial))
    clear hBt hr hR hP hTs hLi hX hU hRel hSl
    refine ⟨⟨⟨99, rfl⟩, f99⟩, (op_ownr f100 f101 BK (by decide) F21 H21 lo21 lo21q HB.size (Nat.le_trans hq21 HN.le) (Nat.le_trans hq21q HN.le) (fun j hj => (apt_cons ap17q_21.out (apt_cons ap17_21.out (apt_nil hq21))) j (hbs j hj)) (fun j hj => (apt_cons ap17q_21q.out (apt_cons ap17_21q.out (apt_nil hq21q))) j (hbs j hj)) ap21_21q.out hb21q.out).mono ?_⟩
    rintro v_ w43 ⟨rfl, bs43, ks_, BK_, kp_, hj_⟩
    have hbs_ := growU2 HN.le hbs hj_
    replace b7 := b7.kp kp_ (bsT_ne (by decide) BK b7) (fun h => (nin_cons nb7_21q.out (nin_cons nb7_21.out (nin_cons nb7_17q.out (nin_cons nb7_17.out (nin_nil kb7))))) (hbs_ _ (.inr h)))
    replace b9 := b9.kp kp_ (bsT_ne (by decide) BK b9) (fun h => (nin_cons nb9_21q.out (nin_cons nb9_21.out (nin_cons nb9_17q.out (nin_cons nb9_17.out (nin_nil kb9))))) (hbs_ _ (.inr h)))
    replace F19 := F19.kp kp_ hb19.out (fun j hj => (apt_cons (ap19_21q.out.symm) (apt_cons (ap19_21.out.symm) (apt_cons ap17q_19.out (apt_cons ap17_19.out (apt_nil hq19))))) j (hbs_ j (.inr hj)))
    replace HT19 := HT19.kp kp_
    replace F23 := F23.kp kp_ hb23.out (fun j hj => (apt_cons ap21q_23.out (apt_cons ap21_23.out (apt_cons ap17q_23.out (apt_cons ap17_23.out (apt_nil hq23))))) j (hbs_ j (.inr hj)))
    replace HT23 := HT23.kp kp_
    replace HT27 := HT27.kp kp_
    replace HN := HN.kp kp_
    replace HB := HB.trans (kp_.below upB (fun j hj => (low_cons lo21q (low_cons lo21 (low_cons lo17q (low_cons lo17 (low_nil hWN))))) j (hbs_ j (.inr hj))) HB.size)
    replace BK := BK_; replace hbs : ∀ j ∈ bs43, _ := fun j hj => hbs_ j (.inl hj); clear BK_ hbs_ kp_ hj_ F21 H21 HT21
    replace Ar := Ar0.below HB; replace Sr := Sr0.below HB; replace Dr : Ag _ false br kr dr rt qr := ⟨Sr, Vr⟩; replace Tr := Ar.sl
    change Good _ _ _ _ _ (Act.put a42 (some 102) (.bool true)) _
    have q_ : 102 < a42.tmps.size := by rw [hn]; decide
    generalize hA_ : Act.put a42 (some 102) (.bool true) = a44
    replace hn : a44.tmps.size = 118 := by rw [← hA_, put_tmps]; simp [hn]
    replace hd : a44.defers = [] := by rw [← hA_]; exact hd
    replace f2 : a44.eval (.tmp 2) = (.bool false) := by rw [← hA_]; exact (eval_put_ne (by decide)).trans f2
    replace f7 : a44.eval (.tmp 7) = .pointer (some ⟨gs18 0, 0, none⟩) := by rw [← hA_]; exact (eval_put_ne (by decide)).trans f7
    replace f9 : a44.eval (.tmp 9) = .pointer (some ⟨gs22 0, 0, none⟩) := by rw [← hA_]; exact (eval_put_ne (by decide)).trans f9
    replace f15 : a44.eval (.tmp 15) = .pointer (some ⟨pB, 0, none⟩) := by rw [← hA_]; exact (eval_put_ne (by decide)).trans f15
    replace f99 : a44.eval (.tmp 99) = .bool true := by rw [← hA_]; exact (eval_put_ne (by decide)).trans f99
    replace f100 : a44.eval (.tmp 100) = .pointer (some ⟨pB, 0, none⟩) := by rw [← hA_]; exact (eval_put_ne (by decide)).trans f100
    replace f101 : a44.eval (.tmp 101) = .agg #[.bool n_21, .slice a_21 r_21.length c_21, .slice b_21 s_21.length d_21] := by rw [← hA_]; exact (eval_put_ne (by decide)).trans f101
    have f102 : a44.eval (.tmp 102) = .bool true := by rw [← hA_]; exact eval_put_same q_
    clear q_
    clear hA_
    refine good6 30 34 (some 34) [some 73, some 74, some 75, some 76, some 77, some 78, some 79, some 80, some 81, some 82, some 83, some 84, some 85, some 86, some 87, some 88, some 89, some 90, some 91, some 92, some 93, some 94, some 95, some 96, some 97, some 98, some 99, some 100, some 101, some 102, some 103, some 104, some 105, some 106, some 107, some 108, some 109, some 110, some 111, some 112, some 113, some 114, some 115, some 116, some 117, some 2] [(fun _ _ => True), (fun _ _ => True), (fun _ _ => True), (fun _ _ => True), (fun _ _ => True), (fun _ _ => True), (fun _ _ => True), (fun _ _ => True), (fun _ _ => True), (fun _ _ => True), (fun _ _ => True), (fun _ _ => True), (fun _ _ => True), (fun _ _ => True), (fun _ _ => True), (fun _ _ => True), (fun _ _ => True), (fun _ _ => True), (fun _ _ => True), (fun _ _ => True), (fun _ _ => True), (fun _ _ => True), (fun _ _ => True), (fun _ _ => True), (fun _ _ => True), (fun _ _ => True), Eqs (.bool true), Eqs (.pointer (some ⟨pB, 0, none⟩)), Eqs (.agg #[.bool n_21, .slice a_21 r_21.length c_21, .slice b_21 s_21.length d_21]), Eqs (.bool true), Eqs (.bool true), Eqs (.bool true), Eqs (.pointer (some ⟨pB, 0, none⟩)), Eqs (.agg #[.bool n_19, .slice a_19 r_19.length c_19]), (fun _ _ => True), (fun _ _ => True), (fun _ _ => True), (fun _ _ => True), (fun _ _ => True), (fun _ _ => True), (fun _ _ => True), (fun _ _ => True), (fun _ _ => True), (fun _ _ => True), (fun _ _ => True), (fun _ _ => True)] [] [] [] [] [] (by kernel_rfl) hn rfl (by kernel_rfl) (by kernel_rfl) (by kernel_rfl) (by kernel_rfl) (by kernel_rfl) (by kernel_rfl) (by kernel_rfl) (by kernel_rfl) (by kernel_rfl) (by decide) ⟨True.mono5, True.mono5, True.mono5, True.mono5, True.mono5, True.mono5, True.mono5, True.mono5, True.mono5, True.mono5, True.mono5, True.mono5, True.mono5, True.mono5, True.mono5, True.mono5, True.mono5, True.mono5, True.mono5, True.mono5, True.mono5, True.mono5, True.mono5, True.mono5, True.mono5, True.mono5, Eqs.mono5 _, Eqs.mono5 _, Eqs.mono5 _, Eqs.mono5 _, Eqs.mono5 _, Eqs.mono5 _, Eqs.mono5 _, Eqs.mono5 _, True.mono5, True.mono5, True.mono5, True.mono5, True.mono5, True.mono5, True.mono5, True.mono5, True.mono5, True.mono5, True.mono5, True.mono5, trivial⟩ trivial xok_nil ok_nil (IsOld.all (bx := []) trivial) (DisOld.all (bx := []) trivial) ⟨⟨⟨⟨⟨⟨⟨⟨⟨⟨⟨⟨⟨⟨⟨⟨⟨⟨⟨⟨⟨⟨⟨⟨⟨⟨⟨⟨⟨⟨trivial, trivial⟩, trivial⟩, trivial⟩, trivial⟩, trivial⟩, trivial⟩, trivial⟩, trivial⟩, trivial⟩, trivial⟩, trivial⟩, trivial⟩, trivial⟩, trivial⟩, trivial⟩, trivial⟩, trivial⟩, trivial⟩, trivial⟩, trivial⟩, trivial⟩, trivial⟩, trivial⟩, trivial⟩, trivial⟩, trivial⟩, f99⟩, f100⟩, f101⟩, f102⟩ ?_ ?_ ?_
    · exact ⟨.inl rfl,
        .inl rfl,
        .inl rfl,
        .inl rfl,
        .inl rfl,
        .inl rfl,
        .inl rfl,
        .inl rfl,
        .inl rfl,
        .inl rfl,
        .inl rfl,
        .inl rfl,
        .inl rfl,
        .inl rfl,
        .inl rfl,
        .inl rfl,
        .inl rfl,
        .inl rfl,
        .inl rfl,
        .inl rfl,
        .inl rfl,
        .inl rfl,
        .inl rfl,
        .inl rfl,
        .inl rfl,
        .inl rfl,
        .inl rfl,
        .inl rfl,
        .inl rfl,
        .inl rfl,
        .inr (.norm 103 rfl rfl (nxt rfl) rfl (fun a_ w_ hn_ hBt hr hR hD hO hS => d6 rfl (op_pickb (show a_.eval (.tmp 99) = .bool true from hD 26 rfl) (show a_.eval (.tmp 102) = .bool true from hD 29 rfl)))),
        .inr (.norm 104 rfl rfl (nxt rfl) rfl (fun a_ w_ hn_ hBt hr hR hD hO hS => d6 rfl (op_mv (show a_.eval (.tmp 103) = .bool true from hD 30 rfl)))),
        .inr (.norm 105 rfl rfl (nxt rfl) rfl (fun a_ w_ hn_ hBt hr hR hD hO hS => ⟨⟨_, rfl⟩, fun _ => d6 rfl (op_mv ((hR 15 rfl).trans f15)), fun hne => absurd (hD 31 rfl) hne⟩)),
        .inr (.norm 106 rfl rfl (nxt rfl) rfl (fun a_ w_ hn_ hBt hr hR hD hO hS => ⟨⟨_, rfl⟩, fun _ => d6 rfl (op_loadv W2ok ((hR 7 rfl).trans f7) (b7.keep5 hBt trivial trivial)), fun hne => absurd (hD 31 rfl) hne⟩)),
        .inl rfl,
        .inl rfl,
        .inl rfl,
        .inl rfl,
        .inl rfl,
        .inl rfl,
        .inl rfl,
        .inl rfl,
        .inl rfl,
        .inl rfl,
        .inl rfl,
        .inl rfl,
        trivial⟩
    rotate_left
    · exact fun h => by cases h
    intro t_ o_ ht_ ho_ a45 w45 gs45 B45 T45 F_
    obtain rfl := Option.some.inj ht_; obtain rfl := Option.some.inj ho_; clear ht_ ho_
    obtain ⟨hn45, hd45, hBt, hr, hR, hP, hTs, hLi, hX, hU, hRel, hSl⟩ := F_
    replace hn := hn45; replace hd := hd45.trans hd
    have lq45HT19 := HT19.le
    have lq45HT23 := HT23.le
    have lq45HT27 := HT27.le
    have lq45BK := BK.lt.2
    have lq45HN := HN.le
    replace b9 := b9.keep5 hBt trivial trivial
    replace f2 := (hSl 45 2 (by decide) rfl).trans f2
    replace f9 := (hR 9 rfl).trans f9
    replace f15 := (hR 15 rfl).trans f15
    have e104 : a45.eval (.tmp 104) = .bool true := hP 31 (by decide)
    have f104 := e104
    have e105 : a45.eval (.tmp 105) = .pointer (some ⟨pB, 0, none⟩) := hP 32 (by decide)
    have f105 := e105
    have e106 : a45.eval (.tmp 106) = .agg #[.bool n_19, .slice a_19 r_19.length c_19] := hP 33 (by decide)
    have f106 := e106
    have hBl_ := hBt.below (Nat.le_refl _) (UpOld.all (bx := []) trivial) (UpX.all (bx := []) trivial)
    replace Ar := Ar.ru hr
    replace Sr := Sr.ru hr
    replace Dr := Dr.ru hr
    replace Tr := Tr.ru hr
    replace F19 := F19.ru hr
    replace HT19 := HT19.ru hr
    replace F23 := F23.ru hr
    replace HT23 := HT23.ru hr
    replace HT27 := HT27.ru hr
    replace BK := BK.below hBl_
    replace HN := HN.ru hr
    replace HB := HB.trans (hBt.below HB.size (UpOld.all (bx := []) trivial) (UpX.all (bx := []) trivial))
    clear hBt hr hR hP hTs hLi hX hU hRel hSl
    refine ⟨⟨⟨104, rfl⟩, f104⟩, (op_ownw f105 f106 BK (by decide) F19 lo19 HB.size (fun j hj => (apt_cons (ap19_21q.out.symm) (apt_cons (ap19_21.out.symm) (apt_cons ap17q_19.out (apt_cons ap17_19.out (apt_nil hq19))))) j (hbs j hj))).mono ?_⟩
    rintro v_ w46 ⟨rfl, bs46, BK_, kp_, hj_⟩
    have hbs_ := growU1 HN.le hbs hj_
    replace b9 := b9.kp kp_ (bsT_ne (by decide) BK b9) (fun h => (nin_cons nb9_19.out (nin_cons nb9_21q.out (nin_cons nb9_21.out (nin_cons nb9_17q.out (nin_cons nb9_17.out (nin_nil kb9)))))) (hbs_ _ h))
    replace F23 := F23.kp kp_ hb23.out (fun j hj => (apt_cons ap19_23.out (apt_cons ap21q_23.out (apt_cons ap21_23.out (apt_cons ap17q_23.out (apt_cons ap17_23.out (apt_nil hq23)))))) j (hbs_ j hj))
    replace HT23 := HT23.kp kp_
    replace HT27 := HT27.kp kp_
    replace HN := HN.kp kp_
    replace HB := HB.trans (kp_.below upB (fun j hj => (low_cons lo19 (low_cons lo21q (low_cons lo21 (low_cons lo17q (low_cons lo17 (low_nil hWN)))))) j (hbs_ j hj)) HB.size)
    replace BK := BK_; replace hbs : ∀ j ∈ bs46, _ := hbs_; clear BK_ hbs_ kp_ hj_ F19 HT19
    replace Ar := Ar0.below HB; replace Sr := Sr0.below HB; replace Dr : Ag _ false br kr dr rt qr := ⟨Sr, Vr⟩; replace Tr := Ar.sl
    change Good _ _ _ _ _ (Act.put a45 (some 107) (.bool true)) _
    have q_ : 107 < a45.tmps.size := by rw [hn]; decide
    generalize hA_ : Act.put a45 (some 107) (.bool true) = a47
    replace hn : a47.tmps.size = 118 := by rw [← hA_, put_tmps]; simp [hn]
    replace hd : a47.defers = [] := by rw [← hA_]; exact hd
    replace f2 : a47.eval (.tmp 2) = (.bool false) := by rw [← hA_]; exact (eval_put_ne (by decide)).trans f2
    replace f9 : a47.eval (.tmp 9) = .pointer (some ⟨gs22 0, 0, none⟩) := by rw [← hA_]; exact (eval_put_ne (by decide)).trans f9
    replace f15 : a47.eval (.tmp 15) = .pointer (some ⟨pB, 0, none⟩) := by rw [← hA_]; exact (eval_put_ne (by decide)).trans f15
    replace f104 : a47.eval (.tmp 104) = .bool true := by rw [← hA_]; exact (eval_put_ne (by decide)).trans f104
    replace f105 : a47.eval (.tmp 105) = .pointer (some ⟨pB, 0, none⟩) := by rw [← hA_]; exact (eval_put_ne (by decide)).trans f105
    replace f106 : a47.eval (.tmp 106) = .agg #[.bool n_19, .slice a_19 r_19.length c_19] := by rw [← hA_]; exact (eval_put_ne (by decide)).trans f106
    have f107 : a47.eval (.tmp 107) = .bool true := by rw [← hA_]; exact eval_put_same q_
    clear q_
    clear hA_
    refine good6 35 39 (some 39) [some 73, some 74, some 75, some 76, some 77, some 78, some 79, some 80, some 81, some 82, some 83, some 84, some 85, some 86, some 87, some 88, some 89, some 90, some 91, some 92, some 93, some 94, some 95, some 96, some 97, some 98, some 99, some 100, some 101, some 102, some 103, some 104, some 105, some 106, some 107, some 108, some 109, some 110, some 111, some 112, some 113, some 114, some 115, some 116, some 117, some 2] [(fun _ _ => True), (fun _ _ => True), (fun _ _ => True), (fun _ _ => True), (fun _ _ => True), (fun _ _ => True), (fun _ _ => True), (fun _ _ => True), (fun _ _ => True), (fun _ _ => True), (fun _ _ => True), (fun _ _ => True), (fun _ _ => True), (fun _ _ => True), (fun _ _ => True), (fun _ _ => True), (fun _ _ => True), (fun _ _ => True), (fun _ _ => True), (fun _ _ => True), (fun _ _ => True), (fun _ _ => True), (fun _ _ => True), (fun _ _ => True), (fun _ _ => True), (fun _ _ => True), (fun _ _ => True), (fun _ _ => True), (fun _ _ => True), (fun _ _ => True), (fun _ _ => True), Eqs (.bool true), Eqs (.pointer (some ⟨pB, 0, none⟩)), Eqs (.agg #[.bool n_19, .slice a_19 r_19.length c_19]), Eqs (.bool true), Eqs (.bool true), Eqs (.bool true), Eqs (.pointer (some ⟨pB, 0, none⟩)), Eqs (.agg #[.bool n_23, .slice a_23 r_23.length c_23]), (fun _ _ => True), (fun _ _ => True), (fun _ _ => True), (fun _ _ => True), (fun _ _ => True), (fun _ _ => True), (fun _ _ => True)] [] [] [] [] [] (by kernel_rfl) hn rfl (by kernel_rfl) (by kernel_rfl) (by kernel_rfl) (by kernel_rfl) (by kernel_rfl) (by kernel_rfl) (by kernel_rfl) (by kernel_rfl) (by kernel_rfl) (by decide) ⟨True.mono5, True.mono5, True.mono5, True.mono5, True.mono5, True.mono5, True.mono5, True.mono5, True.mono5, True.mono5, True.mono5, True.mono5, True.mono5, True.mono5, True.mono5, True.mono5, True.mono5, True.mono5, True.mono5, True.mono5, True.mono5, True.mono5, True.mono5, True.mono5, True.mono5, True.mono5, True.mono5, True.mono5, True.mono5, True.mono5, True.mono5, Eqs.mono5 _, Eqs.mono5 _, Eqs.mono5 _, Eqs.mono5 _, Eqs.mono5 _, Eqs.mono5 _, Eqs.mono5 _, Eqs.mono5 _, True.mono5, True.mono5, True.mono5, True.mono5, True.mono5, True.mono5, True.mono5, trivial⟩ trivial xok_nil ok_nil (IsOld.all (bx := []) trivial) (DisOld.all (bx := []) trivial) ⟨⟨⟨⟨⟨⟨⟨⟨⟨⟨⟨⟨⟨⟨⟨⟨⟨⟨⟨⟨⟨⟨⟨⟨⟨⟨⟨⟨⟨⟨⟨⟨⟨⟨⟨trivial, trivial⟩, trivial⟩, trivial⟩, trivial⟩, trivial⟩, trivial⟩, trivial⟩, trivial⟩, trivial⟩, trivial⟩, trivial⟩, trivial⟩, trivial⟩, trivial⟩, trivial⟩, trivial⟩, trivial⟩, trivial⟩, trivial⟩, trivial⟩, trivial⟩, trivial⟩, trivial⟩, trivial⟩, trivial⟩, trivial⟩, trivial⟩, trivial⟩, trivial⟩, trivial⟩, trivial⟩, f104⟩, f105⟩, f106⟩, f107⟩ ?_ ?_ ?_
    · exact ⟨.inl rfl,
        .inl rfl,
        .inl rfl,
        .inl rfl,
        .inl rfl,
        .inl rfl,
        .inl rfl,
        .inl rfl,
        .inl rfl,
        .inl rfl,
        .inl rfl,
        .inl rfl,
        .inl rfl,
        .inl rfl,
        .inl rfl,
        .inl rfl,
        .inl rfl,
        .inl rfl,
        .inl rfl,
        .inl rfl,
        .inl rfl,
        .inl rfl,
        .inl rfl,
        .inl rfl,
        .inl rfl,
        .inl rfl,
        .inl rfl,
        .inl rfl,
        .inl rfl,
        .inl rfl,
        .inl rfl,
        .inl rfl,
        .inl rfl,
        .inl rfl,
        .inl rfl,
        .inr (.norm 108 rfl rfl (nxt rfl) rfl (fun a_ w_ hn_ hBt hr hR hD hO hS => d6 rfl (op_pickb (show a_.eval (.tmp 104) = .bool true from hD 31 rfl) (show a_.eval (.tmp 107) = .bool true from hD 34 rfl)))),
        .inr (.norm 109 rfl rfl (nxt rfl) rfl (fun a_ w_ hn_ hBt hr hR hD hO hS => d6 rfl (op_mv (show a_.eval (.tmp 108) = .bool true from hD 35 rfl)))),
        .inr (.norm 110 rfl rfl (nxt rfl) rfl (fun a_ w_ hn_ hBt hr hR hD hO hS => ⟨⟨_, rfl⟩, fun _ => d6 rfl (op_mv ((hR 15 rfl).trans f15)), fun hne => absurd (hD 36 rfl) hne⟩)),
        .inr (.norm 111 rfl rfl (nxt rfl) rfl (fun a_ w_ hn_ hBt hr hR hD hO hS => ⟨⟨_, rfl⟩, fun _ => d6 rfl (op_loadv W2ok ((hR 9 rfl).trans f9) (b9.keep5 hBt trivial trivial)), fun hne => absurd (hD 36 rfl) hne⟩)),
        .inl rfl,
        .inl rfl,
        .inl rfl,
        .inl rfl,
        .inl rfl,
        .inl rfl,
        .inl rfl,
        trivial⟩
    rotate_left
    · exact fun h => by cases h
    intro t_ o_ ht_ ho_ a48 w48 gs48 B48 T48 F_
    obtain rfl := Option.some.inj ht_; obtain rfl := Option.some.inj ho_; clear ht_ ho_
    obtain ⟨hn48, hd48, hBt, hr, hR, hP, hTs, hLi, hX, hU, hRel, hSl⟩ := F_
    replace hn := hn48; replace hd := hd48.trans hd
    have lq48HT23 := HT23.le
    have lq48HT27 := HT27.le
    have lq48BK := BK.lt.2
    have lq48HN := HN.le
    replace f2 := (hSl 45 2 (by decide) rfl).trans f2
    replace f15 := (hR 15 rfl).trans f15
    have e109 : a48.eval (.tmp 109) = .bool true := hP 36 (by decide)
    have f109 := e109
    have e110 : a48.eval (.tmp 110) = .pointer (some ⟨pB, 0, none⟩) := hP 37 (by decide)
    have f110 := e110
    have e111 : a48.eval (.tmp 111) = .agg #[.bool n_23, .slice a_23 r_23.length c_23] := hP 38 (by decide)
    have f111 := e111
    have hBl_ := hBt.below (Nat.le_refl _) (UpOld.all (bx := []) trivial) (UpX.all (bx := []) trivial)
    replace Ar := Ar.ru hr
    replace Sr := Sr.ru hr
    replace Dr := Dr.ru hr
    replace Tr := Tr.ru hr
    replace F23 := F23.ru hr
    replace HT23 := HT23.ru hr
    replace HT27 := HT27.ru hr
    replace BK := BK.below hBl_
    replace HN := HN.ru hr
    replace HB := HB.trans (hBt.below HB.size (UpOld.all (bx := []) trivial) (UpX.all (bx := []) trivial))
    clear hBt hr hR hP hTs hLi hX hU hRel hSl
    refine ⟨⟨⟨109, rfl⟩, f109⟩, (op_ownw f110 f111 BK (by decide) F23 lo23 HB.size (fun j hj => (apt_cons ap19_23.out (apt_cons ap21q_23.out (apt_cons ap21_23.out (apt_cons ap17q_23.out (apt_cons ap17_23.out (apt_nil hq23)))))) j (hbs j hj))).mono ?_⟩
    rintro v_ w49 ⟨rfl, bs49, BK_, kp_, hj_⟩
    have hbs_ := growU1 HN.le hbs hj_
    replace HT27 := HT27.kp kp_
    replace HN := HN.kp kp_
    replace HB := HB.trans (kp_.below upB (fun j hj => (low_cons lo23 (low_cons lo19 (low_cons lo21q (low_cons lo21 (low_cons lo17q (low_cons lo17 (low_nil hWN))))))) j (hbs_ j hj)) HB.size)
    replace BK := BK_; replace hbs : ∀ j ∈ bs49, _ := hbs_; clear BK_ hbs_ kp_ hj_ F23 HT23
    replace Ar := Ar0.below HB; replace Sr := Sr0.below HB; replace Dr : Ag _ false br kr dr rt qr := ⟨Sr, Vr⟩; replace Tr := Ar.sl
    change Good _ _ _ _ _ (Act.put a48 (some 112) (.bool true)) _
    have q_ : 112 < a48.tmps.size := by rw [hn]; decide
    generalize hA_ : Act.put a48 (some 112) (.bool true) = a50
    replace hn : a50.tmps.size = 118 := by rw [← hA_, put_tmps]; simp [hn]
    replace hd : a50.defers = [] := by rw [← hA_]; exact hd
    replace f2 : a50.eval (.tmp 2) = (.bool false) := by rw [← hA_]; exact (eval_put_ne (by decide)).trans f2
    replace f15 : a50.eval (.tmp 15) = .pointer (some ⟨pB, 0, none⟩) := by rw [← hA_]; exact (eval_put_ne (by decide)).trans f15
    replace f109 : a50.eval (.tmp 109) = .bool true := by rw [← hA_]; exact (eval_put_ne (by decide)).trans f109
    replace f110 : a50.eval (.tmp 110) = .pointer (some ⟨pB, 0, none⟩) := by rw [← hA_]; exact (eval_put_ne (by decide)).trans f110
    replace f111 : a50.eval (.tmp 111) = .agg #[.bool n_23, .slice a_23 r_23.length c_23] := by rw [← hA_]; exact (eval_put_ne (by decide)).trans f111
    have f112 : a50.eval (.tmp 112) = .bool true := by rw [← hA_]; exact eval_put_same q_
    clear q_
    clear hA_
    refine good6 40 46 none [some 73, some 74, some 75, some 76, some 77, some 78, some 79, some 80, some 81, some 82, some 83, some 84, some 85, some 86, some 87, some 88, some 89, some 90, some 91, some 92, some 93, some 94, some 95, some 96, some 97, some 98, some 99, some 100, some 101, some 102, some 103, some 104, some 105, some 106, some 107, some 108, some 109, some 110, some 111, some 112, some 113, some 114, some 115, some 116, some 117, some 2] [(fun _ _ => True), (fun _ _ => True), (fun _ _ => True), (fun _ _ => True), (fun _ _ => True), (fun _ _ => True), (fun _ _ => True), (fun _ _ => True), (fun _ _ => True), (fun _ _ => True), (fun _ _ => True), (fun _ _ => True), (fun _ _ => True), (fun _ _ => True), (fun _ _ => True), (fun _ _ => True), (fun _ _ => True), (fun _ _ => True), (fun _ _ => True), (fun _ _ => True), (fun _ _ => True), (fun _ _ => True), (fun _ _ => True), (fun _ _ => True), (fun _ _ => True), (fun _ _ => True), (fun _ _ => True), (fun _ _ => True), (fun _ _ => True), (fun _ _ => True), (fun _ _ => True), (fun _ _ => True), (fun _ _ => True), (fun _ _ => True), (fun _ _ => True), (fun _ _ => True), Eqs (.bool true), Eqs (.pointer (some ⟨pB, 0, none⟩)), Eqs (.agg #[.bool n_23, .slice a_23 r_23.length c_23]), Eqs (.bool true), Eqs (.bool true), Eqs (.bool true), Eqs (.pointer (some ⟨pB, 0, none⟩)), Eqs (.bool true), Eqs (.bool true), Eqs (.bool true)] [] [] [] [] [] (by kernel_rfl) hn rfl (by kernel_rfl) (by kernel_rfl) (by kernel_rfl) (by kernel_rfl) (by kernel_rfl) (by kernel_rfl) (by kernel_rfl) (by kernel_rfl) (by kernel_rfl) (by decide) ⟨True.mono5, True.mono5, True.mono5, True.mono5, True.mono5, True.mono5, True.mono5, True.mono5, True.mono5, True.mono5, True.mono5, True.mono5, True.mono5, True.mono5, True.mono5, True.mono5, True.mono5, True.mono5, True.mono5, True.mono5, True.mono5, True.mono5, True.mono5, True.mono5, True.mono5, True.mono5, True.mono5, True.mono5, True.mono5, True.mono5, True.mono5, True.mono5, True.mono5, True.mono5, True.mono5, True.mono5, Eqs.mono5 _, Eqs.mono5 _, Eqs.mono5 _, Eqs.mono5 _, Eqs.mono5 _, Eqs.mono5 _, Eqs.mono5 _, Eqs.mono5 _, Eqs.mono5 _, Eqs.mono5 _, trivial⟩ trivial xok_nil ok_nil (IsOld.all (bx := []) trivial) (DisOld.all (bx := []) trivial) ⟨⟨⟨⟨⟨⟨⟨⟨⟨⟨⟨⟨⟨⟨⟨⟨⟨⟨⟨⟨⟨⟨⟨⟨⟨⟨⟨⟨⟨⟨⟨⟨⟨⟨⟨⟨⟨⟨⟨⟨trivial, trivial⟩, trivial⟩, trivial⟩, trivial⟩, trivial⟩, trivial⟩, trivial⟩, trivial⟩, trivial⟩, trivial⟩, trivial⟩, trivial⟩, trivial⟩, trivial⟩, trivial⟩, trivial⟩, trivial⟩, trivial⟩, trivial⟩, trivial⟩, trivial⟩, trivial⟩, trivial⟩, trivial⟩, trivial⟩, trivial⟩, trivial⟩, trivial⟩, trivial⟩, trivial⟩, trivial⟩, trivial⟩, trivial⟩, trivial⟩, trivial⟩, trivial⟩, f109⟩, f110⟩, f111⟩, f112⟩ ?_ ?_ ?_
    · exact ⟨.inl rfl,
        .inl rfl,
        .inl rfl,
        .inl rfl,
        .inl rfl,
        .inl rfl,
        .inl rfl,
        .inl rfl,
        .inl rfl,
        .inl rfl,
        .inl rfl,
        .inl rfl,
        .inl rfl,
        .inl rfl,
        .inl rfl,
        .inl rfl,
        .inl rfl,
        .inl rfl,
        .inl rfl,
        .inl rfl,
        .inl rfl,
        .inl rfl,
        .inl rfl,
        .inl rfl,
        .inl rfl,
        .inl rfl,
        .inl rfl,
        .inl rfl,
        .inl rfl,
        .inl rfl,
        .inl rfl,
        .inl rfl,
        .inl rfl,
        .inl rfl,
        .inl rfl,
        .inl rfl,
        .inl rfl,
        .inl rfl,
        .inl rfl,
        .inl rfl,
        .inr (.norm 113 rfl rfl (nxt rfl) rfl (fun a_ w_ hn_ hBt hr hR hD hO hS => d6 rfl (op_pickb (show a_.eval (.tmp 109) = .bool true from hD 36 rfl) (show a_.eval (.tmp 112) = .bool true from hD 39 rfl)))),
        .inr (.norm 114 rfl rfl (nxt rfl) rfl (fun a_ w_ hn_ hBt hr hR hD hO hS => d6 rfl (op_mv (show a_.eval (.tmp 113) = .bool true from hD 40 rfl)))),
        .inr (.norm 115 rfl rfl (nxt rfl) rfl (fun a_ w_ hn_ hBt hr hR hD hO hS => ⟨⟨_, rfl⟩, fun _ => d6 rfl (op_mv ((hR 15 rfl).trans f15)), fun hne => absurd (hD 41 rfl) hne⟩)),
        .inr (.norm 116 rfl rfl (nxt rfl) rfl (fun a_ w_ hn_ hBt hr hR hD hO hS => ⟨⟨_, rfl⟩, fun _ => d6 rfl (op_bdone (show a_.eval (.tmp 115) = .pointer (some ⟨pB, 0, none⟩) from hD 42 rfl) (BK.below (hBt.below (Nat.le_refl _) (UpOld.all (bx := []) trivial) (UpX.all (bx := []) trivial))) (by omega)), fun hne => absurd (hD 41 rfl) hne⟩)),
        .inr (.norm 117 rfl rfl (nxt rfl) rfl (fun a_ w_ hn_ hBt hr hR hD hO hS => d6 rfl (op_pickb (show a_.eval (.tmp 114) = .bool true from hD 41 rfl) (show a_.eval (.tmp 116) = .bool true from hD 43 rfl)))),
        .inr (.norm 2 rfl rfl (nxt rfl) rfl (fun a_ w_ hn_ hBt hr hR hD hO hS => d6 rfl (op_assign (show a_.eval (.tmp 117) = .bool true from hD 44 rfl)))),
        trivial⟩
    · exact fun _ _ h => by cases h
    intro _ a51 w51 gs51 B51 T51 F_
    obtain ⟨hn51, hd51, hBt, hr, hR, hP, hTs, hLi, hX, hU, hRel, hSl⟩ := F_
    replace hn := hn51; replace hd := hd51.trans hd
    have lq51HT27 := HT27.le
    have lq51BK := BK.lt.2
    have lq51HN := HN.le
    have e2 : a51.eval (.tmp 2) = .bool true := hP 45 (by decide)
    have f2 := e2
    have hBl_ := hBt.below (Nat.le_refl _) (UpOld.all (bx := []) trivial) (UpX.all (bx := []) trivial)
    replace Ar := Ar.ru hr
    replace Sr := Sr.ru hr
    replace Dr := Dr.ru hr
    replace Tr := Tr.ru hr
    replace HT27 := HT27.ru hr
    replace BK := BK.below hBl_
    replace HN := HN.ru hr
    replace HB := HB.trans (hBt.below HB.size (UpOld.all (bx := []) trivial) (UpX.all (bx := []) trivial))
    clear hBt hr hR hP hTs hLi hX hU hRel hSl
    refine wp_ret ?_
    repeat (first | refine then_ret ?_ | refine scope_ret ?_ | refine block_ret ?_)
    exact bodyPost_ret (v := .bool true) (res_t rfl f2) hd ⟨rfl, HB⟩
end Lm
end Go.Proofs.Ytpofkigboedliaa

namespace Go.Proofs.Ytpofkigboedliaa
namespace ratioReadsLaw
open Go.ChangeShapes Go.WideShapes Go.ChangeAt Go.RowKit
open Go.ChangeMaps (open_string shut_string)
theorem own : ownKnob Try.prog.godebug = none := by kernel_rfl
theorem laidOut : laidOutB Try.prog = true := by kernel_rfl
theorem bytes4 : Try.prog.bytesOf 67 = 4 := by kernel_rfl
theorem sl_of {w : World} {x : Addr} {l c : Nat} {zs : List Int} (hl : l ≤ c) (hm : c ≤ maxLen) (hz : zs.length = c) (hcell : ∀ i, i < zs.length → w.cell? (x.add i) = some (.int .u32 (zs.getD i 0))) (hwz : ∀ n ∈ zs, (Lit.int .u32 n).wf = true) : Lm.Sl w (.slice (some x) l c) (zs.take l) := by
  have hll : (zs.take l).length = l := by rw [List.length_take]; omega
  refine ⟨some x, c, by rw [hll], by omega, hm, fun n hn => ?_, ?_⟩
  · have := bounds_u32 (hwz n (List.mem_of_mem_take hn))
    omega
  · by_cases h0 : l = 0
    · exact .inl (List.eq_nil_of_length_eq_zero (by omega))
    · obtain ⟨b, off, spot⟩ := x
      have h1 := hcell 0 (by omega)
      have hspot : spot = none := by simpa [Addr.add] using World.cell?_spot h1
      subst hspot
      refine .inr ⟨b, off, rfl, fun i hi => ?_⟩
      have h2 := hcell i (by omega)
      rw [Lm.getD_take _ _ _ (by omega)]
      have e : (⟨b, off, none⟩ : Addr).add i = ⟨b, off + i, none⟩ := by
        by_cases hi0 : i = 0
        · subst hi0; simp [Addr.add]
        · simp [Addr.add, hi0]
      rwa [e] at h2
set_option linter.unusedVariables false in
set_option maxRecDepth 100000 in
theorem lifted (os : Os) (started : os.Started) (H : Type) (enc : TypeId × Value → H) :
    ReturnsInHanded {} Try.checked os 4 .any (Rows.ratioReadsSpec.pre6 enc Try.prog Try.f4 Rows.ratioReadsRow.domain false) (Rows.ratioReadsSpec.post enc Try.prog Try.f4 false true false false) := by
  refine returnsInHanded_of_change_sized (C := Try.checked) own started (by kernel_rfl) Try.func4
    (ChangeSpec.witness6 (enc := enc) (C := Try.checked) false ⟨#[], #[.agg #[.bool false, .slice none 0 0, .slice none 0 0]], []⟩ 8 (by kernel_rfl) (by kernel_rfl) (by kernel_rfl) (by kernel_rfl)) ?_
  intro W base args ds gs before hval0 hW hcnd hsz0 _
  have hval : ∀ (j : Nat) t v, Try.f4.params[j]? = some t → args[j]? = some v → Value.okWide Try.prog W .any base t v := hval0
  have hW' := hW
  obtain ⟨p, q, hA0, hV, rfl, hfz, hnd⟩ := hW
  have hA : DataW.TrodAll enc Try.prog W 0 (fun _ => true) true Try.f4.params.toList args.toList ds p := hA0
  have hsz : (DataW.weightsEach Try.prog (Try.f4.params.toList ++ Rows.ratioReadsSpec.plain.varTypes Try.prog) (ds ++ gs)).all (· ≤ reachBytes) = true := hsz0
  rw [Try.params4] at hA hval hsz
  obtain ⟨v0, vs0, d0, ds0, p0, q0, hargs, rfl, rfl, h0, r0⟩ := trodAll_cons hA
  obtain ⟨rfl, rfl, rfl⟩ := trodAll_nil r0
  obtain rfl : args = #[v0] := by cases args; simp_all
  obtain ⟨rfl, rfl⟩ := trodVars_none hV
  have k0 := h0
  have lt0 : ∀ x ∈ p0, x.block < W.heap.size := by obtain ⟨m, hm⟩ := k0; exact DataW.trod_lt m _ _ _ hm
  obtain ⟨g0, a0, len0, cap0, z0, e0, l0, c0, y0, hv0, w0, b0, u0, m0⟩ : ∃ ng ao n cap zs bo m dap ys, v0 = .agg #[.bool ng, .slice ao n cap, .slice bo m dap] ∧ Lm.Sl W (.slice ao n cap) zs ∧ n ≤ 35184372088832 ∧ Lm.Sl W (.slice bo m dap) ys ∧ m ≤ 35184372088832 := by
    obtain ⟨cs, hv, hsz2⟩ := okWide_struct Try.underlying40 (hval 0 40 v0 rfl rfl)
    obtain ⟨c0, c1, c2, rfl⟩ := Go.Joins.array3 (hsz2.trans (by kernel_rfl : Try.prog.cellsOf 40 = 3))
    subst hv
    obtain ⟨fuel, hf⟩ := h0
    obtain ⟨y0, y1, n, hx, _, t0, t1⟩ := trod_struct2 Try.underlying40 hf
    obtain ⟨z0, z1, n2, hx2, _, s0, s1⟩ := trod_struct2 Try.underlying28 t0
    have kW : Try.prog.cellsOf 28 = 2 := by kernel_rfl
    have kS : Try.prog.cellsOf 26 = 1 := by kernel_rfl
    have kB : Try.prog.cellsOf 4 = 1 := by kernel_rfl
    have s0' : DataW.trod enc Try.prog W 0 (fun _ => true) true n2 4 [c0] = some z0 := by simpa [Value.cells, kW, kB] using s0
    have s1' : DataW.trod enc Try.prog W 0 (fun _ => true) true n2 26 [c1] = some z1 := by simpa [Value.cells, kW, kS] using s1
    have t1' : DataW.trod enc Try.prog W 0 (fun _ => true) true n 26 [c2] = some y1 := by simpa [Value.cells, kS] using t1
    have hd : d0 = .agg [.agg [z0.1, z1.1], y1.1] := by
      have h1 := congrArg Prod.fst hx
      have h2 := congrArg Prod.fst hx2
      simp only at h1 h2
      rw [h1, h2]
    clear s0 s1 t1 t0 hx hx2 hf
    obtain ⟨b, hb0, _⟩ := DataW.trod_bool Try.underlying4 s0'
    obtain rfl : c0 = .bool b := by simpa using hb0
    have num : ∃ ao n cap zs, c1 = .slice ao n cap ∧ Lm.Sl W (.slice ao n cap) zs ∧ n ≤ 35184372088832 := by
      rcases open_ints Try.underlying26 Try.underlying67 (by kernel_rfl) s1' with ⟨hcs, _⟩ | ⟨x, l, c, zs, hcs, _, hl, hm, hz, hx, hcell, hwz⟩
      · obtain rfl : c1 = .slice none 0 0 := by simpa using hcs
        exact ⟨none, 0, 0, [], rfl, ⟨none, 0, rfl, Nat.le_refl _, by simp [maxLen], Lm.limb_nil, .inl rfl⟩, by omega⟩
      · obtain rfl : c1 = .slice (some x) l c := by simpa using hcs
        have hz' : zs.length = c := by simpa using hz
        have hx1 : z1.1 = .slice (lits .u32 (zs.take l)) (lits .u32 (zs.drop l)) := congrArg Prod.fst hx
        refine ⟨some x, l, c, _, rfl, sl_of hl hm hz' hcell hwz, ?_⟩
        have hs := List.all_eq_true.1 hsz _ (DataW.weights_mem_each (j := 0) (t := 40) rfl (congrArg some hd) (((lits .u32 (zs.take l) : List (DataW H)).length + (lits .u32 (zs.drop l) : List (DataW H)).length) * Try.prog.bytesOf 67) (by rw [hx1]; simp [DataW.weights, DataW.weightsEach, Try.underlying40, Try.underlying28, Try.underlying26]))
        rw [bytes4] at hs
        simp only [lits, List.length_map, List.length_take, List.length_drop, reachBytes, decide_eq_true_eq] at hs
        omega
    have den : ∃ ao n cap zs, c2 = .slice ao n cap ∧ Lm.Sl W (.slice ao n cap) zs ∧ n ≤ 35184372088832 := by
      rcases open_ints Try.underlying26 Try.underlying67 (by kernel_rfl) t1' with ⟨hcs, _⟩ | ⟨x, l, c, zs, hcs, _, hl, hm, hz, hx, hcell, hwz⟩
      · obtain rfl : c2 = .slice none 0 0 := by simpa using hcs
        exact ⟨none, 0, 0, [], rfl, ⟨none, 0, rfl, Nat.le_refl _, by simp [maxLen], Lm.limb_nil, .inl rfl⟩, by omega⟩
      · obtain rfl : c2 = .slice (some x) l c := by simpa using hcs
        have hz' : zs.length = c := by simpa using hz
        have hx1 : y1.1 = .slice (lits .u32 (zs.take l)) (lits .u32 (zs.drop l)) := congrArg Prod.fst hx
        refine ⟨some x, l, c, _, rfl, sl_of hl hm hz' hcell hwz, ?_⟩
        have hs := List.all_eq_true.1 hsz _ (DataW.weights_mem_each (j := 0) (t := 40) rfl (congrArg some hd) (((lits .u32 (zs.take l) : List (DataW H)).length + (lits .u32 (zs.drop l) : List (DataW H)).length) * Try.prog.bytesOf 67) (by rw [hx1]; simp [DataW.weights, DataW.weightsEach, Try.underlying40, Try.underlying28, Try.underlying26]))
        rw [bytes4] at hs
        simp only [lits, List.length_map, List.length_take, List.length_drop, reachBytes, decide_eq_true_eq] at hs
        omega
    obtain ⟨ao, n1, cap, zs, rfl, hS1, hn1⟩ := num
    obtain ⟨bo, m1, dap, ys, rfl, hS2, hn2⟩ := den
    exact ⟨b, ao, n1, cap, zs, bo, m1, dap, ys, rfl, hS1, hn1, hS2, hn2⟩
  subst hv0
  clear hA0 hval0
  refine (Lm.rreads_law W g0 a0 len0 cap0 z0 _ e0 l0 c0 y0 _ ⟨w0, rfl⟩ u0 rfl b0 m0).mono fun e W' ⟨he, bel⟩ => ?_
  subst he
  exact ⟨_, rfl, _, _, _, [], _, [], hW', trodAll_mk1 (shut_bool Try.underlying4 _), (trodAll_cons_mk (Below.trod laidOut (by kernel_rfl) (of_decide_eq_true (by kernel_rfl)) k0 bel lt0) trodAll_mk0), rfl, bel.frame _, fun h => by cases h⟩
theorem over : Rows.ratioReadsRow.holds Try.pinned (OpenSpec.ofChange Rows.ratioReadsSpec) :=
  OpenClaim.holds_of_wide 4 Try.f4 rfl rfl rfl rfl rfl rfl rfl ⟨rfl, rfl, rfl, rfl, rfl⟩ rfl rfl rfl rfl rfl (by kernel_rfl) Try.func4 (by kernel_rfl)
    (of_decide_eq_true (by kernel_rfl)) (by unfold Func.isWrapper; first | (rw [if_pos (by decide +kernel)]; kernel_rfl) | (rw [if_neg (by decide +kernel)]; exact ⟨rfl, rfl⟩))
    (fun os started H enc _ => lifted os started H enc)
end ratioReadsLaw
theorem ratioReads_holds : Rows.RatioReadsSaid := ratioReadsLaw.over
#print axioms ratioReads_holds
end Go.Proofs.Ytpofkigboedliaa

