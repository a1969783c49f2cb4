/-
  The calls on fractions. What the laws on fractions lean on. Plain facts on numbers written in digits to the base 10000: what a list of limbs is worth, its form without limbs 0 on top, and that this form is one. No program is named here. What the contracts say of slices of digits in memory: that a slice reads as a list of digits, that a slice lies in memory that the call itself made, and what a store does to it.
-/
import Derived.Test.YtkdcgnooeojjgabRMkLawM40
import Derived.Test.YtkdcgnooeojjgabRMkLawM38
import Derived.Test.YtkdcgnooeojjgabProg
import Derived.WalkKit
import Derived.WalkSpells
import Derived.WalkLawsBesides
namespace Go.Proofs.Ytkdcgnooeojjgab
namespace Lm
open Go Go.RowKit

section
variable {dst : Option Tmp} {ty : TypeId} {pos : String} {after : Array Edge} {guard : Option (Nat × Bool)} {a : Act} {w : World} {ats : Array TypeId} {i j : Nat} {x y : Int} {L L1 L2 : Nat}
theorem has_wtrim : Has Try.prog 60 := by unfold Has; kernel_rfl
theorem op_wtrim (hx : IsW x L1 (a.eval (.tmp i)) w) (h1 : L1 ≤ 400000) :
    Does Try.prog { dst, op := .call { callee := .value (.func 60), args := #[.tmp i], argTypes := ats }, type := ty, pos, after, guard } a.eval w fun v w' => Below w.heap.size w w' ∧ OutW x L1 v w' := by
  obtain ⟨n1, a1, m1, c1, xs, e1, A1, l1⟩ := hx
  refine does_call has_wtrim _ (by simp only [List.map_toArray, List.map_cons, List.map_nil, e1]) ((trim_z _ _ _ _ _ _ _ A1 (by omega)).mono ?_)
  rintro e w' ⟨ng, ao, cap, rs, rfl, G, l, hb⟩
  exact ⟨_, rfl, hb, _, _, _, _, rfl, G, by omega⟩
theorem has_wdiv : Has Try.prog 73 := by unfold Has; kernel_rfl
theorem op_wdiv (hx : IsW x L1 (a.eval (.tmp i)) w) (hy : IsW y L2 (a.eval (.tmp j)) w) (h1 : L1 ≤ 400000) (h2 : L2 ≤ 400000) (h0 : y ≠ 0) :
    Does Try.prog { dst, op := .call { callee := .value (.func 73), args := #[.tmp i, .tmp j], argTypes := ats }, type := ty, pos, after, guard } a.eval w fun v w' => Below w.heap.size w w' ∧ Tup3 (OutW (x / y) (L1 + 4)) (OutW (x % y) L2) (Eqs (.bool true)) v w' := by
  obtain ⟨n1, a1, m1, c1, xs, e1, A1, l1⟩ := hx
  obtain ⟨n2, a2, m2, c2, ys, e2, A2, l2⟩ := hy
  have h := wdivmod_g w n1 a1 m1 c1 xs A1.sl n2 a2 m2 c2 ys A2.sl (by omega) (by omega) (fun e => h0 (by rw [← A2.worth, e]; cases n2 <;> simp [sg]))
  rw [A1.worth, A2.worth] at h
  refine does_call has_wdiv _ (by simp only [List.map_toArray, List.map_cons, List.map_nil, e1, e2]) (h.mono ?_)
  rintro e w' ⟨nq, aq, cq, qs, nr, ar, cr, rs, rfl, G, G', l, l', hb⟩
  exact ⟨_, rfl, hb, _, _, _, rfl, ⟨_, _, _, _, rfl, G, by omega⟩, ⟨_, _, _, _, rfl, G', by omega⟩, rfl⟩
theorem has_small : Has Try.prog 61 := by unfold Has; kernel_rfl
theorem op_small {v : Int} (h1 : 0 ≤ v) (h2 : v < 18446744073709551616) :
    Does Try.prog { dst, op := .call { callee := .value (.func 61), args := #[.const (.int .u64 v)], argTypes := ats }, type := ty, pos, after, guard } a.eval w fun v' w' => Below w.heap.size w w' ∧ OutL v 2 v' w' := by
  refine does_call has_small _ (by simp only [List.map_toArray, List.map_cons, List.map_nil, Act.eval]) ((small_any w v h1 h2).mono ?_)
  rintro e w' ⟨v', rfl, I, hb⟩
  obtain ⟨ao, cap, rs, rfl, G, l⟩ := got_small I h2
  exact ⟨_, rfl, hb, _, _, _, rfl, G, l⟩
end

set_option maxRecDepth 20000 in
set_option maxHeartbeats 2000000 in
theorem from_z (w : World) (Bx : Nat) (nx : Bool) (ax : Option Addr) (mx cx : Nat) (xs : List Int) (zx : Int) (Ax : Ag w nx ax mx cx xs zx) (Lx : xs.length ≤ Bx) (hL : Bx ≤ 100000) :
    Calls Try.prog 32 #[.agg #[.bool nx, .slice ax mx cx]] w fun e w' => ∃ v, e = .returned v ∧ (OutR zx 1 (Bx + 2)) v w' ∧ Below w.heap.size w w' := by
  go_enter Try.func32, Try.ntmps32
  generalize hA : (Act.mk _ _) = aa
  have hn : aa.tmps.size = 7 := by rw [← hA]; rfl
  have hd : aa.defers = [] := by rw [← hA]
  have f0 : aa.eval (.tmp 0) = .agg #[.bool nx, .slice ax mx cx] := by rw [← hA]; rfl
  clear hA
  have HB : Below w.heap.size w w := Below.refl _ _
  have Tx := Ax.sl
  refine wp_seq ?_
  refine region4 [some 1, some 2] [(fun _ _ => True), (fun _ _ => True)] [⟨W2, some 0, 0, 1, .agg #[.bool nx, .slice ax mx cx], none, []⟩, ⟨R3, some 1, 0, 2, .agg #[.bool false, .slice none 0 0, .slice none 0 0], none, []⟩] [] (by kernel_rfl) hn rfl (by kernel_rfl) (by kernel_rfl) (by kernel_rfl) (by kernel_rfl) (by kernel_rfl) (by kernel_rfl) ⟨True.mono4, True.mono4, trivial⟩ (ok_cons W2ok (ok_cons R3ok ok_nil)) (IsOld.all (bx := [⟨W2, some 0, 0, 1, .agg #[.bool nx, .slice ax mx cx], none, []⟩, ⟨R3, some 1, 0, 2, .agg #[.bool false, .slice none 0 0, .slice none 0 0], none, []⟩]) ⟨someNe, someNe, trivial⟩) (DisOld.all (bx := [⟨W2, some 0, 0, 1, .agg #[.bool nx, .slice ax mx cx], none, []⟩, ⟨R3, some 1, 0, 2, .agg #[.bool false, .slice none 0 0, .slice none 0 0], none, []⟩]) ⟨someNe, someNe, trivial⟩) ?_ ?_
  · exact ⟨.alloc 0 _ rfl rfl (.inr ⟨_, rfl, w2_cs, fun a_ hR => (hR 0 rfl).trans f0⟩) rfl rfl rfl rfl rfl,
      .alloc 1 _ rfl rfl (.inl ⟨rfl, rfl⟩) rfl rfl rfl rfl rfl,
      trivial⟩
  · intro a1 w1 gs1 hn1 hd1 hBt hr hR hP hX hU
    replace hn := hn1; replace hd := hd1.trans hd
    have ne1_2 : gs1 0 ≠ gs1 1 := hU 0 1 (by simp) (by simp) (by decide)
    have b1 : BoxV W2 w1 (gs1 0) (.agg #[.bool nx, .slice ax mx cx]) := (hX 0 _ rfl).2.2.2
    have f1 := (hX 0 _ rfl).1
    have u1 : w.heap.size ≤ gs1 0 := Nat.le_trans HB.size ((hX 0 _ rfl).2.2.1 (by simp))
    have b2 : BoxV R3 w1 (gs1 1) (.agg #[.bool false, .slice none 0 0, .slice none 0 0]) := (hX 1 _ rfl).2.2.2
    have f2 := (hX 1 _ rfl).1
    have u2 : w.heap.size ≤ gs1 1 := Nat.le_trans HB.size ((hX 1 _ rfl).2.2.1 (by simp))
    replace Ax := Ax.rl hr
    replace Tx := Tx.rl hr
    replace HB := HB.trans (hBt.below HB.size (UpOld.all (bx := [⟨W2, some 0, 0, 1, .agg #[.bool nx, .slice ax mx cx], none, []⟩, ⟨R3, some 1, 0, 2, .agg #[.bool false, .slice none 0 0, .slice none 0 0], none, []⟩]) ⟨someNe, someNe, trivial⟩))
    clear hBt hr hR hP hX hU
    refine wp_seq ?_
    refine region4 [some 3, some 4, some 5, some 6, none] [Eqs (.agg #[.bool nx, .slice ax mx cx]), OutW (zx) (Bx), OutL (1) (2), OutR (zx) (1) ((Bx) + (2)), (fun _ _ => True)] [⟨R3, none, (gs1 1), 2, .agg #[.bool false, .slice none 0 0, .slice none 0 0], some (4, 6, 3), []⟩] [] (by kernel_rfl) hn rfl (by kernel_rfl) (by kernel_rfl) (by kernel_rfl) (by kernel_rfl) (by kernel_rfl) (by kernel_rfl) ⟨Eqs.mono4 _, OutW.mono4 _ _, OutL.mono4 _ _, OutR.mono4 _ _ _, True.mono4, trivial⟩ (ok_cons R3ok ok_nil) (IsOld.all (bx := [⟨R3, none, (gs1 1), 2, .agg #[.bool false, .slice none 0 0, .slice none 0 0], some (4, 6, 3), []⟩]) ⟨fun _ => ⟨f2, b2⟩, trivial⟩) (DisOld.all (bx := [⟨R3, none, (gs1 1), 2, .agg #[.bool false, .slice none 0 0, .slice none 0 0], some (4, 6, 3), []⟩]) ⟨fun _ => trivial, trivial⟩) ?_ ?_
    · exact ⟨.norm 3 rfl rfl rfl (fun a_ w_ hn_ hBt hr hR hD hO hS => op_loadv W2ok ((hR 1 rfl).trans f1) (b1.keep hBt ⟨fun _ => ne1_2.symm, trivial⟩)),
        .norm 4 rfl rfl rfl (fun a_ w_ hn_ hBt hr hR hD hO hS => op_wtrim (isw_eq (show a_.eval (.tmp 3) = .agg #[.bool nx, .slice ax mx cx] from hD 0 rfl) (Ax.rl hr) Lx) (by omega)),
        .norm 5 rfl rfl rfl (fun a_ w_ hn_ hBt hr hR hD hO hS => op_small (by omega) (by omega)),
        .norm 6 rfl rfl rfl (fun a_ w_ hn_ hBt hr hR hD hO hS => op_bRo ((show OutW (zx) (Bx) (a_.eval (.tmp 4)) w_ from hD 1 rfl).to rfl (by omega)) ((show OutL (1) (2) (a_.eval (.tmp 5)) w_ from hD 2 rfl).to (by omega))),
        .store 0 _ _ _ rfl rfl rfl rfl rfl rfl rfl (fun ia h => by cases h) rfl rfl rfl OutR.cs,
        trivial⟩
    · intro a2 w2 gs2 hn2 hd2 hBt hr hR hP hX hU
      replace hn := hn2; replace hd := hd2.trans hd
      obtain ⟨n_3, a_3, c_3, r_3, b_3, d_3, s_3, e6, G3, K3, l3, k3⟩ : OutR (zx) (1) ((Bx) + (2)) (a2.eval (.tmp 6)) w2 := hP 3 (by decide)
      have A3 := G3.ag; have S3 := K3.sl; have V3 := K3.val
      have b2 : BoxV R3 w2 ((gs1 1)) (.agg #[.bool n_3, .slice a_3 r_3.length c_3, .slice b_3 s_3.length d_3]) := boxv_old ((hX 0 _ rfl).2.1 rfl) (hX 0 _ rfl).2.2.2 e6
      replace f2 : a2.eval (.tmp 2) = _ := (hR 2 rfl).trans f2
      replace Ax := Ax.rl hr
      replace Tx := Tx.rl hr
      replace HB := HB.trans (hBt.below HB.size (UpOld.all (bx := [⟨R3, none, (gs1 1), 2, .agg #[.bool false, .slice none 0 0, .slice none 0 0], some (4, 6, 3), []⟩]) ⟨fun _ => u2, trivial⟩))
      clear hBt hr hR hP hX hU
      refine wp_ret ?_
      repeat (first | refine then_ret ?_ | refine scope_ret ?_ | refine block_ret ?_)
      exact bodyPost_ret (v := .agg #[.bool n_3, .slice a_3 r_3.length c_3, .slice b_3 s_3.length d_3]) (res_c rfl f2 (lv_R3 b2)) hd ⟨_, rfl, OutR.to (outr_eq rfl G3 K3 l3 k3) rfl rfl (by omega), HB⟩

theorem has_from : Has Try.prog 32 := by unfold Has; kernel_rfl
theorem op_from {dst : Option Tmp} {ty : TypeId} {pos : String} {after : Array Edge} {guard : Option (Nat × Bool)} {a : Act} {w : World} {ats : Array TypeId} {i : Nat} {Bx : Nat} {zx : Int} (Hx : IsW zx Bx (a.eval (.tmp i)) w) (hL : Bx ≤ 100000) :
    Does Try.prog { dst, op := .call { callee := .value (.func 32), args := #[.tmp i], argTypes := ats }, type := ty, pos, after, guard } a.eval w fun v w' => Below w.heap.size w w' ∧ (OutR zx 1 (Bx + 2)) v w' := by
  obtain ⟨nx, ax, mx, cx, xs, ex, Ax, Lx⟩ := Hx
  refine does_call has_from _ (by simp only [List.map_toArray, List.map_cons, List.map_nil, ex]) ((from_z w Bx _ _ _ _ _ _ Ax Lx hL).mono ?_)
  rintro e w' ⟨v, rfl, h1, hb⟩
  exact ⟨_, rfl, hb, h1⟩

set_option maxRecDepth 20000 in
set_option maxHeartbeats 2000000 in
theorem rtrim_z (w : World) (Br : Nat) (nr : Bool) (ar : Option Addr) (mr cr : Nat) (rs : List Int) (pr : Int) (Ar : Ag w nr ar mr cr rs pr) (Lr : rs.length ≤ Br) (br : Option Addr) (kr dr : Nat) (rt : List Int) (qr : Int) (Sr : Sl w (.slice br kr dr) rt) (Vr : val rt = qr) (Mr : rt.length ≤ Br) (hL : 2 * (Br + 2) ≤ 100000) :
    Calls Try.prog 9 #[.agg #[.bool nr, .slice ar mr cr, .slice br kr dr]] w fun e w' => ∃ v, e = .returned v ∧ (OutR (nm (tp pr qr) (tq qr)) (dn (tp pr qr) (tq qr)) (2 * (Br + 2))) v w' ∧ Below w.heap.size w w' := by
  go_enter Try.func9, Try.ntmps9
  generalize hA : (Act.mk _ _) = aa
  have hn : aa.tmps.size = 8 := by rw [← hA]; rfl
  have hd : aa.defers = [] := by rw [← hA]
  have f0 : aa.eval (.tmp 0) = .agg #[.bool nr, .slice ar mr cr, .slice br kr dr] := by rw [← hA]; rfl
  clear hA
  have HB : Below w.heap.size w w := Below.refl _ _
  have Dr : Ag w false br kr dr rt qr := ⟨Sr, Vr⟩
  refine wp_seq ?_
  refine region4 [some 1, some 2] [(fun _ _ => True), (fun _ _ => True)] [⟨R3, some 0, 0, 1, .agg #[.bool nr, .slice ar mr cr, .slice br kr dr], none, []⟩, ⟨R3, some 1, 0, 2, .agg #[.bool false, .slice none 0 0, .slice none 0 0], none, []⟩] [] (by kernel_rfl) hn rfl (by kernel_rfl) (by kernel_rfl) (by kernel_rfl) (by kernel_rfl) (by kernel_rfl) (by kernel_rfl) ⟨True.mono4, True.mono4, trivial⟩ (ok_cons R3ok (ok_cons R3ok ok_nil)) (IsOld.all (bx := [⟨R3, some 0, 0, 1, .agg #[.bool nr, .slice ar mr cr, .slice br kr dr], none, []⟩, ⟨R3, some 1, 0, 2, .agg #[.bool false, .slice none 0 0, .slice none 0 0], none, []⟩]) ⟨someNe, someNe, trivial⟩) (DisOld.all (bx := [⟨R3, some 0, 0, 1, .agg #[.bool nr, .slice ar mr cr, .slice br kr dr], none, []⟩, ⟨R3, some 1, 0, 2, .agg #[.bool false, .slice none 0 0, .slice none 0 0], none, []⟩]) ⟨someNe, someNe, trivial⟩) ?_ ?_
  · exact ⟨.alloc 0 _ rfl rfl (.inr ⟨_, rfl, r3_cs, fun a_ hR => (hR 0 rfl).trans f0⟩) rfl rfl rfl rfl rfl,
      .alloc 1 _ rfl rfl (.inl ⟨rfl, rfl⟩) rfl rfl rfl rfl rfl,
      trivial⟩
  · intro a1 w1 gs1 hn1 hd1 hBt hr hR hP hX hU
    replace hn := hn1; replace hd := hd1.trans hd
    have ne1_2 : gs1 0 ≠ gs1 1 := hU 0 1 (by simp) (by simp) (by decide)
    have b1 : BoxV R3 w1 (gs1 0) (.agg #[.bool nr, .slice ar mr cr, .slice br kr dr]) := (hX 0 _ rfl).2.2.2
    have f1 := (hX 0 _ rfl).1
    have u1 : w.heap.size ≤ gs1 0 := Nat.le_trans HB.size ((hX 0 _ rfl).2.2.1 (by simp))
    have b2 : BoxV R3 w1 (gs1 1) (.agg #[.bool false, .slice none 0 0, .slice none 0 0]) := (hX 1 _ rfl).2.2.2
    have f2 := (hX 1 _ rfl).1
    have u2 : w.heap.size ≤ gs1 1 := Nat.le_trans HB.size ((hX 1 _ rfl).2.2.1 (by simp))
    replace Ar := Ar.rl hr
    replace Sr := Sr.rl hr
    replace Dr := Dr.rl hr
    replace HB := HB.trans (hBt.below HB.size (UpOld.all (bx := [⟨R3, some 0, 0, 1, .agg #[.bool nr, .slice ar mr cr, .slice br kr dr], none, []⟩, ⟨R3, some 1, 0, 2, .agg #[.bool false, .slice none 0 0, .slice none 0 0], none, []⟩]) ⟨someNe, someNe, trivial⟩))
    clear hBt hr hR hP hX hU
    refine wp_seq ?_
    refine region4 [some 3, some 4, some 5, some 6, some 7, none] [Eqs (.agg #[.bool nr, .slice ar mr cr, .slice br kr dr]), Tup2 (IsW ((tp pr qr)) ((Br) + 2)) (IsW ((tq qr)) ((Br) + 2)), IsW ((tp pr qr)) ((Br) + 2), IsW ((tq qr)) ((Br) + 2), OutR ((nm (tp pr qr) (tq qr))) ((dn (tp pr qr) (tq qr))) (((Br) + 2) + ((Br) + 2)), (fun _ _ => True)] [⟨R3, none, (gs1 1), 2, .agg #[.bool false, .slice none 0 0, .slice none 0 0], some (5, 7, 4), []⟩] [] (by kernel_rfl) hn rfl (by kernel_rfl) (by kernel_rfl) (by kernel_rfl) (by kernel_rfl) (by kernel_rfl) (by kernel_rfl) ⟨Eqs.mono4 _, Tup2.mono4 (IsW.mono4 _ _) (IsW.mono4 _ _), IsW.mono4 _ _, IsW.mono4 _ _, OutR.mono4 _ _ _, True.mono4, trivial⟩ (ok_cons R3ok ok_nil) (IsOld.all (bx := [⟨R3, none, (gs1 1), 2, .agg #[.bool false, .slice none 0 0, .slice none 0 0], some (5, 7, 4), []⟩]) ⟨fun _ => ⟨f2, b2⟩, trivial⟩) (DisOld.all (bx := [⟨R3, none, (gs1 1), 2, .agg #[.bool false, .slice none 0 0, .slice none 0 0], some (5, 7, 4), []⟩]) ⟨fun _ => trivial, trivial⟩) ?_ ?_
    · exact ⟨.norm 3 rfl rfl rfl (fun a_ w_ hn_ hBt hr hR hD hO hS => op_loadv R3ok ((hR 1 rfl).trans f1) (b1.keep hBt ⟨fun _ => ne1_2.symm, trivial⟩)),
        .norm 4 rfl rfl rfl (fun a_ w_ hn_ hBt hr hR hD hO hS => op_terms (isr_eq (show a_.eval (.tmp 3) = .agg #[.bool nr, .slice ar mr cr, .slice br kr dr] from hD 0 rfl) (Ar.rl hr) (Sr.rl hr) Vr Lr Mr) (by omega)),
        .norm 5 rfl rfl rfl (fun a_ w_ hn_ hBt hr hR hD hO hS => op_ex20 (show Tup2 (IsW ((tp pr qr)) ((Br) + 2)) (IsW ((tq qr)) ((Br) + 2)) (a_.eval (.tmp 4)) w_ from hD 1 rfl)),
        .norm 6 rfl rfl rfl (fun a_ w_ hn_ hBt hr hR hD hO hS => op_ex21 (show Tup2 (IsW ((tp pr qr)) ((Br) + 2)) (IsW ((tq qr)) ((Br) + 2)) (a_.eval (.tmp 4)) w_ from hD 1 rfl)),
        .norm 7 rfl rfl rfl (fun a_ w_ hn_ hBt hr hR hD hO hS => op_lowest (show IsW ((tp pr qr)) ((Br) + 2) (a_.eval (.tmp 5)) w_ from hD 2 rfl) (show IsW ((tq qr)) ((Br) + 2) (a_.eval (.tmp 6)) w_ from hD 3 rfl) (by omega) (tq_ne _)),
        .store 0 _ _ _ rfl rfl rfl rfl rfl rfl rfl (fun ia h => by cases h) rfl rfl rfl OutR.cs,
        trivial⟩
    · intro a2 w2 gs2 hn2 hd2 hBt hr hR hP hX hU
      replace hn := hn2; replace hd := hd2.trans hd
      obtain ⟨n_3, a_3, c_3, r_3, b_3, d_3, s_3, e7, G3, K3, l3, k3⟩ : OutR ((nm (tp pr qr) (tq qr))) ((dn (tp pr qr) (tq qr))) (((Br) + 2) + ((Br) + 2)) (a2.eval (.tmp 7)) w2 := hP 4 (by decide)
      have A3 := G3.ag; have S3 := K3.sl; have V3 := K3.val
      have b2 : BoxV R3 w2 ((gs1 1)) (.agg #[.bool n_3, .slice a_3 r_3.length c_3, .slice b_3 s_3.length d_3]) := boxv_old ((hX 0 _ rfl).2.1 rfl) (hX 0 _ rfl).2.2.2 e7
      replace f2 : a2.eval (.tmp 2) = _ := (hR 2 rfl).trans f2
      replace Ar := Ar.rl hr
      replace Sr := Sr.rl hr
      replace Dr := Dr.rl hr
      replace HB := HB.trans (hBt.below HB.size (UpOld.all (bx := [⟨R3, none, (gs1 1), 2, .agg #[.bool false, .slice none 0 0, .slice none 0 0], some (5, 7, 4), []⟩]) ⟨fun _ => u2, trivial⟩))
      clear hBt hr hR hP hX hU
      refine wp_ret ?_
      repeat (first | refine then_ret ?_ | refine scope_ret ?_ | refine block_ret ?_)
      exact bodyPost_ret (v := .agg #[.bool n_3, .slice a_3 r_3.length c_3, .slice b_3 s_3.length d_3]) (res_c rfl f2 (lv_R3 b2)) hd ⟨_, rfl, OutR.to (outr_eq rfl G3 K3 l3 k3) rfl rfl (by omega), HB⟩

theorem has_rtrim : Has Try.prog 9 := by unfold Has; kernel_rfl
theorem op_rtrim {dst : Option Tmp} {ty : TypeId} {pos : String} {after : Array Edge} {guard : Option (Nat × Bool)} {a : Act} {w : World} {ats : Array TypeId} {i : Nat} {Br : Nat} {pr qr : Int} (Hr : IsR pr qr Br (a.eval (.tmp i)) w) (hL : 2 * (Br + 2) ≤ 100000) :
    Does Try.prog { dst, op := .call { callee := .value (.func 9), args := #[.tmp i], argTypes := ats }, type := ty, pos, after, guard } a.eval w fun v w' => Below w.heap.size w w' ∧ (OutR (nm (tp pr qr) (tq qr)) (dn (tp pr qr) (tq qr)) (2 * (Br + 2))) v w' := by
  obtain ⟨nr, ar, mr, cr, rs, br, kr, dr, rt, er, Ar, Sr, Vr, Lr, Mr⟩ := Hr
  refine does_call has_rtrim _ (by simp only [List.map_toArray, List.map_cons, List.map_nil, er]) ((rtrim_z w Br _ _ _ _ _ _ Ar Lr _ _ _ _ _ Sr Vr Mr hL).mono ?_)
  rintro e w' ⟨v, rfl, h1, hb⟩
  exact ⟨_, rfl, hb, h1⟩

set_option maxRecDepth 20000 in
set_option maxHeartbeats 2000000 in
theorem rsign_z (w : World) (Br : Nat) (nr : Bool) (ar : Option Addr) (mr cr : Nat) (rs : List Int) (pr : Int) (Ar : Ag w nr ar mr cr rs pr) (Lr : rs.length ≤ Br) (br : Option Addr) (kr dr : Nat) (rt : List Int) (qr : Int) (Sr : Sl w (.slice br kr dr) rt) (Vr : val rt = qr) (Mr : rt.length ≤ Br) (hL : Br ≤ 100000) :
    Calls Try.prog 13 #[.agg #[.bool nr, .slice ar mr cr, .slice br kr dr]] w fun e w' => ∃ v, e = .returned v ∧ (Eqs (.int .i64 (Int.sign (tp pr qr)))) v w' ∧ Below w.heap.size w w' := by
  go_enter Try.func13, Try.ntmps13
  generalize hA : (Act.mk _ _) = aa
  have hn : aa.tmps.size = 12 := by rw [← hA]; rfl
  have hd : aa.defers = [] := by rw [← hA]
  have f0 : aa.eval (.tmp 0) = .agg #[.bool nr, .slice ar mr cr, .slice br kr dr] := by rw [← hA]; rfl
  clear hA
  have HB : Below w.heap.size w w := Below.refl _ _
  have Dr : Ag w false br kr dr rt qr := ⟨Sr, Vr⟩
  refine wp_seq ?_
  refine region4 [some 1, some 2] [(fun _ _ => True), Eqs ((.int .i64 0))] [⟨R3, some 0, 0, 1, .agg #[.bool nr, .slice ar mr cr, .slice br kr dr], none, []⟩] [] (by kernel_rfl) hn rfl (by kernel_rfl) (by kernel_rfl) (by kernel_rfl) (by kernel_rfl) (by kernel_rfl) (by kernel_rfl) ⟨True.mono4, Eqs.mono4 _, trivial⟩ (ok_cons R3ok ok_nil) (IsOld.all (bx := [⟨R3, some 0, 0, 1, .agg #[.bool nr, .slice ar mr cr, .slice br kr dr], none, []⟩]) ⟨someNe, trivial⟩) (DisOld.all (bx := [⟨R3, some 0, 0, 1, .agg #[.bool nr, .slice ar mr cr, .slice br kr dr], none, []⟩]) ⟨someNe, trivial⟩) ?_ ?_
  · exact ⟨.alloc 0 _ rfl rfl (.inr ⟨_, rfl, r3_cs, fun a_ hR => (hR 0 rfl).trans f0⟩) rfl rfl rfl rfl rfl,
      .norm 2 rfl rfl rfl (fun a_ w_ hn_ hBt hr hR hD hO hS => op_assign rfl),
      trivial⟩
  · intro a1 w1 gs1 hn1 hd1 hBt hr hR hP hX hU
    replace hn := hn1; replace hd := hd1.trans hd
    have b1 : BoxV R3 w1 (gs1 0) (.agg #[.bool nr, .slice ar mr cr, .slice br kr dr]) := (hX 0 _ rfl).2.2.2
    have f1 := (hX 0 _ rfl).1
    have u1 : w.heap.size ≤ gs1 0 := Nat.le_trans HB.size ((hX 0 _ rfl).2.2.1 (by simp))
    have e2 : a1.eval (.tmp 2) = (.int .i64 0) := hP 1 (by decide)
    have f2 := e2
    replace Ar := Ar.rl hr
    replace Sr := Sr.rl hr
    replace Dr := Dr.rl hr
    replace HB := HB.trans (hBt.below HB.size (UpOld.all (bx := [⟨R3, some 0, 0, 1, .agg #[.bool nr, .slice ar mr cr, .slice br kr dr], none, []⟩]) ⟨someNe, trivial⟩))
    clear hBt hr hR hP hX hU
    refine wp_seq ?_
    refine region4 [some 6, some 7, some 5, some 8, some 9, some 3, some 4, none, none] [Eqs (.agg #[.bool nr, .slice ar mr cr, .slice br kr dr]), Tup2 (IsW ((tp pr qr)) ((Br) + 2)) (IsW ((tq qr)) ((Br) + 2)), Tup2 (IsW ((tp pr qr)) ((Br) + 2)) (IsW ((tq qr)) ((Br) + 2)), IsW ((tp pr qr)) ((Br) + 2), IsW ((tq qr)) ((Br) + 2), (fun _ _ => True), (fun _ _ => True), (fun _ _ => True), (fun _ _ => True)] [⟨W2, some 5, 0, 3, .agg #[.bool false, .slice none 0 0], some (7, 8, 3), []⟩, ⟨W2, some 6, 0, 4, .agg #[.bool false, .slice none 0 0], some (8, 9, 4), []⟩] [] (by kernel_rfl) hn rfl (by kernel_rfl) (by kernel_rfl) (by kernel_rfl) (by kernel_rfl) (by kernel_rfl) (by kernel_rfl) ⟨Eqs.mono4 _, Tup2.mono4 (IsW.mono4 _ _) (IsW.mono4 _ _), Tup2.mono4 (IsW.mono4 _ _) (IsW.mono4 _ _), IsW.mono4 _ _, IsW.mono4 _ _, True.mono4, True.mono4, True.mono4, True.mono4, trivial⟩ (ok_cons W2ok (ok_cons W2ok ok_nil)) (IsOld.all (bx := [⟨W2, some 5, 0, 3, .agg #[.bool false, .slice none 0 0], some (7, 8, 3), []⟩, ⟨W2, some 6, 0, 4, .agg #[.bool false, .slice none 0 0], some (8, 9, 4), []⟩]) ⟨someNe, someNe, trivial⟩) (DisOld.all (bx := [⟨W2, some 5, 0, 3, .agg #[.bool false, .slice none 0 0], some (7, 8, 3), []⟩, ⟨W2, some 6, 0, 4, .agg #[.bool false, .slice none 0 0], some (8, 9, 4), []⟩]) ⟨someNe, someNe, trivial⟩) ?_ ?_
    · exact ⟨.norm 6 rfl rfl rfl (fun a_ w_ hn_ hBt hr hR hD hO hS => op_loadv R3ok ((hR 1 rfl).trans f1) (b1.keep hBt ⟨someNe, someNe, trivial⟩)),
        .norm 7 rfl rfl rfl (fun a_ w_ hn_ hBt hr hR hD hO hS => op_terms (isr_eq (show a_.eval (.tmp 6) = .agg #[.bool nr, .slice ar mr cr, .slice br kr dr] from hD 0 rfl) (Ar.rl hr) (Sr.rl hr) Vr Lr Mr) (by omega)),
        .norm 5 rfl rfl rfl (fun a_ w_ hn_ hBt hr hR hD hO hS => op_mvp (p := Tup2 (IsW ((tp pr qr)) ((Br) + 2)) (IsW ((tq qr)) ((Br) + 2))) (show Tup2 (IsW ((tp pr qr)) ((Br) + 2)) (IsW ((tq qr)) ((Br) + 2)) (a_.eval (.tmp 7)) w_ from hD 1 rfl)),
        .norm 8 rfl rfl rfl (fun a_ w_ hn_ hBt hr hR hD hO hS => op_ex20 (show Tup2 (IsW ((tp pr qr)) ((Br) + 2)) (IsW ((tq qr)) ((Br) + 2)) (a_.eval (.tmp 5)) w_ from hD 2 rfl)),
        .norm 9 rfl rfl rfl (fun a_ w_ hn_ hBt hr hR hD hO hS => op_ex21 (show Tup2 (IsW ((tp pr qr)) ((Br) + 2)) (IsW ((tq qr)) ((Br) + 2)) (a_.eval (.tmp 5)) w_ from hD 2 rfl)),
        .alloc 0 _ rfl rfl (.inl ⟨rfl, rfl⟩) rfl rfl rfl rfl rfl,
        .alloc 1 _ rfl rfl (.inl ⟨rfl, rfl⟩) rfl rfl rfl rfl rfl,
        .store 0 _ _ _ rfl rfl rfl rfl rfl rfl rfl (fun ia h => by cases h; rfl) rfl rfl rfl IsW.cs,
        .store 1 _ _ _ rfl rfl rfl rfl rfl rfl rfl (fun ia h => by cases h; rfl) rfl rfl rfl IsW.cs,
        trivial⟩
    · intro a2 w2 gs2 hn2 hd2 hBt hr hR hP hX hU
      replace hn := hn2; replace hd := hd2.trans hd
      obtain ⟨n_3, a_3, m_3, c_3, r_3, e8, A3, l3⟩ : IsW ((tp pr qr)) ((Br) + 2) (a2.eval (.tmp 8)) w2 := hP 3 (by decide)
      have b3 : BoxV W2 w2 (gs2 0) (.agg #[.bool n_3, .slice a_3 m_3 c_3]) := boxv_of (hX 0 _ rfl).2.2.2 e8
      have f3 := (hX 0 _ rfl).1
      have u3 : w.heap.size ≤ gs2 0 := Nat.le_trans HB.size ((hX 0 _ rfl).2.2.1 (by simp))
      replace f2 := (hR 2 rfl).trans f2
      replace Ar := Ar.rl hr
      replace Sr := Sr.rl hr
      replace Dr := Dr.rl hr
      replace HB := HB.trans (hBt.below HB.size (UpOld.all (bx := [⟨W2, some 5, 0, 3, .agg #[.bool false, .slice none 0 0], some (7, 8, 3), []⟩, ⟨W2, some 6, 0, 4, .agg #[.bool false, .slice none 0 0], some (8, 9, 4), []⟩]) ⟨someNe, someNe, trivial⟩))
      clear hBt hr hR hP hX hU
      refine wp_seq ?_
      refine region4 [some 10, some 11, some 2] [Eqs (.agg #[.bool n_3, .slice a_3 m_3 c_3]), Eqs (.int .i64 (Int.sign (tp pr qr))), Eqs (.int .i64 (Int.sign (tp pr qr)))] [] [] (by kernel_rfl) hn rfl (by kernel_rfl) (by kernel_rfl) (by kernel_rfl) (by kernel_rfl) (by kernel_rfl) (by kernel_rfl) ⟨Eqs.mono4 _, Eqs.mono4 _, Eqs.mono4 _, trivial⟩ ok_nil (IsOld.all (bx := []) trivial) (DisOld.all (bx := []) trivial) ?_ ?_
      · exact ⟨.norm 10 rfl rfl rfl (fun a_ w_ hn_ hBt hr hR hD hO hS => op_loadv W2ok ((hR 3 rfl).trans f3) (b3.keep hBt trivial)),
          .norm 11 rfl rfl rfl (fun a_ w_ hn_ hBt hr hR hD hO hS => op_sign (isw_eq (show a_.eval (.tmp 10) = .agg #[.bool n_3, .slice a_3 m_3 c_3] from hD 0 rfl) (A3.rl hr) l3) (by omega)),
          .norm 2 rfl rfl rfl (fun a_ w_ hn_ hBt hr hR hD hO hS => op_assign (show a_.eval (.tmp 11) = .int .i64 (Int.sign (tp pr qr)) from hD 1 rfl)),
          trivial⟩
      · intro a4 w4 gs4 hn4 hd4 hBt hr hR hP hX hU
        replace hn := hn4; replace hd := hd4.trans hd
        have e2 : a4.eval (.tmp 2) = .int .i64 (Int.sign (tp pr qr)) := hP 2 (by decide)
        have f2 := e2
        replace Ar := Ar.rl hr
        replace Sr := Sr.rl hr
        replace Dr := Dr.rl hr
        replace A3 := A3.rl hr
        replace HB := HB.trans (hBt.below HB.size (UpOld.all (bx := []) trivial))
        clear hBt hr hR hP hX hU
        refine wp_ret ?_
        repeat (first | refine then_ret ?_ | refine scope_ret ?_ | refine block_ret ?_)
        exact bodyPost_ret (v := .int .i64 (Int.sign (tp pr qr))) (res_t rfl f2) hd ⟨_, rfl, rfl, HB⟩

theorem has_rsign : Has Try.prog 13 := by unfold Has; kernel_rfl
theorem op_rsign {dst : Option Tmp} {ty : TypeId} {pos : String} {after : Array Edge} {guard : Option (Nat × Bool)} {a : Act} {w : World} {ats : Array TypeId} {i : Nat} {Br : Nat} {pr qr : Int} (Hr : IsR pr qr Br (a.eval (.tmp i)) w) (hL : Br ≤ 100000) :
    Does Try.prog { dst, op := .call { callee := .value (.func 13), args := #[.tmp i], argTypes := ats }, type := ty, pos, after, guard } a.eval w fun v w' => Below w.heap.size w w' ∧ (Eqs (.int .i64 (Int.sign (tp pr qr)))) v w' := by
  obtain ⟨nr, ar, mr, cr, rs, br, kr, dr, rt, er, Ar, Sr, Vr, Lr, Mr⟩ := Hr
  refine does_call has_rsign _ (by simp only [List.map_toArray, List.map_cons, List.map_nil, er]) ((rsign_z w Br _ _ _ _ _ _ Ar Lr _ _ _ _ _ Sr Vr Mr hL).mono ?_)
  rintro e w' ⟨v, rfl, h1, hb⟩
  exact ⟨_, rfl, hb, h1⟩

set_option maxRecDepth 20000 in
set_option maxHeartbeats 2000000 in
theorem rneg_z (w : World) (Br : Nat) (nr : Bool) (ar : Option Addr) (mr cr : Nat) (rs : List Int) (pr : Int) (Ar : Ag w nr ar mr cr rs pr) (Lr : rs.length ≤ Br) (br : Option Addr) (kr dr : Nat) (rt : List Int) (qr : Int) (Sr : Sl w (.slice br kr dr) rt) (Vr : val rt = qr) (Mr : rt.length ≤ Br) (hL : 2 * (Br + 2) ≤ 100000) :
    Calls Try.prog 11 #[.agg #[.bool nr, .slice ar mr cr, .slice br kr dr]] w fun e w' => ∃ v, e = .returned v ∧ (OutR (nm (-(tp pr qr)) (tq qr)) (dn (-(tp pr qr)) (tq qr)) (2 * (Br + 2))) v w' ∧ Below w.heap.size w w' := by
  go_enter Try.func11, Try.ntmps11
  generalize hA : (Act.mk _ _) = aa
  have hn : aa.tmps.size = 14 := by rw [← hA]; rfl
  have hd : aa.defers = [] := by rw [← hA]
  have f0 : aa.eval (.tmp 0) = .agg #[.bool nr, .slice ar mr cr, .slice br kr dr] := by rw [← hA]; rfl
  clear hA
  have HB : Below w.heap.size w w := Below.refl _ _
  have Dr : Ag w false br kr dr rt qr := ⟨Sr, Vr⟩
  refine wp_seq ?_
  refine region4 [some 1, some 2] [(fun _ _ => True), (fun _ _ => True)] [⟨R3, some 0, 0, 1, .agg #[.bool nr, .slice ar mr cr, .slice br kr dr], none, []⟩, ⟨R3, some 1, 0, 2, .agg #[.bool false, .slice none 0 0, .slice none 0 0], none, []⟩] [] (by kernel_rfl) hn rfl (by kernel_rfl) (by kernel_rfl) (by kernel_rfl) (by kernel_rfl) (by kernel_rfl) (by kernel_rfl) ⟨True.mono4, True.mono4, trivial⟩ (ok_cons R3ok (ok_cons R3ok ok_nil)) (IsOld.all (bx := [⟨R3, some 0, 0, 1, .agg #[.bool nr, .slice ar mr cr, .slice br kr dr], none, []⟩, ⟨R3, some 1, 0, 2, .agg #[.bool false, .slice none 0 0, .slice none 0 0], none, []⟩]) ⟨someNe, someNe, trivial⟩) (DisOld.all (bx := [⟨R3, some 0, 0, 1, .agg #[.bool nr, .slice ar mr cr, .slice br kr dr], none, []⟩, ⟨R3, some 1, 0, 2, .agg #[.bool false, .slice none 0 0, .slice none 0 0], none, []⟩]) ⟨someNe, someNe, trivial⟩) ?_ ?_
  · exact ⟨.alloc 0 _ rfl rfl (.inr ⟨_, rfl, r3_cs, fun a_ hR => (hR 0 rfl).trans f0⟩) rfl rfl rfl rfl rfl,
      .alloc 1 _ rfl rfl (.inl ⟨rfl, rfl⟩) rfl rfl rfl rfl rfl,
      trivial⟩
  · intro a1 w1 gs1 hn1 hd1 hBt hr hR hP hX hU
    replace hn := hn1; replace hd := hd1.trans hd
    have ne1_2 : gs1 0 ≠ gs1 1 := hU 0 1 (by simp) (by simp) (by decide)
    have b1 : BoxV R3 w1 (gs1 0) (.agg #[.bool nr, .slice ar mr cr, .slice br kr dr]) := (hX 0 _ rfl).2.2.2
    have f1 := (hX 0 _ rfl).1
    have u1 : w.heap.size ≤ gs1 0 := Nat.le_trans HB.size ((hX 0 _ rfl).2.2.1 (by simp))
    have b2 : BoxV R3 w1 (gs1 1) (.agg #[.bool false, .slice none 0 0, .slice none 0 0]) := (hX 1 _ rfl).2.2.2
    have f2 := (hX 1 _ rfl).1
    have u2 : w.heap.size ≤ gs1 1 := Nat.le_trans HB.size ((hX 1 _ rfl).2.2.1 (by simp))
    replace Ar := Ar.rl hr
    replace Sr := Sr.rl hr
    replace Dr := Dr.rl hr
    replace HB := HB.trans (hBt.below HB.size (UpOld.all (bx := [⟨R3, some 0, 0, 1, .agg #[.bool nr, .slice ar mr cr, .slice br kr dr], none, []⟩, ⟨R3, some 1, 0, 2, .agg #[.bool false, .slice none 0 0, .slice none 0 0], none, []⟩]) ⟨someNe, someNe, trivial⟩))
    clear hBt hr hR hP hX hU
    refine wp_seq ?_
    refine region4 [some 6, some 7, some 5, some 8, some 9, some 3, some 4, none, none] [Eqs (.agg #[.bool nr, .slice ar mr cr, .slice br kr dr]), Tup2 (IsW ((tp pr qr)) ((Br) + 2)) (IsW ((tq qr)) ((Br) + 2)), Tup2 (IsW ((tp pr qr)) ((Br) + 2)) (IsW ((tq qr)) ((Br) + 2)), IsW ((tp pr qr)) ((Br) + 2), IsW ((tq qr)) ((Br) + 2), (fun _ _ => True), (fun _ _ => True), (fun _ _ => True), (fun _ _ => True)] [⟨W2, some 5, 0, 3, .agg #[.bool false, .slice none 0 0], some (7, 8, 3), []⟩, ⟨W2, some 6, 0, 4, .agg #[.bool false, .slice none 0 0], some (8, 9, 4), []⟩] [] (by kernel_rfl) hn rfl (by kernel_rfl) (by kernel_rfl) (by kernel_rfl) (by kernel_rfl) (by kernel_rfl) (by kernel_rfl) ⟨Eqs.mono4 _, Tup2.mono4 (IsW.mono4 _ _) (IsW.mono4 _ _), Tup2.mono4 (IsW.mono4 _ _) (IsW.mono4 _ _), IsW.mono4 _ _, IsW.mono4 _ _, True.mono4, True.mono4, True.mono4, True.mono4, trivial⟩ (ok_cons W2ok (ok_cons W2ok ok_nil)) (IsOld.all (bx := [⟨W2, some 5, 0, 3, .agg #[.bool false, .slice none 0 0], some (7, 8, 3), []⟩, ⟨W2, some 6, 0, 4, .agg #[.bool false, .slice none 0 0], some (8, 9, 4), []⟩]) ⟨someNe, someNe, trivial⟩) (DisOld.all (bx := [⟨W2, some 5, 0, 3, .agg #[.bool false, .slice none 0 0], some (7, 8, 3), []⟩, ⟨W2, some 6, 0, 4, .agg #[.bool false, .slice none 0 0], some (8, 9, 4), []⟩]) ⟨someNe, someNe, trivial⟩) ?_ ?_
    · exact ⟨.norm 6 rfl rfl rfl (fun a_ w_ hn_ hBt hr hR hD hO hS => op_loadv R3ok ((hR 1 rfl).trans f1) (b1.keep hBt ⟨someNe, someNe, trivial⟩)),
        .norm 7 rfl rfl rfl (fun a_ w_ hn_ hBt hr hR hD hO hS => op_terms (isr_eq (show a_.eval (.tmp 6) = .agg #[.bool nr, .slice ar mr cr, .slice br kr dr] from hD 0 rfl) (Ar.rl hr) (Sr.rl hr) Vr Lr Mr) (by omega)),
        .norm 5 rfl rfl rfl (fun a_ w_ hn_ hBt hr hR hD hO hS => op_mvp (p := Tup2 (IsW ((tp pr qr)) ((Br) + 2)) (IsW ((tq qr)) ((Br) + 2))) (show Tup2 (IsW ((tp pr qr)) ((Br) + 2)) (IsW ((tq qr)) ((Br) + 2)) (a_.eval (.tmp 7)) w_ from hD 1 rfl)),
        .norm 8 rfl rfl rfl (fun a_ w_ hn_ hBt hr hR hD hO hS => op_ex20 (show Tup2 (IsW ((tp pr qr)) ((Br) + 2)) (IsW ((tq qr)) ((Br) + 2)) (a_.eval (.tmp 5)) w_ from hD 2 rfl)),
        .norm 9 rfl rfl rfl (fun a_ w_ hn_ hBt hr hR hD hO hS => op_ex21 (show Tup2 (IsW ((tp pr qr)) ((Br) + 2)) (IsW ((tq qr)) ((Br) + 2)) (a_.eval (.tmp 5)) w_ from hD 2 rfl)),
        .alloc 0 _ rfl rfl (.inl ⟨rfl, rfl⟩) rfl rfl rfl rfl rfl,
        .alloc 1 _ rfl rfl (.inl ⟨rfl, rfl⟩) rfl rfl rfl rfl rfl,
        .store 0 _ _ _ rfl rfl rfl rfl rfl rfl rfl (fun ia h => by cases h; rfl) rfl rfl rfl IsW.cs,
        .store 1 _ _ _ rfl rfl rfl rfl rfl rfl rfl (fun ia h => by cases h; rfl) rfl rfl rfl IsW.cs,
        trivial⟩
    · intro a2 w2 gs2 hn2 hd2 hBt hr hR hP hX hU
      replace hn := hn2; replace hd := hd2.trans hd
      have ne2_3 : (gs1 1) ≠ gs2 0 := by have h1 := b2.lt; have h2 := (hX 0 _ rfl).2.2.1 (by simp); omega
      have ne2_4 : (gs1 1) ≠ gs2 1 := by have h1 := b2.lt; have h2 := (hX 1 _ rfl).2.2.1 (by simp); omega
      replace b2 := b2.keep hBt ⟨someNe, someNe, trivial⟩
      obtain ⟨n_3, a_3, m_3, c_3, r_3, e8, A3, l3⟩ : IsW ((tp pr qr)) ((Br) + 2) (a2.eval (.tmp 8)) w2 := hP 3 (by decide)
      have b3 : BoxV W2 w2 (gs2 0) (.agg #[.bool n_3, .slice a_3 m_3 c_3]) := boxv_of (hX 0 _ rfl).2.2.2 e8
      have f3 := (hX 0 _ rfl).1
      have u3 : w.heap.size ≤ gs2 0 := Nat.le_trans HB.size ((hX 0 _ rfl).2.2.1 (by simp))
      obtain ⟨n_4, a_4, m_4, c_4, r_4, e9, A4, l4⟩ : IsW ((tq qr)) ((Br) + 2) (a2.eval (.tmp 9)) w2 := hP 4 (by decide)
      have b4 : BoxV W2 w2 (gs2 1) (.agg #[.bool n_4, .slice a_4 m_4 c_4]) := boxv_of (hX 1 _ rfl).2.2.2 e9
      have f4 := (hX 1 _ rfl).1
      have u4 : w.heap.size ≤ gs2 1 := Nat.le_trans HB.size ((hX 1 _ rfl).2.2.1 (by simp))
      replace f2 := (hR 2 rfl).trans f2
      replace Ar := Ar.rl hr
      replace Sr := Sr.rl hr
      replace Dr := Dr.rl hr
      replace HB := HB.trans (hBt.below HB.size (UpOld.all (bx := [⟨W2, some 5, 0, 3, .agg #[.bool false, .slice none 0 0], some (7, 8, 3), []⟩, ⟨W2, some 6, 0, 4, .agg #[.bool false, .slice none 0 0], some (8, 9, 4), []⟩]) ⟨someNe, someNe, trivial⟩))
      clear hBt hr hR hP hX hU
      refine wp_seq ?_
      refine region4 [some 10, some 11, some 12, some 13, none] [Eqs (.agg #[.bool n_3, .slice a_3 m_3 c_3]), OutW ((-(tp pr qr))) ((Br) + 2), Eqs (.agg #[.bool n_4, .slice a_4 m_4 c_4]), OutR ((nm (-(tp pr qr)) (tq qr))) ((dn (-(tp pr qr)) (tq qr))) (((Br) + 2) + ((Br) + 2)), (fun _ _ => True)] [⟨R3, none, (gs1 1), 2, .agg #[.bool false, .slice none 0 0, .slice none 0 0], some (4, 13, 3), []⟩] [] (by kernel_rfl) hn rfl (by kernel_rfl) (by kernel_rfl) (by kernel_rfl) (by kernel_rfl) (by kernel_rfl) (by kernel_rfl) ⟨Eqs.mono4 _, OutW.mono4 _ _, Eqs.mono4 _, OutR.mono4 _ _ _, True.mono4, trivial⟩ (ok_cons R3ok ok_nil) (IsOld.all (bx := [⟨R3, none, (gs1 1), 2, .agg #[.bool false, .slice none 0 0, .slice none 0 0], some (4, 13, 3), []⟩]) ⟨fun _ => ⟨f2, b2⟩, trivial⟩) (DisOld.all (bx := [⟨R3, none, (gs1 1), 2, .agg #[.bool false, .slice none 0 0, .slice none 0 0], some (4, 13, 3), []⟩]) ⟨fun _ => trivial, trivial⟩) ?_ ?_
      · exact ⟨.norm 10 rfl rfl rfl (fun a_ w_ hn_ hBt hr hR hD hO hS => op_loadv W2ok ((hR 3 rfl).trans f3) (b3.keep hBt ⟨fun _ => ne2_3, trivial⟩)),
          .norm 11 rfl rfl rfl (fun a_ w_ hn_ hBt hr hR hD hO hS => op_neg (isw_eq (show a_.eval (.tmp 10) = .agg #[.bool n_3, .slice a_3 m_3 c_3] from hD 0 rfl) (A3.rl hr) l3) (by omega)),
          .norm 12 rfl rfl rfl (fun a_ w_ hn_ hBt hr hR hD hO hS => op_loadv W2ok ((hR 4 rfl).trans f4) (b4.keep hBt ⟨fun _ => ne2_4, trivial⟩)),
          .norm 13 rfl rfl rfl (fun a_ w_ hn_ hBt hr hR hD hO hS => op_lowest (show OutW ((-(tp pr qr))) ((Br) + 2) (a_.eval (.tmp 11)) w_ from hD 1 rfl).is (isw_eq (show a_.eval (.tmp 12) = .agg #[.bool n_4, .slice a_4 m_4 c_4] from hD 2 rfl) (A4.rl hr) l4) (by omega) (tq_ne _)),
          .store 0 _ _ _ rfl rfl rfl rfl rfl rfl rfl (fun ia h => by cases h) rfl rfl rfl OutR.cs,
          trivial⟩
      · intro a5 w5 gs5 hn5 hd5 hBt hr hR hP hX hU
        replace hn := hn5; replace hd := hd5.trans hd
        obtain ⟨n_6, a_6, c_6, r_6, b_6, d_6, s_6, e13, G6, K6, l6, k6⟩ : OutR ((nm (-(tp pr qr)) (tq qr))) ((dn (-(tp pr qr)) (tq qr))) (((Br) + 2) + ((Br) + 2)) (a5.eval (.tmp 13)) w5 := hP 3 (by decide)
        have A6 := G6.ag; have S6 := K6.sl; have V6 := K6.val
        have b2 : BoxV R3 w5 ((gs1 1)) (.agg #[.bool n_6, .slice a_6 r_6.length c_6, .slice b_6 s_6.length d_6]) := boxv_old ((hX 0 _ rfl).2.1 rfl) (hX 0 _ rfl).2.2.2 e13
        replace f2 : a5.eval (.tmp 2) = _ := (hR 2 rfl).trans f2
        replace Ar := Ar.rl hr
        replace Sr := Sr.rl hr
        replace Dr := Dr.rl hr
        replace A3 := A3.rl hr
        replace A4 := A4.rl hr
        replace HB := HB.trans (hBt.below HB.size (UpOld.all (bx := [⟨R3, none, (gs1 1), 2, .agg #[.bool false, .slice none 0 0, .slice none 0 0], some (4, 13, 3), []⟩]) ⟨fun _ => u2, trivial⟩))
        clear hBt hr hR hP hX hU
        refine wp_ret ?_
        repeat (first | refine then_ret ?_ | refine scope_ret ?_ | refine block_ret ?_)
        exact bodyPost_ret (v := .agg #[.bool n_6, .slice a_6 r_6.length c_6, .slice b_6 s_6.length d_6]) (res_c rfl f2 (lv_R3 b2)) hd ⟨_, rfl, OutR.to (outr_eq rfl G6 K6 l6 k6) rfl rfl (by omega), HB⟩

theorem has_rneg : Has Try.prog 11 := by unfold Has; kernel_rfl
theorem op_rneg {dst : Option Tmp} {ty : TypeId} {pos : String} {after : Array Edge} {guard : Option (Nat × Bool)} {a : Act} {w : World} {ats : Array TypeId} {i : Nat} {Br : Nat} {pr qr : Int} (Hr : IsR pr qr Br (a.eval (.tmp i)) w) (hL : 2 * (Br + 2) ≤ 100000) :
    Does Try.prog { dst, op := .call { callee := .value (.func 11), args := #[.tmp i], argTypes := ats }, type := ty, pos, after, guard } a.eval w fun v w' => Below w.heap.size w w' ∧ (OutR (nm (-(tp pr qr)) (tq qr)) (dn (-(tp pr qr)) (tq qr)) (2 * (Br + 2))) v w' := by
  obtain ⟨nr, ar, mr, cr, rs, br, kr, dr, rt, er, Ar, Sr, Vr, Lr, Mr⟩ := Hr
  refine does_call has_rneg _ (by simp only [List.map_toArray, List.map_cons, List.map_nil, er]) ((rneg_z w Br _ _ _ _ _ _ Ar Lr _ _ _ _ _ Sr Vr Mr hL).mono ?_)
  rintro e w' ⟨v, rfl, h1, hb⟩
  exact ⟨_, rfl, hb, h1⟩

set_option maxRecDepth 20000 in
set_option maxHeartbeats 2000000 in
theorem rmul_z (w : World) (Br : Nat) (nr : Bool) (ar : Option Addr) (mr cr : Nat) (rs : List Int) (pr : Int) (Ar : Ag w nr ar mr cr rs pr) (Lr : rs.length ≤ Br) (br : Option Addr) (kr dr : Nat) (rt : List Int) (qr : Int) (Sr : Sl w (.slice br kr dr) rt) (Vr : val rt = qr) (Mr : rt.length ≤ Br) (Bu : Nat) (nu : Bool) (au : Option Addr) (mu cu : Nat) (us : List Int) (pu : Int) (Au : Ag w nu au mu cu us pu) (Lu : us.length ≤ Bu) (bu : Option Addr) (ku du : Nat) (ut : List Int) (qu : Int) (Su : Sl w (.slice bu ku du) ut) (Vu : val ut = qu) (Mu : ut.length ≤ Bu) (hL : 2 * (Br + Bu + 4) ≤ 100000) :
    Calls Try.prog 35 #[.agg #[.bool nr, .slice ar mr cr, .slice br kr dr], .agg #[.bool nu, .slice au mu cu, .slice bu ku du]] w fun e w' => ∃ v, e = .returned v ∧ (OutR (nm (tp pr qr * tp pu qu) (tq qr * tq qu)) (dn (tp pr qr * tp pu qu) (tq qr * tq qu)) (2 * (Br + Bu + 4))) v w' ∧ Below w.heap.size w w' := by
  go_enter Try.func35, Try.ntmps35
  generalize hA : (Act.mk _ _) = aa
  have hn : aa.tmps.size = 26 := by rw [← hA]; rfl
  have hd : aa.defers = [] := by rw [← hA]
  have f0 : aa.eval (.tmp 0) = .agg #[.bool nr, .slice ar mr cr, .slice br kr dr] := by rw [← hA]; rfl
  have f1 : aa.eval (.tmp 1) = .agg #[.bool nu, .slice au mu cu, .slice bu ku du] := by rw [← hA]; rfl
  clear hA
  have HB : Below w.heap.size w w := Below.refl _ _
  have Dr : Ag w false br kr dr rt qr := ⟨Sr, Vr⟩
  have Du : Ag w false bu ku du ut qu := ⟨Su, Vu⟩
  refine wp_seq ?_
  refine region4 [some 2, some 3, some 4] [(fun _ _ => True), (fun _ _ => True), (fun _ _ => True)] [⟨R3, some 0, 0, 2, .agg #[.bool nr, .slice ar mr cr, .slice br kr dr], none, []⟩, ⟨R3, some 1, 0, 3, .agg #[.bool nu, .slice au mu cu, .slice bu ku du], none, []⟩, ⟨R3, some 2, 0, 4, .agg #[.bool false, .slice none 0 0, .slice none 0 0], none, []⟩] [] (by kernel_rfl) hn rfl (by kernel_rfl) (by kernel_rfl) (by kernel_rfl) (by kernel_rfl) (by kernel_rfl) (by kernel_rfl) ⟨True.mono4, True.mono4, True.mono4, trivial⟩ (ok_cons R3ok (ok_cons R3ok (ok_cons R3ok ok_nil))) (IsOld.all (bx := [⟨R3, some 0, 0, 2, .agg #[.bool nr, .slice ar mr cr, .slice br kr dr], none, []⟩, ⟨R3, some 1, 0, 3, .agg #[.bool nu, .slice au mu cu, .slice bu ku du], none, []⟩, ⟨R3, some 2, 0, 4, .agg #[.bool false, .slice none 0 0, .slice none 0 0], none, []⟩]) ⟨someNe, someNe, someNe, trivial⟩) (DisOld.all (bx := [⟨R3, some 0, 0, 2, .agg #[.bool nr, .slice ar mr cr, .slice br kr dr], none, []⟩, ⟨R3, some 1, 0, 3, .agg #[.bool nu, .slice au mu cu, .slice bu ku du], none, []⟩, ⟨R3, some 2, 0, 4, .agg #[.bool false, .slice none 0 0, .slice none 0 0], none, []⟩]) ⟨someNe, someNe, someNe, trivial⟩) ?_ ?_
  · exact ⟨.alloc 0 _ rfl rfl (.inr ⟨_, rfl, r3_cs, fun a_ hR => (hR 0 rfl).trans f0⟩) rfl rfl rfl rfl rfl,
      .alloc 1 _ rfl rfl (.inr ⟨_, rfl, r3_cs, fun a_ hR => (hR 1 rfl).trans f1⟩) rfl rfl rfl rfl rfl,
      .alloc 2 _ rfl rfl (.inl ⟨rfl, rfl⟩) rfl rfl rfl rfl rfl,
      trivial⟩
  · intro a1 w1 gs1 hn1 hd1 hBt hr hR hP hX hU
    replace hn := hn1; replace hd := hd1.trans hd
    have ne2_4 : gs1 0 ≠ gs1 2 := hU 0 2 (by simp) (by simp) (by decide)
    have ne3_4 : gs1 1 ≠ gs1 2 := hU 1 2 (by simp) (by simp) (by decide)
    have b2 : BoxV R3 w1 (gs1 0) (.agg #[.bool nr, .slice ar mr cr, .slice br kr dr]) := (hX 0 _ rfl).2.2.2
    have f2 := (hX 0 _ rfl).1
    have u2 : w.heap.size ≤ gs1 0 := Nat.le_trans HB.size ((hX 0 _ rfl).2.2.1 (by simp))
    have b3 : BoxV R3 w1 (gs1 1) (.agg #[.bool nu, .slice au mu cu, .slice bu ku du]) := (hX 1 _ rfl).2.2.2
    have f3 := (hX 1 _ rfl).1
    have u3 : w.heap.size ≤ gs1 1 := Nat.le_trans HB.size ((hX 1 _ rfl).2.2.1 (by simp))
    have b4 : BoxV R3 w1 (gs1 2) (.agg #[.bool false, .slice none 0 0, .slice none 0 0]) := (hX 2 _ rfl).2.2.2
    have f4 := (hX 2 _ rfl).1
    have u4 : w.heap.size ≤ gs1 2 := Nat.le_trans HB.size ((hX 2 _ rfl).2.2.1 (by simp))
    replace Ar := Ar.rl hr
    replace Sr := Sr.rl hr
    replace Dr := Dr.rl hr
    replace Au := Au.rl hr
    replace Su := Su.rl hr
    replace Du := Du.rl hr
    replace HB := HB.trans (hBt.below HB.size (UpOld.all (bx := [⟨R3, some 0, 0, 2, .agg #[.bool nr, .slice ar mr cr, .slice br kr dr], none, []⟩, ⟨R3, some 1, 0, 3, .agg #[.bool nu, .slice au mu cu, .slice bu ku du], none, []⟩, ⟨R3, some 2, 0, 4, .agg #[.bool false, .slice none 0 0, .slice none 0 0], none, []⟩]) ⟨someNe, someNe, someNe, trivial⟩))
    clear hBt hr hR hP hX hU
    refine wp_seq ?_
    refine region4 [some 10, some 11, some 9, some 12, some 13, some 5, some 6, none, none] [Eqs (.agg #[.bool nr, .slice ar mr cr, .slice br kr dr]), Tup2 (IsW ((tp pr qr)) ((Br) + 2)) (IsW ((tq qr)) ((Br) + 2)), Tup2 (IsW ((tp pr qr)) ((Br) + 2)) (IsW ((tq qr)) ((Br) + 2)), IsW ((tp pr qr)) ((Br) + 2), IsW ((tq qr)) ((Br) + 2), (fun _ _ => True), (fun _ _ => True), (fun _ _ => True), (fun _ _ => True)] [⟨W2, some 5, 0, 5, .agg #[.bool false, .slice none 0 0], some (7, 12, 3), []⟩, ⟨W2, some 6, 0, 6, .agg #[.bool false, .slice none 0 0], some (8, 13, 4), []⟩] [] (by kernel_rfl) hn rfl (by kernel_rfl) (by kernel_rfl) (by kernel_rfl) (by kernel_rfl) (by kernel_rfl) (by kernel_rfl) ⟨Eqs.mono4 _, Tup2.mono4 (IsW.mono4 _ _) (IsW.mono4 _ _), Tup2.mono4 (IsW.mono4 _ _) (IsW.mono4 _ _), IsW.mono4 _ _, IsW.mono4 _ _, True.mono4, True.mono4, True.mono4, True.mono4, trivial⟩ (ok_cons W2ok (ok_cons W2ok ok_nil)) (IsOld.all (bx := [⟨W2, some 5, 0, 5, .agg #[.bool false, .slice none 0 0], some (7, 12, 3), []⟩, ⟨W2, some 6, 0, 6, .agg #[.bool false, .slice none 0 0], some (8, 13, 4), []⟩]) ⟨someNe, someNe, trivial⟩) (DisOld.all (bx := [⟨W2, some 5, 0, 5, .agg #[.bool false, .slice none 0 0], some (7, 12, 3), []⟩, ⟨W2, some 6, 0, 6, .agg #[.bool false, .slice none 0 0], some (8, 13, 4), []⟩]) ⟨someNe, someNe, trivial⟩) ?_ ?_
    · exact ⟨.norm 10 rfl rfl rfl (fun a_ w_ hn_ hBt hr hR hD hO hS => op_loadv R3ok ((hR 2 rfl).trans f2) (b2.keep hBt ⟨someNe, someNe, trivial⟩)),
        .norm 11 rfl rfl rfl (fun a_ w_ hn_ hBt hr hR hD hO hS => op_terms (isr_eq (show a_.eval (.tmp 10) = .agg #[.bool nr, .slice ar mr cr, .slice br kr dr] from hD 0 rfl) (Ar.rl hr) (Sr.rl hr) Vr Lr Mr) (by omega)),
        .norm 9 rfl rfl rfl (fun a_ w_ hn_ hBt hr hR hD hO hS => op_mvp (p := Tup2 (IsW ((tp pr qr)) ((Br) + 2)) (IsW ((tq qr)) ((Br) + 2))) (show Tup2 (IsW ((tp pr qr)) ((Br) + 2)) (IsW ((tq qr)) ((Br) + 2)) (a_.eval (.tmp 11)) w_ from hD 1 rfl)),
        .norm 12 rfl rfl rfl (fun a_ w_ hn_ hBt hr hR hD hO hS => op_ex20 (show Tup2 (IsW ((tp pr qr)) ((Br) + 2)) (IsW ((tq qr)) ((Br) + 2)) (a_.eval (.tmp 9)) w_ from hD 2 rfl)),
        .norm 13 rfl rfl rfl (fun a_ w_ hn_ hBt hr hR hD hO hS => op_ex21 (show Tup2 (IsW ((tp pr qr)) ((Br) + 2)) (IsW ((tq qr)) ((Br) + 2)) (a_.eval (.tmp 9)) w_ from hD 2 rfl)),
        .alloc 0 _ rfl rfl (.inl ⟨rfl, rfl⟩) rfl rfl rfl rfl rfl,
        .alloc 1 _ rfl rfl (.inl ⟨rfl, rfl⟩) rfl rfl rfl rfl rfl,
        .store 0 _ _ _ rfl rfl rfl rfl rfl rfl rfl (fun ia h => by cases h; rfl) rfl rfl rfl IsW.cs,
        .store 1 _ _ _ rfl rfl rfl rfl rfl rfl rfl (fun ia h => by cases h; rfl) rfl rfl rfl IsW.cs,
        trivial⟩
    · intro a2 w2 gs2 hn2 hd2 hBt hr hR hP hX hU
      replace hn := hn2; replace hd := hd2.trans hd
      have ne4_5 : (gs1 2) ≠ gs2 0 := by have h1 := b4.lt; have h2 := (hX 0 _ rfl).2.2.1 (by simp); omega
      have ne4_6 : (gs1 2) ≠ gs2 1 := by have h1 := b4.lt; have h2 := (hX 1 _ rfl).2.2.1 (by simp); omega
      replace b3 := b3.keep hBt ⟨someNe, someNe, trivial⟩
      replace b4 := b4.keep hBt ⟨someNe, someNe, trivial⟩
      obtain ⟨n_3, a_3, m_3, c_3, r_3, e12, A3, l3⟩ : IsW ((tp pr qr)) ((Br) + 2) (a2.eval (.tmp 12)) w2 := hP 3 (by decide)
      have b5 : BoxV W2 w2 (gs2 0) (.agg #[.bool n_3, .slice a_3 m_3 c_3]) := boxv_of (hX 0 _ rfl).2.2.2 e12
      have f5 := (hX 0 _ rfl).1
      have u5 : w.heap.size ≤ gs2 0 := Nat.le_trans HB.size ((hX 0 _ rfl).2.2.1 (by simp))
      obtain ⟨n_4, a_4, m_4, c_4, r_4, e13, A4, l4⟩ : IsW ((tq qr)) ((Br) + 2) (a2.eval (.tmp 13)) w2 := hP 4 (by decide)
      have b6 : BoxV W2 w2 (gs2 1) (.agg #[.bool n_4, .slice a_4 m_4 c_4]) := boxv_of (hX 1 _ rfl).2.2.2 e13
      have f6 := (hX 1 _ rfl).1
      have u6 : w.heap.size ≤ gs2 1 := Nat.le_trans HB.size ((hX 1 _ rfl).2.2.1 (by simp))
      replace f3 := (hR 3 rfl).trans f3
      replace f4 := (hR 4 rfl).trans f4
      replace Ar := Ar.rl hr
      replace Sr := Sr.rl hr
      replace Dr := Dr.rl hr
      replace Au := Au.rl hr
      replace Su := Su.rl hr
      replace Du := Du.rl hr
      replace HB := HB.trans (hBt.below HB.size (UpOld.all (bx := [⟨W2, some 5, 0, 5, .agg #[.bool false, .slice none 0 0], some (7, 12, 3), []⟩, ⟨W2, some 6, 0, 6, .agg #[.bool false, .slice none 0 0], some (8, 13, 4), []⟩]) ⟨someNe, someNe, trivial⟩))
      clear hBt hr hR hP hX hU
      refine wp_seq ?_
      refine region4 [some 15, some 16, some 14, some 17, some 18, some 7, some 8, none, none] [Eqs (.agg #[.bool nu, .slice au mu cu, .slice bu ku du]), Tup2 (IsW ((tp pu qu)) ((Bu) + 2)) (IsW ((tq qu)) ((Bu) + 2)), Tup2 (IsW ((tp pu qu)) ((Bu) + 2)) (IsW ((tq qu)) ((Bu) + 2)), IsW ((tp pu qu)) ((Bu) + 2), IsW ((tq qu)) ((Bu) + 2), (fun _ _ => True), (fun _ _ => True), (fun _ _ => True), (fun _ _ => True)] [⟨W2, some 5, 0, 7, .agg #[.bool false, .slice none 0 0], some (7, 17, 3), []⟩, ⟨W2, some 6, 0, 8, .agg #[.bool false, .slice none 0 0], some (8, 18, 4), []⟩] [] (by kernel_rfl) hn rfl (by kernel_rfl) (by kernel_rfl) (by kernel_rfl) (by kernel_rfl) (by kernel_rfl) (by kernel_rfl) ⟨Eqs.mono4 _, Tup2.mono4 (IsW.mono4 _ _) (IsW.mono4 _ _), Tup2.mono4 (IsW.mono4 _ _) (IsW.mono4 _ _), IsW.mono4 _ _, IsW.mono4 _ _, True.mono4, True.mono4, True.mono4, True.mono4, trivial⟩ (ok_cons W2ok (ok_cons W2ok ok_nil)) (IsOld.all (bx := [⟨W2, some 5, 0, 7, .agg #[.bool false, .slice none 0 0], some (7, 17, 3), []⟩, ⟨W2, some 6, 0, 8, .agg #[.bool false, .slice none 0 0], some (8, 18, 4), []⟩]) ⟨someNe, someNe, trivial⟩) (DisOld.all (bx := [⟨W2, some 5, 0, 7, .agg #[.bool false, .slice none 0 0], some (7, 17, 3), []⟩, ⟨W2, some 6, 0, 8, .agg #[.bool false, .slice none 0 0], some (8, 18, 4), []⟩]) ⟨someNe, someNe, trivial⟩) ?_ ?_
      · exact ⟨.norm 15 rfl rfl rfl (fun a_ w_ hn_ hBt hr hR hD hO hS => op_loadv R3ok ((hR 3 rfl).trans f3) (b3.keep hBt ⟨someNe, someNe, trivial⟩)),
          .norm 16 rfl rfl rfl (fun a_ w_ hn_ hBt hr hR hD hO hS => op_terms (isr_eq (show a_.eval (.tmp 15) = .agg #[.bool nu, .slice au mu cu, .slice bu ku du] from hD 0 rfl) (Au.rl hr) (Su.rl hr) Vu Lu Mu) (by omega)),
          .norm 14 rfl rfl rfl (fun a_ w_ hn_ hBt hr hR hD hO hS => op_mvp (p := Tup2 (IsW ((tp pu qu)) ((Bu) + 2)) (IsW ((tq qu)) ((Bu) + 2))) (show Tup2 (IsW ((tp pu qu)) ((Bu) + 2)) (IsW ((tq qu)) ((Bu) + 2)) (a_.eval (.tmp 16)) w_ from hD 1 rfl)),
          .norm 17 rfl rfl rfl (fun a_ w_ hn_ hBt hr hR hD hO hS => op_ex20 (show Tup2 (IsW ((tp pu qu)) ((Bu) + 2)) (IsW ((tq qu)) ((Bu) + 2)) (a_.eval (.tmp 14)) w_ from hD 2 rfl)),
          .norm 18 rfl rfl rfl (fun a_ w_ hn_ hBt hr hR hD hO hS => op_ex21 (show Tup2 (IsW ((tp pu qu)) ((Bu) + 2)) (IsW ((tq qu)) ((Bu) + 2)) (a_.eval (.tmp 14)) w_ from hD 2 rfl)),
          .alloc 0 _ rfl rfl (.inl ⟨rfl, rfl⟩) rfl rfl rfl rfl rfl,
          .alloc 1 _ rfl rfl (.inl ⟨rfl, rfl⟩) rfl rfl rfl rfl rfl,
          .store 0 _ _ _ rfl rfl rfl rfl rfl rfl rfl (fun ia h => by cases h; rfl) rfl rfl rfl IsW.cs,
          .store 1 _ _ _ rfl rfl rfl rfl rfl rfl rfl (fun ia h => by cases h; rfl) rfl rfl rfl IsW.cs,
          trivial⟩
      · intro a5 w5 gs5 hn5 hd5 hBt hr hR hP hX hU
        replace hn := hn5; replace hd := hd5.trans hd
        have ne4_7 : (gs1 2) ≠ gs5 0 := by have h1 := b4.lt; have h2 := (hX 0 _ rfl).2.2.1 (by simp); omega
        have ne4_8 : (gs1 2) ≠ gs5 1 := by have h1 := b4.lt; have h2 := (hX 1 _ rfl).2.2.1 (by simp); omega
        replace b4 := b4.keep hBt ⟨someNe, someNe, trivial⟩
        replace b5 := b5.keep hBt ⟨someNe, someNe, trivial⟩
        replace b6 := b6.keep hBt ⟨someNe, someNe, trivial⟩
        obtain ⟨n_6, a_6, m_6, c_6, r_6, e17, A6, l6⟩ : IsW ((tp pu qu)) ((Bu) + 2) (a5.eval (.tmp 17)) w5 := hP 3 (by decide)
        have b7 : BoxV W2 w5 (gs5 0) (.agg #[.bool n_6, .slice a_6 m_6 c_6]) := boxv_of (hX 0 _ rfl).2.2.2 e17
        have f7 := (hX 0 _ rfl).1
        have u7 : w.heap.size ≤ gs5 0 := Nat.le_trans HB.size ((hX 0 _ rfl).2.2.1 (by simp))
        obtain ⟨n_7, a_7, m_7, c_7, r_7, e18, A7, l7⟩ : IsW ((tq qu)) ((Bu) + 2) (a5.eval (.tmp 18)) w5 := hP 4 (by decide)
        have b8 : BoxV W2 w5 (gs5 1) (.agg #[.bool n_7, .slice a_7 m_7 c_7]) := boxv_of (hX 1 _ rfl).2.2.2 e18
        have f8 := (hX 1 _ rfl).1
        have u8 : w.heap.size ≤ gs5 1 := Nat.le_trans HB.size ((hX 1 _ rfl).2.2.1 (by simp))
        replace f4 := (hR 4 rfl).trans f4
        replace f5 := (hR 5 rfl).trans f5
        replace f6 := (hR 6 rfl).trans f6
        replace Ar := Ar.rl hr
        replace Sr := Sr.rl hr
        replace Dr := Dr.rl hr
        replace Au := Au.rl hr
        replace Su := Su.rl hr
        replace Du := Du.rl hr
        replace A3 := A3.rl hr
        replace A4 := A4.rl hr
        replace HB := HB.trans (hBt.below HB.size (UpOld.all (bx := [⟨W2, some 5, 0, 7, .agg #[.bool false, .slice none 0 0], some (7, 17, 3), []⟩, ⟨W2, some 6, 0, 8, .agg #[.bool false, .slice none 0 0], some (8, 18, 4), []⟩]) ⟨someNe, someNe, trivial⟩))
        clear hBt hr hR hP hX hU
        refine wp_seq ?_
        refine region4 [some 19, some 20, some 21, some 22, some 23, some 24, some 25, none] [Eqs (.agg #[.bool n_3, .slice a_3 m_3 c_3]), Eqs (.agg #[.bool n_6, .slice a_6 m_6 c_6]), OutW (((tp pr qr) * (tp pu qu))) (((Br) + 2) + ((Bu) + 2)), Eqs (.agg #[.bool n_4, .slice a_4 m_4 c_4]), Eqs (.agg #[.bool n_7, .slice a_7 m_7 c_7]), OutW (((tq qr) * (tq qu))) (((Br) + 2) + ((Bu) + 2)), OutR ((nm ((tp pr qr) * (tp pu qu)) ((tq qr) * (tq qu)))) ((dn ((tp pr qr) * (tp pu qu)) ((tq qr) * (tq qu)))) ((((Br) + 2) + ((Bu) + 2)) + (((Br) + 2) + ((Bu) + 2))), (fun _ _ => True)] [⟨R3, none, (gs1 2), 4, .agg #[.bool false, .slice none 0 0, .slice none 0 0], some (7, 25, 6), []⟩] [] (by kernel_rfl) hn rfl (by kernel_rfl) (by kernel_rfl) (by kernel_rfl) (by kernel_rfl) (by kernel_rfl) (by kernel_rfl) ⟨Eqs.mono4 _, Eqs.mono4 _, OutW.mono4 _ _, Eqs.mono4 _, Eqs.mono4 _, OutW.mono4 _ _, OutR.mono4 _ _ _, True.mono4, trivial⟩ (ok_cons R3ok ok_nil) (IsOld.all (bx := [⟨R3, none, (gs1 2), 4, .agg #[.bool false, .slice none 0 0, .slice none 0 0], some (7, 25, 6), []⟩]) ⟨fun _ => ⟨f4, b4⟩, trivial⟩) (DisOld.all (bx := [⟨R3, none, (gs1 2), 4, .agg #[.bool false, .slice none 0 0, .slice none 0 0], some (7, 25, 6), []⟩]) ⟨fun _ => trivial, trivial⟩) ?_ ?_
        · exact ⟨.norm 19 rfl rfl rfl (fun a_ w_ hn_ hBt hr hR hD hO hS => op_loadv W2ok ((hR 5 rfl).trans f5) (b5.keep hBt ⟨fun _ => ne4_5, trivial⟩)),
            .norm 20 rfl rfl rfl (fun a_ w_ hn_ hBt hr hR hD hO hS => op_loadv W2ok ((hR 7 rfl).trans f7) (b7.keep hBt ⟨fun _ => ne4_7, trivial⟩)),
            .norm 21 rfl rfl rfl (fun a_ w_ hn_ hBt hr hR hD hO hS => op_mul (isw_eq (show a_.eval (.tmp 19) = .agg #[.bool n_3, .slice a_3 m_3 c_3] from hD 0 rfl) (A3.rl hr) l3) (isw_eq (show a_.eval (.tmp 20) = .agg #[.bool n_6, .slice a_6 m_6 c_6] from hD 1 rfl) (A6.rl hr) l6) (by omega) (by omega)),
            .norm 22 rfl rfl rfl (fun a_ w_ hn_ hBt hr hR hD hO hS => op_loadv W2ok ((hR 6 rfl).trans f6) (b6.keep hBt ⟨fun _ => ne4_6, trivial⟩)),
            .norm 23 rfl rfl rfl (fun a_ w_ hn_ hBt hr hR hD hO hS => op_loadv W2ok ((hR 8 rfl).trans f8) (b8.keep hBt ⟨fun _ => ne4_8, trivial⟩)),
            .norm 24 rfl rfl rfl (fun a_ w_ hn_ hBt hr hR hD hO hS => op_mul (isw_eq (show a_.eval (.tmp 22) = .agg #[.bool n_4, .slice a_4 m_4 c_4] from hD 3 rfl) (A4.rl hr) l4) (isw_eq (show a_.eval (.tmp 23) = .agg #[.bool n_7, .slice a_7 m_7 c_7] from hD 4 rfl) (A7.rl hr) l7) (by omega) (by omega)),
            .norm 25 rfl rfl rfl (fun a_ w_ hn_ hBt hr hR hD hO hS => op_lowest (show OutW (((tp pr qr) * (tp pu qu))) (((Br) + 2) + ((Bu) + 2)) (a_.eval (.tmp 21)) w_ from hD 2 rfl).is (show OutW (((tq qr) * (tq qu))) (((Br) + 2) + ((Bu) + 2)) (a_.eval (.tmp 24)) w_ from hD 5 rfl).is (by omega) (mul_ne (tq_ne _) (tq_ne _))),
            .store 0 _ _ _ rfl rfl rfl rfl rfl rfl rfl (fun ia h => by cases h) rfl rfl rfl OutR.cs,
            trivial⟩
        · intro a8 w8 gs8 hn8 hd8 hBt hr hR hP hX hU
          replace hn := hn8; replace hd := hd8.trans hd
          obtain ⟨n_9, a_9, c_9, r_9, b_9, d_9, s_9, e25, G9, K9, l9, k9⟩ : OutR ((nm ((tp pr qr) * (tp pu qu)) ((tq qr) * (tq qu)))) ((dn ((tp pr qr) * (tp pu qu)) ((tq qr) * (tq qu)))) ((((Br) + 2) + ((Bu) + 2)) + (((Br) + 2) + ((Bu) + 2))) (a8.eval (.tmp 25)) w8 := hP 6 (by decide)
          have A9 := G9.ag; have S9 := K9.sl; have V9 := K9.val
          have b4 : BoxV R3 w8 ((gs1 2)) (.agg #[.bool n_9, .slice a_9 r_9.length c_9, .slice b_9 s_9.length d_9]) := boxv_old ((hX 0 _ rfl).2.1 rfl) (hX 0 _ rfl).2.2.2 e25
          replace f4 : a8.eval (.tmp 4) = _ := (hR 4 rfl).trans f4
          replace Ar := Ar.rl hr
          replace Sr := Sr.rl hr
          replace Dr := Dr.rl hr
          replace Au := Au.rl hr
          replace Su := Su.rl hr
          replace Du := Du.rl hr
          replace A3 := A3.rl hr
          replace A4 := A4.rl hr
          replace A6 := A6.rl hr
          replace A7 := A7.rl hr
          replace HB := HB.trans (hBt.below HB.size (UpOld.all (bx := [⟨R3, none, (gs1 2), 4, .agg #[.bool false, .slice none 0 0, .slice none 0 0], some (7, 25, 6), []⟩]) ⟨fun _ => u4, trivial⟩))
          clear hBt hr hR hP hX hU
          refine wp_ret ?_
          repeat (first | refine then_ret ?_ | refine scope_ret ?_ | refine block_ret ?_)
          exact bodyPost_ret (v := .agg #[.bool n_9, .slice a_9 r_9.length c_9, .slice b_9 s_9.length d_9]) (res_c rfl f4 (lv_R3 b4)) hd ⟨_, rfl, OutR.to (outr_eq rfl G9 K9 l9 k9) rfl rfl (by omega), HB⟩

theorem has_rmul : Has Try.prog 35 := by unfold Has; kernel_rfl
theorem op_rmul {dst : Option Tmp} {ty : TypeId} {pos : String} {after : Array Edge} {guard : Option (Nat × Bool)} {a : Act} {w : World} {ats : Array TypeId} {i j : Nat} {Br : Nat} {pr qr : Int} (Hr : IsR pr qr Br (a.eval (.tmp i)) w) {Bu : Nat} {pu qu : Int} (Hu : IsR pu qu Bu (a.eval (.tmp j)) w) (hL : 2 * (Br + Bu + 4) ≤ 100000) :
    Does Try.prog { dst, op := .call { callee := .value (.func 35), args := #[.tmp i, .tmp j], argTypes := ats }, type := ty, pos, after, guard } a.eval w fun v w' => Below w.heap.size w w' ∧ (OutR (nm (tp pr qr * tp pu qu) (tq qr * tq qu)) (dn (tp pr qr * tp pu qu) (tq qr * tq qu)) (2 * (Br + Bu + 4))) v w' := by
  obtain ⟨nr, ar, mr, cr, rs, br, kr, dr, rt, er, Ar, Sr, Vr, Lr, Mr⟩ := Hr
  obtain ⟨nu, au, mu, cu, us, bu, ku, du, ut, eu, Au, Su, Vu, Lu, Mu⟩ := Hu
  refine does_call has_rmul _ (by simp only [List.map_toArray, List.map_cons, List.map_nil, er, eu]) ((rmul_z w Br _ _ _ _ _ _ Ar Lr _ _ _ _ _ Sr Vr Mr Bu _ _ _ _ _ _ Au Lu _ _ _ _ _ Su Vu Mu hL).mono ?_)
  rintro e w' ⟨v, rfl, h1, hb⟩
  exact ⟨_, rfl, hb, h1⟩

set_option maxRecDepth 20000 in
set_option maxHeartbeats 2000000 in
theorem joinadd_z (w : World) (Br : Nat) (nr : Bool) (ar : Option Addr) (mr cr : Nat) (rs : List Int) (pr : Int) (Ar : Ag w nr ar mr cr rs pr) (Lr : rs.length ≤ Br) (br : Option Addr) (kr dr : Nat) (rt : List Int) (qr : Int) (Sr : Sl w (.slice br kr dr) rt) (Vr : val rt = qr) (Mr : rt.length ≤ Br) (Bu : Nat) (nu : Bool) (au : Option Addr) (mu cu : Nat) (us : List Int) (pu : Int) (Au : Ag w nu au mu cu us pu) (Lu : us.length ≤ Bu) (bu : Option Addr) (ku du : Nat) (ut : List Int) (qu : Int) (Su : Sl w (.slice bu ku du) ut) (Vu : val ut = qu) (Mu : ut.length ≤ Bu) (hL : 3 * (Br + Bu + 4) + 1 ≤ 100000) :
    Calls Try.prog 62 #[.agg #[.bool nr, .slice ar mr cr, .slice br kr dr], .agg #[.bool nu, .slice au mu cu, .slice bu ku du], .func (.func 63) #[] #[]] w fun e w' => ∃ v, e = .returned v ∧ (OutR (nm (tp pr qr * tq qu + tp pu qu * tq qr) (tq qr * tq qu)) (dn (tp pr qr * tq qu + tp pu qu * tq qr) (tq qr * tq qu)) (3 * (Br + Bu + 4) + 1)) v w' ∧ Below w.heap.size w w' := by
  go_enter Try.func62, Try.ntmps62
  generalize hA : (Act.mk _ _) = aa
  have hn : aa.tmps.size = 35 := by rw [← hA]; rfl
  have hd : aa.defers = [] := by rw [← hA]
  have f0 : aa.eval (.tmp 0) = .agg #[.bool nr, .slice ar mr cr, .slice br kr dr] := by rw [← hA]; rfl
  have f1 : aa.eval (.tmp 1) = .agg #[.bool nu, .slice au mu cu, .slice bu ku du] := by rw [← hA]; rfl
  have f2 : aa.eval (.tmp 2) = .func (.func 63) #[] #[] := by rw [← hA]; rfl
  clear hA
  have HB : Below w.heap.size w w := Below.refl _ _
  have Dr : Ag w false br kr dr rt qr := ⟨Sr, Vr⟩
  have Du : Ag w false bu ku du ut qu := ⟨Su, Vu⟩
  refine wp_seq ?_
  refine region4 [some 3, some 4, some 6] [(fun _ _ => True), (fun _ _ => True), (fun _ _ => True)] [⟨R3, some 0, 0, 3, .agg #[.bool nr, .slice ar mr cr, .slice br kr dr], none, []⟩, ⟨R3, some 1, 0, 4, .agg #[.bool nu, .slice au mu cu, .slice bu ku du], none, []⟩, ⟨R3, some 2, 0, 6, .agg #[.bool false, .slice none 0 0, .slice none 0 0], none, []⟩] [] (by kernel_rfl) hn rfl (by kernel_rfl) (by kernel_rfl) (by kernel_rfl) (by kernel_rfl) (by kernel_rfl) (by kernel_rfl) ⟨True.mono4, True.mono4, True.mono4, trivial⟩ (ok_cons R3ok (ok_cons R3ok (ok_cons R3ok ok_nil))) (IsOld.all (bx := [⟨R3, some 0, 0, 3, .agg #[.bool nr, .slice ar mr cr, .slice br kr dr], none, []⟩, ⟨R3, some 1, 0, 4, .agg #[.bool nu, .slice au mu cu, .slice bu ku du], none, []⟩, ⟨R3, some 2, 0, 6, .agg #[.bool false, .slice none 0 0, .slice none 0 0], none, []⟩]) ⟨someNe, someNe, someNe, trivial⟩) (DisOld.all (bx := [⟨R3, some 0, 0, 3, .agg #[.bool nr, .slice ar mr cr, .slice br kr dr], none, []⟩, ⟨R3, some 1, 0, 4, .agg #[.bool nu, .slice au mu cu, .slice bu ku du], none, []⟩, ⟨R3, some 2, 0, 6, .agg #[.bool false, .slice none 0 0, .slice none 0 0], none, []⟩]) ⟨someNe, someNe, someNe, trivial⟩) ?_ ?_
  · exact ⟨.alloc 0 _ rfl rfl (.inr ⟨_, rfl, r3_cs, fun a_ hR => (hR 0 rfl).trans f0⟩) rfl rfl rfl rfl rfl,
      .alloc 1 _ rfl rfl (.inr ⟨_, rfl, r3_cs, fun a_ hR => (hR 1 rfl).trans f1⟩) rfl rfl rfl rfl rfl,
      .alloc 2 _ rfl rfl (.inl ⟨rfl, rfl⟩) rfl rfl rfl rfl rfl,
      trivial⟩
  · intro a1 w1 gs1 hn1 hd1 hBt hr hR hP hX hU
    replace hn := hn1; replace hd := hd1.trans hd
    have ne3_6 : gs1 0 ≠ gs1 2 := hU 0 2 (by simp) (by simp) (by decide)
    have ne4_6 : gs1 1 ≠ gs1 2 := hU 1 2 (by simp) (by simp) (by decide)
    have b3 : BoxV R3 w1 (gs1 0) (.agg #[.bool nr, .slice ar mr cr, .slice br kr dr]) := (hX 0 _ rfl).2.2.2
    have f3 := (hX 0 _ rfl).1
    have u3 : w.heap.size ≤ gs1 0 := Nat.le_trans HB.size ((hX 0 _ rfl).2.2.1 (by simp))
    have b4 : BoxV R3 w1 (gs1 1) (.agg #[.bool nu, .slice au mu cu, .slice bu ku du]) := (hX 1 _ rfl).2.2.2
    have f4 := (hX 1 _ rfl).1
    have u4 : w.heap.size ≤ gs1 1 := Nat.le_trans HB.size ((hX 1 _ rfl).2.2.1 (by simp))
    have b6 : BoxV R3 w1 (gs1 2) (.agg #[.bool false, .slice none 0 0, .slice none 0 0]) := (hX 2 _ rfl).2.2.2
    have f6 := (hX 2 _ rfl).1
    have u6 : w.heap.size ≤ gs1 2 := Nat.le_trans HB.size ((hX 2 _ rfl).2.2.1 (by simp))
    replace f2 := (hR 2 rfl).trans f2
    replace Ar := Ar.rl hr
    replace Sr := Sr.rl hr
    replace Dr := Dr.rl hr
    replace Au := Au.rl hr
    replace Su := Su.rl hr
    replace Du := Du.rl hr
    replace HB := HB.trans (hBt.below HB.size (UpOld.all (bx := [⟨R3, some 0, 0, 3, .agg #[.bool nr, .slice ar mr cr, .slice br kr dr], none, []⟩, ⟨R3, some 1, 0, 4, .agg #[.bool nu, .slice au mu cu, .slice bu ku du], none, []⟩, ⟨R3, some 2, 0, 6, .agg #[.bool false, .slice none 0 0, .slice none 0 0], none, []⟩]) ⟨someNe, someNe, someNe, trivial⟩))
    clear hBt hr hR hP hX hU
    refine wp_seq ?_
    refine region4 [some 13, some 14, some 12, some 15, some 16, some 7, some 8, none, none] [Eqs (.agg #[.bool nr, .slice ar mr cr, .slice br kr dr]), Tup2 (IsW ((tp pr qr)) ((Br) + 2)) (IsW ((tq qr)) ((Br) + 2)), Tup2 (IsW ((tp pr qr)) ((Br) + 2)) (IsW ((tq qr)) ((Br) + 2)), IsW ((tp pr qr)) ((Br) + 2), IsW ((tq qr)) ((Br) + 2), (fun _ _ => True), (fun _ _ => True), (fun _ _ => True), (fun _ _ => True)] [⟨W2, some 5, 0, 7, .agg #[.bool false, .slice none 0 0], some (7, 15, 3), []⟩, ⟨W2, some 6, 0, 8, .agg #[.bool false, .slice none 0 0], some (8, 16, 4), []⟩] [] (by kernel_rfl) hn rfl (by kernel_rfl) (by kernel_rfl) (by kernel_rfl) (by kernel_rfl) (by kernel_rfl) (by kernel_rfl) ⟨Eqs.mono4 _, Tup2.mono4 (IsW.mono4 _ _) (IsW.mono4 _ _), Tup2.mono4 (IsW.mono4 _ _) (IsW.mono4 _ _), IsW.mono4 _ _, IsW.mono4 _ _, True.mono4, True.mono4, True.mono4, True.mono4, trivial⟩ (ok_cons W2ok (ok_cons W2ok ok_nil)) (IsOld.all (bx := [⟨W2, some 5, 0, 7, .agg #[.bool false, .slice none 0 0], some (7, 15, 3), []⟩, ⟨W2, some 6, 0, 8, .agg #[.bool false, .slice none 0 0], some (8, 16, 4), []⟩]) ⟨someNe, someNe, trivial⟩) (DisOld.all (bx := [⟨W2, some 5, 0, 7, .agg #[.bool false, .slice none 0 0], some (7, 15, 3), []⟩, ⟨W2, some 6, 0, 8, .agg #[.bool false, .slice none 0 0], some (8, 16, 4), []⟩]) ⟨someNe, someNe, trivial⟩) ?_ ?_
    · exact ⟨.norm 13 rfl rfl rfl (fun a_ w_ hn_ hBt hr hR hD hO hS => op_loadv R3ok ((hR 3 rfl).trans f3) (b3.keep hBt ⟨someNe, someNe, trivial⟩)),
        .norm 14 rfl rfl rfl (fun a_ w_ hn_ hBt hr hR hD hO hS => op_terms (isr_eq (show a_.eval (.tmp 13) = .agg #[.bool nr, .slice ar mr cr, .slice br kr dr] from hD 0 rfl) (Ar.rl hr) (Sr.rl hr) Vr Lr Mr) (by omega)),
        .norm 12 rfl rfl rfl (fun a_ w_ hn_ hBt hr hR hD hO hS => op_mvp (p := Tup2 (IsW ((tp pr qr)) ((Br) + 2)) (IsW ((tq qr)) ((Br) + 2))) (show Tup2 (IsW ((tp pr qr)) ((Br) + 2)) (IsW ((tq qr)) ((Br) + 2)) (a_.eval (.tmp 14)) w_ from hD 1 rfl)),
        .norm 15 rfl rfl rfl (fun a_ w_ hn_ hBt hr hR hD hO hS => op_ex20 (show Tup2 (IsW ((tp pr qr)) ((Br) + 2)) (IsW ((tq qr)) ((Br) + 2)) (a_.eval (.tmp 12)) w_ from hD 2 rfl)),
        .norm 16 rfl rfl rfl (fun a_ w_ hn_ hBt hr hR hD hO hS => op_ex21 (show Tup2 (IsW ((tp pr qr)) ((Br) + 2)) (IsW ((tq qr)) ((Br) + 2)) (a_.eval (.tmp 12)) w_ from hD 2 rfl)),
        .alloc 0 _ rfl rfl (.inl ⟨rfl, rfl⟩) rfl rfl rfl rfl rfl,
        .alloc 1 _ rfl rfl (.inl ⟨rfl, rfl⟩) rfl rfl rfl rfl rfl,
        .store 0 _ _ _ rfl rfl rfl rfl rfl rfl rfl (fun ia h => by cases h; rfl) rfl rfl rfl IsW.cs,
        .store 1 _ _ _ rfl rfl rfl rfl rfl rfl rfl (fun ia h => by cases h; rfl) rfl rfl rfl IsW.cs,
        trivial⟩
    · intro a2 w2 gs2 hn2 hd2 hBt hr hR hP hX hU
      replace hn := hn2; replace hd := hd2.trans hd
      have ne6_7 : (gs1 2) ≠ gs2 0 := by have h1 := b6.lt; have h2 := (hX 0 _ rfl).2.2.1 (by simp); omega
      have ne6_8 : (gs1 2) ≠ gs2 1 := by have h1 := b6.lt; have h2 := (hX 1 _ rfl).2.2.1 (by simp); omega
      replace b4 := b4.keep hBt ⟨someNe, someNe, trivial⟩
      replace b6 := b6.keep hBt ⟨someNe, someNe, trivial⟩
      obtain ⟨n_3, a_3, m_3, c_3, r_3, e15, A3, l3⟩ : IsW ((tp pr qr)) ((Br) + 2) (a2.eval (.tmp 15)) w2 := hP 3 (by decide)
      have b7 : BoxV W2 w2 (gs2 0) (.agg #[.bool n_3, .slice a_3 m_3 c_3]) := boxv_of (hX 0 _ rfl).2.2.2 e15
      have f7 := (hX 0 _ rfl).1
      have u7 : w.heap.size ≤ gs2 0 := Nat.le_trans HB.size ((hX 0 _ rfl).2.2.1 (by simp))
      obtain ⟨n_4, a_4, m_4, c_4, r_4, e16, A4, l4⟩ : IsW ((tq qr)) ((Br) + 2) (a2.eval (.tmp 16)) w2 := hP 4 (by decide)
      have b8 : BoxV W2 w2 (gs2 1) (.agg #[.bool n_4, .slice a_4 m_4 c_4]) := boxv_of (hX 1 _ rfl).2.2.2 e16
      have f8 := (hX 1 _ rfl).1
      have u8 : w.heap.size ≤ gs2 1 := Nat.le_trans HB.size ((hX 1 _ rfl).2.2.1 (by simp))
      replace f2 := (hR 2 rfl).trans f2
      replace f4 := (hR 4 rfl).trans f4
      replace f6 := (hR 6 rfl).trans f6
      replace Ar := Ar.rl hr
      replace Sr := Sr.rl hr
      replace Dr := Dr.rl hr
      replace Au := Au.rl hr
      replace Su := Su.rl hr
      replace Du := Du.rl hr
      replace HB := HB.trans (hBt.below HB.size (UpOld.all (bx := [⟨W2, some 5, 0, 7, .agg #[.bool false, .slice none 0 0], some (7, 15, 3), []⟩, ⟨W2, some 6, 0, 8, .agg #[.bool false, .slice none 0 0], some (8, 16, 4), []⟩]) ⟨someNe, someNe, trivial⟩))
      clear hBt hr hR hP hX hU
      refine wp_seq ?_
      refine region4 [some 18, some 19, some 17, some 20, some 21, some 9, some 10, none, none] [Eqs (.agg #[.bool nu, .slice au mu cu, .slice bu ku du]), Tup2 (IsW ((tp pu qu)) ((Bu) + 2)) (IsW ((tq qu)) ((Bu) + 2)), Tup2 (IsW ((tp pu qu)) ((Bu) + 2)) (IsW ((tq qu)) ((Bu) + 2)), IsW ((tp pu qu)) ((Bu) + 2), IsW ((tq qu)) ((Bu) + 2), (fun _ _ => True), (fun _ _ => True), (fun _ _ => True), (fun _ _ => True)] [⟨W2, some 5, 0, 9, .agg #[.bool false, .slice none 0 0], some (7, 20, 3), []⟩, ⟨W2, some 6, 0, 10, .agg #[.bool false, .slice none 0 0], some (8, 21, 4), []⟩] [] (by kernel_rfl) hn rfl (by kernel_rfl) (by kernel_rfl) (by kernel_rfl) (by kernel_rfl) (by kernel_rfl) (by kernel_rfl) ⟨Eqs.mono4 _, Tup2.mono4 (IsW.mono4 _ _) (IsW.mono4 _ _), Tup2.mono4 (IsW.mono4 _ _) (IsW.mono4 _ _), IsW.mono4 _ _, IsW.mono4 _ _, True.mono4, True.mono4, True.mono4, True.mono4, trivial⟩ (ok_cons W2ok (ok_cons W2ok ok_nil)) (IsOld.all (bx := [⟨W2, some 5, 0, 9, .agg #[.bool false, .slice none 0 0], some (7, 20, 3), []⟩, ⟨W2, some 6, 0, 10, .agg #[.bool false, .slice none 0 0], some (8, 21, 4), []⟩]) ⟨someNe, someNe, trivial⟩) (DisOld.all (bx := [⟨W2, some 5, 0, 9, .agg #[.bool false, .slice none 0 0], some (7, 20, 3), []⟩, ⟨W2, some 6, 0, 10, .agg #[.bool false, .slice none 0 0], some (8, 21, 4), []⟩]) ⟨someNe, someNe, trivial⟩) ?_ ?_
      · exact ⟨.norm 18 rfl rfl rfl (fun a_ w_ hn_ hBt hr hR hD hO hS => op_loadv R3ok ((hR 4 rfl).trans f4) (b4.keep hBt ⟨someNe, someNe, trivial⟩)),
          .norm 19 rfl rfl rfl (fun a_ w_ hn_ hBt hr hR hD hO hS => op_terms (isr_eq (show a_.eval (.tmp 18) = .agg #[.bool nu, .slice au mu cu, .slice bu ku du] from hD 0 rfl) (Au.rl hr) (Su.rl hr) Vu Lu Mu) (by omega)),
          .norm 17 rfl rfl rfl (fun a_ w_ hn_ hBt hr hR hD hO hS => op_mvp (p := Tup2 (IsW ((tp pu qu)) ((Bu) + 2)) (IsW ((tq qu)) ((Bu) + 2))) (show Tup2 (IsW ((tp pu qu)) ((Bu) + 2)) (IsW ((tq qu)) ((Bu) + 2)) (a_.eval (.tmp 19)) w_ from hD 1 rfl)),
          .norm 20 rfl rfl rfl (fun a_ w_ hn_ hBt hr hR hD hO hS => op_ex20 (show Tup2 (IsW ((tp pu qu)) ((Bu) + 2)) (IsW ((tq qu)) ((Bu) + 2)) (a_.eval (.tmp 17)) w_ from hD 2 rfl)),
          .norm 21 rfl rfl rfl (fun a_ w_ hn_ hBt hr hR hD hO hS => op_ex21 (show Tup2 (IsW ((tp pu qu)) ((Bu) + 2)) (IsW ((tq qu)) ((Bu) + 2)) (a_.eval (.tmp 17)) w_ from hD 2 rfl)),
          .alloc 0 _ rfl rfl (.inl ⟨rfl, rfl⟩) rfl rfl rfl rfl rfl,
          .alloc 1 _ rfl rfl (.inl ⟨rfl, rfl⟩) rfl rfl rfl rfl rfl,
          .store 0 _ _ _ rfl rfl rfl rfl rfl rfl rfl (fun ia h => by cases h; rfl) rfl rfl rfl IsW.cs,
          .store 1 _ _ _ rfl rfl rfl rfl rfl rfl rfl (fun ia h => by cases h; rfl) rfl rfl rfl IsW.cs,
          trivial⟩
      · intro a5 w5 gs5 hn5 hd5 hBt hr hR hP hX hU
        replace hn := hn5; replace hd := hd5.trans hd
        have ne6_9 : (gs1 2) ≠ gs5 0 := by have h1 := b6.lt; have h2 := (hX 0 _ rfl).2.2.1 (by simp); omega
        have ne6_10 : (gs1 2) ≠ gs5 1 := by have h1 := b6.lt; have h2 := (hX 1 _ rfl).2.2.1 (by simp); omega
        replace b6 := b6.keep hBt ⟨someNe, someNe, trivial⟩
        replace b7 := b7.keep hBt ⟨someNe, someNe, trivial⟩
        replace b8 := b8.keep hBt ⟨someNe, someNe, trivial⟩
        obtain ⟨n_6, a_6, m_6, c_6, r_6, e20, A6, l6⟩ : IsW ((tp pu qu)) ((Bu) + 2) (a5.eval (.tmp 20)) w5 := hP 3 (by decide)
        have b9 : BoxV W2 w5 (gs5 0) (.agg #[.bool n_6, .slice a_6 m_6 c_6]) := boxv_of (hX 0 _ rfl).2.2.2 e20
        have f9 := (hX 0 _ rfl).1
        have u9 : w.heap.size ≤ gs5 0 := Nat.le_trans HB.size ((hX 0 _ rfl).2.2.1 (by simp))
        obtain ⟨n_7, a_7, m_7, c_7, r_7, e21, A7, l7⟩ : IsW ((tq qu)) ((Bu) + 2) (a5.eval (.tmp 21)) w5 := hP 4 (by decide)
        have b10 : BoxV W2 w5 (gs5 1) (.agg #[.bool n_7, .slice a_7 m_7 c_7]) := boxv_of (hX 1 _ rfl).2.2.2 e21
        have f10 := (hX 1 _ rfl).1
        have u10 : w.heap.size ≤ gs5 1 := Nat.le_trans HB.size ((hX 1 _ rfl).2.2.1 (by simp))
        replace f2 := (hR 2 rfl).trans f2
        replace f6 := (hR 6 rfl).trans f6
        replace f7 := (hR 7 rfl).trans f7
        replace f8 := (hR 8 rfl).trans f8
        replace Ar := Ar.rl hr
        replace Sr := Sr.rl hr
        replace Dr := Dr.rl hr
        replace Au := Au.rl hr
        replace Su := Su.rl hr
        replace Du := Du.rl hr
        replace A3 := A3.rl hr
        replace A4 := A4.rl hr
        replace HB := HB.trans (hBt.below HB.size (UpOld.all (bx := [⟨W2, some 5, 0, 9, .agg #[.bool false, .slice none 0 0], some (7, 20, 3), []⟩, ⟨W2, some 6, 0, 10, .agg #[.bool false, .slice none 0 0], some (8, 21, 4), []⟩]) ⟨someNe, someNe, trivial⟩))
        clear hBt hr hR hP hX hU
        refine wp_seq ?_
        refine region4 [some 22, some 23, some 24, some 25, some 26, some 27, some 28, some 29, some 11, none] [Eqs (.func (.func 63) #[] #[]), Eqs (.agg #[.bool n_3, .slice a_3 m_3 c_3]), Eqs (.agg #[.bool n_7, .slice a_7 m_7 c_7]), OutW (((tp pr qr) * (tq qu))) (((Br) + 2) + ((Bu) + 2)), Eqs (.agg #[.bool n_6, .slice a_6 m_6 c_6]), Eqs (.agg #[.bool n_4, .slice a_4 m_4 c_4]), OutW (((tp pu qu) * (tq qr))) (((Bu) + 2) + ((Br) + 2)), OutW ((((tp pr qr) * (tq qu)) + ((tp pu qu) * (tq qr)))) ((((Br) + 2) + ((Bu) + 2)) + (((Bu) + 2) + ((Br) + 2)) + 1), (fun _ _ => True), (fun _ _ => True)] [⟨W2, some 8, 0, 11, .agg #[.bool false, .slice none 0 0], some (9, 29, 7), []⟩] [] (by kernel_rfl) hn rfl (by kernel_rfl) (by kernel_rfl) (by kernel_rfl) (by kernel_rfl) (by kernel_rfl) (by kernel_rfl) ⟨Eqs.mono4 _, Eqs.mono4 _, Eqs.mono4 _, OutW.mono4 _ _, Eqs.mono4 _, Eqs.mono4 _, OutW.mono4 _ _, OutW.mono4 _ _, True.mono4, True.mono4, trivial⟩ (ok_cons W2ok ok_nil) (IsOld.all (bx := [⟨W2, some 8, 0, 11, .agg #[.bool false, .slice none 0 0], some (9, 29, 7), []⟩]) ⟨someNe, trivial⟩) (DisOld.all (bx := [⟨W2, some 8, 0, 11, .agg #[.bool false, .slice none 0 0], some (9, 29, 7), []⟩]) ⟨someNe, trivial⟩) ?_ ?_
        · exact ⟨.norm 22 rfl rfl rfl (fun a_ w_ hn_ hBt hr hR hD hO hS => op_mv ((hR 2 rfl).trans f2)),
            .norm 23 rfl rfl rfl (fun a_ w_ hn_ hBt hr hR hD hO hS => op_loadv W2ok ((hR 7 rfl).trans f7) (b7.keep hBt ⟨someNe, trivial⟩)),
            .norm 24 rfl rfl rfl (fun a_ w_ hn_ hBt hr hR hD hO hS => op_loadv W2ok ((hR 10 rfl).trans f10) (b10.keep hBt ⟨someNe, trivial⟩)),
            .norm 25 rfl rfl rfl (fun a_ w_ hn_ hBt hr hR hD hO hS => op_mul (isw_eq (show a_.eval (.tmp 23) = .agg #[.bool n_3, .slice a_3 m_3 c_3] from hD 1 rfl) (A3.rl hr) l3) (isw_eq (show a_.eval (.tmp 24) = .agg #[.bool n_7, .slice a_7 m_7 c_7] from hD 2 rfl) (A7.rl hr) l7) (by omega) (by omega)),
            .norm 26 rfl rfl rfl (fun a_ w_ hn_ hBt hr hR hD hO hS => op_loadv W2ok ((hR 9 rfl).trans f9) (b9.keep hBt ⟨someNe, trivial⟩)),
            .norm 27 rfl rfl rfl (fun a_ w_ hn_ hBt hr hR hD hO hS => op_loadv W2ok ((hR 8 rfl).trans f8) (b8.keep hBt ⟨someNe, trivial⟩)),
            .norm 28 rfl rfl rfl (fun a_ w_ hn_ hBt hr hR hD hO hS => op_mul (isw_eq (show a_.eval (.tmp 26) = .agg #[.bool n_6, .slice a_6 m_6 c_6] from hD 4 rfl) (A6.rl hr) l6) (isw_eq (show a_.eval (.tmp 27) = .agg #[.bool n_4, .slice a_4 m_4 c_4] from hD 5 rfl) (A4.rl hr) l4) (by omega) (by omega)),
            .norm 29 rfl rfl rfl (fun a_ w_ hn_ hBt hr hR hD hO hS => does_via ((hD 0 rfl : _ = _)) (op_add (show OutW (((tp pr qr) * (tq qu))) (((Br) + 2) + ((Bu) + 2)) (a_.eval (.tmp 25)) w_ from hD 3 rfl).is (show OutW (((tp pu qu) * (tq qr))) (((Bu) + 2) + ((Br) + 2)) (a_.eval (.tmp 28)) w_ from hD 6 rfl).is (by omega) (by omega))),
            .alloc 0 _ rfl rfl (.inl ⟨rfl, rfl⟩) rfl rfl rfl rfl rfl,
            .store 0 _ _ _ rfl rfl rfl rfl rfl rfl rfl (fun ia h => by cases h; rfl) rfl rfl rfl OutW.cs,
            trivial⟩
        · intro a8 w8 gs8 hn8 hd8 hBt hr hR hP hX hU
          replace hn := hn8; replace hd := hd8.trans hd
          have ne6_11 : (gs1 2) ≠ gs8 0 := by have h1 := b6.lt; have h2 := (hX 0 _ rfl).2.2.1 (by simp); omega
          replace b6 := b6.keep hBt ⟨someNe, trivial⟩
          replace b8 := b8.keep hBt ⟨someNe, trivial⟩
          replace b10 := b10.keep hBt ⟨someNe, trivial⟩
          obtain ⟨n_9, a_9, c_9, r_9, e29, G9, l9⟩ : OutW ((((tp pr qr) * (tq qu)) + ((tp pu qu) * (tq qr)))) ((((Br) + 2) + ((Bu) + 2)) + (((Bu) + 2) + ((Br) + 2)) + 1) (a8.eval (.tmp 29)) w8 := hP 7 (by decide)
          have A9 := G9.ag
          have b11 : BoxV W2 w8 (gs8 0) (.agg #[.bool n_9, .slice a_9 r_9.length c_9]) := boxv_of (hX 0 _ rfl).2.2.2 e29
          have f11 := (hX 0 _ rfl).1
          have u11 : w.heap.size ≤ gs8 0 := Nat.le_trans HB.size ((hX 0 _ rfl).2.2.1 (by simp))
          replace f6 := (hR 6 rfl).trans f6
          replace f8 := (hR 8 rfl).trans f8
          replace f10 := (hR 10 rfl).trans f10
          replace Ar := Ar.rl hr
          replace Sr := Sr.rl hr
          replace Dr := Dr.rl hr
          replace Au := Au.rl hr
          replace Su := Su.rl hr
          replace Du := Du.rl hr
          replace A3 := A3.rl hr
          replace A4 := A4.rl hr
          replace A6 := A6.rl hr
          replace A7 := A7.rl hr
          replace HB := HB.trans (hBt.below HB.size (UpOld.all (bx := [⟨W2, some 8, 0, 11, .agg #[.bool false, .slice none 0 0], some (9, 29, 7), []⟩]) ⟨someNe, trivial⟩))
          clear hBt hr hR hP hX hU
          refine wp_seq ?_
          refine region4 [some 30, some 31, some 32, some 33, some 34, none] [Eqs (.agg #[.bool n_9, .slice a_9 r_9.length c_9]), Eqs (.agg #[.bool n_4, .slice a_4 m_4 c_4]), Eqs (.agg #[.bool n_7, .slice a_7 m_7 c_7]), OutW (((tq qr) * (tq qu))) (((Br) + 2) + ((Bu) + 2)), OutR ((nm (((tp pr qr) * (tq qu)) + ((tp pu qu) * (tq qr))) ((tq qr) * (tq qu)))) ((dn (((tp pr qr) * (tq qu)) + ((tp pu qu) * (tq qr))) ((tq qr) * (tq qu)))) (((((Br) + 2) + ((Bu) + 2)) + (((Bu) + 2) + ((Br) + 2)) + 1) + (((Br) + 2) + ((Bu) + 2))), (fun _ _ => True)] [⟨R3, none, (gs1 2), 6, .agg #[.bool false, .slice none 0 0, .slice none 0 0], some (5, 34, 4), []⟩] [] (by kernel_rfl) hn rfl (by kernel_rfl) (by kernel_rfl) (by kernel_rfl) (by kernel_rfl) (by kernel_rfl) (by kernel_rfl) ⟨Eqs.mono4 _, Eqs.mono4 _, Eqs.mono4 _, OutW.mono4 _ _, OutR.mono4 _ _ _, True.mono4, trivial⟩ (ok_cons R3ok ok_nil) (IsOld.all (bx := [⟨R3, none, (gs1 2), 6, .agg #[.bool false, .slice none 0 0, .slice none 0 0], some (5, 34, 4), []⟩]) ⟨fun _ => ⟨f6, b6⟩, trivial⟩) (DisOld.all (bx := [⟨R3, none, (gs1 2), 6, .agg #[.bool false, .slice none 0 0, .slice none 0 0], some (5, 34, 4), []⟩]) ⟨fun _ => trivial, trivial⟩) ?_ ?_
          · exact ⟨.norm 30 rfl rfl rfl (fun a_ w_ hn_ hBt hr hR hD hO hS => op_loadv W2ok ((hR 11 rfl).trans f11) (b11.keep hBt ⟨fun _ => ne6_11, trivial⟩)),
              .norm 31 rfl rfl rfl (fun a_ w_ hn_ hBt hr hR hD hO hS => op_loadv W2ok ((hR 8 rfl).trans f8) (b8.keep hBt ⟨fun _ => ne6_8, trivial⟩)),
              .norm 32 rfl rfl rfl (fun a_ w_ hn_ hBt hr hR hD hO hS => op_loadv W2ok ((hR 10 rfl).trans f10) (b10.keep hBt ⟨fun _ => ne6_10, trivial⟩)),
              .norm 33 rfl rfl rfl (fun a_ w_ hn_ hBt hr hR hD hO hS => op_mul (isw_eq (show a_.eval (.tmp 31) = .agg #[.bool n_4, .slice a_4 m_4 c_4] from hD 1 rfl) (A4.rl hr) l4) (isw_eq (show a_.eval (.tmp 32) = .agg #[.bool n_7, .slice a_7 m_7 c_7] from hD 2 rfl) (A7.rl hr) l7) (by omega) (by omega)),
              .norm 34 rfl rfl rfl (fun a_ w_ hn_ hBt hr hR hD hO hS => op_lowest (isw_eq (show a_.eval (.tmp 30) = .agg #[.bool n_9, .slice a_9 r_9.length c_9] from hD 0 rfl) (A9.rl hr) l9) (show OutW (((tq qr) * (tq qu))) (((Br) + 2) + ((Bu) + 2)) (a_.eval (.tmp 33)) w_ from hD 3 rfl).is (by omega) (mul_ne (tq_ne _) (tq_ne _))),
              .store 0 _ _ _ rfl rfl rfl rfl rfl rfl rfl (fun ia h => by cases h) rfl rfl rfl OutR.cs,
              trivial⟩
          · intro a10 w10 gs10 hn10 hd10 hBt hr hR hP hX hU
            replace hn := hn10; replace hd := hd10.trans hd
            obtain ⟨n_11, a_11, c_11, r_11, b_11, d_11, s_11, e34, G11, K11, l11, k11⟩ : OutR ((nm (((tp pr qr) * (tq qu)) + ((tp pu qu) * (tq qr))) ((tq qr) * (tq qu)))) ((dn (((tp pr qr) * (tq qu)) + ((tp pu qu) * (tq qr))) ((tq qr) * (tq qu)))) (((((Br) + 2) + ((Bu) + 2)) + (((Bu) + 2) + ((Br) + 2)) + 1) + (((Br) + 2) + ((Bu) + 2))) (a10.eval (.tmp 34)) w10 := hP 4 (by decide)
            have A11 := G11.ag; have S11 := K11.sl; have V11 := K11.val
            have b6 : BoxV R3 w10 ((gs1 2)) (.agg #[.bool n_11, .slice a_11 r_11.length c_11, .slice b_11 s_11.length d_11]) := boxv_old ((hX 0 _ rfl).2.1 rfl) (hX 0 _ rfl).2.2.2 e34
            replace f6 : a10.eval (.tmp 6) = _ := (hR 6 rfl).trans f6
            replace Ar := Ar.rl hr
            replace Sr := Sr.rl hr
            replace Dr := Dr.rl hr
            replace Au := Au.rl hr
            replace Su := Su.rl hr
            replace Du := Du.rl hr
            replace A3 := A3.rl hr
            replace A4 := A4.rl hr
            replace A6 := A6.rl hr
            replace A7 := A7.rl hr
            replace G9 := G9.rl hr
            replace A9 := A9.rl hr
            replace HB := HB.trans (hBt.below HB.size (UpOld.all (bx := [⟨R3, none, (gs1 2), 6, .agg #[.bool false, .slice none 0 0, .slice none 0 0], some (5, 34, 4), []⟩]) ⟨fun _ => u6, trivial⟩))
            clear hBt hr hR hP hX hU
            refine wp_ret ?_
            repeat (first | refine then_ret ?_ | refine scope_ret ?_ | refine block_ret ?_)
            exact bodyPost_ret (v := .agg #[.bool n_11, .slice a_11 r_11.length c_11, .slice b_11 s_11.length d_11]) (res_c rfl f6 (lv_R3 b6)) hd ⟨_, rfl, OutR.to (outr_eq rfl G11 K11 l11 k11) rfl rfl (by omega), HB⟩

theorem has_joinadd : Has Try.prog 62 := by unfold Has; kernel_rfl
theorem op_joinadd {dst : Option Tmp} {ty : TypeId} {pos : String} {after : Array Edge} {guard : Option (Nat × Bool)} {a : Act} {w : World} {ats : Array TypeId} {i j : Nat} {Br : Nat} {pr qr : Int} (Hr : IsR pr qr Br (a.eval (.tmp i)) w) {Bu : Nat} {pu qu : Int} (Hu : IsR pu qu Bu (a.eval (.tmp j)) w) (hL : 3 * (Br + Bu + 4) + 1 ≤ 100000) :
    Does Try.prog { dst, op := .call { callee := .value (.func 62), args := #[.tmp i, .tmp j, .func 63], argTypes := ats }, type := ty, pos, after, guard } a.eval w fun v w' => Below w.heap.size w w' ∧ (OutR (nm (tp pr qr * tq qu + tp pu qu * tq qr) (tq qr * tq qu)) (dn (tp pr qr * tq qu + tp pu qu * tq qr) (tq qr * tq qu)) (3 * (Br + Bu + 4) + 1)) v w' := by
  obtain ⟨nr, ar, mr, cr, rs, br, kr, dr, rt, er, Ar, Sr, Vr, Lr, Mr⟩ := Hr
  obtain ⟨nu, au, mu, cu, us, bu, ku, du, ut, eu, Au, Su, Vu, Lu, Mu⟩ := Hu
  refine does_call has_joinadd _ (by simp only [List.map_toArray, List.map_cons, List.map_nil, er, eu]; rfl) ((joinadd_z w Br _ _ _ _ _ _ Ar Lr _ _ _ _ _ Sr Vr Mr Bu _ _ _ _ _ _ Au Lu _ _ _ _ _ Su Vu Mu hL).mono ?_)
  rintro e w' ⟨v, rfl, h1, hb⟩
  exact ⟨_, rfl, hb, h1⟩

set_option maxRecDepth 20000 in
set_option maxHeartbeats 2000000 in
theorem radd_z (w : World) (Br : Nat) (nr : Bool) (ar : Option Addr) (mr cr : Nat) (rs : List Int) (pr : Int) (Ar : Ag w nr ar mr cr rs pr) (Lr : rs.length ≤ Br) (br : Option Addr) (kr dr : Nat) (rt : List Int) (qr : Int) (Sr : Sl w (.slice br kr dr) rt) (Vr : val rt = qr) (Mr : rt.length ≤ Br) (Bu : Nat) (nu : Bool) (au : Option Addr) (mu cu : Nat) (us : List Int) (pu : Int) (Au : Ag w nu au mu cu us pu) (Lu : us.length ≤ Bu) (bu : Option Addr) (ku du : Nat) (ut : List Int) (qu : Int) (Su : Sl w (.slice bu ku du) ut) (Vu : val ut = qu) (Mu : ut.length ≤ Bu) (hL : 3 * (Br + Bu + 4) + 1 ≤ 100000) :
    Calls Try.prog 34 #[.agg #[.bool nr, .slice ar mr cr, .slice br kr dr], .agg #[.bool nu, .slice au mu cu, .slice bu ku du]] w fun e w' => ∃ v, e = .returned v ∧ (OutR (nm (tp pr qr * tq qu + tp pu qu * tq qr) (tq qr * tq qu)) (dn (tp pr qr * tq qu + tp pu qu * tq qr) (tq qr * tq qu)) (3 * (Br + Bu + 4) + 1)) v w' ∧ Below w.heap.size w w' := by
  go_enter Try.func34, Try.ntmps34
  generalize hA : (Act.mk _ _) = aa
  have hn : aa.tmps.size = 8 := by rw [← hA]; rfl
  have hd : aa.defers = [] := by rw [← hA]
  have f0 : aa.eval (.tmp 0) = .agg #[.bool nr, .slice ar mr cr, .slice br kr dr] := by rw [← hA]; rfl
  have f1 : aa.eval (.tmp 1) = .agg #[.bool nu, .slice au mu cu, .slice bu ku du] := by rw [← hA]; rfl
  clear hA
  have HB : Below w.heap.size w w := Below.refl _ _
  have Dr : Ag w false br kr dr rt qr := ⟨Sr, Vr⟩
  have Du : Ag w false bu ku du ut qu := ⟨Su, Vu⟩
  refine wp_seq ?_
  refine region4 [some 2, some 3, some 4] [(fun _ _ => True), (fun _ _ => True), (fun _ _ => True)] [⟨R3, some 0, 0, 2, .agg #[.bool nr, .slice ar mr cr, .slice br kr dr], none, []⟩, ⟨R3, some 1, 0, 3, .agg #[.bool nu, .slice au mu cu, .slice bu ku du], none, []⟩, ⟨R3, some 2, 0, 4, .agg #[.bool false, .slice none 0 0, .slice none 0 0], none, []⟩] [] (by kernel_rfl) hn rfl (by kernel_rfl) (by kernel_rfl) (by kernel_rfl) (by kernel_rfl) (by kernel_rfl) (by kernel_rfl) ⟨True.mono4, True.mono4, True.mono4, trivial⟩ (ok_cons R3ok (ok_cons R3ok (ok_cons R3ok ok_nil))) (IsOld.all (bx := [⟨R3, some 0, 0, 2, .agg #[.bool nr, .slice ar mr cr, .slice br kr dr], none, []⟩, ⟨R3, some 1, 0, 3, .agg #[.bool nu, .slice au mu cu, .slice bu ku du], none, []⟩, ⟨R3, some 2, 0, 4, .agg #[.bool false, .slice none 0 0, .slice none 0 0], none, []⟩]) ⟨someNe, someNe, someNe, trivial⟩) (DisOld.all (bx := [⟨R3, some 0, 0, 2, .agg #[.bool nr, .slice ar mr cr, .slice br kr dr], none, []⟩, ⟨R3, some 1, 0, 3, .agg #[.bool nu, .slice au mu cu, .slice bu ku du], none, []⟩, ⟨R3, some 2, 0, 4, .agg #[.bool false, .slice none 0 0, .slice none 0 0], none, []⟩]) ⟨someNe, someNe, someNe, trivial⟩) ?_ ?_
  · exact ⟨.alloc 0 _ rfl rfl (.inr ⟨_, rfl, r3_cs, fun a_ hR => (hR 0 rfl).trans f0⟩) rfl rfl rfl rfl rfl,
      .alloc 1 _ rfl rfl (.inr ⟨_, rfl, r3_cs, fun a_ hR => (hR 1 rfl).trans f1⟩) rfl rfl rfl rfl rfl,
      .alloc 2 _ rfl rfl (.inl ⟨rfl, rfl⟩) rfl rfl rfl rfl rfl,
      trivial⟩
  · intro a1 w1 gs1 hn1 hd1 hBt hr hR hP hX hU
    replace hn := hn1; replace hd := hd1.trans hd
    have ne2_4 : gs1 0 ≠ gs1 2 := hU 0 2 (by simp) (by simp) (by decide)
    have ne3_4 : gs1 1 ≠ gs1 2 := hU 1 2 (by simp) (by simp) (by decide)
    have b2 : BoxV R3 w1 (gs1 0) (.agg #[.bool nr, .slice ar mr cr, .slice br kr dr]) := (hX 0 _ rfl).2.2.2
    have f2 := (hX 0 _ rfl).1
    have u2 : w.heap.size ≤ gs1 0 := Nat.le_trans HB.size ((hX 0 _ rfl).2.2.1 (by simp))
    have b3 : BoxV R3 w1 (gs1 1) (.agg #[.bool nu, .slice au mu cu, .slice bu ku du]) := (hX 1 _ rfl).2.2.2
    have f3 := (hX 1 _ rfl).1
    have u3 : w.heap.size ≤ gs1 1 := Nat.le_trans HB.size ((hX 1 _ rfl).2.2.1 (by simp))
    have b4 : BoxV R3 w1 (gs1 2) (.agg #[.bool false, .slice none 0 0, .slice none 0 0]) := (hX 2 _ rfl).2.2.2
    have f4 := (hX 2 _ rfl).1
    have u4 : w.heap.size ≤ gs1 2 := Nat.le_trans HB.size ((hX 2 _ rfl).2.2.1 (by simp))
    replace Ar := Ar.rl hr
    replace Sr := Sr.rl hr
    replace Dr := Dr.rl hr
    replace Au := Au.rl hr
    replace Su := Su.rl hr
    replace Du := Du.rl hr
    replace HB := HB.trans (hBt.below HB.size (UpOld.all (bx := [⟨R3, some 0, 0, 2, .agg #[.bool nr, .slice ar mr cr, .slice br kr dr], none, []⟩, ⟨R3, some 1, 0, 3, .agg #[.bool nu, .slice au mu cu, .slice bu ku du], none, []⟩, ⟨R3, some 2, 0, 4, .agg #[.bool false, .slice none 0 0, .slice none 0 0], none, []⟩]) ⟨someNe, someNe, someNe, trivial⟩))
    clear hBt hr hR hP hX hU
    refine wp_seq ?_
    refine region4 [some 5, some 6, some 7, none] [Eqs (.agg #[.bool nr, .slice ar mr cr, .slice br kr dr]), Eqs (.agg #[.bool nu, .slice au mu cu, .slice bu ku du]), OutR ((nm (tp pr qr * tq qu + tp pu qu * tq qr) (tq qr * tq qu))) ((dn (tp pr qr * tq qu + tp pu qu * tq qr) (tq qr * tq qu))) (3 * ((Br) + (Bu) + 4) + 1), (fun _ _ => True)] [⟨R3, none, (gs1 2), 4, .agg #[.bool false, .slice none 0 0, .slice none 0 0], some (3, 7, 2), []⟩] [] (by kernel_rfl) hn rfl (by kernel_rfl) (by kernel_rfl) (by kernel_rfl) (by kernel_rfl) (by kernel_rfl) (by kernel_rfl) ⟨Eqs.mono4 _, Eqs.mono4 _, OutR.mono4 _ _ _, True.mono4, trivial⟩ (ok_cons R3ok ok_nil) (IsOld.all (bx := [⟨R3, none, (gs1 2), 4, .agg #[.bool false, .slice none 0 0, .slice none 0 0], some (3, 7, 2), []⟩]) ⟨fun _ => ⟨f4, b4⟩, trivial⟩) (DisOld.all (bx := [⟨R3, none, (gs1 2), 4, .agg #[.bool false, .slice none 0 0, .slice none 0 0], some (3, 7, 2), []⟩]) ⟨fun _ => trivial, trivial⟩) ?_ ?_
    · exact ⟨.norm 5 rfl rfl rfl (fun a_ w_ hn_ hBt hr hR hD hO hS => op_loadv R3ok ((hR 2 rfl).trans f2) (b2.keep hBt ⟨fun _ => ne2_4.symm, trivial⟩)),
        .norm 6 rfl rfl rfl (fun a_ w_ hn_ hBt hr hR hD hO hS => op_loadv R3ok ((hR 3 rfl).trans f3) (b3.keep hBt ⟨fun _ => ne3_4.symm, trivial⟩)),
        .norm 7 rfl rfl rfl (fun a_ w_ hn_ hBt hr hR hD hO hS => op_joinadd (isr_eq (show a_.eval (.tmp 5) = .agg #[.bool nr, .slice ar mr cr, .slice br kr dr] from hD 0 rfl) (Ar.rl hr) (Sr.rl hr) Vr Lr Mr) (isr_eq (show a_.eval (.tmp 6) = .agg #[.bool nu, .slice au mu cu, .slice bu ku du] from hD 1 rfl) (Au.rl hr) (Su.rl hr) Vu Lu Mu) (by omega)),
        .store 0 _ _ _ rfl rfl rfl rfl rfl rfl rfl (fun ia h => by cases h) rfl rfl rfl OutR.cs,
        trivial⟩
    · intro a2 w2 gs2 hn2 hd2 hBt hr hR hP hX hU
      replace hn := hn2; replace hd := hd2.trans hd
      obtain ⟨n_3, a_3, c_3, r_3, b_3, d_3, s_3, e7, G3, K3, l3, k3⟩ : OutR ((nm (tp pr qr * tq qu + tp pu qu * tq qr) (tq qr * tq qu))) ((dn (tp pr qr * tq qu + tp pu qu * tq qr) (tq qr * tq qu))) (3 * ((Br) + (Bu) + 4) + 1) (a2.eval (.tmp 7)) w2 := hP 2 (by decide)
      have A3 := G3.ag; have S3 := K3.sl; have V3 := K3.val
      have b4 : BoxV R3 w2 ((gs1 2)) (.agg #[.bool n_3, .slice a_3 r_3.length c_3, .slice b_3 s_3.length d_3]) := boxv_old ((hX 0 _ rfl).2.1 rfl) (hX 0 _ rfl).2.2.2 e7
      replace f4 : a2.eval (.tmp 4) = _ := (hR 4 rfl).trans f4
      replace Ar := Ar.rl hr
      replace Sr := Sr.rl hr
      replace Dr := Dr.rl hr
      replace Au := Au.rl hr
      replace Su := Su.rl hr
      replace Du := Du.rl hr
      replace HB := HB.trans (hBt.below HB.size (UpOld.all (bx := [⟨R3, none, (gs1 2), 4, .agg #[.bool false, .slice none 0 0, .slice none 0 0], some (3, 7, 2), []⟩]) ⟨fun _ => u4, trivial⟩))
      clear hBt hr hR hP hX hU
      refine wp_ret ?_
      repeat (first | refine then_ret ?_ | refine scope_ret ?_ | refine block_ret ?_)
      exact bodyPost_ret (v := .agg #[.bool n_3, .slice a_3 r_3.length c_3, .slice b_3 s_3.length d_3]) (res_c rfl f4 (lv_R3 b4)) hd ⟨_, rfl, OutR.to (outr_eq rfl G3 K3 l3 k3) rfl rfl (by omega), HB⟩

theorem has_radd : Has Try.prog 34 := by unfold Has; kernel_rfl
theorem op_radd {dst : Option Tmp} {ty : TypeId} {pos : String} {after : Array Edge} {guard : Option (Nat × Bool)} {a : Act} {w : World} {ats : Array TypeId} {i j : Nat} {Br : Nat} {pr qr : Int} (Hr : IsR pr qr Br (a.eval (.tmp i)) w) {Bu : Nat} {pu qu : Int} (Hu : IsR pu qu Bu (a.eval (.tmp j)) w) (hL : 3 * (Br + Bu + 4) + 1 ≤ 100000) :
    Does Try.prog { dst, op := .call { callee := .value (.func 34), args := #[.tmp i, .tmp j], argTypes := ats }, type := ty, pos, after, guard } a.eval w fun v w' => Below w.heap.size w w' ∧ (OutR (nm (tp pr qr * tq qu + tp pu qu * tq qr) (tq qr * tq qu)) (dn (tp pr qr * tq qu + tp pu qu * tq qr) (tq qr * tq qu)) (3 * (Br + Bu + 4) + 1)) v w' := by
  obtain ⟨nr, ar, mr, cr, rs, br, kr, dr, rt, er, Ar, Sr, Vr, Lr, Mr⟩ := Hr
  obtain ⟨nu, au, mu, cu, us, bu, ku, du, ut, eu, Au, Su, Vu, Lu, Mu⟩ := Hu
  refine does_call has_radd _ (by simp only [List.map_toArray, List.map_cons, List.map_nil, er, eu]) ((radd_z w Br _ _ _ _ _ _ Ar Lr _ _ _ _ _ Sr Vr Mr Bu _ _ _ _ _ _ Au Lu _ _ _ _ _ Su Vu Mu hL).mono ?_)
  rintro e w' ⟨v, rfl, h1, hb⟩
  exact ⟨_, rfl, hb, h1⟩

set_option maxRecDepth 20000 in
set_option maxHeartbeats 2000000 in
theorem joinsub_z (w : World) (Br : Nat) (nr : Bool) (ar : Option Addr) (mr cr : Nat) (rs : List Int) (pr : Int) (Ar : Ag w nr ar mr cr rs pr) (Lr : rs.length ≤ Br) (br : Option Addr) (kr dr : Nat) (rt : List Int) (qr : Int) (Sr : Sl w (.slice br kr dr) rt) (Vr : val rt = qr) (Mr : rt.length ≤ Br) (Bu : Nat) (nu : Bool) (au : Option Addr) (mu cu : Nat) (us : List Int) (pu : Int) (Au : Ag w nu au mu cu us pu) (Lu : us.length ≤ Bu) (bu : Option Addr) (ku du : Nat) (ut : List Int) (qu : Int) (Su : Sl w (.slice bu ku du) ut) (Vu : val ut = qu) (Mu : ut.length ≤ Bu) (hL : 3 * (Br + Bu + 4) + 1 ≤ 100000) :
    Calls Try.prog 62 #[.agg #[.bool nr, .slice ar mr cr, .slice br kr dr], .agg #[.bool nu, .slice au mu cu, .slice bu ku du], .func (.func 65) #[] #[]] w fun e w' => ∃ v, e = .returned v ∧ (OutR (nm (tp pr qr * tq qu - tp pu qu * tq qr) (tq qr * tq qu)) (dn (tp pr qr * tq qu - tp pu qu * tq qr) (tq qr * tq qu)) (3 * (Br + Bu + 4) + 1)) v w' ∧ Below w.heap.size w w' := by
  go_enter Try.func62, Try.ntmps62
  generalize hA : (Act.mk _ _) = aa
  have hn : aa.tmps.size = 35 := by rw [← hA]; rfl
  have hd : aa.defers = [] := by rw [← hA]
  have f0 : aa.eval (.tmp 0) = .agg #[.bool nr, .slice ar mr cr, .slice br kr dr] := by rw [← hA]; rfl
  have f1 : aa.eval (.tmp 1) = .agg #[.bool nu, .slice au mu cu, .slice bu ku du] := by rw [← hA]; rfl
  have f2 : aa.eval (.tmp 2) = .func (.func 65) #[] #[] := by rw [← hA]; rfl
  clear hA
  have HB : Below w.heap.size w w := Below.refl _ _
  have Dr : Ag w false br kr dr rt qr := ⟨Sr, Vr⟩
  have Du : Ag w false bu ku du ut qu := ⟨Su, Vu⟩
  refine wp_seq ?_
  refine region4 [some 3, some 4, some 6] [(fun _ _ => True), (fun _ _ => True), (fun _ _ => True)] [⟨R3, some 0, 0, 3, .agg #[.bool nr, .slice ar mr cr, .slice br kr dr], none, []⟩, ⟨R3, some 1, 0, 4, .agg #[.bool nu, .slice au mu cu, .slice bu ku du], none, []⟩, ⟨R3, some 2, 0, 6, .agg #[.bool false, .slice none 0 0, .slice none 0 0], none, []⟩] [] (by kernel_rfl) hn rfl (by kernel_rfl) (by kernel_rfl) (by kernel_rfl) (by kernel_rfl) (by kernel_rfl) (by kernel_rfl) ⟨True.mono4, True.mono4, True.mono4, trivial⟩ (ok_cons R3ok (ok_cons R3ok (ok_cons R3ok ok_nil))) (IsOld.all (bx := [⟨R3, some 0, 0, 3, .agg #[.bool nr, .slice ar mr cr, .slice br kr dr], none, []⟩, ⟨R3, some 1, 0, 4, .agg #[.bool nu, .slice au mu cu, .slice bu ku du], none, []⟩, ⟨R3, some 2, 0, 6, .agg #[.bool false, .slice none 0 0, .slice none 0 0], none, []⟩]) ⟨someNe, someNe, someNe, trivial⟩) (DisOld.all (bx := [⟨R3, some 0, 0, 3, .agg #[.bool nr, .slice ar mr cr, .slice br kr dr], none, []⟩, ⟨R3, some 1, 0, 4, .agg #[.bool nu, .slice au mu cu, .slice bu ku du], none, []⟩, ⟨R3, some 2, 0, 6, .agg #[.bool false, .slice none 0 0, .slice none 0 0], none, []⟩]) ⟨someNe, someNe, someNe, trivial⟩) ?_ ?_
  · exact ⟨.alloc 0 _ rfl rfl (.inr ⟨_, rfl, r3_cs, fun a_ hR => (hR 0 rfl).trans f0⟩) rfl rfl rfl rfl rfl,
      .alloc 1 _ rfl rfl (.inr ⟨_, rfl, r3_cs, fun a_ hR => (hR 1 rfl).trans f1⟩) rfl rfl rfl rfl rfl,
      .alloc 2 _ rfl rfl (.inl ⟨rfl, rfl⟩) rfl rfl rfl rfl rfl,
      trivial⟩
  · intro a1 w1 gs1 hn1 hd1 hBt hr hR hP hX hU
    replace hn := hn1; replace hd := hd1.trans hd
    have ne3_6 : gs1 0 ≠ gs1 2 := hU 0 2 (by simp) (by simp) (by decide)
    have ne4_6 : gs1 1 ≠ gs1 2 := hU 1 2 (by simp) (by simp) (by decide)
    have b3 : BoxV R3 w1 (gs1 0) (.agg #[.bool nr, .slice ar mr cr, .slice br kr dr]) := (hX 0 _ rfl).2.2.2
    have f3 := (hX 0 _ rfl).1
    have u3 : w.heap.size ≤ gs1 0 := Nat.le_trans HB.size ((hX 0 _ rfl).2.2.1 (by simp))
    have b4 : BoxV R3 w1 (gs1 1) (.agg #[.bool nu, .slice au mu cu, .slice bu ku du]) := (hX 1 _ rfl).2.2.2
    have f4 := (hX 1 _ rfl).1
    have u4 : w.heap.size ≤ gs1 1 := Nat.le_trans HB.size ((hX 1 _ rfl).2.2.1 (by simp))
    have b6 : BoxV R3 w1 (gs1 2) (.agg #[.bool false, .slice none 0 0, .slice none 0 0]) := (hX 2 _ rfl).2.2.2
    have f6 := (hX 2 _ rfl).1
    have u6 : w.heap.size ≤ gs1 2 := Nat.le_trans HB.size ((hX 2 _ rfl).2.2.1 (by simp))
    replace f2 := (hR 2 rfl).trans f2
    replace Ar := Ar.rl hr
    replace Sr := Sr.rl hr
    replace Dr := Dr.rl hr
    replace Au := Au.rl hr
    replace Su := Su.rl hr
    replace Du := Du.rl hr
    replace HB := HB.trans (hBt.below HB.size (UpOld.all (bx := [⟨R3, some 0, 0, 3, .agg #[.bool nr, .slice ar mr cr, .slice br kr dr], none, []⟩, ⟨R3, some 1, 0, 4, .agg #[.bool nu, .slice au mu cu, .slice bu ku du], none, []⟩, ⟨R3, some 2, 0, 6, .agg #[.bool false, .slice none 0 0, .slice none 0 0], none, []⟩]) ⟨someNe, someNe, someNe, trivial⟩))
    clear hBt hr hR hP hX hU
    refine wp_seq ?_
    refine region4 [some 13, some 14, some 12, some 15, some 16, some 7, some 8, none, none] [Eqs (.agg #[.bool nr, .slice ar mr cr, .slice br kr dr]), Tup2 (IsW ((tp pr qr)) ((Br) + 2)) (IsW ((tq qr)) ((Br) + 2)), Tup2 (IsW ((tp pr qr)) ((Br) + 2)) (IsW ((tq qr)) ((Br) + 2)), IsW ((tp pr qr)) ((Br) + 2), IsW ((tq qr)) ((Br) + 2), (fun _ _ => True), (fun _ _ => True), (fun _ _ => True), (fun _ _ => True)] [⟨W2, some 5, 0, 7, .agg #[.bool false, .slice none 0 0], some (7, 15, 3), []⟩, ⟨W2, some 6, 0, 8, .agg #[.bool false, .slice none 0 0], some (8, 16, 4), []⟩] [] (by kernel_rfl) hn rfl (by kernel_rfl) (by kernel_rfl) (by kernel_rfl) (by kernel_rfl) (by kernel_rfl) (by kernel_rfl) ⟨Eqs.mono4 _, Tup2.mono4 (IsW.mono4 _ _) (IsW.mono4 _ _), Tup2.mono4 (IsW.mono4 _ _) (IsW.mono4 _ _), IsW.mono4 _ _, IsW.mono4 _ _, True.mono4, True.mono4, True.mono4, True.mono4, trivial⟩ (ok_cons W2ok (ok_cons W2ok ok_nil)) (IsOld.all (bx := [⟨W2, some 5, 0, 7, .agg #[.bool false, .slice none 0 0], some (7, 15, 3), []⟩, ⟨W2, some 6, 0, 8, .agg #[.bool false, .slice none 0 0], some (8, 16, 4), []⟩]) ⟨someNe, someNe, trivial⟩) (DisOld.all (bx := [⟨W2, some 5, 0, 7, .agg #[.bool false, .slice none 0 0], some (7, 15, 3), []⟩, ⟨W2, some 6, 0, 8, .agg #[.bool false, .slice none 0 0], some (8, 16, 4), []⟩]) ⟨someNe, someNe, trivial⟩) ?_ ?_
    · exact ⟨.norm 13 rfl rfl rfl (fun a_ w_ hn_ hBt hr hR hD hO hS => op_loadv R3ok ((hR 3 rfl).trans f3) (b3.keep hBt ⟨someNe, someNe, trivial⟩)),
        .norm 14 rfl rfl rfl (fun a_ w_ hn_ hBt hr hR hD hO hS => op_terms (isr_eq (show a_.eval (.tmp 13) = .agg #[.bool nr, .slice ar mr cr, .slice br kr dr] from hD 0 rfl) (Ar.rl hr) (Sr.rl hr) Vr Lr Mr) (by omega)),
        .norm 12 rfl rfl rfl (fun a_ w_ hn_ hBt hr hR hD hO hS => op_mvp (p := Tup2 (IsW ((tp pr qr)) ((Br) + 2)) (IsW ((tq qr)) ((Br) + 2))) (show Tup2 (IsW ((tp pr qr)) ((Br) + 2)) (IsW ((tq qr)) ((Br) + 2)) (a_.eval (.tmp 14)) w_ from hD 1 rfl)),
        .norm 15 rfl rfl rfl (fun a_ w_ hn_ hBt hr hR hD hO hS => op_ex20 (show Tup2 (IsW ((tp pr qr)) ((Br) + 2)) (IsW ((tq qr)) ((Br) + 2)) (a_.eval (.tmp 12)) w_ from hD 2 rfl)),
        .norm 16 rfl rfl rfl (fun a_ w_ hn_ hBt hr hR hD hO hS => op_ex21 (show Tup2 (IsW ((tp pr qr)) ((Br) + 2)) (IsW ((tq qr)) ((Br) + 2)) (a_.eval (.tmp 12)) w_ from hD 2 rfl)),
        .alloc 0 _ rfl rfl (.inl ⟨rfl, rfl⟩) rfl rfl rfl rfl rfl,
        .alloc 1 _ rfl rfl (.inl ⟨rfl, rfl⟩) rfl rfl rfl rfl rfl,
        .store 0 _ _ _ rfl rfl rfl rfl rfl rfl rfl (fun ia h => by cases h; rfl) rfl rfl rfl IsW.cs,
        .store 1 _ _ _ rfl rfl rfl rfl rfl rfl rfl (fun ia h => by cases h; rfl) rfl rfl rfl IsW.cs,
        trivial⟩
    · intro a2 w2 gs2 hn2 hd2 hBt hr hR hP hX hU
      replace hn := hn2; replace hd := hd2.trans hd
      have ne6_7 : (gs1 2) ≠ gs2 0 := by have h1 := b6.lt; have h2 := (hX 0 _ rfl).2.2.1 (by simp); omega
      have ne6_8 : (gs1 2) ≠ gs2 1 := by have h1 := b6.lt; have h2 := (hX 1 _ rfl).2.2.1 (by simp); omega
      replace b4 := b4.keep hBt ⟨someNe, someNe, trivial⟩
      replace b6 := b6.keep hBt ⟨someNe, someNe, trivial⟩
      obtain ⟨n_3, a_3, m_3, c_3, r_3, e15, A3, l3⟩ : IsW ((tp pr qr)) ((Br) + 2) (a2.eval (.tmp 15)) w2 := hP 3 (by decide)
      have b7 : BoxV W2 w2 (gs2 0) (.agg #[.bool n_3, .slice a_3 m_3 c_3]) := boxv_of (hX 0 _ rfl).2.2.2 e15
      have f7 := (hX 0 _ rfl).1
      have u7 : w.heap.size ≤ gs2 0 := Nat.le_trans HB.size ((hX 0 _ rfl).2.2.1 (by simp))
      obtain ⟨n_4, a_4, m_4, c_4, r_4, e16, A4, l4⟩ : IsW ((tq qr)) ((Br) + 2) (a2.eval (.tmp 16)) w2 := hP 4 (by decide)
      have b8 : BoxV W2 w2 (gs2 1) (.agg #[.bool n_4, .slice a_4 m_4 c_4]) := boxv_of (hX 1 _ rfl).2.2.2 e16
      have f8 := (hX 1 _ rfl).1
      have u8 : w.heap.size ≤ gs2 1 := Nat.le_trans HB.size ((hX 1 _ rfl).2.2.1 (by simp))
      replace f2 := (hR 2 rfl).trans f2
      replace f4 := (hR 4 rfl).trans f4
      replace f6 := (hR 6 rfl).trans f6
      replace Ar := Ar.rl hr
      replace Sr := Sr.rl hr
      replace Dr := Dr.rl hr
      replace Au := Au.rl hr
      replace Su := Su.rl hr
      replace Du := Du.rl hr
      replace HB := HB.trans (hBt.below HB.size (UpOld.all (bx := [⟨W2, some 5, 0, 7, .agg #[.bool false, .slice none 0 0], some (7, 15, 3), []⟩, ⟨W2, some 6, 0, 8, .agg #[.bool false, .slice none 0 0], some (8, 16, 4), []⟩]) ⟨someNe, someNe, trivial⟩))
      clear hBt hr hR hP hX hU
      refine wp_seq ?_
      refine region4 [some 18, some 19, some 17, some 20, some 21, some 9, some 10, none, none] [Eqs (.agg #[.bool nu, .slice au mu cu, .slice bu ku du]), Tup2 (IsW ((tp pu qu)) ((Bu) + 2)) (IsW ((tq qu)) ((Bu) + 2)), Tup2 (IsW ((tp pu qu)) ((Bu) + 2)) (IsW ((tq qu)) ((Bu) + 2)), IsW ((tp pu qu)) ((Bu) + 2), IsW ((tq qu)) ((Bu) + 2), (fun _ _ => True), (fun _ _ => True), (fun _ _ => True), (fun _ _ => True)] [⟨W2, some 5, 0, 9, .agg #[.bool false, .slice none 0 0], some (7, 20, 3), []⟩, ⟨W2, some 6, 0, 10, .agg #[.bool false, .slice none 0 0], some (8, 21, 4), []⟩] [] (by kernel_rfl) hn rfl (by kernel_rfl) (by kernel_rfl) (by kernel_rfl) (by kernel_rfl) (by kernel_rfl) (by kernel_rfl) ⟨Eqs.mono4 _, Tup2.mono4 (IsW.mono4 _ _) (IsW.mono4 _ _), Tup2.mono4 (IsW.mono4 _ _) (IsW.mono4 _ _), IsW.mono4 _ _, IsW.mono4 _ _, True.mono4, True.mono4, True.mono4, True.mono4, trivial⟩ (ok_cons W2ok (ok_cons W2ok ok_nil)) (IsOld.all (bx := [⟨W2, some 5, 0, 9, .agg #[.bool false, .slice none 0 0], some (7, 20, 3), []⟩, ⟨W2, some 6, 0, 10, .agg #[.bool false, .slice none 0 0], some (8, 21, 4), []⟩]) ⟨someNe, someNe, trivial⟩) (DisOld.all (bx := [⟨W2, some 5, 0, 9, .agg #[.bool false, .slice none 0 0], some (7, 20, 3), []⟩, ⟨W2, some 6, 0, 10, .agg #[.bool false, .slice none 0 0], some (8, 21, 4), []⟩]) ⟨someNe, someNe, trivial⟩) ?_ ?_
      · exact ⟨.norm 18 rfl rfl rfl (fun a_ w_ hn_ hBt hr hR hD hO hS => op_loadv R3ok ((hR 4 rfl).trans f4) (b4.keep hBt ⟨someNe, someNe, trivial⟩)),
          .norm 19 rfl rfl rfl (fun a_ w_ hn_ hBt hr hR hD hO hS => op_terms (isr_eq (show a_.eval (.tmp 18) = .agg #[.bool nu, .slice au mu cu, .slice bu ku du] from hD 0 rfl) (Au.rl hr) (Su.rl hr) Vu Lu Mu) (by omega)),
          .norm 17 rfl rfl rfl (fun a_ w_ hn_ hBt hr hR hD hO hS => op_mvp (p := Tup2 (IsW ((tp pu qu)) ((Bu) + 2)) (IsW ((tq qu)) ((Bu) + 2))) (show Tup2 (IsW ((tp pu qu)) ((Bu) + 2)) (IsW ((tq qu)) ((Bu) + 2)) (a_.eval (.tmp 19)) w_ from hD 1 rfl)),
          .norm 20 rfl rfl rfl (fun a_ w_ hn_ hBt hr hR hD hO hS => op_ex20 (show Tup2 (IsW ((tp pu qu)) ((Bu) + 2)) (IsW ((tq qu)) ((Bu) + 2)) (a_.eval (.tmp 17)) w_ from hD 2 rfl)),
          .norm 21 rfl rfl rfl (fun a_ w_ hn_ hBt hr hR hD hO hS => op_ex21 (show Tup2 (IsW ((tp pu qu)) ((Bu) + 2)) (IsW ((tq qu)) ((Bu) + 2)) (a_.eval (.tmp 17)) w_ from hD 2 rfl)),
          .alloc 0 _ rfl rfl (.inl ⟨rfl, rfl⟩) rfl rfl rfl rfl rfl,
          .alloc 1 _ rfl rfl (.inl ⟨rfl, rfl⟩) rfl rfl rfl rfl rfl,
          .store 0 _ _ _ rfl rfl rfl rfl rfl rfl rfl (fun ia h => by cases h; rfl) rfl rfl rfl IsW.cs,
          .store 1 _ _ _ rfl rfl rfl rfl rfl rfl rfl (fun ia h => by cases h; rfl) rfl rfl rfl IsW.cs,
          trivial⟩
      · intro a5 w5 gs5 hn5 hd5 hBt hr hR hP hX hU
        replace hn := hn5; replace hd := hd5.trans hd
        have ne6_9 : (gs1 2) ≠ gs5 0 := by have h1 := b6.lt; have h2 := (hX 0 _ rfl).2.2.1 (by simp); omega
        have ne6_10 : (gs1 2) ≠ gs5 1 := by have h1 := b6.lt; have h2 := (hX 1 _ rfl).2.2.1 (by simp); omega
        replace b6 := b6.keep hBt ⟨someNe, someNe, trivial⟩
        replace b7 := b7.keep hBt ⟨someNe, someNe, trivial⟩
        replace b8 := b8.keep hBt ⟨someNe, someNe, trivial⟩
        obtain ⟨n_6, a_6, m_6, c_6, r_6, e20, A6, l6⟩ : IsW ((tp pu qu)) ((Bu) + 2) (a5.eval (.tmp 20)) w5 := hP 3 (by decide)
        have b9 : BoxV W2 w5 (gs5 0) (.agg #[.bool n_6, .slice a_6 m_6 c_6]) := boxv_of (hX 0 _ rfl).2.2.2 e20
        have f9 := (hX 0 _ rfl).1
        have u9 : w.heap.size ≤ gs5 0 := Nat.le_trans HB.size ((hX 0 _ rfl).2.2.1 (by simp))
        obtain ⟨n_7, a_7, m_7, c_7, r_7, e21, A7, l7⟩ : IsW ((tq qu)) ((Bu) + 2) (a5.eval (.tmp 21)) w5 := hP 4 (by decide)
        have b10 : BoxV W2 w5 (gs5 1) (.agg #[.bool n_7, .slice a_7 m_7 c_7]) := boxv_of (hX 1 _ rfl).2.2.2 e21
        have f10 := (hX 1 _ rfl).1
        have u10 : w.heap.size ≤ gs5 1 := Nat.le_trans HB.size ((hX 1 _ rfl).2.2.1 (by simp))
        replace f2 := (hR 2 rfl).trans f2
        replace f6 := (hR 6 rfl).trans f6
        replace f7 := (hR 7 rfl).trans f7
        replace f8 := (hR 8 rfl).trans f8
        replace Ar := Ar.rl hr
        replace Sr := Sr.rl hr
        replace Dr := Dr.rl hr
        replace Au := Au.rl hr
        replace Su := Su.rl hr
        replace Du := Du.rl hr
        replace A3 := A3.rl hr
        replace A4 := A4.rl hr
        replace HB := HB.trans (hBt.below HB.size (UpOld.all (bx := [⟨W2, some 5, 0, 9, .agg #[.bool false, .slice none 0 0], some (7, 20, 3), []⟩, ⟨W2, some 6, 0, 10, .agg #[.bool false, .slice none 0 0], some (8, 21, 4), []⟩]) ⟨someNe, someNe, trivial⟩))
        clear hBt hr hR hP hX hU
        refine wp_seq ?_
        refine region4 [some 22, some 23, some 24, some 25, some 26, some 27, some 28, some 29, some 11, none] [Eqs (.func (.func 65) #[] #[]), Eqs (.agg #[.bool n_3, .slice a_3 m_3 c_3]), Eqs (.agg #[.bool n_7, .slice a_7 m_7 c_7]), OutW (((tp pr qr) * (tq qu))) (((Br) + 2) + ((Bu) + 2)), Eqs (.agg #[.bool n_6, .slice a_6 m_6 c_6]), Eqs (.agg #[.bool n_4, .slice a_4 m_4 c_4]), OutW (((tp pu qu) * (tq qr))) (((Bu) + 2) + ((Br) + 2)), OutW ((((tp pr qr) * (tq qu)) - ((tp pu qu) * (tq qr)))) ((((Br) + 2) + ((Bu) + 2)) + (((Bu) + 2) + ((Br) + 2)) + 1), (fun _ _ => True), (fun _ _ => True)] [⟨W2, some 8, 0, 11, .agg #[.bool false, .slice none 0 0], some (9, 29, 7), []⟩] [] (by kernel_rfl) hn rfl (by kernel_rfl) (by kernel_rfl) (by kernel_rfl) (by kernel_rfl) (by kernel_rfl) (by kernel_rfl) ⟨Eqs.mono4 _, Eqs.mono4 _, Eqs.mono4 _, OutW.mono4 _ _, Eqs.mono4 _, Eqs.mono4 _, OutW.mono4 _ _, OutW.mono4 _ _, True.mono4, True.mono4, trivial⟩ (ok_cons W2ok ok_nil) (IsOld.all (bx := [⟨W2, some 8, 0, 11, .agg #[.bool false, .slice none 0 0], some (9, 29, 7), []⟩]) ⟨someNe, trivial⟩) (DisOld.all (bx := [⟨W2, some 8, 0, 11, .agg #[.bool false, .slice none 0 0], some (9, 29, 7), []⟩]) ⟨someNe, trivial⟩) ?_ ?_
        · exact ⟨.norm 22 rfl rfl rfl (fun a_ w_ hn_ hBt hr hR hD hO hS => op_mv ((hR 2 rfl).trans f2)),
            .norm 23 rfl rfl rfl (fun a_ w_ hn_ hBt hr hR hD hO hS => op_loadv W2ok ((hR 7 rfl).trans f7) (b7.keep hBt ⟨someNe, trivial⟩)),
            .norm 24 rfl rfl rfl (fun a_ w_ hn_ hBt hr hR hD hO hS => op_loadv W2ok ((hR 10 rfl).trans f10) (b10.keep hBt ⟨someNe, trivial⟩)),
            .norm 25 rfl rfl rfl (fun a_ w_ hn_ hBt hr hR hD hO hS => op_mul (isw_eq (show a_.eval (.tmp 23) = .agg #[.bool n_3, .slice a_3 m_3 c_3] from hD 1 rfl) (A3.rl hr) l3) (isw_eq (show a_.eval (.tmp 24) = .agg #[.bool n_7, .slice a_7 m_7 c_7] from hD 2 rfl) (A7.rl hr) l7) (by omega) (by omega)),
            .norm 26 rfl rfl rfl (fun a_ w_ hn_ hBt hr hR hD hO hS => op_loadv W2ok ((hR 9 rfl).trans f9) (b9.keep hBt ⟨someNe, trivial⟩)),
            .norm 27 rfl rfl rfl (fun a_ w_ hn_ hBt hr hR hD hO hS => op_loadv W2ok ((hR 8 rfl).trans f8) (b8.keep hBt ⟨someNe, trivial⟩)),
            .norm 28 rfl rfl rfl (fun a_ w_ hn_ hBt hr hR hD hO hS => op_mul (isw_eq (show a_.eval (.tmp 26) = .agg #[.bool n_6, .slice a_6 m_6 c_6] from hD 4 rfl) (A6.rl hr) l6) (isw_eq (show a_.eval (.tmp 27) = .agg #[.bool n_4, .slice a_4 m_4 c_4] from hD 5 rfl) (A4.rl hr) l4) (by omega) (by omega)),
            .norm 29 rfl rfl rfl (fun a_ w_ hn_ hBt hr hR hD hO hS => does_via ((hD 0 rfl : _ = _)) (op_sub (show OutW (((tp pr qr) * (tq qu))) (((Br) + 2) + ((Bu) + 2)) (a_.eval (.tmp 25)) w_ from hD 3 rfl).is (show OutW (((tp pu qu) * (tq qr))) (((Bu) + 2) + ((Br) + 2)) (a_.eval (.tmp 28)) w_ from hD 6 rfl).is (by omega) (by omega))),
            .alloc 0 _ rfl rfl (.inl ⟨rfl, rfl⟩) rfl rfl rfl rfl rfl,
            .store 0 _ _ _ rfl rfl rfl rfl rfl rfl rfl (fun ia h => by cases h; rfl) rfl rfl rfl OutW.cs,
            trivial⟩
        · intro a8 w8 gs8 hn8 hd8 hBt hr hR hP hX hU
          replace hn := hn8; replace hd := hd8.trans hd
          have ne6_11 : (gs1 2) ≠ gs8 0 := by have h1 := b6.lt; have h2 := (hX 0 _ rfl).2.2.1 (by simp); omega
          replace b6 := b6.keep hBt ⟨someNe, trivial⟩
          replace b8 := b8.keep hBt ⟨someNe, trivial⟩
          replace b10 := b10.keep hBt ⟨someNe, trivial⟩
          obtain ⟨n_9, a_9, c_9, r_9, e29, G9, l9⟩ : OutW ((((tp pr qr) * (tq qu)) - ((tp pu qu) * (tq qr)))) ((((Br) + 2) + ((Bu) + 2)) + (((Bu) + 2) + ((Br) + 2)) + 1) (a8.eval (.tmp 29)) w8 := hP 7 (by decide)
          have A9 := G9.ag
          have b11 : BoxV W2 w8 (gs8 0) (.agg #[.bool n_9, .slice a_9 r_9.length c_9]) := boxv_of (hX 0 _ rfl).2.2.2 e29
          have f11 := (hX 0 _ rfl).1
          have u11 : w.heap.size ≤ gs8 0 := Nat.le_trans HB.size ((hX 0 _ rfl).2.2.1 (by simp))
          replace f6 := (hR 6 rfl).trans f6
          replace f8 := (hR 8 rfl).trans f8
          replace f10 := (hR 10 rfl).trans f10
          replace Ar := Ar.rl hr
          replace Sr := Sr.rl hr
          replace Dr := Dr.rl hr
          replace Au := Au.rl hr
          replace Su := Su.rl hr
          replace Du := Du.rl hr
          replace A3 := A3.rl hr
          replace A4 := A4.rl hr
          replace A6 := A6.rl hr
          replace A7 := A7.rl hr
          replace HB := HB.trans (hBt.below HB.size (UpOld.all (bx := [⟨W2, some 8, 0, 11, .agg #[.bool false, .slice none 0 0], some (9, 29, 7), []⟩]) ⟨someNe, trivial⟩))
          clear hBt hr hR hP hX hU
          refine wp_seq ?_
          refine region4 [some 30, some 31, some 32, some 33, some 34, none] [Eqs (.agg #[.bool n_9, .slice a_9 r_9.length c_9]), Eqs (.agg #[.bool n_4, .slice a_4 m_4 c_4]), Eqs (.agg #[.bool n_7, .slice a_7 m_7 c_7]), OutW (((tq qr) * (tq qu))) (((Br) + 2) + ((Bu) + 2)), OutR ((nm (((tp pr qr) * (tq qu)) - ((tp pu qu) * (tq qr))) ((tq qr) * (tq qu)))) ((dn (((tp pr qr) * (tq qu)) - ((tp pu qu) * (tq qr))) ((tq qr) * (tq qu)))) (((((Br) + 2) + ((Bu) + 2)) + (((Bu) + 2) + ((Br) + 2)) + 1) + (((Br) + 2) + ((Bu) + 2))), (fun _ _ => True)] [⟨R3, none, (gs1 2), 6, .agg #[.bool false, .slice none 0 0, .slice none 0 0], some (5, 34, 4), []⟩] [] (by kernel_rfl) hn rfl (by kernel_rfl) (by kernel_rfl) (by kernel_rfl) (by kernel_rfl) (by kernel_rfl) (by kernel_rfl) ⟨Eqs.mono4 _, Eqs.mono4 _, Eqs.mono4 _, OutW.mono4 _ _, OutR.mono4 _ _ _, True.mono4, trivial⟩ (ok_cons R3ok ok_nil) (IsOld.all (bx := [⟨R3, none, (gs1 2), 6, .agg #[.bool false, .slice none 0 0, .slice none 0 0], some (5, 34, 4), []⟩]) ⟨fun _ => ⟨f6, b6⟩, trivial⟩) (DisOld.all (bx := [⟨R3, none, (gs1 2), 6, .agg #[.bool false, .slice none 0 0, .slice none 0 0], some (5, 34, 4), []⟩]) ⟨fun _ => trivial, trivial⟩) ?_ ?_
          · exact ⟨.norm 30 rfl rfl rfl (fun a_ w_ hn_ hBt hr hR hD hO hS => op_loadv W2ok ((hR 11 rfl).trans f11) (b11.keep hBt ⟨fun _ => ne6_11, trivial⟩)),
              .norm 31 rfl rfl rfl (fun a_ w_ hn_ hBt hr hR hD hO hS => op_loadv W2ok ((hR 8 rfl).trans f8) (b8.keep hBt ⟨fun _ => ne6_8, trivial⟩)),
              .norm 32 rfl rfl rfl (fun a_ w_ hn_ hBt hr hR hD hO hS => op_loadv W2ok ((hR 10 rfl).trans f10) (b10.keep hBt ⟨fun _ => ne6_10, trivial⟩)),
              .norm 33 rfl rfl rfl (fun a_ w_ hn_ hBt hr hR hD hO hS => op_mul (isw_eq (show a_.eval (.tmp 31) = .agg #[.bool n_4, .slice a_4 m_4 c_4] from hD 1 rfl) (A4.rl hr) l4) (isw_eq (show a_.eval (.tmp 32) = .agg #[.bool n_7, .slice a_7 m_7 c_7] from hD 2 rfl) (A7.rl hr) l7) (by omega) (by omega)),
              .norm 34 rfl rfl rfl (fun a_ w_ hn_ hBt hr hR hD hO hS => op_lowest (isw_eq (show a_.eval (.tmp 30) = .agg #[.bool n_9, .slice a_9 r_9.length c_9] from hD 0 rfl) (A9.rl hr) l9) (show OutW (((tq qr) * (tq qu))) (((Br) + 2) + ((Bu) + 2)) (a_.eval (.tmp 33)) w_ from hD 3 rfl).is (by omega) (mul_ne (tq_ne _) (tq_ne _))),
              .store 0 _ _ _ rfl rfl rfl rfl rfl rfl rfl (fun ia h => by cases h) rfl rfl rfl OutR.cs,
              trivial⟩
          · intro a10 w10 gs10 hn10 hd10 hBt hr hR hP hX hU
            replace hn := hn10; replace hd := hd10.trans hd
            obtain ⟨n_11, a_11, c_11, r_11, b_11, d_11, s_11, e34, G11, K11, l11, k11⟩ : OutR ((nm (((tp pr qr) * (tq qu)) - ((tp pu qu) * (tq qr))) ((tq qr) * (tq qu)))) ((dn (((tp pr qr) * (tq qu)) - ((tp pu qu) * (tq qr))) ((tq qr) * (tq qu)))) (((((Br) + 2) + ((Bu) + 2)) + (((Bu) + 2) + ((Br) + 2)) + 1) + (((Br) + 2) + ((Bu) + 2))) (a10.eval (.tmp 34)) w10 := hP 4 (by decide)
            have A11 := G11.ag; have S11 := K11.sl; have V11 := K11.val
            have b6 : BoxV R3 w10 ((gs1 2)) (.agg #[.bool n_11, .slice a_11 r_11.length c_11, .slice b_11 s_11.length d_11]) := boxv_old ((hX 0 _ rfl).2.1 rfl) (hX 0 _ rfl).2.2.2 e34
            replace f6 : a10.eval (.tmp 6) = _ := (hR 6 rfl).trans f6
            replace Ar := Ar.rl hr
            replace Sr := Sr.rl hr
            replace Dr := Dr.rl hr
            replace Au := Au.rl hr
            replace Su := Su.rl hr
            replace Du := Du.rl hr
            replace A3 := A3.rl hr
            replace A4 := A4.rl hr
            replace A6 := A6.rl hr
            replace A7 := A7.rl hr
            replace G9 := G9.rl hr
            replace A9 := A9.rl hr
            replace HB := HB.trans (hBt.below HB.size (UpOld.all (bx := [⟨R3, none, (gs1 2), 6, .agg #[.bool false, .slice none 0 0, .slice none 0 0], some (5, 34, 4), []⟩]) ⟨fun _ => u6, trivial⟩))
            clear hBt hr hR hP hX hU
            refine wp_ret ?_
            repeat (first | refine then_ret ?_ | refine scope_ret ?_ | refine block_ret ?_)
            exact bodyPost_ret (v := .agg #[.bool n_11, .slice a_11 r_11.length c_11, .slice b_11 s_11.length d_11]) (res_c rfl f6 (lv_R3 b6)) hd ⟨_, rfl, OutR.to (outr_eq rfl G11 K11 l11 k11) rfl rfl (by omega), HB⟩

theorem has_joinsub : Has Try.prog 62 := by unfold Has; kernel_rfl
theorem op_joinsub {dst : Option Tmp} {ty : TypeId} {pos : String} {after : Array Edge} {guard : Option (Nat × Bool)} {a : Act} {w : World} {ats : Array TypeId} {i j : Nat} {Br : Nat} {pr qr : Int} (Hr : IsR pr qr Br (a.eval (.tmp i)) w) {Bu : Nat} {pu qu : Int} (Hu : IsR pu qu Bu (a.eval (.tmp j)) w) (hL : 3 * (Br + Bu + 4) + 1 ≤ 100000) :
    Does Try.prog { dst, op := .call { callee := .value (.func 62), args := #[.tmp i, .tmp j, .func 65], argTypes := ats }, type := ty, pos, after, guard } a.eval w fun v w' => Below w.heap.size w w' ∧ (OutR (nm (tp pr qr * tq qu - tp pu qu * tq qr) (tq qr * tq qu)) (dn (tp pr qr * tq qu - tp pu qu * tq qr) (tq qr * tq qu)) (3 * (Br + Bu + 4) + 1)) v w' := by
  obtain ⟨nr, ar, mr, cr, rs, br, kr, dr, rt, er, Ar, Sr, Vr, Lr, Mr⟩ := Hr
  obtain ⟨nu, au, mu, cu, us, bu, ku, du, ut, eu, Au, Su, Vu, Lu, Mu⟩ := Hu
  refine does_call has_joinsub _ (by simp only [List.map_toArray, List.map_cons, List.map_nil, er, eu]; rfl) ((joinsub_z w Br _ _ _ _ _ _ Ar Lr _ _ _ _ _ Sr Vr Mr Bu _ _ _ _ _ _ Au Lu _ _ _ _ _ Su Vu Mu hL).mono ?_)
  rintro e w' ⟨v, rfl, h1, hb⟩
  exact ⟨_, rfl, hb, h1⟩

set_option maxRecDepth 20000 in
set_option maxHeartbeats 2000000 in
theorem rsub_z (w : World) (Br : Nat) (nr : Bool) (ar : Option Addr) (mr cr : Nat) (rs : List Int) (pr : Int) (Ar : Ag w nr ar mr cr rs pr) (Lr : rs.length ≤ Br) (br : Option Addr) (kr dr : Nat) (rt : List Int) (qr : Int) (Sr : Sl w (.slice br kr dr) rt) (Vr : val rt = qr) (Mr : rt.length ≤ Br) (Bu : Nat) (nu : Bool) (au : Option Addr) (mu cu : Nat) (us : List Int) (pu : Int) (Au : Ag w nu au mu cu us pu) (Lu : us.length ≤ Bu) (bu : Option Addr) (ku du : Nat) (ut : List Int) (qu : Int) (Su : Sl w (.slice bu ku du) ut) (Vu : val ut = qu) (Mu : ut.length ≤ Bu) (hL : 3 * (Br + Bu + 4) + 1 ≤ 100000) :
    Calls Try.prog 36 #[.agg #[.bool nr, .slice ar mr cr, .slice br kr dr], .agg #[.bool nu, .slice au mu cu, .slice bu ku du]] w fun e w' => ∃ v, e = .returned v ∧ (OutR (nm (tp pr qr * tq qu - tp pu qu * tq qr) (tq qr * tq qu)) (dn (tp pr qr * tq qu - tp pu qu * tq qr) (tq qr * tq qu)) (3 * (Br + Bu + 4) + 1)) v w' ∧ Below w.heap.size w w' := by
  go_enter Try.func36, Try.ntmps36
  generalize hA : (Act.mk _ _) = aa
  have hn : aa.tmps.size = 8 := by rw [← hA]; rfl
  have hd : aa.defers = [] := by rw [← hA]
  have f0 : aa.eval (.tmp 0) = .agg #[.bool nr, .slice ar mr cr, .slice br kr dr] := by rw [← hA]; rfl
  have f1 : aa.eval (.tmp 1) = .agg #[.bool nu, .slice au mu cu, .slice bu ku du] := by rw [← hA]; rfl
  clear hA
  have HB : Below w.heap.size w w := Below.refl _ _
  have Dr : Ag w false br kr dr rt qr := ⟨Sr, Vr⟩
  have Du : Ag w false bu ku du ut qu := ⟨Su, Vu⟩
  refine wp_seq ?_
  refine region4 [some 2, some 3, some 4] [(fun _ _ => True), (fun _ _ => True), (fun _ _ => True)] [⟨R3, some 0, 0, 2, .agg #[.bool nr, .slice ar mr cr, .slice br kr dr], none, []⟩, ⟨R3, some 1, 0, 3, .agg #[.bool nu, .slice au mu cu, .slice bu ku du], none, []⟩, ⟨R3, some 2, 0, 4, .agg #[.bool false, .slice none 0 0, .slice none 0 0], none, []⟩] [] (by kernel_rfl) hn rfl (by kernel_rfl) (by kernel_rfl) (by kernel_rfl) (by kernel_rfl) (by kernel_rfl) (by kernel_rfl) ⟨True.mono4, True.mono4, True.mono4, trivial⟩ (ok_cons R3ok (ok_cons R3ok (ok_cons R3ok ok_nil))) (IsOld.all (bx := [⟨R3, some 0, 0, 2, .agg #[.bool nr, .slice ar mr cr, .slice br kr dr], none, []⟩, ⟨R3, some 1, 0, 3, .agg #[.bool nu, .slice au mu cu, .slice bu ku du], none, []⟩, ⟨R3, some 2, 0, 4, .agg #[.bool false, .slice none 0 0, .slice none 0 0], none, []⟩]) ⟨someNe, someNe, someNe, trivial⟩) (DisOld.all (bx := [⟨R3, some 0, 0, 2, .agg #[.bool nr, .slice ar mr cr, .slice br kr dr], none, []⟩, ⟨R3, some 1, 0, 3, .agg #[.bool nu, .slice au mu cu, .slice bu ku du], none, []⟩, ⟨R3, some 2, 0, 4, .agg #[.bool false, .slice none 0 0, .slice none 0 0], none, []⟩]) ⟨someNe, someNe, someNe, trivial⟩) ?_ ?_
  · exact ⟨.alloc 0 _ rfl rfl (.inr ⟨_, rfl, r3_cs, fun a_ hR => (hR 0 rfl).trans f0⟩) rfl rfl rfl rfl rfl,
      .alloc 1 _ rfl rfl (.inr ⟨_, rfl, r3_cs, fun a_ hR => (hR 1 rfl).trans f1⟩) rfl rfl rfl rfl rfl,
      .alloc 2 _ rfl rfl (.inl ⟨rfl, rfl⟩) rfl rfl rfl rfl rfl,
      trivial⟩
  · intro a1 w1 gs1 hn1 hd1 hBt hr hR hP hX hU
    replace hn := hn1; replace hd := hd1.trans hd
    have ne2_4 : gs1 0 ≠ gs1 2 := hU 0 2 (by simp) (by simp) (by decide)
    have ne3_4 : gs1 1 ≠ gs1 2 := hU 1 2 (by simp) (by simp) (by decide)
    have b2 : BoxV R3 w1 (gs1 0) (.agg #[.bool nr, .slice ar mr cr, .slice br kr dr]) := (hX 0 _ rfl).2.2.2
    have f2 := (hX 0 _ rfl).1
    have u2 : w.heap.size ≤ gs1 0 := Nat.le_trans HB.size ((hX 0 _ rfl).2.2.1 (by simp))
    have b3 : BoxV R3 w1 (gs1 1) (.agg #[.bool nu, .slice au mu cu, .slice bu ku du]) := (hX 1 _ rfl).2.2.2
    have f3 := (hX 1 _ rfl).1
    have u3 : w.heap.size ≤ gs1 1 := Nat.le_trans HB.size ((hX 1 _ rfl).2.2.1 (by simp))
    have b4 : BoxV R3 w1 (gs1 2) (.agg #[.bool false, .slice none 0 0, .slice none 0 0]) := (hX 2 _ rfl).2.2.2
    have f4 := (hX 2 _ rfl).1
    have u4 : w.heap.size ≤ gs1 2 := Nat.le_trans HB.size ((hX 2 _ rfl).2.2.1 (by simp))
    replace Ar := Ar.rl hr
    replace Sr := Sr.rl hr
    replace Dr := Dr.rl hr
    replace Au := Au.rl hr
    replace Su := Su.rl hr
    replace Du := Du.rl hr
    replace HB := HB.trans (hBt.below HB.size (UpOld.all (bx := [⟨R3, some 0, 0, 2, .agg #[.bool nr, .slice ar mr cr, .slice br kr dr], none, []⟩, ⟨R3, some 1, 0, 3, .agg #[.bool nu, .slice au mu cu, .slice bu ku du], none, []⟩, ⟨R3, some 2, 0, 4, .agg #[.bool false, .slice none 0 0, .slice none 0 0], none, []⟩]) ⟨someNe, someNe, someNe, trivial⟩))
    clear hBt hr hR hP hX hU
    refine wp_seq ?_
    refine region4 [some 5, some 6, some 7, none] [Eqs (.agg #[.bool nr, .slice ar mr cr, .slice br kr dr]), Eqs (.agg #[.bool nu, .slice au mu cu, .slice bu ku du]), OutR ((nm (tp pr qr * tq qu - tp pu qu * tq qr) (tq qr * tq qu))) ((dn (tp pr qr * tq qu - tp pu qu * tq qr) (tq qr * tq qu))) (3 * ((Br) + (Bu) + 4) + 1), (fun _ _ => True)] [⟨R3, none, (gs1 2), 4, .agg #[.bool false, .slice none 0 0, .slice none 0 0], some (3, 7, 2), []⟩] [] (by kernel_rfl) hn rfl (by kernel_rfl) (by kernel_rfl) (by kernel_rfl) (by kernel_rfl) (by kernel_rfl) (by kernel_rfl) ⟨Eqs.mono4 _, Eqs.mono4 _, OutR.mono4 _ _ _, True.mono4, trivial⟩ (ok_cons R3ok ok_nil) (IsOld.all (bx := [⟨R3, none, (gs1 2), 4, .agg #[.bool false, .slice none 0 0, .slice none 0 0], some (3, 7, 2), []⟩]) ⟨fun _ => ⟨f4, b4⟩, trivial⟩) (DisOld.all (bx := [⟨R3, none, (gs1 2), 4, .agg #[.bool false, .slice none 0 0, .slice none 0 0], some (3, 7, 2), []⟩]) ⟨fun _ => trivial, trivial⟩) ?_ ?_
    · exact ⟨.norm 5 rfl rfl rfl (fun a_ w_ hn_ hBt hr hR hD hO hS => op_loadv R3ok ((hR 2 rfl).trans f2) (b2.keep hBt ⟨fun _ => ne2_4.symm, trivial⟩)),
        .norm 6 rfl rfl rfl (fun a_ w_ hn_ hBt hr hR hD hO hS => op_loadv R3ok ((hR 3 rfl).trans f3) (b3.keep hBt ⟨fun _ => ne3_4.symm, trivial⟩)),
        .norm 7 rfl rfl rfl (fun a_ w_ hn_ hBt hr hR hD hO hS => op_joinsub (isr_eq (show a_.eval (.tmp 5) = .agg #[.bool nr, .slice ar mr cr, .slice br kr dr] from hD 0 rfl) (Ar.rl hr) (Sr.rl hr) Vr Lr Mr) (isr_eq (show a_.eval (.tmp 6) = .agg #[.bool nu, .slice au mu cu, .slice bu ku du] from hD 1 rfl) (Au.rl hr) (Su.rl hr) Vu Lu Mu) (by omega)),
        .store 0 _ _ _ rfl rfl rfl rfl rfl rfl rfl (fun ia h => by cases h) rfl rfl rfl OutR.cs,
        trivial⟩
    · intro a2 w2 gs2 hn2 hd2 hBt hr hR hP hX hU
      replace hn := hn2; replace hd := hd2.trans hd
      obtain ⟨n_3, a_3, c_3, r_3, b_3, d_3, s_3, e7, G3, K3, l3, k3⟩ : OutR ((nm (tp pr qr * tq qu - tp pu qu * tq qr) (tq qr * tq qu))) ((dn (tp pr qr * tq qu - tp pu qu * tq qr) (tq qr * tq qu))) (3 * ((Br) + (Bu) + 4) + 1) (a2.eval (.tmp 7)) w2 := hP 2 (by decide)
      have A3 := G3.ag; have S3 := K3.sl; have V3 := K3.val
      have b4 : BoxV R3 w2 ((gs1 2)) (.agg #[.bool n_3, .slice a_3 r_3.length c_3, .slice b_3 s_3.length d_3]) := boxv_old ((hX 0 _ rfl).2.1 rfl) (hX 0 _ rfl).2.2.2 e7
      replace f4 : a2.eval (.tmp 4) = _ := (hR 4 rfl).trans f4
      replace Ar := Ar.rl hr
      replace Sr := Sr.rl hr
      replace Dr := Dr.rl hr
      replace Au := Au.rl hr
      replace Su := Su.rl hr
      replace Du := Du.rl hr
      replace HB := HB.trans (hBt.below HB.size (UpOld.all (bx := [⟨R3, none, (gs1 2), 4, .agg #[.bool false, .slice none 0 0, .slice none 0 0], some (3, 7, 2), []⟩]) ⟨fun _ => u4, trivial⟩))
      clear hBt hr hR hP hX hU
      refine wp_ret ?_
      repeat (first | refine then_ret ?_ | refine scope_ret ?_ | refine block_ret ?_)
      exact bodyPost_ret (v := .agg #[.bool n_3, .slice a_3 r_3.length c_3, .slice b_3 s_3.length d_3]) (res_c rfl f4 (lv_R3 b4)) hd ⟨_, rfl, OutR.to (outr_eq rfl G3 K3 l3 k3) rfl rfl (by omega), HB⟩

theorem has_rsub : Has Try.prog 36 := by unfold Has; kernel_rfl
theorem op_rsub {dst : Option Tmp} {ty : TypeId} {pos : String} {after : Array Edge} {guard : Option (Nat × Bool)} {a : Act} {w : World} {ats : Array TypeId} {i j : Nat} {Br : Nat} {pr qr : Int} (Hr : IsR pr qr Br (a.eval (.tmp i)) w) {Bu : Nat} {pu qu : Int} (Hu : IsR pu qu Bu (a.eval (.tmp j)) w) (hL : 3 * (Br + Bu + 4) + 1 ≤ 100000) :
    Does Try.prog { dst, op := .call { callee := .value (.func 36), args := #[.tmp i, .tmp j], argTypes := ats }, type := ty, pos, after, guard } a.eval w fun v w' => Below w.heap.size w w' ∧ (OutR (nm (tp pr qr * tq qu - tp pu qu * tq qr) (tq qr * tq qu)) (dn (tp pr qr * tq qu - tp pu qu * tq qr) (tq qr * tq qu)) (3 * (Br + Bu + 4) + 1)) v w' := by
  obtain ⟨nr, ar, mr, cr, rs, br, kr, dr, rt, er, Ar, Sr, Vr, Lr, Mr⟩ := Hr
  obtain ⟨nu, au, mu, cu, us, bu, ku, du, ut, eu, Au, Su, Vu, Lu, Mu⟩ := Hu
  refine does_call has_rsub _ (by simp only [List.map_toArray, List.map_cons, List.map_nil, er, eu]) ((rsub_z w Br _ _ _ _ _ _ Ar Lr _ _ _ _ _ Sr Vr Mr Bu _ _ _ _ _ _ Au Lu _ _ _ _ _ Su Vu Mu hL).mono ?_)
  rintro e w' ⟨v, rfl, h1, hb⟩
  exact ⟨_, rfl, hb, h1⟩

set_option maxRecDepth 20000 in
set_option maxHeartbeats 2000000 in
theorem rof_z (w : World) (Bx : Nat) (nx : Bool) (ax : Option Addr) (mx cx : Nat) (xs : List Int) (zx : Int) (Ax : Ag w nx ax mx cx xs zx) (Lx : xs.length ≤ Bx) (By : Nat) (ny : Bool) (ay : Option Addr) (my cy : Nat) (ys : List Int) (zy : Int) (Ay : Ag w ny ay my cy ys zy) (Ly : ys.length ≤ By) (hL : Bx + By ≤ 100000) (hy : zy ≠ 0) :
    Calls Try.prog 28 #[.agg #[.bool nx, .slice ax mx cx], .agg #[.bool ny, .slice ay my cy]] w fun e w' => ∃ v, e = .returned v ∧ (Tup2 (OutR (nm zx zy) (dn zx zy) (Bx + By)) (Eqs (.int .i64 0))) v w' ∧ Below w.heap.size w w' := by
  go_enter Try.func28, Try.ntmps28
  generalize hA : (Act.mk _ _) = aa
  have hn : aa.tmps.size = 13 := by rw [← hA]; rfl
  have hd : aa.defers = [] := by rw [← hA]
  have f0 : aa.eval (.tmp 0) = .agg #[.bool nx, .slice ax mx cx] := by rw [← hA]; rfl
  have f1 : aa.eval (.tmp 1) = .agg #[.bool ny, .slice ay my cy] := by rw [← hA]; rfl
  clear hA
  have HB : Below w.heap.size w w := Below.refl _ _
  have Tx := Ax.sl
  have Ty := Ay.sl
  refine wp_seq ?_
  refine region4 [some 2, some 3, some 4, some 5] [(fun _ _ => True), (fun _ _ => True), (fun _ _ => True), Eqs ((.int .i64 0))] [⟨W2, some 0, 0, 2, .agg #[.bool nx, .slice ax mx cx], none, []⟩, ⟨W2, some 1, 0, 3, .agg #[.bool ny, .slice ay my cy], none, []⟩, ⟨R3, some 2, 0, 4, .agg #[.bool false, .slice none 0 0, .slice none 0 0], none, []⟩] [] (by kernel_rfl) hn rfl (by kernel_rfl) (by kernel_rfl) (by kernel_rfl) (by kernel_rfl) (by kernel_rfl) (by kernel_rfl) ⟨True.mono4, True.mono4, True.mono4, Eqs.mono4 _, trivial⟩ (ok_cons W2ok (ok_cons W2ok (ok_cons R3ok ok_nil))) (IsOld.all (bx := [⟨W2, some 0, 0, 2, .agg #[.bool nx, .slice ax mx cx], none, []⟩, ⟨W2, some 1, 0, 3, .agg #[.bool ny, .slice ay my cy], none, []⟩, ⟨R3, some 2, 0, 4, .agg #[.bool false, .slice none 0 0, .slice none 0 0], none, []⟩]) ⟨someNe, someNe, someNe, trivial⟩) (DisOld.all (bx := [⟨W2, some 0, 0, 2, .agg #[.bool nx, .slice ax mx cx], none, []⟩, ⟨W2, some 1, 0, 3, .agg #[.bool ny, .slice ay my cy], none, []⟩, ⟨R3, some 2, 0, 4, .agg #[.bool false, .slice none 0 0, .slice none 0 0], none, []⟩]) ⟨someNe, someNe, someNe, trivial⟩) ?_ ?_
  · exact ⟨.alloc 0 _ rfl rfl (.inr ⟨_, rfl, w2_cs, fun a_ hR => (hR 0 rfl).trans f0⟩) rfl rfl rfl rfl rfl,
      .alloc 1 _ rfl rfl (.inr ⟨_, rfl, w2_cs, fun a_ hR => (hR 1 rfl).trans f1⟩) rfl rfl rfl rfl rfl,
      .alloc 2 _ rfl rfl (.inl ⟨rfl, rfl⟩) rfl rfl rfl rfl rfl,
      .norm 5 rfl rfl rfl (fun a_ w_ hn_ hBt hr hR hD hO hS => op_assign rfl),
      trivial⟩
  · intro a1 w1 gs1 hn1 hd1 hBt hr hR hP hX hU
    replace hn := hn1; replace hd := hd1.trans hd
    have ne2_4 : gs1 0 ≠ gs1 2 := hU 0 2 (by simp) (by simp) (by decide)
    have ne3_4 : gs1 1 ≠ gs1 2 := hU 1 2 (by simp) (by simp) (by decide)
    have b2 : BoxV W2 w1 (gs1 0) (.agg #[.bool nx, .slice ax mx cx]) := (hX 0 _ rfl).2.2.2
    have f2 := (hX 0 _ rfl).1
    have u2 : w.heap.size ≤ gs1 0 := Nat.le_trans HB.size ((hX 0 _ rfl).2.2.1 (by simp))
    have b3 : BoxV W2 w1 (gs1 1) (.agg #[.bool ny, .slice ay my cy]) := (hX 1 _ rfl).2.2.2
    have f3 := (hX 1 _ rfl).1
    have u3 : w.heap.size ≤ gs1 1 := Nat.le_trans HB.size ((hX 1 _ rfl).2.2.1 (by simp))
    have b4 : BoxV R3 w1 (gs1 2) (.agg #[.bool false, .slice none 0 0, .slice none 0 0]) := (hX 2 _ rfl).2.2.2
    have f4 := (hX 2 _ rfl).1
    have u4 : w.heap.size ≤ gs1 2 := Nat.le_trans HB.size ((hX 2 _ rfl).2.2.1 (by simp))
    have e5 : a1.eval (.tmp 5) = (.int .i64 0) := hP 3 (by decide)
    have f5 := e5
    replace Ax := Ax.rl hr
    replace Tx := Tx.rl hr
    replace Ay := Ay.rl hr
    replace Ty := Ty.rl hr
    replace HB := HB.trans (hBt.below HB.size (UpOld.all (bx := [⟨W2, some 0, 0, 2, .agg #[.bool nx, .slice ax mx cx], none, []⟩, ⟨W2, some 1, 0, 3, .agg #[.bool ny, .slice ay my cy], none, []⟩, ⟨R3, some 2, 0, 4, .agg #[.bool false, .slice none 0 0, .slice none 0 0], none, []⟩]) ⟨someNe, someNe, someNe, trivial⟩))
    clear hBt hr hR hP hX hU
    refine wp_seq ?_
    refine wp_seq ?_
    refine region4 [some 6, some 7, some 8] [Eqs (.agg #[.bool ny, .slice ay my cy]), Eqs (.int .i64 (Int.sign zy)), Eqs (.bool (decide ((Int.sign zy) = 0)))] [] [] (by kernel_rfl) hn rfl (by kernel_rfl) (by kernel_rfl) (by kernel_rfl) (by kernel_rfl) (by kernel_rfl) (by kernel_rfl) ⟨Eqs.mono4 _, Eqs.mono4 _, Eqs.mono4 _, trivial⟩ ok_nil (IsOld.all (bx := []) trivial) (DisOld.all (bx := []) trivial) ?_ ?_
    · exact ⟨.norm 6 rfl rfl rfl (fun a_ w_ hn_ hBt hr hR hD hO hS => op_loadv W2ok ((hR 3 rfl).trans f3) (b3.keep hBt trivial)),
        .norm 7 rfl rfl rfl (fun a_ w_ hn_ hBt hr hR hD hO hS => op_sign (isw_eq (show a_.eval (.tmp 6) = .agg #[.bool ny, .slice ay my cy] from hD 0 rfl) (Ay.rl hr) Ly) (by omega)),
        .norm 8 rfl rfl rfl (fun a_ w_ hn_ hBt hr hR hD hO hS => op_eqlk (show a_.eval (.tmp 7) = .int .i64 (Int.sign zy) from hD 1 rfl)),
        trivial⟩
    · intro a2 w2 gs2 hn2 hd2 hBt hr hR hP hX hU
      replace hn := hn2; replace hd := hd2.trans hd
      replace b2 := b2.keep hBt trivial
      replace b3 := b3.keep hBt trivial
      replace b4 := b4.keep hBt trivial
      replace f2 := (hR 2 rfl).trans f2
      replace f3 := (hR 3 rfl).trans f3
      replace f4 := (hR 4 rfl).trans f4
      replace f5 := (hR 5 rfl).trans f5
      have e8 : a2.eval (.tmp 8) = .bool (decide ((Int.sign zy) = 0)) := hP 2 (by decide)
      have f8 := e8
      replace Ax := Ax.rl hr
      replace Tx := Tx.rl hr
      replace Ay := Ay.rl hr
      replace Ty := Ty.rl hr
      replace HB := HB.trans (hBt.below HB.size (UpOld.all (bx := []) trivial))
      clear hBt hr hR hP hX hU
      refine wp_cond_split f8 (fun hc8 => ?_) (fun hc8 => ?_)
      · skip
        exact absurd (sign_zero_iff.1 (of_decide_eq_true hc8)) hy
      · skip
        refine wp_skip ?_
        refine wp_seq ?_
        refine region4 [some 10, some 11, some 12, none, some 5] [Eqs (.agg #[.bool nx, .slice ax mx cx]), Eqs (.agg #[.bool ny, .slice ay my cy]), OutR ((nm zx zy)) ((dn zx zy)) ((Bx) + (By)), (fun _ _ => True), Eqs ((.int .i64 0))] [⟨R3, none, (gs1 2), 4, .agg #[.bool false, .slice none 0 0, .slice none 0 0], some (3, 12, 2), []⟩] [] (by kernel_rfl) hn rfl (by kernel_rfl) (by kernel_rfl) (by kernel_rfl) (by kernel_rfl) (by kernel_rfl) (by kernel_rfl) ⟨Eqs.mono4 _, Eqs.mono4 _, OutR.mono4 _ _ _, True.mono4, Eqs.mono4 _, trivial⟩ (ok_cons R3ok ok_nil) (IsOld.all (bx := [⟨R3, none, (gs1 2), 4, .agg #[.bool false, .slice none 0 0, .slice none 0 0], some (3, 12, 2), []⟩]) ⟨fun _ => ⟨f4, b4⟩, trivial⟩) (DisOld.all (bx := [⟨R3, none, (gs1 2), 4, .agg #[.bool false, .slice none 0 0, .slice none 0 0], some (3, 12, 2), []⟩]) ⟨fun _ => trivial, trivial⟩) ?_ ?_
        · exact ⟨.norm 10 rfl rfl rfl (fun a_ w_ hn_ hBt hr hR hD hO hS => op_loadv W2ok ((hR 2 rfl).trans f2) (b2.keep hBt ⟨fun _ => ne2_4.symm, trivial⟩)),
            .norm 11 rfl rfl rfl (fun a_ w_ hn_ hBt hr hR hD hO hS => op_loadv W2ok ((hR 3 rfl).trans f3) (b3.keep hBt ⟨fun _ => ne3_4.symm, trivial⟩)),
            .norm 12 rfl rfl rfl (fun a_ w_ hn_ hBt hr hR hD hO hS => op_lowest (isw_eq (show a_.eval (.tmp 10) = .agg #[.bool nx, .slice ax mx cx] from hD 0 rfl) (Ax.rl hr) Lx) (isw_eq (show a_.eval (.tmp 11) = .agg #[.bool ny, .slice ay my cy] from hD 1 rfl) (Ay.rl hr) Ly) (by omega) hy),
            .store 0 _ _ _ rfl rfl rfl rfl rfl rfl rfl (fun ia h => by cases h) rfl rfl rfl OutR.cs,
            .norm 5 rfl rfl rfl (fun a_ w_ hn_ hBt hr hR hD hO hS => op_assign rfl),
            trivial⟩
        · intro a3 w3 gs3 hn3 hd3 hBt hr hR hP hX hU
          replace hn := hn3; replace hd := hd3.trans hd
          obtain ⟨n_4, a_4, c_4, r_4, b_4, d_4, s_4, e12, G4, K4, l4, k4⟩ : OutR ((nm zx zy)) ((dn zx zy)) ((Bx) + (By)) (a3.eval (.tmp 12)) w3 := hP 2 (by decide)
          have A4 := G4.ag; have S4 := K4.sl; have V4 := K4.val
          have b4 : BoxV R3 w3 ((gs1 2)) (.agg #[.bool n_4, .slice a_4 r_4.length c_4, .slice b_4 s_4.length d_4]) := boxv_old ((hX 0 _ rfl).2.1 rfl) (hX 0 _ rfl).2.2.2 e12
          replace f4 : a3.eval (.tmp 4) = _ := (hR 4 rfl).trans f4
          have e5 : a3.eval (.tmp 5) = (.int .i64 0) := hP 4 (by decide)
          have f5 := e5
          replace Ax := Ax.rl hr
          replace Tx := Tx.rl hr
          replace Ay := Ay.rl hr
          replace Ty := Ty.rl hr
          replace HB := HB.trans (hBt.below HB.size (UpOld.all (bx := [⟨R3, none, (gs1 2), 4, .agg #[.bool false, .slice none 0 0, .slice none 0 0], some (3, 12, 2), []⟩]) ⟨fun _ => u4, trivial⟩))
          clear hBt hr hR hP hX hU
          refine wp_ret ?_
          repeat (first | refine then_ret ?_ | refine scope_ret ?_ | refine block_ret ?_)
          exact bodyPost_ret (v := .tuple #[.agg #[.bool n_4, .slice a_4 r_4.length c_4, .slice b_4 s_4.length d_4], (.int .i64 0)]) (res_ct rfl f4 (lv_R3 b4) f5) hd ⟨_, rfl, ⟨_, _, rfl, OutR.to (outr_eq rfl G4 K4 l4 k4) rfl rfl (by omega), rfl⟩, HB⟩

theorem has_rof : Has Try.prog 28 := by unfold Has; kernel_rfl
theorem op_rof {dst : Option Tmp} {ty : TypeId} {pos : String} {after : Array Edge} {guard : Option (Nat × Bool)} {a : Act} {w : World} {ats : Array TypeId} {i j : Nat} {Bx : Nat} {zx : Int} (Hx : IsW zx Bx (a.eval (.tmp i)) w) {By : Nat} {zy : Int} (Hy : IsW zy By (a.eval (.tmp j)) w) (hL : Bx + By ≤ 100000) (hy : zy ≠ 0) :
    Does Try.prog { dst, op := .call { callee := .value (.func 28), args := #[.tmp i, .tmp j], argTypes := ats }, type := ty, pos, after, guard } a.eval w fun v w' => Below w.heap.size w w' ∧ (Tup2 (OutR (nm zx zy) (dn zx zy) (Bx + By)) (Eqs (.int .i64 0))) v w' := by
  obtain ⟨nx, ax, mx, cx, xs, ex, Ax, Lx⟩ := Hx
  obtain ⟨ny, ay, my, cy, ys, ey, Ay, Ly⟩ := Hy
  refine does_call has_rof _ (by simp only [List.map_toArray, List.map_cons, List.map_nil, ex, ey]) ((rof_z w Bx _ _ _ _ _ _ Ax Lx By _ _ _ _ _ _ Ay Ly hL hy).mono ?_)
  rintro e w' ⟨v, rfl, h1, hb⟩
  exact ⟨_, rfl, hb, h1⟩

set_option maxRecDepth 20000 in
set_option maxHeartbeats 2000000 in
theorem rof0_z (w : World) (Bx : Nat) (nx : Bool) (ax : Option Addr) (mx cx : Nat) (xs : List Int) (zx : Int) (Ax : Ag w nx ax mx cx xs zx) (Lx : xs.length ≤ Bx) (By : Nat) (ny : Bool) (ay : Option Addr) (my cy : Nat) (ys : List Int) (zy : Int) (Ay : Ag w ny ay my cy ys zy) (Ly : ys.length ≤ By) (hL : Bx + By ≤ 100000) (hy : zy = 0) :
    Calls Try.prog 28 #[.agg #[.bool nx, .slice ax mx cx], .agg #[.bool ny, .slice ay my cy]] w fun e w' => ∃ v, e = .returned v ∧ (Tup2 (Eqs (.agg #[.bool false, .slice none 0 0, .slice none 0 0])) (Eqs (.int .i64 20))) v w' ∧ Below w.heap.size w w' := by
  go_enter Try.func28, Try.ntmps28
  generalize hA : (Act.mk _ _) = aa
  have hn : aa.tmps.size = 13 := by rw [← hA]; rfl
  have hd : aa.defers = [] := by rw [← hA]
  have f0 : aa.eval (.tmp 0) = .agg #[.bool nx, .slice ax mx cx] := by rw [← hA]; rfl
  have f1 : aa.eval (.tmp 1) = .agg #[.bool ny, .slice ay my cy] := by rw [← hA]; rfl
  clear hA
  have HB : Below w.heap.size w w := Below.refl _ _
  have Tx := Ax.sl
  have Ty := Ay.sl
  refine wp_seq ?_
  refine region4 [some 2, some 3, some 4, some 5] [(fun _ _ => True), (fun _ _ => True), (fun _ _ => True), Eqs ((.int .i64 0))] [⟨W2, some 0, 0, 2, .agg #[.bool nx, .slice ax mx cx], none, []⟩, ⟨W2, some 1, 0, 3, .agg #[.bool ny, .slice ay my cy], none, []⟩, ⟨R3, some 2, 0, 4, .agg #[.bool false, .slice none 0 0, .slice none 0 0], none, []⟩] [] (by kernel_rfl) hn rfl (by kernel_rfl) (by kernel_rfl) (by kernel_rfl) (by kernel_rfl) (by kernel_rfl) (by kernel_rfl) ⟨True.mono4, True.mono4, True.mono4, Eqs.mono4 _, trivial⟩ (ok_cons W2ok (ok_cons W2ok (ok_cons R3ok ok_nil))) (IsOld.all (bx := [⟨W2, some 0, 0, 2, .agg #[.bool nx, .slice ax mx cx], none, []⟩, ⟨W2, some 1, 0, 3, .agg #[.bool ny, .slice ay my cy], none, []⟩, ⟨R3, some 2, 0, 4, .agg #[.bool false, .slice none 0 0, .slice none 0 0], none, []⟩]) ⟨someNe, someNe, someNe, trivial⟩) (DisOld.all (bx := [⟨W2, some 0, 0, 2, .agg #[.bool nx, .slice ax mx cx], none, []⟩, ⟨W2, some 1, 0, 3, .agg #[.bool ny, .slice ay my cy], none, []⟩, ⟨R3, some 2, 0, 4, .agg #[.bool false, .slice none 0 0, .slice none 0 0], none, []⟩]) ⟨someNe, someNe, someNe, trivial⟩) ?_ ?_
  · exact ⟨.alloc 0 _ rfl rfl (.inr ⟨_, rfl, w2_cs, fun a_ hR => (hR 0 rfl).trans f0⟩) rfl rfl rfl rfl rfl,
      .alloc 1 _ rfl rfl (.inr ⟨_, rfl, w2_cs, fun a_ hR => (hR 1 rfl).trans f1⟩) rfl rfl rfl rfl rfl,
      .alloc 2 _ rfl rfl (.inl ⟨rfl, rfl⟩) rfl rfl rfl rfl rfl,
      .norm 5 rfl rfl rfl (fun a_ w_ hn_ hBt hr hR hD hO hS => op_assign rfl),
      trivial⟩
  · intro a1 w1 gs1 hn1 hd1 hBt hr hR hP hX hU
    replace hn := hn1; replace hd := hd1.trans hd
    have ne2_4 : gs1 0 ≠ gs1 2 := hU 0 2 (by simp) (by simp) (by decide)
    have ne3_4 : gs1 1 ≠ gs1 2 := hU 1 2 (by simp) (by simp) (by decide)
    have b2 : BoxV W2 w1 (gs1 0) (.agg #[.bool nx, .slice ax mx cx]) := (hX 0 _ rfl).2.2.2
    have f2 := (hX 0 _ rfl).1
    have u2 : w.heap.size ≤ gs1 0 := Nat.le_trans HB.size ((hX 0 _ rfl).2.2.1 (by simp))
    have b3 : BoxV W2 w1 (gs1 1) (.agg #[.bool ny, .slice ay my cy]) := (hX 1 _ rfl).2.2.2
    have f3 := (hX 1 _ rfl).1
    have u3 : w.heap.size ≤ gs1 1 := Nat.le_trans HB.size ((hX 1 _ rfl).2.2.1 (by simp))
    have b4 : BoxV R3 w1 (gs1 2) (.agg #[.bool false, .slice none 0 0, .slice none 0 0]) := (hX 2 _ rfl).2.2.2
    have f4 := (hX 2 _ rfl).1
    have u4 : w.heap.size ≤ gs1 2 := Nat.le_trans HB.size ((hX 2 _ rfl).2.2.1 (by simp))
    have e5 : a1.eval (.tmp 5) = (.int .i64 0) := hP 3 (by decide)
    have f5 := e5
    replace Ax := Ax.rl hr
    replace Tx := Tx.rl hr
    replace Ay := Ay.rl hr
    replace Ty := Ty.rl hr
    replace HB := HB.trans (hBt.below HB.size (UpOld.all (bx := [⟨W2, some 0, 0, 2, .agg #[.bool nx, .slice ax mx cx], none, []⟩, ⟨W2, some 1, 0, 3, .agg #[.bool ny, .slice ay my cy], none, []⟩, ⟨R3, some 2, 0, 4, .agg #[.bool false, .slice none 0 0, .slice none 0 0], none, []⟩]) ⟨someNe, someNe, someNe, trivial⟩))
    clear hBt hr hR hP hX hU
    refine wp_seq ?_
    refine wp_seq ?_
    refine region4 [some 6, some 7, some 8] [Eqs (.agg #[.bool ny, .slice ay my cy]), Eqs (.int .i64 (Int.sign zy)), Eqs (.bool (decide ((Int.sign zy) = 0)))] [] [] (by kernel_rfl) hn rfl (by kernel_rfl) (by kernel_rfl) (by kernel_rfl) (by kernel_rfl) (by kernel_rfl) (by kernel_rfl) ⟨Eqs.mono4 _, Eqs.mono4 _, Eqs.mono4 _, trivial⟩ ok_nil (IsOld.all (bx := []) trivial) (DisOld.all (bx := []) trivial) ?_ ?_
    · exact ⟨.norm 6 rfl rfl rfl (fun a_ w_ hn_ hBt hr hR hD hO hS => op_loadv W2ok ((hR 3 rfl).trans f3) (b3.keep hBt trivial)),
        .norm 7 rfl rfl rfl (fun a_ w_ hn_ hBt hr hR hD hO hS => op_sign (isw_eq (show a_.eval (.tmp 6) = .agg #[.bool ny, .slice ay my cy] from hD 0 rfl) (Ay.rl hr) Ly) (by omega)),
        .norm 8 rfl rfl rfl (fun a_ w_ hn_ hBt hr hR hD hO hS => op_eqlk (show a_.eval (.tmp 7) = .int .i64 (Int.sign zy) from hD 1 rfl)),
        trivial⟩
    · intro a2 w2 gs2 hn2 hd2 hBt hr hR hP hX hU
      replace hn := hn2; replace hd := hd2.trans hd
      replace b2 := b2.keep hBt trivial
      replace b3 := b3.keep hBt trivial
      replace b4 := b4.keep hBt trivial
      replace f2 := (hR 2 rfl).trans f2
      replace f3 := (hR 3 rfl).trans f3
      replace f4 := (hR 4 rfl).trans f4
      replace f5 := (hR 5 rfl).trans f5
      have e8 : a2.eval (.tmp 8) = .bool (decide ((Int.sign zy) = 0)) := hP 2 (by decide)
      have f8 := e8
      replace Ax := Ax.rl hr
      replace Tx := Tx.rl hr
      replace Ay := Ay.rl hr
      replace Ty := Ty.rl hr
      replace HB := HB.trans (hBt.below HB.size (UpOld.all (bx := []) trivial))
      clear hBt hr hR hP hX hU
      refine wp_cond_split f8 (fun hc8 => ?_) (fun hc8 => ?_)
      · skip
        refine wp_seq ?_
        refine region4 [some 9, none, some 5] [Eqs (.agg #[.bool false, .slice none 0 0, .slice none 0 0]), (fun _ _ => True), Eqs ((.int .i64 20))] [⟨R3, none, (gs1 2), 4, .agg #[.bool false, .slice none 0 0, .slice none 0 0], some (1, 9, 0), []⟩] [] (by kernel_rfl) hn rfl (by kernel_rfl) (by kernel_rfl) (by kernel_rfl) (by kernel_rfl) (by kernel_rfl) (by kernel_rfl) ⟨Eqs.mono4 _, True.mono4, Eqs.mono4 _, trivial⟩ (ok_cons R3ok ok_nil) (IsOld.all (bx := [⟨R3, none, (gs1 2), 4, .agg #[.bool false, .slice none 0 0, .slice none 0 0], some (1, 9, 0), []⟩]) ⟨fun _ => ⟨f4, b4⟩, trivial⟩) (DisOld.all (bx := [⟨R3, none, (gs1 2), 4, .agg #[.bool false, .slice none 0 0, .slice none 0 0], some (1, 9, 0), []⟩]) ⟨fun _ => trivial, trivial⟩) ?_ ?_
        · exact ⟨.norm 9 rfl rfl rfl (fun a_ w_ hn_ hBt hr hR hD hO hS => op_bR0),
            .store 0 _ _ _ rfl rfl rfl rfl rfl rfl rfl (fun ia h => by cases h) rfl rfl rfl (eqs_cs r3_cs),
            .norm 5 rfl rfl rfl (fun a_ w_ hn_ hBt hr hR hD hO hS => op_assign rfl),
            trivial⟩
        · intro a3 w3 gs3 hn3 hd3 hBt hr hR hP hX hU
          replace hn := hn3; replace hd := hd3.trans hd
          replace b2 := b2.keep hBt ⟨fun _ => ne2_4.symm, trivial⟩
          replace b3 := b3.keep hBt ⟨fun _ => ne3_4.symm, trivial⟩
          have e9 : a3.eval (.tmp 9) = .agg #[.bool false, .slice none 0 0, .slice none 0 0] := hP 0 (by decide)
          have b4 : BoxV R3 w3 ((gs1 2)) (.agg #[.bool false, .slice none 0 0, .slice none 0 0]) := boxv_old ((hX 0 _ rfl).2.1 rfl) (hX 0 _ rfl).2.2.2 e9
          replace f4 : a3.eval (.tmp 4) = _ := (hR 4 rfl).trans f4
          replace f2 := (hR 2 rfl).trans f2
          replace f3 := (hR 3 rfl).trans f3
          have e5 : a3.eval (.tmp 5) = (.int .i64 20) := hP 2 (by decide)
          have f5 := e5
          replace Ax := Ax.rl hr
          replace Tx := Tx.rl hr
          replace Ay := Ay.rl hr
          replace Ty := Ty.rl hr
          replace HB := HB.trans (hBt.below HB.size (UpOld.all (bx := [⟨R3, none, (gs1 2), 4, .agg #[.bool false, .slice none 0 0, .slice none 0 0], some (1, 9, 0), []⟩]) ⟨fun _ => u4, trivial⟩))
          clear hBt hr hR hP hX hU
          refine wp_ret ?_
          repeat (first | refine then_ret ?_ | refine scope_ret ?_ | refine block_ret ?_)
          exact bodyPost_ret (v := .tuple #[.agg #[.bool false, .slice none 0 0, .slice none 0 0], (.int .i64 20)]) (res_ct rfl f4 (lv_R3 b4) f5) hd ⟨_, rfl, ⟨_, _, rfl, rfl, rfl⟩, HB⟩
      · skip
        exact absurd (sign_zero_iff.2 hy) (of_decide_eq_false hc8)

theorem has_rof0 : Has Try.prog 28 := by unfold Has; kernel_rfl
theorem op_rof0 {dst : Option Tmp} {ty : TypeId} {pos : String} {after : Array Edge} {guard : Option (Nat × Bool)} {a : Act} {w : World} {ats : Array TypeId} {i j : Nat} {Bx : Nat} {zx : Int} (Hx : IsW zx Bx (a.eval (.tmp i)) w) {By : Nat} {zy : Int} (Hy : IsW zy By (a.eval (.tmp j)) w) (hL : Bx + By ≤ 100000) (hy : zy = 0) :
    Does Try.prog { dst, op := .call { callee := .value (.func 28), args := #[.tmp i, .tmp j], argTypes := ats }, type := ty, pos, after, guard } a.eval w fun v w' => Below w.heap.size w w' ∧ (Tup2 (Eqs (.agg #[.bool false, .slice none 0 0, .slice none 0 0])) (Eqs (.int .i64 20))) v w' := by
  obtain ⟨nx, ax, mx, cx, xs, ex, Ax, Lx⟩ := Hx
  obtain ⟨ny, ay, my, cy, ys, ey, Ay, Ly⟩ := Hy
  refine does_call has_rof0 _ (by simp only [List.map_toArray, List.map_cons, List.map_nil, ex, ey]) ((rof0_z w Bx _ _ _ _ _ _ Ax Lx By _ _ _ _ _ _ Ay Ly hL hy).mono ?_)
  rintro e w' ⟨v, rfl, h1, hb⟩
  exact ⟨_, rfl, hb, h1⟩

set_option maxRecDepth 20000 in
set_option maxHeartbeats 2000000 in
theorem rdiv_z (w : World) (Br : Nat) (nr : Bool) (ar : Option Addr) (mr cr : Nat) (rs : List Int) (pr : Int) (Ar : Ag w nr ar mr cr rs pr) (Lr : rs.length ≤ Br) (br : Option Addr) (kr dr : Nat) (rt : List Int) (qr : Int) (Sr : Sl w (.slice br kr dr) rt) (Vr : val rt = qr) (Mr : rt.length ≤ Br) (Bu : Nat) (nu : Bool) (au : Option Addr) (mu cu : Nat) (us : List Int) (pu : Int) (Au : Ag w nu au mu cu us pu) (Lu : us.length ≤ Bu) (bu : Option Addr) (ku du : Nat) (ut : List Int) (qu : Int) (Su : Sl w (.slice bu ku du) ut) (Vu : val ut = qu) (Mu : ut.length ≤ Bu) (hL : 2 * (Br + Bu + 4) ≤ 100000) (hu0 : tp pu qu ≠ 0) :
    Calls Try.prog 37 #[.agg #[.bool nr, .slice ar mr cr, .slice br kr dr], .agg #[.bool nu, .slice au mu cu, .slice bu ku du]] w fun e w' => ∃ v, e = .returned v ∧ (Tup2 (OutR (nm (tp pr qr * tq qu) (tq qr * tp pu qu)) (dn (tp pr qr * tq qu) (tq qr * tp pu qu)) (2 * (Br + Bu + 4))) (Eqs (.int .i64 0))) v w' ∧ Below w.heap.size w w' := by
  go_enter Try.func37, Try.ntmps37
  generalize hA : (Act.mk _ _) = aa
  have hn : aa.tmps.size = 29 := by rw [← hA]; rfl
  have hd : aa.defers = [] := by rw [← hA]
  have f0 : aa.eval (.tmp 0) = .agg #[.bool nr, .slice ar mr cr, .slice br kr dr] := by rw [← hA]; rfl
  have f1 : aa.eval (.tmp 1) = .agg #[.bool nu, .slice au mu cu, .slice bu ku du] := by rw [← hA]; rfl
  clear hA
  have HB : Below w.heap.size w w := Below.refl _ _
  have Dr : Ag w false br kr dr rt qr := ⟨Sr, Vr⟩
  have Du : Ag w false bu ku du ut qu := ⟨Su, Vu⟩
  refine wp_seq ?_
  refine region4 [some 2, some 3, some 4, some 5] [(fun _ _ => True), (fun _ _ => True), (fun _ _ => True), Eqs ((.int .i64 0))] [⟨R3, some 0, 0, 2, .agg #[.bool nr, .slice ar mr cr, .slice br kr dr], none, []⟩, ⟨R3, some 1, 0, 3, .agg #[.bool nu, .slice au mu cu, .slice bu ku du], none, []⟩, ⟨R3, some 2, 0, 4, .agg #[.bool false, .slice none 0 0, .slice none 0 0], none, []⟩] [] (by kernel_rfl) hn rfl (by kernel_rfl) (by kernel_rfl) (by kernel_rfl) (by kernel_rfl) (by kernel_rfl) (by kernel_rfl) ⟨True.mono4, True.mono4, True.mono4, Eqs.mono4 _, trivial⟩ (ok_cons R3ok (ok_cons R3ok (ok_cons R3ok ok_nil))) (IsOld.all (bx := [⟨R3, some 0, 0, 2, .agg #[.bool nr, .slice ar mr cr, .slice br kr dr], none, []⟩, ⟨R3, some 1, 0, 3, .agg #[.bool nu, .slice au mu cu, .slice bu ku du], none, []⟩, ⟨R3, some 2, 0, 4, .agg #[.bool false, .slice none 0 0, .slice none 0 0], none, []⟩]) ⟨someNe, someNe, someNe, trivial⟩) (DisOld.all (bx := [⟨R3, some 0, 0, 2, .agg #[.bool nr, .slice ar mr cr, .slice br kr dr], none, []⟩, ⟨R3, some 1, 0, 3, .agg #[.bool nu, .slice au mu cu, .slice bu ku du], none, []⟩, ⟨R3, some 2, 0, 4, .agg #[.bool false, .slice none 0 0, .slice none 0 0], none, []⟩]) ⟨someNe, someNe, someNe, trivial⟩) ?_ ?_
  · exact ⟨.alloc 0 _ rfl rfl (.inr ⟨_, rfl, r3_cs, fun a_ hR => (hR 0 rfl).trans f0⟩) rfl rfl rfl rfl rfl,
      .alloc 1 _ rfl rfl (.inr ⟨_, rfl, r3_cs, fun a_ hR => (hR 1 rfl).trans f1⟩) rfl rfl rfl rfl rfl,
      .alloc 2 _ rfl rfl (.inl ⟨rfl, rfl⟩) rfl rfl rfl rfl rfl,
      .norm 5 rfl rfl rfl (fun a_ w_ hn_ hBt hr hR hD hO hS => op_assign rfl),
      trivial⟩
  · intro a1 w1 gs1 hn1 hd1 hBt hr hR hP hX hU
    replace hn := hn1; replace hd := hd1.trans hd
    have ne2_4 : gs1 0 ≠ gs1 2 := hU 0 2 (by simp) (by simp) (by decide)
    have ne3_4 : gs1 1 ≠ gs1 2 := hU 1 2 (by simp) (by simp) (by decide)
    have b2 : BoxV R3 w1 (gs1 0) (.agg #[.bool nr, .slice ar mr cr, .slice br kr dr]) := (hX 0 _ rfl).2.2.2
    have f2 := (hX 0 _ rfl).1
    have u2 : w.heap.size ≤ gs1 0 := Nat.le_trans HB.size ((hX 0 _ rfl).2.2.1 (by simp))
    have b3 : BoxV R3 w1 (gs1 1) (.agg #[.bool nu, .slice au mu cu, .slice bu ku du]) := (hX 1 _ rfl).2.2.2
    have f3 := (hX 1 _ rfl).1
    have u3 : w.heap.size ≤ gs1 1 := Nat.le_trans HB.size ((hX 1 _ rfl).2.2.1 (by simp))
    have b4 : BoxV R3 w1 (gs1 2) (.agg #[.bool false, .slice none 0 0, .slice none 0 0]) := (hX 2 _ rfl).2.2.2
    have f4 := (hX 2 _ rfl).1
    have u4 : w.heap.size ≤ gs1 2 := Nat.le_trans HB.size ((hX 2 _ rfl).2.2.1 (by simp))
    have e5 : a1.eval (.tmp 5) = (.int .i64 0) := hP 3 (by decide)
    have f5 := e5
    replace Ar := Ar.rl hr
    replace Sr := Sr.rl hr
    replace Dr := Dr.rl hr
    replace Au := Au.rl hr
    replace Su := Su.rl hr
    replace Du := Du.rl hr
    replace HB := HB.trans (hBt.below HB.size (UpOld.all (bx := [⟨R3, some 0, 0, 2, .agg #[.bool nr, .slice ar mr cr, .slice br kr dr], none, []⟩, ⟨R3, some 1, 0, 3, .agg #[.bool nu, .slice au mu cu, .slice bu ku du], none, []⟩, ⟨R3, some 2, 0, 4, .agg #[.bool false, .slice none 0 0, .slice none 0 0], none, []⟩]) ⟨someNe, someNe, someNe, trivial⟩))
    clear hBt hr hR hP hX hU
    refine wp_seq ?_
    refine region4 [some 11, some 12, some 10, some 13, some 14, some 6, some 7, none, none] [Eqs (.agg #[.bool nr, .slice ar mr cr, .slice br kr dr]), Tup2 (IsW ((tp pr qr)) ((Br) + 2)) (IsW ((tq qr)) ((Br) + 2)), Tup2 (IsW ((tp pr qr)) ((Br) + 2)) (IsW ((tq qr)) ((Br) + 2)), IsW ((tp pr qr)) ((Br) + 2), IsW ((tq qr)) ((Br) + 2), (fun _ _ => True), (fun _ _ => True), (fun _ _ => True), (fun _ _ => True)] [⟨W2, some 5, 0, 6, .agg #[.bool false, .slice none 0 0], some (7, 13, 3), []⟩, ⟨W2, some 6, 0, 7, .agg #[.bool false, .slice none 0 0], some (8, 14, 4), []⟩] [] (by kernel_rfl) hn rfl (by kernel_rfl) (by kernel_rfl) (by kernel_rfl) (by kernel_rfl) (by kernel_rfl) (by kernel_rfl) ⟨Eqs.mono4 _, Tup2.mono4 (IsW.mono4 _ _) (IsW.mono4 _ _), Tup2.mono4 (IsW.mono4 _ _) (IsW.mono4 _ _), IsW.mono4 _ _, IsW.mono4 _ _, True.mono4, True.mono4, True.mono4, True.mono4, trivial⟩ (ok_cons W2ok (ok_cons W2ok ok_nil)) (IsOld.all (bx := [⟨W2, some 5, 0, 6, .agg #[.bool false, .slice none 0 0], some (7, 13, 3), []⟩, ⟨W2, some 6, 0, 7, .agg #[.bool false, .slice none 0 0], some (8, 14, 4), []⟩]) ⟨someNe, someNe, trivial⟩) (DisOld.all (bx := [⟨W2, some 5, 0, 6, .agg #[.bool false, .slice none 0 0], some (7, 13, 3), []⟩, ⟨W2, some 6, 0, 7, .agg #[.bool false, .slice none 0 0], some (8, 14, 4), []⟩]) ⟨someNe, someNe, trivial⟩) ?_ ?_
    · exact ⟨.norm 11 rfl rfl rfl (fun a_ w_ hn_ hBt hr hR hD hO hS => op_loadv R3ok ((hR 2 rfl).trans f2) (b2.keep hBt ⟨someNe, someNe, trivial⟩)),
        .norm 12 rfl rfl rfl (fun a_ w_ hn_ hBt hr hR hD hO hS => op_terms (isr_eq (show a_.eval (.tmp 11) = .agg #[.bool nr, .slice ar mr cr, .slice br kr dr] from hD 0 rfl) (Ar.rl hr) (Sr.rl hr) Vr Lr Mr) (by omega)),
        .norm 10 rfl rfl rfl (fun a_ w_ hn_ hBt hr hR hD hO hS => op_mvp (p := Tup2 (IsW ((tp pr qr)) ((Br) + 2)) (IsW ((tq qr)) ((Br) + 2))) (show Tup2 (IsW ((tp pr qr)) ((Br) + 2)) (IsW ((tq qr)) ((Br) + 2)) (a_.eval (.tmp 12)) w_ from hD 1 rfl)),
        .norm 13 rfl rfl rfl (fun a_ w_ hn_ hBt hr hR hD hO hS => op_ex20 (show Tup2 (IsW ((tp pr qr)) ((Br) + 2)) (IsW ((tq qr)) ((Br) + 2)) (a_.eval (.tmp 10)) w_ from hD 2 rfl)),
        .norm 14 rfl rfl rfl (fun a_ w_ hn_ hBt hr hR hD hO hS => op_ex21 (show Tup2 (IsW ((tp pr qr)) ((Br) + 2)) (IsW ((tq qr)) ((Br) + 2)) (a_.eval (.tmp 10)) w_ from hD 2 rfl)),
        .alloc 0 _ rfl rfl (.inl ⟨rfl, rfl⟩) rfl rfl rfl rfl rfl,
        .alloc 1 _ rfl rfl (.inl ⟨rfl, rfl⟩) rfl rfl rfl rfl rfl,
        .store 0 _ _ _ rfl rfl rfl rfl rfl rfl rfl (fun ia h => by cases h; rfl) rfl rfl rfl IsW.cs,
        .store 1 _ _ _ rfl rfl rfl rfl rfl rfl rfl (fun ia h => by cases h; rfl) rfl rfl rfl IsW.cs,
        trivial⟩
    · intro a2 w2 gs2 hn2 hd2 hBt hr hR hP hX hU
      replace hn := hn2; replace hd := hd2.trans hd
      have ne4_6 : (gs1 2) ≠ gs2 0 := by have h1 := b4.lt; have h2 := (hX 0 _ rfl).2.2.1 (by simp); omega
      have ne4_7 : (gs1 2) ≠ gs2 1 := by have h1 := b4.lt; have h2 := (hX 1 _ rfl).2.2.1 (by simp); omega
      replace b3 := b3.keep hBt ⟨someNe, someNe, trivial⟩
      replace b4 := b4.keep hBt ⟨someNe, someNe, trivial⟩
      obtain ⟨n_3, a_3, m_3, c_3, r_3, e13, A3, l3⟩ : IsW ((tp pr qr)) ((Br) + 2) (a2.eval (.tmp 13)) w2 := hP 3 (by decide)
      have b6 : BoxV W2 w2 (gs2 0) (.agg #[.bool n_3, .slice a_3 m_3 c_3]) := boxv_of (hX 0 _ rfl).2.2.2 e13
      have f6 := (hX 0 _ rfl).1
      have u6 : w.heap.size ≤ gs2 0 := Nat.le_trans HB.size ((hX 0 _ rfl).2.2.1 (by simp))
      obtain ⟨n_4, a_4, m_4, c_4, r_4, e14, A4, l4⟩ : IsW ((tq qr)) ((Br) + 2) (a2.eval (.tmp 14)) w2 := hP 4 (by decide)
      have b7 : BoxV W2 w2 (gs2 1) (.agg #[.bool n_4, .slice a_4 m_4 c_4]) := boxv_of (hX 1 _ rfl).2.2.2 e14
      have f7 := (hX 1 _ rfl).1
      have u7 : w.heap.size ≤ gs2 1 := Nat.le_trans HB.size ((hX 1 _ rfl).2.2.1 (by simp))
      replace f3 := (hR 3 rfl).trans f3
      replace f4 := (hR 4 rfl).trans f4
      replace f5 := (hR 5 rfl).trans f5
      replace Ar := Ar.rl hr
      replace Sr := Sr.rl hr
      replace Dr := Dr.rl hr
      replace Au := Au.rl hr
      replace Su := Su.rl hr
      replace Du := Du.rl hr
      replace HB := HB.trans (hBt.below HB.size (UpOld.all (bx := [⟨W2, some 5, 0, 6, .agg #[.bool false, .slice none 0 0], some (7, 13, 3), []⟩, ⟨W2, some 6, 0, 7, .agg #[.bool false, .slice none 0 0], some (8, 14, 4), []⟩]) ⟨someNe, someNe, trivial⟩))
      clear hBt hr hR hP hX hU
      refine wp_seq ?_
      refine region4 [some 16, some 17, some 15, some 18, some 19, some 8, some 9, none, none] [Eqs (.agg #[.bool nu, .slice au mu cu, .slice bu ku du]), Tup2 (IsW ((tp pu qu)) ((Bu) + 2)) (IsW ((tq qu)) ((Bu) + 2)), Tup2 (IsW ((tp pu qu)) ((Bu) + 2)) (IsW ((tq qu)) ((Bu) + 2)), IsW ((tp pu qu)) ((Bu) + 2), IsW ((tq qu)) ((Bu) + 2), (fun _ _ => True), (fun _ _ => True), (fun _ _ => True), (fun _ _ => True)] [⟨W2, some 5, 0, 8, .agg #[.bool false, .slice none 0 0], some (7, 18, 3), []⟩, ⟨W2, some 6, 0, 9, .agg #[.bool false, .slice none 0 0], some (8, 19, 4), []⟩] [] (by kernel_rfl) hn rfl (by kernel_rfl) (by kernel_rfl) (by kernel_rfl) (by kernel_rfl) (by kernel_rfl) (by kernel_rfl) ⟨Eqs.mono4 _, Tup2.mono4 (IsW.mono4 _ _) (IsW.mono4 _ _), Tup2.mono4 (IsW.mono4 _ _) (IsW.mono4 _ _), IsW.mono4 _ _, IsW.mono4 _ _, True.mono4, True.mono4, True.mono4, True.mono4, trivial⟩ (ok_cons W2ok (ok_cons W2ok ok_nil)) (IsOld.all (bx := [⟨W2, some 5, 0, 8, .agg #[.bool false, .slice none 0 0], some (7, 18, 3), []⟩, ⟨W2, some 6, 0, 9, .agg #[.bool false, .slice none 0 0], some (8, 19, 4), []⟩]) ⟨someNe, someNe, trivial⟩) (DisOld.all (bx := [⟨W2, some 5, 0, 8, .agg #[.bool false, .slice none 0 0], some (7, 18, 3), []⟩, ⟨W2, some 6, 0, 9, .agg #[.bool false, .slice none 0 0], some (8, 19, 4), []⟩]) ⟨someNe, someNe, trivial⟩) ?_ ?_
      · exact ⟨.norm 16 rfl rfl rfl (fun a_ w_ hn_ hBt hr hR hD hO hS => op_loadv R3ok ((hR 3 rfl).trans f3) (b3.keep hBt ⟨someNe, someNe, trivial⟩)),
          .norm 17 rfl rfl rfl (fun a_ w_ hn_ hBt hr hR hD hO hS => op_terms (isr_eq (show a_.eval (.tmp 16) = .agg #[.bool nu, .slice au mu cu, .slice bu ku du] from hD 0 rfl) (Au.rl hr) (Su.rl hr) Vu Lu Mu) (by omega)),
          .norm 15 rfl rfl rfl (fun a_ w_ hn_ hBt hr hR hD hO hS => op_mvp (p := Tup2 (IsW ((tp pu qu)) ((Bu) + 2)) (IsW ((tq qu)) ((Bu) + 2))) (show Tup2 (IsW ((tp pu qu)) ((Bu) + 2)) (IsW ((tq qu)) ((Bu) + 2)) (a_.eval (.tmp 17)) w_ from hD 1 rfl)),
          .norm 18 rfl rfl rfl (fun a_ w_ hn_ hBt hr hR hD hO hS => op_ex20 (show Tup2 (IsW ((tp pu qu)) ((Bu) + 2)) (IsW ((tq qu)) ((Bu) + 2)) (a_.eval (.tmp 15)) w_ from hD 2 rfl)),
          .norm 19 rfl rfl rfl (fun a_ w_ hn_ hBt hr hR hD hO hS => op_ex21 (show Tup2 (IsW ((tp pu qu)) ((Bu) + 2)) (IsW ((tq qu)) ((Bu) + 2)) (a_.eval (.tmp 15)) w_ from hD 2 rfl)),
          .alloc 0 _ rfl rfl (.inl ⟨rfl, rfl⟩) rfl rfl rfl rfl rfl,
          .alloc 1 _ rfl rfl (.inl ⟨rfl, rfl⟩) rfl rfl rfl rfl rfl,
          .store 0 _ _ _ rfl rfl rfl rfl rfl rfl rfl (fun ia h => by cases h; rfl) rfl rfl rfl IsW.cs,
          .store 1 _ _ _ rfl rfl rfl rfl rfl rfl rfl (fun ia h => by cases h; rfl) rfl rfl rfl IsW.cs,
          trivial⟩
      · intro a5 w5 gs5 hn5 hd5 hBt hr hR hP hX hU
        replace hn := hn5; replace hd := hd5.trans hd
        have ne4_8 : (gs1 2) ≠ gs5 0 := by have h1 := b4.lt; have h2 := (hX 0 _ rfl).2.2.1 (by simp); omega
        have ne4_9 : (gs1 2) ≠ gs5 1 := by have h1 := b4.lt; have h2 := (hX 1 _ rfl).2.2.1 (by simp); omega
        replace b4 := b4.keep hBt ⟨someNe, someNe, trivial⟩
        replace b6 := b6.keep hBt ⟨someNe, someNe, trivial⟩
        replace b7 := b7.keep hBt ⟨someNe, someNe, trivial⟩
        obtain ⟨n_6, a_6, m_6, c_6, r_6, e18, A6, l6⟩ : IsW ((tp pu qu)) ((Bu) + 2) (a5.eval (.tmp 18)) w5 := hP 3 (by decide)
        have b8 : BoxV W2 w5 (gs5 0) (.agg #[.bool n_6, .slice a_6 m_6 c_6]) := boxv_of (hX 0 _ rfl).2.2.2 e18
        have f8 := (hX 0 _ rfl).1
        have u8 : w.heap.size ≤ gs5 0 := Nat.le_trans HB.size ((hX 0 _ rfl).2.2.1 (by simp))
        obtain ⟨n_7, a_7, m_7, c_7, r_7, e19, A7, l7⟩ : IsW ((tq qu)) ((Bu) + 2) (a5.eval (.tmp 19)) w5 := hP 4 (by decide)
        have b9 : BoxV W2 w5 (gs5 1) (.agg #[.bool n_7, .slice a_7 m_7 c_7]) := boxv_of (hX 1 _ rfl).2.2.2 e19
        have f9 := (hX 1 _ rfl).1
        have u9 : w.heap.size ≤ gs5 1 := Nat.le_trans HB.size ((hX 1 _ rfl).2.2.1 (by simp))
        replace f4 := (hR 4 rfl).trans f4
        replace f5 := (hR 5 rfl).trans f5
        replace f6 := (hR 6 rfl).trans f6
        replace f7 := (hR 7 rfl).trans f7
        replace Ar := Ar.rl hr
        replace Sr := Sr.rl hr
        replace Dr := Dr.rl hr
        replace Au := Au.rl hr
        replace Su := Su.rl hr
        replace Du := Du.rl hr
        replace A3 := A3.rl hr
        replace A4 := A4.rl hr
        replace HB := HB.trans (hBt.below HB.size (UpOld.all (bx := [⟨W2, some 5, 0, 8, .agg #[.bool false, .slice none 0 0], some (7, 18, 3), []⟩, ⟨W2, some 6, 0, 9, .agg #[.bool false, .slice none 0 0], some (8, 19, 4), []⟩]) ⟨someNe, someNe, trivial⟩))
        clear hBt hr hR hP hX hU
        refine wp_seq ?_
        refine region4 [some 20, some 21, some 22, some 23, some 24, some 25, some 26, some 27, some 28, none, some 5] [Eqs (.agg #[.bool n_3, .slice a_3 m_3 c_3]), Eqs (.agg #[.bool n_7, .slice a_7 m_7 c_7]), OutW (((tp pr qr) * (tq qu))) (((Br) + 2) + ((Bu) + 2)), Eqs (.agg #[.bool n_4, .slice a_4 m_4 c_4]), Eqs (.agg #[.bool n_6, .slice a_6 m_6 c_6]), OutW (((tq qr) * (tp pu qu))) (((Br) + 2) + ((Bu) + 2)), Tup2 (OutR ((nm ((tp pr qr) * (tq qu)) ((tq qr) * (tp pu qu)))) ((dn ((tp pr qr) * (tq qu)) ((tq qr) * (tp pu qu)))) ((((Br) + 2) + ((Bu) + 2)) + (((Br) + 2) + ((Bu) + 2)))) (Eqs (.int .i64 0)), OutR ((nm ((tp pr qr) * (tq qu)) ((tq qr) * (tp pu qu)))) ((dn ((tp pr qr) * (tq qu)) ((tq qr) * (tp pu qu)))) ((((Br) + 2) + ((Bu) + 2)) + (((Br) + 2) + ((Bu) + 2))), Eqs (.int .i64 0), (fun _ _ => True), Eqs (.int .i64 0)] [⟨R3, none, (gs1 2), 4, .agg #[.bool false, .slice none 0 0, .slice none 0 0], some (9, 27, 7), []⟩] [] (by kernel_rfl) hn rfl (by kernel_rfl) (by kernel_rfl) (by kernel_rfl) (by kernel_rfl) (by kernel_rfl) (by kernel_rfl) ⟨Eqs.mono4 _, Eqs.mono4 _, OutW.mono4 _ _, Eqs.mono4 _, Eqs.mono4 _, OutW.mono4 _ _, Tup2.mono4 (OutR.mono4 _ _ _) (Eqs.mono4 _), OutR.mono4 _ _ _, Eqs.mono4 _, True.mono4, Eqs.mono4 _, trivial⟩ (ok_cons R3ok ok_nil) (IsOld.all (bx := [⟨R3, none, (gs1 2), 4, .agg #[.bool false, .slice none 0 0, .slice none 0 0], some (9, 27, 7), []⟩]) ⟨fun _ => ⟨f4, b4⟩, trivial⟩) (DisOld.all (bx := [⟨R3, none, (gs1 2), 4, .agg #[.bool false, .slice none 0 0, .slice none 0 0], some (9, 27, 7), []⟩]) ⟨fun _ => trivial, trivial⟩) ?_ ?_
        · exact ⟨.norm 20 rfl rfl rfl (fun a_ w_ hn_ hBt hr hR hD hO hS => op_loadv W2ok ((hR 6 rfl).trans f6) (b6.keep hBt ⟨fun _ => ne4_6, trivial⟩)),
            .norm 21 rfl rfl rfl (fun a_ w_ hn_ hBt hr hR hD hO hS => op_loadv W2ok ((hR 9 rfl).trans f9) (b9.keep hBt ⟨fun _ => ne4_9, trivial⟩)),
            .norm 22 rfl rfl rfl (fun a_ w_ hn_ hBt hr hR hD hO hS => op_mul (isw_eq (show a_.eval (.tmp 20) = .agg #[.bool n_3, .slice a_3 m_3 c_3] from hD 0 rfl) (A3.rl hr) l3) (isw_eq (show a_.eval (.tmp 21) = .agg #[.bool n_7, .slice a_7 m_7 c_7] from hD 1 rfl) (A7.rl hr) l7) (by omega) (by omega)),
            .norm 23 rfl rfl rfl (fun a_ w_ hn_ hBt hr hR hD hO hS => op_loadv W2ok ((hR 7 rfl).trans f7) (b7.keep hBt ⟨fun _ => ne4_7, trivial⟩)),
            .norm 24 rfl rfl rfl (fun a_ w_ hn_ hBt hr hR hD hO hS => op_loadv W2ok ((hR 8 rfl).trans f8) (b8.keep hBt ⟨fun _ => ne4_8, trivial⟩)),
            .norm 25 rfl rfl rfl (fun a_ w_ hn_ hBt hr hR hD hO hS => op_mul (isw_eq (show a_.eval (.tmp 23) = .agg #[.bool n_4, .slice a_4 m_4 c_4] from hD 3 rfl) (A4.rl hr) l4) (isw_eq (show a_.eval (.tmp 24) = .agg #[.bool n_6, .slice a_6 m_6 c_6] from hD 4 rfl) (A6.rl hr) l6) (by omega) (by omega)),
            .norm 26 rfl rfl rfl (fun a_ w_ hn_ hBt hr hR hD hO hS => op_rof (show OutW (((tp pr qr) * (tq qu))) (((Br) + 2) + ((Bu) + 2)) (a_.eval (.tmp 22)) w_ from hD 2 rfl).is (show OutW (((tq qr) * (tp pu qu))) (((Br) + 2) + ((Bu) + 2)) (a_.eval (.tmp 25)) w_ from hD 5 rfl).is (by omega) (mul_ne (tq_ne _) hu0)),
            .norm 27 rfl rfl rfl (fun a_ w_ hn_ hBt hr hR hD hO hS => op_ex20 (show Tup2 (OutR ((nm ((tp pr qr) * (tq qu)) ((tq qr) * (tp pu qu)))) ((dn ((tp pr qr) * (tq qu)) ((tq qr) * (tp pu qu)))) ((((Br) + 2) + ((Bu) + 2)) + (((Br) + 2) + ((Bu) + 2)))) (Eqs (.int .i64 0)) (a_.eval (.tmp 26)) w_ from hD 6 rfl)),
            .norm 28 rfl rfl rfl (fun a_ w_ hn_ hBt hr hR hD hO hS => op_ex21 (show Tup2 (OutR ((nm ((tp pr qr) * (tq qu)) ((tq qr) * (tp pu qu)))) ((dn ((tp pr qr) * (tq qu)) ((tq qr) * (tp pu qu)))) ((((Br) + 2) + ((Bu) + 2)) + (((Br) + 2) + ((Bu) + 2)))) (Eqs (.int .i64 0)) (a_.eval (.tmp 26)) w_ from hD 6 rfl)),
            .store 0 _ _ _ rfl rfl rfl rfl rfl rfl rfl (fun ia h => by cases h) rfl rfl rfl OutR.cs,
            .norm 5 rfl rfl rfl (fun a_ w_ hn_ hBt hr hR hD hO hS => op_assign (show a_.eval (.tmp 28) = .int .i64 0 from hD 8 rfl)),
            trivial⟩
        · intro a8 w8 gs8 hn8 hd8 hBt hr hR hP hX hU
          replace hn := hn8; replace hd := hd8.trans hd
          obtain ⟨n_9, a_9, c_9, r_9, b_9, d_9, s_9, e27, G9, K9, l9, k9⟩ : OutR ((nm ((tp pr qr) * (tq qu)) ((tq qr) * (tp pu qu)))) ((dn ((tp pr qr) * (tq qu)) ((tq qr) * (tp pu qu)))) ((((Br) + 2) + ((Bu) + 2)) + (((Br) + 2) + ((Bu) + 2))) (a8.eval (.tmp 27)) w8 := hP 7 (by decide)
          have A9 := G9.ag; have S9 := K9.sl; have V9 := K9.val
          have b4 : BoxV R3 w8 ((gs1 2)) (.agg #[.bool n_9, .slice a_9 r_9.length c_9, .slice b_9 s_9.length d_9]) := boxv_old ((hX 0 _ rfl).2.1 rfl) (hX 0 _ rfl).2.2.2 e27
          replace f4 : a8.eval (.tmp 4) = _ := (hR 4 rfl).trans f4
          have e5 : a8.eval (.tmp 5) = .int .i64 0 := hP 10 (by decide)
          have f5 := e5
          replace Ar := Ar.rl hr
          replace Sr := Sr.rl hr
          replace Dr := Dr.rl hr
          replace Au := Au.rl hr
          replace Su := Su.rl hr
          replace Du := Du.rl hr
          replace A3 := A3.rl hr
          replace A4 := A4.rl hr
          replace A6 := A6.rl hr
          replace A7 := A7.rl hr
          replace HB := HB.trans (hBt.below HB.size (UpOld.all (bx := [⟨R3, none, (gs1 2), 4, .agg #[.bool false, .slice none 0 0, .slice none 0 0], some (9, 27, 7), []⟩]) ⟨fun _ => u4, trivial⟩))
          clear hBt hr hR hP hX hU
          refine wp_ret ?_
          repeat (first | refine then_ret ?_ | refine scope_ret ?_ | refine block_ret ?_)
          exact bodyPost_ret (v := .tuple #[.agg #[.bool n_9, .slice a_9 r_9.length c_9, .slice b_9 s_9.length d_9], .int .i64 0]) (res_ct rfl f4 (lv_R3 b4) f5) hd ⟨_, rfl, ⟨_, _, rfl, OutR.to (outr_eq rfl G9 K9 l9 k9) rfl rfl (by omega), rfl⟩, HB⟩

theorem has_rdiv : Has Try.prog 37 := by unfold Has; kernel_rfl
theorem op_rdiv {dst : Option Tmp} {ty : TypeId} {pos : String} {after : Array Edge} {guard : Option (Nat × Bool)} {a : Act} {w : World} {ats : Array TypeId} {i j : Nat} {Br : Nat} {pr qr : Int} (Hr : IsR pr qr Br (a.eval (.tmp i)) w) {Bu : Nat} {pu qu : Int} (Hu : IsR pu qu Bu (a.eval (.tmp j)) w) (hL : 2 * (Br + Bu + 4) ≤ 100000) (hu0 : tp pu qu ≠ 0) :
    Does Try.prog { dst, op := .call { callee := .value (.func 37), args := #[.tmp i, .tmp j], argTypes := ats }, type := ty, pos, after, guard } a.eval w fun v w' => Below w.heap.size w w' ∧ (Tup2 (OutR (nm (tp pr qr * tq qu) (tq qr * tp pu qu)) (dn (tp pr qr * tq qu) (tq qr * tp pu qu)) (2 * (Br + Bu + 4))) (Eqs (.int .i64 0))) v w' := by
  obtain ⟨nr, ar, mr, cr, rs, br, kr, dr, rt, er, Ar, Sr, Vr, Lr, Mr⟩ := Hr
  obtain ⟨nu, au, mu, cu, us, bu, ku, du, ut, eu, Au, Su, Vu, Lu, Mu⟩ := Hu
  refine does_call has_rdiv _ (by simp only [List.map_toArray, List.map_cons, List.map_nil, er, eu]) ((rdiv_z w Br _ _ _ _ _ _ Ar Lr _ _ _ _ _ Sr Vr Mr Bu _ _ _ _ _ _ Au Lu _ _ _ _ _ Su Vu Mu hL hu0).mono ?_)
  rintro e w' ⟨v, rfl, h1, hb⟩
  exact ⟨_, rfl, hb, h1⟩

set_option maxRecDepth 20000 in
set_option maxHeartbeats 2000000 in
theorem rdiv0_z (w : World) (Br : Nat) (nr : Bool) (ar : Option Addr) (mr cr : Nat) (rs : List Int) (pr : Int) (Ar : Ag w nr ar mr cr rs pr) (Lr : rs.length ≤ Br) (br : Option Addr) (kr dr : Nat) (rt : List Int) (qr : Int) (Sr : Sl w (.slice br kr dr) rt) (Vr : val rt = qr) (Mr : rt.length ≤ Br) (Bu : Nat) (nu : Bool) (au : Option Addr) (mu cu : Nat) (us : List Int) (pu : Int) (Au : Ag w nu au mu cu us pu) (Lu : us.length ≤ Bu) (bu : Option Addr) (ku du : Nat) (ut : List Int) (qu : Int) (Su : Sl w (.slice bu ku du) ut) (Vu : val ut = qu) (Mu : ut.length ≤ Bu) (hL : 2 * (Br + Bu + 4) ≤ 100000) (hu0 : tp pu qu = 0) :
    Calls Try.prog 37 #[.agg #[.bool nr, .slice ar mr cr, .slice br kr dr], .agg #[.bool nu, .slice au mu cu, .slice bu ku du]] w fun e w' => ∃ v, e = .returned v ∧ (Tup2 (Eqs (.agg #[.bool false, .slice none 0 0, .slice none 0 0])) (Eqs (.int .i64 20))) v w' ∧ Below w.heap.size w w' := by
  go_enter Try.func37, Try.ntmps37
  generalize hA : (Act.mk _ _) = aa
  have hn : aa.tmps.size = 29 := by rw [← hA]; rfl
  have hd : aa.defers = [] := by rw [← hA]
  have f0 : aa.eval (.tmp 0) = .agg #[.bool nr, .slice ar mr cr, .slice br kr dr] := by rw [← hA]; rfl
  have f1 : aa.eval (.tmp 1) = .agg #[.bool nu, .slice au mu cu, .slice bu ku du] := by rw [← hA]; rfl
  clear hA
  have HB : Below w.heap.size w w := Below.refl _ _
  have Dr : Ag w false br kr dr rt qr := ⟨Sr, Vr⟩
  have Du : Ag w false bu ku du ut qu := ⟨Su, Vu⟩
  refine wp_seq ?_
  refine region4 [some 2, some 3, some 4, some 5] [(fun _ _ => True), (fun _ _ => True), (fun _ _ => True), Eqs ((.int .i64 0))] [⟨R3, some 0, 0, 2, .agg #[.bool nr, .slice ar mr cr, .slice br kr dr], none, []⟩, ⟨R3, some 1, 0, 3, .agg #[.bool nu, .slice au mu cu, .slice bu ku du], none, []⟩, ⟨R3, some 2, 0, 4, .agg #[.bool false, .slice none 0 0, .slice none 0 0], none, []⟩] [] (by kernel_rfl) hn rfl (by kernel_rfl) (by kernel_rfl) (by kernel_rfl) (by kernel_rfl) (by kernel_rfl) (by kernel_rfl) ⟨True.mono4, True.mono4, True.mono4, Eqs.mono4 _, trivial⟩ (ok_cons R3ok (ok_cons R3ok (ok_cons R3ok ok_nil))) (IsOld.all (bx := [⟨R3, some 0, 0, 2, .agg #[.bool nr, .slice ar mr cr, .slice br kr dr], none, []⟩, ⟨R3, some 1, 0, 3, .agg #[.bool nu, .slice au mu cu, .slice bu ku du], none, []⟩, ⟨R3, some 2, 0, 4, .agg #[.bool false, .slice none 0 0, .slice none 0 0], none, []⟩]) ⟨someNe, someNe, someNe, trivial⟩) (DisOld.all (bx := [⟨R3, some 0, 0, 2, .agg #[.bool nr, .slice ar mr cr, .slice br kr dr], none, []⟩, ⟨R3, some 1, 0, 3, .agg #[.bool nu, .slice au mu cu, .slice bu ku du], none, []⟩, ⟨R3, some 2, 0, 4, .agg #[.bool false, .slice none 0 0, .slice none 0 0], none, []⟩]) ⟨someNe, someNe, someNe, trivial⟩) ?_ ?_
  · exact ⟨.alloc 0 _ rfl rfl (.inr ⟨_, rfl, r3_cs, fun a_ hR => (hR 0 rfl).trans f0⟩) rfl rfl rfl rfl rfl,
      .alloc 1 _ rfl rfl (.inr ⟨_, rfl, r3_cs, fun a_ hR => (hR 1 rfl).trans f1⟩) rfl rfl rfl rfl rfl,
      .alloc 2 _ rfl rfl (.inl ⟨rfl, rfl⟩) rfl rfl rfl rfl rfl,
      .norm 5 rfl rfl rfl (fun a_ w_ hn_ hBt hr hR hD hO hS => op_assign rfl),
      trivial⟩
  · intro a1 w1 gs1 hn1 hd1 hBt hr hR hP hX hU
    replace hn := hn1; replace hd := hd1.trans hd
    have ne2_4 : gs1 0 ≠ gs1 2 := hU 0 2 (by simp) (by simp) (by decide)
    have ne3_4 : gs1 1 ≠ gs1 2 := hU 1 2 (by simp) (by simp) (by decide)
    have b2 : BoxV R3 w1 (gs1 0) (.agg #[.bool nr, .slice ar mr cr, .slice br kr dr]) := (hX 0 _ rfl).2.2.2
    have f2 := (hX 0 _ rfl).1
    have u2 : w.heap.size ≤ gs1 0 := Nat.le_trans HB.size ((hX 0 _ rfl).2.2.1 (by simp))
    have b3 : BoxV R3 w1 (gs1 1) (.agg #[.bool nu, .slice au mu cu, .slice bu ku du]) := (hX 1 _ rfl).2.2.2
    have f3 := (hX 1 _ rfl).1
    have u3 : w.heap.size ≤ gs1 1 := Nat.le_trans HB.size ((hX 1 _ rfl).2.2.1 (by simp))
    have b4 : BoxV R3 w1 (gs1 2) (.agg #[.bool false, .slice none 0 0, .slice none 0 0]) := (hX 2 _ rfl).2.2.2
    have f4 := (hX 2 _ rfl).1
    have u4 : w.heap.size ≤ gs1 2 := Nat.le_trans HB.size ((hX 2 _ rfl).2.2.1 (by simp))
    have e5 : a1.eval (.tmp 5) = (.int .i64 0) := hP 3 (by decide)
    have f5 := e5
    replace Ar := Ar.rl hr
    replace Sr := Sr.rl hr
    replace Dr := Dr.rl hr
    replace Au := Au.rl hr
    replace Su := Su.rl hr
    replace Du := Du.rl hr
    replace HB := HB.trans (hBt.below HB.size (UpOld.all (bx := [⟨R3, some 0, 0, 2, .agg #[.bool nr, .slice ar mr cr, .slice br kr dr], none, []⟩, ⟨R3, some 1, 0, 3, .agg #[.bool nu, .slice au mu cu, .slice bu ku du], none, []⟩, ⟨R3, some 2, 0, 4, .agg #[.bool false, .slice none 0 0, .slice none 0 0], none, []⟩]) ⟨someNe, someNe, someNe, trivial⟩))
    clear hBt hr hR hP hX hU
    refine wp_seq ?_
    refine region4 [some 11, some 12, some 10, some 13, some 14, some 6, some 7, none, none] [Eqs (.agg #[.bool nr, .slice ar mr cr, .slice br kr dr]), Tup2 (IsW ((tp pr qr)) ((Br) + 2)) (IsW ((tq qr)) ((Br) + 2)), Tup2 (IsW ((tp pr qr)) ((Br) + 2)) (IsW ((tq qr)) ((Br) + 2)), IsW ((tp pr qr)) ((Br) + 2), IsW ((tq qr)) ((Br) + 2), (fun _ _ => True), (fun _ _ => True), (fun _ _ => True), (fun _ _ => True)] [⟨W2, some 5, 0, 6, .agg #[.bool false, .slice none 0 0], some (7, 13, 3), []⟩, ⟨W2, some 6, 0, 7, .agg #[.bool false, .slice none 0 0], some (8, 14, 4), []⟩] [] (by kernel_rfl) hn rfl (by kernel_rfl) (by kernel_rfl) (by kernel_rfl) (by kernel_rfl) (by kernel_rfl) (by kernel_rfl) ⟨Eqs.mono4 _, Tup2.mono4 (IsW.mono4 _ _) (IsW.mono4 _ _), Tup2.mono4 (IsW.mono4 _ _) (IsW.mono4 _ _), IsW.mono4 _ _, IsW.mono4 _ _, True.mono4, True.mono4, True.mono4, True.mono4, trivial⟩ (ok_cons W2ok (ok_cons W2ok ok_nil)) (IsOld.all (bx := [⟨W2, some 5, 0, 6, .agg #[.bool false, .slice none 0 0], some (7, 13, 3), []⟩, ⟨W2, some 6, 0, 7, .agg #[.bool false, .slice none 0 0], some (8, 14, 4), []⟩]) ⟨someNe, someNe, trivial⟩) (DisOld.all (bx := [⟨W2, some 5, 0, 6, .agg #[.bool false, .slice none 0 0], some (7, 13, 3), []⟩, ⟨W2, some 6, 0, 7, .agg #[.bool false, .slice none 0 0], some (8, 14, 4), []⟩]) ⟨someNe, someNe, trivial⟩) ?_ ?_
    · exact ⟨.norm 11 rfl rfl rfl (fun a_ w_ hn_ hBt hr hR hD hO hS => op_loadv R3ok ((hR 2 rfl).trans f2) (b2.keep hBt ⟨someNe, someNe, trivial⟩)),
        .norm 12 rfl rfl rfl (fun a_ w_ hn_ hBt hr hR hD hO hS => op_terms (isr_eq (show a_.eval (.tmp 11) = .agg #[.bool nr, .slice ar mr cr, .slice br kr dr] from hD 0 rfl) (Ar.rl hr) (Sr.rl hr) Vr Lr Mr) (by omega)),
        .norm 10 rfl rfl rfl (fun a_ w_ hn_ hBt hr hR hD hO hS => op_mvp (p := Tup2 (IsW ((tp pr qr)) ((Br) + 2)) (IsW ((tq qr)) ((Br) + 2))) (show Tup2 (IsW ((tp pr qr)) ((Br) + 2)) (IsW ((tq qr)) ((Br) + 2)) (a_.eval (.tmp 12)) w_ from hD 1 rfl)),
        .norm 13 rfl rfl rfl (fun a_ w_ hn_ hBt hr hR hD hO hS => op_ex20 (show Tup2 (IsW ((tp pr qr)) ((Br) + 2)) (IsW ((tq qr)) ((Br) + 2)) (a_.eval (.tmp 10)) w_ from hD 2 rfl)),
        .norm 14 rfl rfl rfl (fun a_ w_ hn_ hBt hr hR hD hO hS => op_ex21 (show Tup2 (IsW ((tp pr qr)) ((Br) + 2)) (IsW ((tq qr)) ((Br) + 2)) (a_.eval (.tmp 10)) w_ from hD 2 rfl)),
        .alloc 0 _ rfl rfl (.inl ⟨rfl, rfl⟩) rfl rfl rfl rfl rfl,
        .alloc 1 _ rfl rfl (.inl ⟨rfl, rfl⟩) rfl rfl rfl rfl rfl,
        .store 0 _ _ _ rfl rfl rfl rfl rfl rfl rfl (fun ia h => by cases h; rfl) rfl rfl rfl IsW.cs,
        .store 1 _ _ _ rfl rfl rfl rfl rfl rfl rfl (fun ia h => by cases h; rfl) rfl rfl rfl IsW.cs,
        trivial⟩
    · intro a2 w2 gs2 hn2 hd2 hBt hr hR hP hX hU
      replace hn := hn2; replace hd := hd2.trans hd
      have ne4_6 : (gs1 2) ≠ gs2 0 := by have h1 := b4.lt; have h2 := (hX 0 _ rfl).2.2.1 (by simp); omega
      have ne4_7 : (gs1 2) ≠ gs2 1 := by have h1 := b4.lt; have h2 := (hX 1 _ rfl).2.2.1 (by simp); omega
      replace b3 := b3.keep hBt ⟨someNe, someNe, trivial⟩
      replace b4 := b4.keep hBt ⟨someNe, someNe, trivial⟩
      obtain ⟨n_3, a_3, m_3, c_3, r_3, e13, A3, l3⟩ : IsW ((tp pr qr)) ((Br) + 2) (a2.eval (.tmp 13)) w2 := hP 3 (by decide)
      have b6 : BoxV W2 w2 (gs2 0) (.agg #[.bool n_3, .slice a_3 m_3 c_3]) := boxv_of (hX 0 _ rfl).2.2.2 e13
      have f6 := (hX 0 _ rfl).1
      have u6 : w.heap.size ≤ gs2 0 := Nat.le_trans HB.size ((hX 0 _ rfl).2.2.1 (by simp))
      obtain ⟨n_4, a_4, m_4, c_4, r_4, e14, A4, l4⟩ : IsW ((tq qr)) ((Br) + 2) (a2.eval (.tmp 14)) w2 := hP 4 (by decide)
      have b7 : BoxV W2 w2 (gs2 1) (.agg #[.bool n_4, .slice a_4 m_4 c_4]) := boxv_of (hX 1 _ rfl).2.2.2 e14
      have f7 := (hX 1 _ rfl).1
      have u7 : w.heap.size ≤ gs2 1 := Nat.le_trans HB.size ((hX 1 _ rfl).2.2.1 (by simp))
      replace f3 := (hR 3 rfl).trans f3
      replace f4 := (hR 4 rfl).trans f4
      replace f5 := (hR 5 rfl).trans f5
      replace Ar := Ar.rl hr
      replace Sr := Sr.rl hr
      replace Dr := Dr.rl hr
      replace Au := Au.rl hr
      replace Su := Su.rl hr
      replace Du := Du.rl hr
      replace HB := HB.trans (hBt.below HB.size (UpOld.all (bx := [⟨W2, some 5, 0, 6, .agg #[.bool false, .slice none 0 0], some (7, 13, 3), []⟩, ⟨W2, some 6, 0, 7, .agg #[.bool false, .slice none 0 0], some (8, 14, 4), []⟩]) ⟨someNe, someNe, trivial⟩))
      clear hBt hr hR hP hX hU
      refine wp_seq ?_
      refine region4 [some 16, some 17, some 15, some 18, some 19, some 8, some 9, none, none] [Eqs (.agg #[.bool nu, .slice au mu cu, .slice bu ku du]), Tup2 (IsW ((tp pu qu)) ((Bu) + 2)) (IsW ((tq qu)) ((Bu) + 2)), Tup2 (IsW ((tp pu qu)) ((Bu) + 2)) (IsW ((tq qu)) ((Bu) + 2)), IsW ((tp pu qu)) ((Bu) + 2), IsW ((tq qu)) ((Bu) + 2), (fun _ _ => True), (fun _ _ => True), (fun _ _ => True), (fun _ _ => True)] [⟨W2, some 5, 0, 8, .agg #[.bool false, .slice none 0 0], some (7, 18, 3), []⟩, ⟨W2, some 6, 0, 9, .agg #[.bool false, .slice none 0 0], some (8, 19, 4), []⟩] [] (by kernel_rfl) hn rfl (by kernel_rfl) (by kernel_rfl) (by kernel_rfl) (by kernel_rfl) (by kernel_rfl) (by kernel_rfl) ⟨Eqs.mono4 _, Tup2.mono4 (IsW.mono4 _ _) (IsW.mono4 _ _), Tup2.mono4 (IsW.mono4 _ _) (IsW.mono4 _ _), IsW.mono4 _ _, IsW.mono4 _ _, True.mono4, True.mono4, True.mono4, True.mono4, trivial⟩ (ok_cons W2ok (ok_cons W2ok ok_nil)) (IsOld.all (bx := [⟨W2, some 5, 0, 8, .agg #[.bool false, .slice none 0 0], some (7, 18, 3), []⟩, ⟨W2, some 6, 0, 9, .agg #[.bool false, .slice none 0 0], some (8, 19, 4), []⟩]) ⟨someNe, someNe, trivial⟩) (DisOld.all (bx := [⟨W2, some 5, 0, 8, .agg #[.bool false, .slice none 0 0], some (7, 18, 3), []⟩, ⟨W2, some 6, 0, 9, .agg #[.bool false, .slice none 0 0], some (8, 19, 4), []⟩]) ⟨someNe, someNe, trivial⟩) ?_ ?_
      · exact ⟨.norm 16 rfl rfl rfl (fun a_ w_ hn_ hBt hr hR hD hO hS => op_loadv R3ok ((hR 3 rfl).trans f3) (b3.keep hBt ⟨someNe, someNe, trivial⟩)),
          .norm 17 rfl rfl rfl (fun a_ w_ hn_ hBt hr hR hD hO hS => op_terms (isr_eq (show a_.eval (.tmp 16) = .agg #[.bool nu, .slice au mu cu, .slice bu ku du] from hD 0 rfl) (Au.rl hr) (Su.rl hr) Vu Lu Mu) (by omega)),
          .norm 15 rfl rfl rfl (fun a_ w_ hn_ hBt hr hR hD hO hS => op_mvp (p := Tup2 (IsW ((tp pu qu)) ((Bu) + 2)) (IsW ((tq qu)) ((Bu) + 2))) (show Tup2 (IsW ((tp pu qu)) ((Bu) + 2)) (IsW ((tq qu)) ((Bu) + 2)) (a_.eval (.tmp 17)) w_ from hD 1 rfl)),
          .norm 18 rfl rfl rfl (fun a_ w_ hn_ hBt hr hR hD hO hS => op_ex20 (show Tup2 (IsW ((tp pu qu)) ((Bu) + 2)) (IsW ((tq qu)) ((Bu) + 2)) (a_.eval (.tmp 15)) w_ from hD 2 rfl)),
          .norm 19 rfl rfl rfl (fun a_ w_ hn_ hBt hr hR hD hO hS => op_ex21 (show Tup2 (IsW ((tp pu qu)) ((Bu) + 2)) (IsW ((tq qu)) ((Bu) + 2)) (a_.eval (.tmp 15)) w_ from hD 2 rfl)),
          .alloc 0 _ rfl rfl (.inl ⟨rfl, rfl⟩) rfl rfl rfl rfl rfl,
          .alloc 1 _ rfl rfl (.inl ⟨rfl, rfl⟩) rfl rfl rfl rfl rfl,
          .store 0 _ _ _ rfl rfl rfl rfl rfl rfl rfl (fun ia h => by cases h; rfl) rfl rfl rfl IsW.cs,
          .store 1 _ _ _ rfl rfl rfl rfl rfl rfl rfl (fun ia h => by cases h; rfl) rfl rfl rfl IsW.cs,
          trivial⟩
      · intro a5 w5 gs5 hn5 hd5 hBt hr hR hP hX hU
        replace hn := hn5; replace hd := hd5.trans hd
        have ne4_8 : (gs1 2) ≠ gs5 0 := by have h1 := b4.lt; have h2 := (hX 0 _ rfl).2.2.1 (by simp); omega
        have ne4_9 : (gs1 2) ≠ gs5 1 := by have h1 := b4.lt; have h2 := (hX 1 _ rfl).2.2.1 (by simp); omega
        replace b4 := b4.keep hBt ⟨someNe, someNe, trivial⟩
        replace b6 := b6.keep hBt ⟨someNe, someNe, trivial⟩
        replace b7 := b7.keep hBt ⟨someNe, someNe, trivial⟩
        obtain ⟨n_6, a_6, m_6, c_6, r_6, e18, A6, l6⟩ : IsW ((tp pu qu)) ((Bu) + 2) (a5.eval (.tmp 18)) w5 := hP 3 (by decide)
        have b8 : BoxV W2 w5 (gs5 0) (.agg #[.bool n_6, .slice a_6 m_6 c_6]) := boxv_of (hX 0 _ rfl).2.2.2 e18
        have f8 := (hX 0 _ rfl).1
        have u8 : w.heap.size ≤ gs5 0 := Nat.le_trans HB.size ((hX 0 _ rfl).2.2.1 (by simp))
        obtain ⟨n_7, a_7, m_7, c_7, r_7, e19, A7, l7⟩ : IsW ((tq qu)) ((Bu) + 2) (a5.eval (.tmp 19)) w5 := hP 4 (by decide)
        have b9 : BoxV W2 w5 (gs5 1) (.agg #[.bool n_7, .slice a_7 m_7 c_7]) := boxv_of (hX 1 _ rfl).2.2.2 e19
        have f9 := (hX 1 _ rfl).1
        have u9 : w.heap.size ≤ gs5 1 := Nat.le_trans HB.size ((hX 1 _ rfl).2.2.1 (by simp))
        replace f4 := (hR 4 rfl).trans f4
        replace f5 := (hR 5 rfl).trans f5
        replace f6 := (hR 6 rfl).trans f6
        replace f7 := (hR 7 rfl).trans f7
        replace Ar := Ar.rl hr
        replace Sr := Sr.rl hr
        replace Dr := Dr.rl hr
        replace Au := Au.rl hr
        replace Su := Su.rl hr
        replace Du := Du.rl hr
        replace A3 := A3.rl hr
        replace A4 := A4.rl hr
        replace HB := HB.trans (hBt.below HB.size (UpOld.all (bx := [⟨W2, some 5, 0, 8, .agg #[.bool false, .slice none 0 0], some (7, 18, 3), []⟩, ⟨W2, some 6, 0, 9, .agg #[.bool false, .slice none 0 0], some (8, 19, 4), []⟩]) ⟨someNe, someNe, trivial⟩))
        clear hBt hr hR hP hX hU
        refine wp_seq ?_
        refine region4 [some 20, some 21, some 22, some 23, some 24, some 25, some 26, some 27, some 28, none, some 5] [Eqs (.agg #[.bool n_3, .slice a_3 m_3 c_3]), Eqs (.agg #[.bool n_7, .slice a_7 m_7 c_7]), OutW (((tp pr qr) * (tq qu))) (((Br) + 2) + ((Bu) + 2)), Eqs (.agg #[.bool n_4, .slice a_4 m_4 c_4]), Eqs (.agg #[.bool n_6, .slice a_6 m_6 c_6]), OutW (((tq qr) * (tp pu qu))) (((Br) + 2) + ((Bu) + 2)), Tup2 (Eqs (.agg #[.bool false, .slice none 0 0, .slice none 0 0])) (Eqs (.int .i64 20)), Eqs (.agg #[.bool false, .slice none 0 0, .slice none 0 0]), Eqs (.int .i64 20), (fun _ _ => True), Eqs (.int .i64 20)] [⟨R3, none, (gs1 2), 4, .agg #[.bool false, .slice none 0 0, .slice none 0 0], some (9, 27, 7), []⟩] [] (by kernel_rfl) hn rfl (by kernel_rfl) (by kernel_rfl) (by kernel_rfl) (by kernel_rfl) (by kernel_rfl) (by kernel_rfl) ⟨Eqs.mono4 _, Eqs.mono4 _, OutW.mono4 _ _, Eqs.mono4 _, Eqs.mono4 _, OutW.mono4 _ _, Tup2.mono4 (Eqs.mono4 _) (Eqs.mono4 _), Eqs.mono4 _, Eqs.mono4 _, True.mono4, Eqs.mono4 _, trivial⟩ (ok_cons R3ok ok_nil) (IsOld.all (bx := [⟨R3, none, (gs1 2), 4, .agg #[.bool false, .slice none 0 0, .slice none 0 0], some (9, 27, 7), []⟩]) ⟨fun _ => ⟨f4, b4⟩, trivial⟩) (DisOld.all (bx := [⟨R3, none, (gs1 2), 4, .agg #[.bool false, .slice none 0 0, .slice none 0 0], some (9, 27, 7), []⟩]) ⟨fun _ => trivial, trivial⟩) ?_ ?_
        · exact ⟨.norm 20 rfl rfl rfl (fun a_ w_ hn_ hBt hr hR hD hO hS => op_loadv W2ok ((hR 6 rfl).trans f6) (b6.keep hBt ⟨fun _ => ne4_6, trivial⟩)),
            .norm 21 rfl rfl rfl (fun a_ w_ hn_ hBt hr hR hD hO hS => op_loadv W2ok ((hR 9 rfl).trans f9) (b9.keep hBt ⟨fun _ => ne4_9, trivial⟩)),
            .norm 22 rfl rfl rfl (fun a_ w_ hn_ hBt hr hR hD hO hS => op_mul (isw_eq (show a_.eval (.tmp 20) = .agg #[.bool n_3, .slice a_3 m_3 c_3] from hD 0 rfl) (A3.rl hr) l3) (isw_eq (show a_.eval (.tmp 21) = .agg #[.bool n_7, .slice a_7 m_7 c_7] from hD 1 rfl) (A7.rl hr) l7) (by omega) (by omega)),
            .norm 23 rfl rfl rfl (fun a_ w_ hn_ hBt hr hR hD hO hS => op_loadv W2ok ((hR 7 rfl).trans f7) (b7.keep hBt ⟨fun _ => ne4_7, trivial⟩)),
            .norm 24 rfl rfl rfl (fun a_ w_ hn_ hBt hr hR hD hO hS => op_loadv W2ok ((hR 8 rfl).trans f8) (b8.keep hBt ⟨fun _ => ne4_8, trivial⟩)),
            .norm 25 rfl rfl rfl (fun a_ w_ hn_ hBt hr hR hD hO hS => op_mul (isw_eq (show a_.eval (.tmp 23) = .agg #[.bool n_4, .slice a_4 m_4 c_4] from hD 3 rfl) (A4.rl hr) l4) (isw_eq (show a_.eval (.tmp 24) = .agg #[.bool n_6, .slice a_6 m_6 c_6] from hD 4 rfl) (A6.rl hr) l6) (by omega) (by omega)),
            .norm 26 rfl rfl rfl (fun a_ w_ hn_ hBt hr hR hD hO hS => op_rof0 (show OutW (((tp pr qr) * (tq qu))) (((Br) + 2) + ((Bu) + 2)) (a_.eval (.tmp 22)) w_ from hD 2 rfl).is (show OutW (((tq qr) * (tp pu qu))) (((Br) + 2) + ((Bu) + 2)) (a_.eval (.tmp 25)) w_ from hD 5 rfl).is (by omega) (by rw [hu0, Int.mul_zero])),
            .norm 27 rfl rfl rfl (fun a_ w_ hn_ hBt hr hR hD hO hS => op_ex20 (show Tup2 (Eqs (.agg #[.bool false, .slice none 0 0, .slice none 0 0])) (Eqs (.int .i64 20)) (a_.eval (.tmp 26)) w_ from hD 6 rfl)),
            .norm 28 rfl rfl rfl (fun a_ w_ hn_ hBt hr hR hD hO hS => op_ex21 (show Tup2 (Eqs (.agg #[.bool false, .slice none 0 0, .slice none 0 0])) (Eqs (.int .i64 20)) (a_.eval (.tmp 26)) w_ from hD 6 rfl)),
            .store 0 _ _ _ rfl rfl rfl rfl rfl rfl rfl (fun ia h => by cases h) rfl rfl rfl (eqs_cs r3_cs),
            .norm 5 rfl rfl rfl (fun a_ w_ hn_ hBt hr hR hD hO hS => op_assign (show a_.eval (.tmp 28) = .int .i64 20 from hD 8 rfl)),
            trivial⟩
        · intro a8 w8 gs8 hn8 hd8 hBt hr hR hP hX hU
          replace hn := hn8; replace hd := hd8.trans hd
          have e27 : a8.eval (.tmp 27) = .agg #[.bool false, .slice none 0 0, .slice none 0 0] := hP 7 (by decide)
          have b4 : BoxV R3 w8 ((gs1 2)) (.agg #[.bool false, .slice none 0 0, .slice none 0 0]) := boxv_old ((hX 0 _ rfl).2.1 rfl) (hX 0 _ rfl).2.2.2 e27
          replace f4 : a8.eval (.tmp 4) = _ := (hR 4 rfl).trans f4
          have e5 : a8.eval (.tmp 5) = .int .i64 20 := hP 10 (by decide)
          have f5 := e5
          replace Ar := Ar.rl hr
          replace Sr := Sr.rl hr
          replace Dr := Dr.rl hr
          replace Au := Au.rl hr
          replace Su := Su.rl hr
          replace Du := Du.rl hr
          replace A3 := A3.rl hr
          replace A4 := A4.rl hr
          replace A6 := A6.rl hr
          replace A7 := A7.rl hr
          replace HB := HB.trans (hBt.below HB.size (UpOld.all (bx := [⟨R3, none, (gs1 2), 4, .agg #[.bool false, .slice none 0 0, .slice none 0 0], some (9, 27, 7), []⟩]) ⟨fun _ => u4, trivial⟩))
          clear hBt hr hR hP hX hU
          refine wp_ret ?_
          repeat (first | refine then_ret ?_ | refine scope_ret ?_ | refine block_ret ?_)
          exact bodyPost_ret (v := .tuple #[.agg #[.bool false, .slice none 0 0, .slice none 0 0], .int .i64 20]) (res_ct rfl f4 (lv_R3 b4) f5) hd ⟨_, rfl, ⟨_, _, rfl, rfl, rfl⟩, HB⟩

theorem has_rdiv0 : Has Try.prog 37 := by unfold Has; kernel_rfl
theorem op_rdiv0 {dst : Option Tmp} {ty : TypeId} {pos : String} {after : Array Edge} {guard : Option (Nat × Bool)} {a : Act} {w : World} {ats : Array TypeId} {i j : Nat} {Br : Nat} {pr qr : Int} (Hr : IsR pr qr Br (a.eval (.tmp i)) w) {Bu : Nat} {pu qu : Int} (Hu : IsR pu qu Bu (a.eval (.tmp j)) w) (hL : 2 * (Br + Bu + 4) ≤ 100000) (hu0 : tp pu qu = 0) :
    Does Try.prog { dst, op := .call { callee := .value (.func 37), args := #[.tmp i, .tmp j], argTypes := ats }, type := ty, pos, after, guard } a.eval w fun v w' => Below w.heap.size w w' ∧ (Tup2 (Eqs (.agg #[.bool false, .slice none 0 0, .slice none 0 0])) (Eqs (.int .i64 20))) v w' := by
  obtain ⟨nr, ar, mr, cr, rs, br, kr, dr, rt, er, Ar, Sr, Vr, Lr, Mr⟩ := Hr
  obtain ⟨nu, au, mu, cu, us, bu, ku, du, ut, eu, Au, Su, Vu, Lu, Mu⟩ := Hu
  refine does_call has_rdiv0 _ (by simp only [List.map_toArray, List.map_cons, List.map_nil, er, eu]) ((rdiv0_z w Br _ _ _ _ _ _ Ar Lr _ _ _ _ _ Sr Vr Mr Bu _ _ _ _ _ _ Au Lu _ _ _ _ _ Su Vu Mu hL hu0).mono ?_)
  rintro e w' ⟨v, rfl, h1, hb⟩
  exact ⟨_, rfl, hb, h1⟩

set_option maxRecDepth 20000 in
set_option maxHeartbeats 2000000 in
theorem rdivide_z (w : World) (Br : Nat) (nr : Bool) (ar : Option Addr) (mr cr : Nat) (rs : List Int) (pr : Int) (Ar : Ag w nr ar mr cr rs pr) (Lr : rs.length ≤ Br) (br : Option Addr) (kr dr : Nat) (rt : List Int) (qr : Int) (Sr : Sl w (.slice br kr dr) rt) (Vr : val rt = qr) (Mr : rt.length ≤ Br) (hL : Br ≤ 100000) :
    Calls Try.prog 43 #[.agg #[.bool nr, .slice ar mr cr, .slice br kr dr]] w fun e w' => ∃ v, e = .returned v ∧ (Tup2 (OutW (tp pr qr / tq qr) (Br + 6)) (OutW (tp pr qr % tq qr) (Br + 6))) v w' ∧ Below w.heap.size w w' := by
  go_enter Try.func43, Try.ntmps43
  generalize hA : (Act.mk _ _) = aa
  have hn : aa.tmps.size = 20 := by rw [← hA]; rfl
  have hd : aa.defers = [] := by rw [← hA]
  have f0 : aa.eval (.tmp 0) = .agg #[.bool nr, .slice ar mr cr, .slice br kr dr] := by rw [← hA]; rfl
  clear hA
  have HB : Below w.heap.size w w := Below.refl _ _
  have Dr : Ag w false br kr dr rt qr := ⟨Sr, Vr⟩
  refine wp_seq ?_
  refine region4 [some 1, some 2, some 3] [(fun _ _ => True), (fun _ _ => True), (fun _ _ => True)] [⟨R3, some 0, 0, 1, .agg #[.bool nr, .slice ar mr cr, .slice br kr dr], none, []⟩, ⟨W2, some 1, 0, 2, .agg #[.bool false, .slice none 0 0], none, []⟩, ⟨W2, some 2, 0, 3, .agg #[.bool false, .slice none 0 0], none, []⟩] [] (by kernel_rfl) hn rfl (by kernel_rfl) (by kernel_rfl) (by kernel_rfl) (by kernel_rfl) (by kernel_rfl) (by kernel_rfl) ⟨True.mono4, True.mono4, True.mono4, trivial⟩ (ok_cons R3ok (ok_cons W2ok (ok_cons W2ok ok_nil))) (IsOld.all (bx := [⟨R3, some 0, 0, 1, .agg #[.bool nr, .slice ar mr cr, .slice br kr dr], none, []⟩, ⟨W2, some 1, 0, 2, .agg #[.bool false, .slice none 0 0], none, []⟩, ⟨W2, some 2, 0, 3, .agg #[.bool false, .slice none 0 0], none, []⟩]) ⟨someNe, someNe, someNe, trivial⟩) (DisOld.all (bx := [⟨R3, some 0, 0, 1, .agg #[.bool nr, .slice ar mr cr, .slice br kr dr], none, []⟩, ⟨W2, some 1, 0, 2, .agg #[.bool false, .slice none 0 0], none, []⟩, ⟨W2, some 2, 0, 3, .agg #[.bool false, .slice none 0 0], none, []⟩]) ⟨someNe, someNe, someNe, trivial⟩) ?_ ?_
  · exact ⟨.alloc 0 _ rfl rfl (.inr ⟨_, rfl, r3_cs, fun a_ hR => (hR 0 rfl).trans f0⟩) rfl rfl rfl rfl rfl,
      .alloc 1 _ rfl rfl (.inl ⟨rfl, rfl⟩) rfl rfl rfl rfl rfl,
      .alloc 2 _ rfl rfl (.inl ⟨rfl, rfl⟩) rfl rfl rfl rfl rfl,
      trivial⟩
  · intro a1 w1 gs1 hn1 hd1 hBt hr hR hP hX hU
    replace hn := hn1; replace hd := hd1.trans hd
    have ne1_2 : gs1 0 ≠ gs1 1 := hU 0 1 (by simp) (by simp) (by decide)
    have ne1_3 : gs1 0 ≠ gs1 2 := hU 0 2 (by simp) (by simp) (by decide)
    have ne2_3 : gs1 1 ≠ gs1 2 := hU 1 2 (by simp) (by simp) (by decide)
    have b1 : BoxV R3 w1 (gs1 0) (.agg #[.bool nr, .slice ar mr cr, .slice br kr dr]) := (hX 0 _ rfl).2.2.2
    have f1 := (hX 0 _ rfl).1
    have u1 : w.heap.size ≤ gs1 0 := Nat.le_trans HB.size ((hX 0 _ rfl).2.2.1 (by simp))
    have b2 : BoxV W2 w1 (gs1 1) (.agg #[.bool false, .slice none 0 0]) := (hX 1 _ rfl).2.2.2
    have f2 := (hX 1 _ rfl).1
    have u2 : w.heap.size ≤ gs1 1 := Nat.le_trans HB.size ((hX 1 _ rfl).2.2.1 (by simp))
    have b3 : BoxV W2 w1 (gs1 2) (.agg #[.bool false, .slice none 0 0]) := (hX 2 _ rfl).2.2.2
    have f3 := (hX 2 _ rfl).1
    have u3 : w.heap.size ≤ gs1 2 := Nat.le_trans HB.size ((hX 2 _ rfl).2.2.1 (by simp))
    replace Ar := Ar.rl hr
    replace Sr := Sr.rl hr
    replace Dr := Dr.rl hr
    replace HB := HB.trans (hBt.below HB.size (UpOld.all (bx := [⟨R3, some 0, 0, 1, .agg #[.bool nr, .slice ar mr cr, .slice br kr dr], none, []⟩, ⟨W2, some 1, 0, 2, .agg #[.bool false, .slice none 0 0], none, []⟩, ⟨W2, some 2, 0, 3, .agg #[.bool false, .slice none 0 0], none, []⟩]) ⟨someNe, someNe, someNe, trivial⟩))
    clear hBt hr hR hP hX hU
    refine wp_seq ?_
    refine region4 [some 7, some 8, some 6, some 9, some 10, some 4, some 5, none, none] [Eqs (.agg #[.bool nr, .slice ar mr cr, .slice br kr dr]), Tup2 (IsW ((tp pr qr)) ((Br) + 2)) (IsW ((tq qr)) ((Br) + 2)), Tup2 (IsW ((tp pr qr)) ((Br) + 2)) (IsW ((tq qr)) ((Br) + 2)), IsW ((tp pr qr)) ((Br) + 2), IsW ((tq qr)) ((Br) + 2), (fun _ _ => True), (fun _ _ => True), (fun _ _ => True), (fun _ _ => True)] [⟨W2, some 5, 0, 4, .agg #[.bool false, .slice none 0 0], some (7, 9, 3), []⟩, ⟨W2, some 6, 0, 5, .agg #[.bool false, .slice none 0 0], some (8, 10, 4), []⟩] [] (by kernel_rfl) hn rfl (by kernel_rfl) (by kernel_rfl) (by kernel_rfl) (by kernel_rfl) (by kernel_rfl) (by kernel_rfl) ⟨Eqs.mono4 _, Tup2.mono4 (IsW.mono4 _ _) (IsW.mono4 _ _), Tup2.mono4 (IsW.mono4 _ _) (IsW.mono4 _ _), IsW.mono4 _ _, IsW.mono4 _ _, True.mono4, True.mono4, True.mono4, True.mono4, trivial⟩ (ok_cons W2ok (ok_cons W2ok ok_nil)) (IsOld.all (bx := [⟨W2, some 5, 0, 4, .agg #[.bool false, .slice none 0 0], some (7, 9, 3), []⟩, ⟨W2, some 6, 0, 5, .agg #[.bool false, .slice none 0 0], some (8, 10, 4), []⟩]) ⟨someNe, someNe, trivial⟩) (DisOld.all (bx := [⟨W2, some 5, 0, 4, .agg #[.bool false, .slice none 0 0], some (7, 9, 3), []⟩, ⟨W2, some 6, 0, 5, .agg #[.bool false, .slice none 0 0], some (8, 10, 4), []⟩]) ⟨someNe, someNe, trivial⟩) ?_ ?_
    · exact ⟨.norm 7 rfl rfl rfl (fun a_ w_ hn_ hBt hr hR hD hO hS => op_loadv R3ok ((hR 1 rfl).trans f1) (b1.keep hBt ⟨someNe, someNe, trivial⟩)),
        .norm 8 rfl rfl rfl (fun a_ w_ hn_ hBt hr hR hD hO hS => op_terms (isr_eq (show a_.eval (.tmp 7) = .agg #[.bool nr, .slice ar mr cr, .slice br kr dr] from hD 0 rfl) (Ar.rl hr) (Sr.rl hr) Vr Lr Mr) (by omega)),
        .norm 6 rfl rfl rfl (fun a_ w_ hn_ hBt hr hR hD hO hS => op_mvp (p := Tup2 (IsW ((tp pr qr)) ((Br) + 2)) (IsW ((tq qr)) ((Br) + 2))) (show Tup2 (IsW ((tp pr qr)) ((Br) + 2)) (IsW ((tq qr)) ((Br) + 2)) (a_.eval (.tmp 8)) w_ from hD 1 rfl)),
        .norm 9 rfl rfl rfl (fun a_ w_ hn_ hBt hr hR hD hO hS => op_ex20 (show Tup2 (IsW ((tp pr qr)) ((Br) + 2)) (IsW ((tq qr)) ((Br) + 2)) (a_.eval (.tmp 6)) w_ from hD 2 rfl)),
        .norm 10 rfl rfl rfl (fun a_ w_ hn_ hBt hr hR hD hO hS => op_ex21 (show Tup2 (IsW ((tp pr qr)) ((Br) + 2)) (IsW ((tq qr)) ((Br) + 2)) (a_.eval (.tmp 6)) w_ from hD 2 rfl)),
        .alloc 0 _ rfl rfl (.inl ⟨rfl, rfl⟩) rfl rfl rfl rfl rfl,
        .alloc 1 _ rfl rfl (.inl ⟨rfl, rfl⟩) rfl rfl rfl rfl rfl,
        .store 0 _ _ _ rfl rfl rfl rfl rfl rfl rfl (fun ia h => by cases h; rfl) rfl rfl rfl IsW.cs,
        .store 1 _ _ _ rfl rfl rfl rfl rfl rfl rfl (fun ia h => by cases h; rfl) rfl rfl rfl IsW.cs,
        trivial⟩
    · intro a2 w2 gs2 hn2 hd2 hBt hr hR hP hX hU
      replace hn := hn2; replace hd := hd2.trans hd
      have ne2_4 : (gs1 1) ≠ gs2 0 := by have h1 := b2.lt; have h2 := (hX 0 _ rfl).2.2.1 (by simp); omega
      have ne3_4 : (gs1 2) ≠ gs2 0 := by have h1 := b3.lt; have h2 := (hX 0 _ rfl).2.2.1 (by simp); omega
      have ne2_5 : (gs1 1) ≠ gs2 1 := by have h1 := b2.lt; have h2 := (hX 1 _ rfl).2.2.1 (by simp); omega
      have ne3_5 : (gs1 2) ≠ gs2 1 := by have h1 := b3.lt; have h2 := (hX 1 _ rfl).2.2.1 (by simp); omega
      replace b2 := b2.keep hBt ⟨someNe, someNe, trivial⟩
      replace b3 := b3.keep hBt ⟨someNe, someNe, trivial⟩
      obtain ⟨n_3, a_3, m_3, c_3, r_3, e9, A3, l3⟩ : IsW ((tp pr qr)) ((Br) + 2) (a2.eval (.tmp 9)) w2 := hP 3 (by decide)
      have b4 : BoxV W2 w2 (gs2 0) (.agg #[.bool n_3, .slice a_3 m_3 c_3]) := boxv_of (hX 0 _ rfl).2.2.2 e9
      have f4 := (hX 0 _ rfl).1
      have u4 : w.heap.size ≤ gs2 0 := Nat.le_trans HB.size ((hX 0 _ rfl).2.2.1 (by simp))
      obtain ⟨n_4, a_4, m_4, c_4, r_4, e10, A4, l4⟩ : IsW ((tq qr)) ((Br) + 2) (a2.eval (.tmp 10)) w2 := hP 4 (by decide)
      have b5 : BoxV W2 w2 (gs2 1) (.agg #[.bool n_4, .slice a_4 m_4 c_4]) := boxv_of (hX 1 _ rfl).2.2.2 e10
      have f5 := (hX 1 _ rfl).1
      have u5 : w.heap.size ≤ gs2 1 := Nat.le_trans HB.size ((hX 1 _ rfl).2.2.1 (by simp))
      replace f2 := (hR 2 rfl).trans f2
      replace f3 := (hR 3 rfl).trans f3
      replace Ar := Ar.rl hr
      replace Sr := Sr.rl hr
      replace Dr := Dr.rl hr
      replace HB := HB.trans (hBt.below HB.size (UpOld.all (bx := [⟨W2, some 5, 0, 4, .agg #[.bool false, .slice none 0 0], some (7, 9, 3), []⟩, ⟨W2, some 6, 0, 5, .agg #[.bool false, .slice none 0 0], some (8, 10, 4), []⟩]) ⟨someNe, someNe, trivial⟩))
      clear hBt hr hR hP hX hU
      refine wp_seq ?_
      refine region4 [some 12, some 13, some 14, some 11, some 15, some 16, some 17, none, none] [Eqs (.agg #[.bool n_3, .slice a_3 m_3 c_3]), Eqs (.agg #[.bool n_4, .slice a_4 m_4 c_4]), Tup3 (OutW (((tp pr qr) / (tq qr))) (((Br) + 2) + 4)) (OutW (((tp pr qr) % (tq qr))) ((Br) + 2)) (Eqs (.bool true)), Tup3 (OutW (((tp pr qr) / (tq qr))) (((Br) + 2) + 4)) (OutW (((tp pr qr) % (tq qr))) ((Br) + 2)) (Eqs (.bool true)), OutW (((tp pr qr) / (tq qr))) (((Br) + 2) + 4), OutW (((tp pr qr) % (tq qr))) ((Br) + 2), Eqs (.bool true), (fun _ _ => True), (fun _ _ => True)] [⟨W2, none, (gs1 1), 2, .agg #[.bool false, .slice none 0 0], some (7, 15, 4), []⟩, ⟨W2, none, (gs1 2), 3, .agg #[.bool false, .slice none 0 0], some (8, 16, 5), []⟩] [] (by kernel_rfl) hn rfl (by kernel_rfl) (by kernel_rfl) (by kernel_rfl) (by kernel_rfl) (by kernel_rfl) (by kernel_rfl) ⟨Eqs.mono4 _, Eqs.mono4 _, Tup3.mono4 (OutW.mono4 _ _) (OutW.mono4 _ _) (Eqs.mono4 _), Tup3.mono4 (OutW.mono4 _ _) (OutW.mono4 _ _) (Eqs.mono4 _), OutW.mono4 _ _, OutW.mono4 _ _, Eqs.mono4 _, True.mono4, True.mono4, trivial⟩ (ok_cons W2ok (ok_cons W2ok ok_nil)) (IsOld.all (bx := [⟨W2, none, (gs1 1), 2, .agg #[.bool false, .slice none 0 0], some (7, 15, 4), []⟩, ⟨W2, none, (gs1 2), 3, .agg #[.bool false, .slice none 0 0], some (8, 16, 5), []⟩]) ⟨fun _ => ⟨f2, b2⟩, fun _ => ⟨f3, b3⟩, trivial⟩) (DisOld.all (bx := [⟨W2, none, (gs1 1), 2, .agg #[.bool false, .slice none 0 0], some (7, 15, 4), []⟩, ⟨W2, none, (gs1 2), 3, .agg #[.bool false, .slice none 0 0], some (8, 16, 5), []⟩]) ⟨fun _ => ⟨fun _ => ne2_3.symm, trivial⟩, fun _ => trivial, trivial⟩) ?_ ?_
      · exact ⟨.norm 12 rfl rfl rfl (fun a_ w_ hn_ hBt hr hR hD hO hS => op_loadv W2ok ((hR 4 rfl).trans f4) (b4.keep hBt ⟨fun _ => ne2_4, fun _ => ne3_4, trivial⟩)),
          .norm 13 rfl rfl rfl (fun a_ w_ hn_ hBt hr hR hD hO hS => op_loadv W2ok ((hR 5 rfl).trans f5) (b5.keep hBt ⟨fun _ => ne2_5, fun _ => ne3_5, trivial⟩)),
          .norm 14 rfl rfl rfl (fun a_ w_ hn_ hBt hr hR hD hO hS => op_wdiv (isw_eq (show a_.eval (.tmp 12) = .agg #[.bool n_3, .slice a_3 m_3 c_3] from hD 0 rfl) (A3.rl hr) l3) (isw_eq (show a_.eval (.tmp 13) = .agg #[.bool n_4, .slice a_4 m_4 c_4] from hD 1 rfl) (A4.rl hr) l4) (by omega) (by omega) (tq_ne _)),
          .norm 11 rfl rfl rfl (fun a_ w_ hn_ hBt hr hR hD hO hS => op_mvp (p := Tup3 (OutW (((tp pr qr) / (tq qr))) (((Br) + 2) + 4)) (OutW (((tp pr qr) % (tq qr))) ((Br) + 2)) (Eqs (.bool true))) (show Tup3 (OutW (((tp pr qr) / (tq qr))) (((Br) + 2) + 4)) (OutW (((tp pr qr) % (tq qr))) ((Br) + 2)) (Eqs (.bool true)) (a_.eval (.tmp 14)) w_ from hD 2 rfl)),
          .norm 15 rfl rfl rfl (fun a_ w_ hn_ hBt hr hR hD hO hS => op_ex30 (show Tup3 (OutW (((tp pr qr) / (tq qr))) (((Br) + 2) + 4)) (OutW (((tp pr qr) % (tq qr))) ((Br) + 2)) (Eqs (.bool true)) (a_.eval (.tmp 11)) w_ from hD 3 rfl)),
          .norm 16 rfl rfl rfl (fun a_ w_ hn_ hBt hr hR hD hO hS => op_ex31 (show Tup3 (OutW (((tp pr qr) / (tq qr))) (((Br) + 2) + 4)) (OutW (((tp pr qr) % (tq qr))) ((Br) + 2)) (Eqs (.bool true)) (a_.eval (.tmp 11)) w_ from hD 3 rfl)),
          .norm 17 rfl rfl rfl (fun a_ w_ hn_ hBt hr hR hD hO hS => op_ex32 (show Tup3 (OutW (((tp pr qr) / (tq qr))) (((Br) + 2) + 4)) (OutW (((tp pr qr) % (tq qr))) ((Br) + 2)) (Eqs (.bool true)) (a_.eval (.tmp 11)) w_ from hD 3 rfl)),
          .store 0 _ _ _ rfl rfl rfl rfl rfl rfl rfl (fun ia h => by cases h) rfl rfl rfl OutW.cs,
          .store 1 _ _ _ rfl rfl rfl rfl rfl rfl rfl (fun ia h => by cases h) rfl rfl rfl OutW.cs,
          trivial⟩
      · intro a5 w5 gs5 hn5 hd5 hBt hr hR hP hX hU
        replace hn := hn5; replace hd := hd5.trans hd
        obtain ⟨n_6, a_6, c_6, r_6, e15, G6, l6⟩ : OutW (((tp pr qr) / (tq qr))) (((Br) + 2) + 4) (a5.eval (.tmp 15)) w5 := hP 4 (by decide)
        have A6 := G6.ag
        have b2 : BoxV W2 w5 ((gs1 1)) (.agg #[.bool n_6, .slice a_6 r_6.length c_6]) := boxv_old ((hX 0 _ rfl).2.1 rfl) (hX 0 _ rfl).2.2.2 e15
        replace f2 : a5.eval (.tmp 2) = _ := (hR 2 rfl).trans f2
        obtain ⟨n_7, a_7, c_7, r_7, e16, G7, l7⟩ : OutW (((tp pr qr) % (tq qr))) ((Br) + 2) (a5.eval (.tmp 16)) w5 := hP 5 (by decide)
        have A7 := G7.ag
        have b3 : BoxV W2 w5 ((gs1 2)) (.agg #[.bool n_7, .slice a_7 r_7.length c_7]) := boxv_old ((hX 1 _ rfl).2.1 rfl) (hX 1 _ rfl).2.2.2 e16
        replace f3 : a5.eval (.tmp 3) = _ := (hR 3 rfl).trans f3
        replace Ar := Ar.rl hr
        replace Sr := Sr.rl hr
        replace Dr := Dr.rl hr
        replace A3 := A3.rl hr
        replace A4 := A4.rl hr
        replace HB := HB.trans (hBt.below HB.size (UpOld.all (bx := [⟨W2, none, (gs1 1), 2, .agg #[.bool false, .slice none 0 0], some (7, 15, 4), []⟩, ⟨W2, none, (gs1 2), 3, .agg #[.bool false, .slice none 0 0], some (8, 16, 5), []⟩]) ⟨fun _ => u2, fun _ => u3, trivial⟩))
        clear hBt hr hR hP hX hU
        refine wp_seq ?_
        refine region4 [some 18, some 19, none, none] [Eqs (.agg #[.bool n_6, .slice a_6 r_6.length c_6]), Eqs (.agg #[.bool n_7, .slice a_7 r_7.length c_7]), (fun _ _ => True), (fun _ _ => True)] [⟨W2, none, (gs1 1), 2, .agg #[.bool n_6, .slice a_6 r_6.length c_6], some (2, 18, 0), [0]⟩, ⟨W2, none, (gs1 2), 3, .agg #[.bool n_7, .slice a_7 r_7.length c_7], some (3, 19, 1), [1]⟩] [] (by kernel_rfl) hn rfl (by kernel_rfl) (by kernel_rfl) (by kernel_rfl) (by kernel_rfl) (by kernel_rfl) (by kernel_rfl) ⟨Eqs.mono4 _, Eqs.mono4 _, True.mono4, True.mono4, trivial⟩ (ok_cons W2ok (ok_cons W2ok ok_nil)) (IsOld.all (bx := [⟨W2, none, (gs1 1), 2, .agg #[.bool n_6, .slice a_6 r_6.length c_6], some (2, 18, 0), [0]⟩, ⟨W2, none, (gs1 2), 3, .agg #[.bool n_7, .slice a_7 r_7.length c_7], some (3, 19, 1), [1]⟩]) ⟨fun _ => ⟨f2, b2⟩, fun _ => ⟨f3, b3⟩, trivial⟩) (DisOld.all (bx := [⟨W2, none, (gs1 1), 2, .agg #[.bool n_6, .slice a_6 r_6.length c_6], some (2, 18, 0), [0]⟩, ⟨W2, none, (gs1 2), 3, .agg #[.bool n_7, .slice a_7 r_7.length c_7], some (3, 19, 1), [1]⟩]) ⟨fun _ => ⟨fun _ => ne2_3.symm, trivial⟩, fun _ => trivial, trivial⟩) ?_ ?_
        · exact ⟨.norm 18 rfl rfl rfl (fun a_ w_ hn_ hBt hr hR hD hO hS => op_loadv W2ok ((hR 2 rfl).trans f2) (hO 0 _ rfl rfl rfl)),
            .norm 19 rfl rfl rfl (fun a_ w_ hn_ hBt hr hR hD hO hS => op_loadv W2ok ((hR 3 rfl).trans f3) (hO 1 _ rfl rfl rfl)),
            .store 0 _ _ _ rfl rfl rfl rfl rfl rfl rfl (fun ia h => by cases h) rfl rfl rfl (eqs_cs w2_cs),
            .store 1 _ _ _ rfl rfl rfl rfl rfl rfl rfl (fun ia h => by cases h) rfl rfl rfl (eqs_cs w2_cs),
            trivial⟩
        · intro a8 w8 gs8 hn8 hd8 hBt hr hR hP hX hU
          replace hn := hn8; replace hd := hd8.trans hd
          have e18 : a8.eval (.tmp 18) = .agg #[.bool n_6, .slice a_6 r_6.length c_6] := hP 0 (by decide)
          have b2 : BoxV W2 w8 ((gs1 1)) (.agg #[.bool n_6, .slice a_6 r_6.length c_6]) := boxv_old ((hX 0 _ rfl).2.1 rfl) (hX 0 _ rfl).2.2.2 e18
          replace f2 : a8.eval (.tmp 2) = _ := (hR 2 rfl).trans f2
          have e19 : a8.eval (.tmp 19) = .agg #[.bool n_7, .slice a_7 r_7.length c_7] := hP 1 (by decide)
          have b3 : BoxV W2 w8 ((gs1 2)) (.agg #[.bool n_7, .slice a_7 r_7.length c_7]) := boxv_old ((hX 1 _ rfl).2.1 rfl) (hX 1 _ rfl).2.2.2 e19
          replace f3 : a8.eval (.tmp 3) = _ := (hR 3 rfl).trans f3
          replace Ar := Ar.rl hr
          replace Sr := Sr.rl hr
          replace Dr := Dr.rl hr
          replace A3 := A3.rl hr
          replace A4 := A4.rl hr
          replace G6 := G6.rl hr
          replace A6 := A6.rl hr
          replace G7 := G7.rl hr
          replace A7 := A7.rl hr
          replace HB := HB.trans (hBt.below HB.size (UpOld.all (bx := [⟨W2, none, (gs1 1), 2, .agg #[.bool n_6, .slice a_6 r_6.length c_6], some (2, 18, 0), [0]⟩, ⟨W2, none, (gs1 2), 3, .agg #[.bool n_7, .slice a_7 r_7.length c_7], some (3, 19, 1), [1]⟩]) ⟨fun _ => u2, fun _ => u3, trivial⟩))
          clear hBt hr hR hP hX hU
          refine wp_ret ?_
          repeat (first | refine then_ret ?_ | refine scope_ret ?_ | refine block_ret ?_)
          exact bodyPost_ret (v := .tuple #[.agg #[.bool n_6, .slice a_6 r_6.length c_6], .agg #[.bool n_7, .slice a_7 r_7.length c_7]]) (res_cc rfl f2 (lv_W2 b2) f3 (lv_W2 b3)) hd ⟨_, rfl, ⟨_, _, rfl, OutW.to (outw_eq rfl G6 l6) rfl (by omega), OutW.to (outw_eq rfl G7 l7) rfl (by omega)⟩, HB⟩

theorem has_rdivide : Has Try.prog 43 := by unfold Has; kernel_rfl
theorem op_rdivide {dst : Option Tmp} {ty : TypeId} {pos : String} {after : Array Edge} {guard : Option (Nat × Bool)} {a : Act} {w : World} {ats : Array TypeId} {i : Nat} {Br : Nat} {pr qr : Int} (Hr : IsR pr qr Br (a.eval (.tmp i)) w) (hL : Br ≤ 100000) :
    Does Try.prog { dst, op := .call { callee := .value (.func 43), args := #[.tmp i], argTypes := ats }, type := ty, pos, after, guard } a.eval w fun v w' => Below w.heap.size w w' ∧ (Tup2 (OutW (tp pr qr / tq qr) (Br + 6)) (OutW (tp pr qr % tq qr) (Br + 6))) v w' := by
  obtain ⟨nr, ar, mr, cr, rs, br, kr, dr, rt, er, Ar, Sr, Vr, Lr, Mr⟩ := Hr
  refine does_call has_rdivide _ (by simp only [List.map_toArray, List.map_cons, List.map_nil, er]) ((rdivide_z w Br _ _ _ _ _ _ Ar Lr _ _ _ _ _ Sr Vr Mr hL).mono ?_)
  rintro e w' ⟨v, rfl, h1, hb⟩
  exact ⟨_, rfl, hb, h1⟩

set_option maxRecDepth 20000 in
set_option maxHeartbeats 2000000 in
theorem rfloor_z (w : World) (Br : Nat) (nr : Bool) (ar : Option Addr) (mr cr : Nat) (rs : List Int) (pr : Int) (Ar : Ag w nr ar mr cr rs pr) (Lr : rs.length ≤ Br) (br : Option Addr) (kr dr : Nat) (rt : List Int) (qr : Int) (Sr : Sl w (.slice br kr dr) rt) (Vr : val rt = qr) (Mr : rt.length ≤ Br) (hL : Br ≤ 100000) :
    Calls Try.prog 10 #[.agg #[.bool nr, .slice ar mr cr, .slice br kr dr]] w fun e w' => ∃ v, e = .returned v ∧ (OutW (tp pr qr / tq qr) (Br + 6)) v w' ∧ Below w.heap.size w w' := by
  go_enter Try.func10, Try.ntmps10
  generalize hA : (Act.mk _ _) = aa
  have hn : aa.tmps.size = 11 := by rw [← hA]; rfl
  have hd : aa.defers = [] := by rw [← hA]
  have f0 : aa.eval (.tmp 0) = .agg #[.bool nr, .slice ar mr cr, .slice br kr dr] := by rw [← hA]; rfl
  clear hA
  have HB : Below w.heap.size w w := Below.refl _ _
  have Dr : Ag w false br kr dr rt qr := ⟨Sr, Vr⟩
  refine wp_seq ?_
  refine region4 [some 1, some 2] [(fun _ _ => True), (fun _ _ => True)] [⟨R3, some 0, 0, 1, .agg #[.bool nr, .slice ar mr cr, .slice br kr dr], none, []⟩, ⟨W2, some 1, 0, 2, .agg #[.bool false, .slice none 0 0], none, []⟩] [] (by kernel_rfl) hn rfl (by kernel_rfl) (by kernel_rfl) (by kernel_rfl) (by kernel_rfl) (by kernel_rfl) (by kernel_rfl) ⟨True.mono4, True.mono4, trivial⟩ (ok_cons R3ok (ok_cons W2ok ok_nil)) (IsOld.all (bx := [⟨R3, some 0, 0, 1, .agg #[.bool nr, .slice ar mr cr, .slice br kr dr], none, []⟩, ⟨W2, some 1, 0, 2, .agg #[.bool false, .slice none 0 0], none, []⟩]) ⟨someNe, someNe, trivial⟩) (DisOld.all (bx := [⟨R3, some 0, 0, 1, .agg #[.bool nr, .slice ar mr cr, .slice br kr dr], none, []⟩, ⟨W2, some 1, 0, 2, .agg #[.bool false, .slice none 0 0], none, []⟩]) ⟨someNe, someNe, trivial⟩) ?_ ?_
  · exact ⟨.alloc 0 _ rfl rfl (.inr ⟨_, rfl, r3_cs, fun a_ hR => (hR 0 rfl).trans f0⟩) rfl rfl rfl rfl rfl,
      .alloc 1 _ rfl rfl (.inl ⟨rfl, rfl⟩) rfl rfl rfl rfl rfl,
      trivial⟩
  · intro a1 w1 gs1 hn1 hd1 hBt hr hR hP hX hU
    replace hn := hn1; replace hd := hd1.trans hd
    have ne1_2 : gs1 0 ≠ gs1 1 := hU 0 1 (by simp) (by simp) (by decide)
    have b1 : BoxV R3 w1 (gs1 0) (.agg #[.bool nr, .slice ar mr cr, .slice br kr dr]) := (hX 0 _ rfl).2.2.2
    have f1 := (hX 0 _ rfl).1
    have u1 : w.heap.size ≤ gs1 0 := Nat.le_trans HB.size ((hX 0 _ rfl).2.2.1 (by simp))
    have b2 : BoxV W2 w1 (gs1 1) (.agg #[.bool false, .slice none 0 0]) := (hX 1 _ rfl).2.2.2
    have f2 := (hX 1 _ rfl).1
    have u2 : w.heap.size ≤ gs1 1 := Nat.le_trans HB.size ((hX 1 _ rfl).2.2.1 (by simp))
    replace Ar := Ar.rl hr
    replace Sr := Sr.rl hr
    replace Dr := Dr.rl hr
    replace HB := HB.trans (hBt.below HB.size (UpOld.all (bx := [⟨R3, some 0, 0, 1, .agg #[.bool nr, .slice ar mr cr, .slice br kr dr], none, []⟩, ⟨W2, some 1, 0, 2, .agg #[.bool false, .slice none 0 0], none, []⟩]) ⟨someNe, someNe, trivial⟩))
    clear hBt hr hR hP hX hU
    refine wp_seq ?_
    refine region4 [some 6, some 7, some 5, some 8, some 9, some 3, some 4, none, none] [Eqs (.agg #[.bool nr, .slice ar mr cr, .slice br kr dr]), Tup2 (OutW ((tp pr qr / tq qr)) ((Br) + 6)) (OutW ((tp pr qr % tq qr)) ((Br) + 6)), Tup2 (OutW ((tp pr qr / tq qr)) ((Br) + 6)) (OutW ((tp pr qr % tq qr)) ((Br) + 6)), OutW ((tp pr qr / tq qr)) ((Br) + 6), OutW ((tp pr qr % tq qr)) ((Br) + 6), (fun _ _ => True), (fun _ _ => True), (fun _ _ => True), (fun _ _ => True)] [⟨W2, some 5, 0, 3, .agg #[.bool false, .slice none 0 0], some (7, 8, 3), []⟩, ⟨W2, some 6, 0, 4, .agg #[.bool false, .slice none 0 0], some (8, 9, 4), []⟩] [] (by kernel_rfl) hn rfl (by kernel_rfl) (by kernel_rfl) (by kernel_rfl) (by kernel_rfl) (by kernel_rfl) (by kernel_rfl) ⟨Eqs.mono4 _, Tup2.mono4 (OutW.mono4 _ _) (OutW.mono4 _ _), Tup2.mono4 (OutW.mono4 _ _) (OutW.mono4 _ _), OutW.mono4 _ _, OutW.mono4 _ _, True.mono4, True.mono4, True.mono4, True.mono4, trivial⟩ (ok_cons W2ok (ok_cons W2ok ok_nil)) (IsOld.all (bx := [⟨W2, some 5, 0, 3, .agg #[.bool false, .slice none 0 0], some (7, 8, 3), []⟩, ⟨W2, some 6, 0, 4, .agg #[.bool false, .slice none 0 0], some (8, 9, 4), []⟩]) ⟨someNe, someNe, trivial⟩) (DisOld.all (bx := [⟨W2, some 5, 0, 3, .agg #[.bool false, .slice none 0 0], some (7, 8, 3), []⟩, ⟨W2, some 6, 0, 4, .agg #[.bool false, .slice none 0 0], some (8, 9, 4), []⟩]) ⟨someNe, someNe, trivial⟩) ?_ ?_
    · exact ⟨.norm 6 rfl rfl rfl (fun a_ w_ hn_ hBt hr hR hD hO hS => op_loadv R3ok ((hR 1 rfl).trans f1) (b1.keep hBt ⟨someNe, someNe, trivial⟩)),
        .norm 7 rfl rfl rfl (fun a_ w_ hn_ hBt hr hR hD hO hS => op_rdivide (isr_eq (show a_.eval (.tmp 6) = .agg #[.bool nr, .slice ar mr cr, .slice br kr dr] from hD 0 rfl) (Ar.rl hr) (Sr.rl hr) Vr Lr Mr) (by omega)),
        .norm 5 rfl rfl rfl (fun a_ w_ hn_ hBt hr hR hD hO hS => op_mvp (p := Tup2 (OutW ((tp pr qr / tq qr)) ((Br) + 6)) (OutW ((tp pr qr % tq qr)) ((Br) + 6))) (show Tup2 (OutW ((tp pr qr / tq qr)) ((Br) + 6)) (OutW ((tp pr qr % tq qr)) ((Br) + 6)) (a_.eval (.tmp 7)) w_ from hD 1 rfl)),
        .norm 8 rfl rfl rfl (fun a_ w_ hn_ hBt hr hR hD hO hS => op_ex20 (show Tup2 (OutW ((tp pr qr / tq qr)) ((Br) + 6)) (OutW ((tp pr qr % tq qr)) ((Br) + 6)) (a_.eval (.tmp 5)) w_ from hD 2 rfl)),
        .norm 9 rfl rfl rfl (fun a_ w_ hn_ hBt hr hR hD hO hS => op_ex21 (show Tup2 (OutW ((tp pr qr / tq qr)) ((Br) + 6)) (OutW ((tp pr qr % tq qr)) ((Br) + 6)) (a_.eval (.tmp 5)) w_ from hD 2 rfl)),
        .alloc 0 _ rfl rfl (.inl ⟨rfl, rfl⟩) rfl rfl rfl rfl rfl,
        .alloc 1 _ rfl rfl (.inl ⟨rfl, rfl⟩) rfl rfl rfl rfl rfl,
        .store 0 _ _ _ rfl rfl rfl rfl rfl rfl rfl (fun ia h => by cases h; rfl) rfl rfl rfl OutW.cs,
        .store 1 _ _ _ rfl rfl rfl rfl rfl rfl rfl (fun ia h => by cases h; rfl) rfl rfl rfl OutW.cs,
        trivial⟩
    · intro a2 w2 gs2 hn2 hd2 hBt hr hR hP hX hU
      replace hn := hn2; replace hd := hd2.trans hd
      have ne2_3 : (gs1 1) ≠ gs2 0 := by have h1 := b2.lt; have h2 := (hX 0 _ rfl).2.2.1 (by simp); omega
      replace b2 := b2.keep hBt ⟨someNe, someNe, trivial⟩
      obtain ⟨n_3, a_3, c_3, r_3, e8, G3, l3⟩ : OutW ((tp pr qr / tq qr)) ((Br) + 6) (a2.eval (.tmp 8)) w2 := hP 3 (by decide)
      have A3 := G3.ag
      have b3 : BoxV W2 w2 (gs2 0) (.agg #[.bool n_3, .slice a_3 r_3.length c_3]) := boxv_of (hX 0 _ rfl).2.2.2 e8
      have f3 := (hX 0 _ rfl).1
      have u3 : w.heap.size ≤ gs2 0 := Nat.le_trans HB.size ((hX 0 _ rfl).2.2.1 (by simp))
      replace f2 := (hR 2 rfl).trans f2
      replace Ar := Ar.rl hr
      replace Sr := Sr.rl hr
      replace Dr := Dr.rl hr
      replace HB := HB.trans (hBt.below HB.size (UpOld.all (bx := [⟨W2, some 5, 0, 3, .agg #[.bool false, .slice none 0 0], some (7, 8, 3), []⟩, ⟨W2, some 6, 0, 4, .agg #[.bool false, .slice none 0 0], some (8, 9, 4), []⟩]) ⟨someNe, someNe, trivial⟩))
      clear hBt hr hR hP hX hU
      refine wp_seq ?_
      refine region4 [some 10, none] [Eqs (.agg #[.bool n_3, .slice a_3 r_3.length c_3]), (fun _ _ => True)] [⟨W2, none, (gs1 1), 2, .agg #[.bool false, .slice none 0 0], some (1, 10, 0), []⟩] [] (by kernel_rfl) hn rfl (by kernel_rfl) (by kernel_rfl) (by kernel_rfl) (by kernel_rfl) (by kernel_rfl) (by kernel_rfl) ⟨Eqs.mono4 _, True.mono4, trivial⟩ (ok_cons W2ok ok_nil) (IsOld.all (bx := [⟨W2, none, (gs1 1), 2, .agg #[.bool false, .slice none 0 0], some (1, 10, 0), []⟩]) ⟨fun _ => ⟨f2, b2⟩, trivial⟩) (DisOld.all (bx := [⟨W2, none, (gs1 1), 2, .agg #[.bool false, .slice none 0 0], some (1, 10, 0), []⟩]) ⟨fun _ => trivial, trivial⟩) ?_ ?_
      · exact ⟨.norm 10 rfl rfl rfl (fun a_ w_ hn_ hBt hr hR hD hO hS => op_loadv W2ok ((hR 3 rfl).trans f3) (b3.keep hBt ⟨fun _ => ne2_3, trivial⟩)),
          .store 0 _ _ _ rfl rfl rfl rfl rfl rfl rfl (fun ia h => by cases h) rfl rfl rfl (eqs_cs w2_cs),
          trivial⟩
      · intro a4 w4 gs4 hn4 hd4 hBt hr hR hP hX hU
        replace hn := hn4; replace hd := hd4.trans hd
        have e10 : a4.eval (.tmp 10) = .agg #[.bool n_3, .slice a_3 r_3.length c_3] := hP 0 (by decide)
        have b2 : BoxV W2 w4 ((gs1 1)) (.agg #[.bool n_3, .slice a_3 r_3.length c_3]) := boxv_old ((hX 0 _ rfl).2.1 rfl) (hX 0 _ rfl).2.2.2 e10
        replace f2 : a4.eval (.tmp 2) = _ := (hR 2 rfl).trans f2
        replace Ar := Ar.rl hr
        replace Sr := Sr.rl hr
        replace Dr := Dr.rl hr
        replace G3 := G3.rl hr
        replace A3 := A3.rl hr
        replace HB := HB.trans (hBt.below HB.size (UpOld.all (bx := [⟨W2, none, (gs1 1), 2, .agg #[.bool false, .slice none 0 0], some (1, 10, 0), []⟩]) ⟨fun _ => u2, trivial⟩))
        clear hBt hr hR hP hX hU
        refine wp_ret ?_
        repeat (first | refine then_ret ?_ | refine scope_ret ?_ | refine block_ret ?_)
        exact bodyPost_ret (v := .agg #[.bool n_3, .slice a_3 r_3.length c_3]) (res_c rfl f2 (lv_W2 b2)) hd ⟨_, rfl, OutW.to (outw_eq rfl G3 l3) rfl (by omega), HB⟩

theorem has_rfloor : Has Try.prog 10 := by unfold Has; kernel_rfl
theorem op_rfloor {dst : Option Tmp} {ty : TypeId} {pos : String} {after : Array Edge} {guard : Option (Nat × Bool)} {a : Act} {w : World} {ats : Array TypeId} {i : Nat} {Br : Nat} {pr qr : Int} (Hr : IsR pr qr Br (a.eval (.tmp i)) w) (hL : Br ≤ 100000) :
    Does Try.prog { dst, op := .call { callee := .value (.func 10), args := #[.tmp i], argTypes := ats }, type := ty, pos, after, guard } a.eval w fun v w' => Below w.heap.size w w' ∧ (OutW (tp pr qr / tq qr) (Br + 6)) v w' := by
  obtain ⟨nr, ar, mr, cr, rs, br, kr, dr, rt, er, Ar, Sr, Vr, Lr, Mr⟩ := Hr
  refine does_call has_rfloor _ (by simp only [List.map_toArray, List.map_cons, List.map_nil, er]) ((rfloor_z w Br _ _ _ _ _ _ Ar Lr _ _ _ _ _ Sr Vr Mr hL).mono ?_)
  rintro e w' ⟨v, rfl, h1, hb⟩
  exact ⟨_, rfl, hb, h1⟩

set_option maxRecDepth 20000 in
set_option maxHeartbeats 2000000 in
theorem rwhole_z (w : World) (Br : Nat) (nr : Bool) (ar : Option Addr) (mr cr : Nat) (rs : List Int) (pr : Int) (Ar : Ag w nr ar mr cr rs pr) (Lr : rs.length ≤ Br) (br : Option Addr) (kr dr : Nat) (rt : List Int) (qr : Int) (Sr : Sl w (.slice br kr dr) rt) (Vr : val rt = qr) (Mr : rt.length ≤ Br) (hL : Br ≤ 100000) (h0 : tp pr qr % tq qr = 0) :
    Calls Try.prog 12 #[.agg #[.bool nr, .slice ar mr cr, .slice br kr dr]] w fun e w' => ∃ v, e = .returned v ∧ (Tup2 (OutW (tp pr qr / tq qr) (Br + 6)) (Eqs (.bool true))) v w' ∧ Below w.heap.size w w' := by
  go_enter Try.func12, Try.ntmps12
  generalize hA : (Act.mk _ _) = aa
  have hn : aa.tmps.size = 16 := by rw [← hA]; rfl
  have hd : aa.defers = [] := by rw [← hA]
  have f0 : aa.eval (.tmp 0) = .agg #[.bool nr, .slice ar mr cr, .slice br kr dr] := by rw [← hA]; rfl
  clear hA
  have HB : Below w.heap.size w w := Below.refl _ _
  have Dr : Ag w false br kr dr rt qr := ⟨Sr, Vr⟩
  refine wp_seq ?_
  refine region4 [some 1, some 2, some 3] [(fun _ _ => True), (fun _ _ => True), Eqs ((.bool false))] [⟨R3, some 0, 0, 1, .agg #[.bool nr, .slice ar mr cr, .slice br kr dr], none, []⟩, ⟨W2, some 1, 0, 2, .agg #[.bool false, .slice none 0 0], none, []⟩] [] (by kernel_rfl) hn rfl (by kernel_rfl) (by kernel_rfl) (by kernel_rfl) (by kernel_rfl) (by kernel_rfl) (by kernel_rfl) ⟨True.mono4, True.mono4, Eqs.mono4 _, trivial⟩ (ok_cons R3ok (ok_cons W2ok ok_nil)) (IsOld.all (bx := [⟨R3, some 0, 0, 1, .agg #[.bool nr, .slice ar mr cr, .slice br kr dr], none, []⟩, ⟨W2, some 1, 0, 2, .agg #[.bool false, .slice none 0 0], none, []⟩]) ⟨someNe, someNe, trivial⟩) (DisOld.all (bx := [⟨R3, some 0, 0, 1, .agg #[.bool nr, .slice ar mr cr, .slice br kr dr], none, []⟩, ⟨W2, some 1, 0, 2, .agg #[.bool false, .slice none 0 0], none, []⟩]) ⟨someNe, someNe, trivial⟩) ?_ ?_
  · exact ⟨.alloc 0 _ rfl rfl (.inr ⟨_, rfl, r3_cs, fun a_ hR => (hR 0 rfl).trans f0⟩) rfl rfl rfl rfl rfl,
      .alloc 1 _ rfl rfl (.inl ⟨rfl, rfl⟩) rfl rfl rfl rfl rfl,
      .norm 3 rfl rfl rfl (fun a_ w_ hn_ hBt hr hR hD hO hS => op_assign rfl),
      trivial⟩
  · intro a1 w1 gs1 hn1 hd1 hBt hr hR hP hX hU
    replace hn := hn1; replace hd := hd1.trans hd
    have ne1_2 : gs1 0 ≠ gs1 1 := hU 0 1 (by simp) (by simp) (by decide)
    have b1 : BoxV R3 w1 (gs1 0) (.agg #[.bool nr, .slice ar mr cr, .slice br kr dr]) := (hX 0 _ rfl).2.2.2
    have f1 := (hX 0 _ rfl).1
    have u1 : w.heap.size ≤ gs1 0 := Nat.le_trans HB.size ((hX 0 _ rfl).2.2.1 (by simp))
    have b2 : BoxV W2 w1 (gs1 1) (.agg #[.bool false, .slice none 0 0]) := (hX 1 _ rfl).2.2.2
    have f2 := (hX 1 _ rfl).1
    have u2 : w.heap.size ≤ gs1 1 := Nat.le_trans HB.size ((hX 1 _ rfl).2.2.1 (by simp))
    have e3 : a1.eval (.tmp 3) = (.bool false) := hP 2 (by decide)
    have f3 := e3
    replace Ar := Ar.rl hr
    replace Sr := Sr.rl hr
    replace Dr := Dr.rl hr
    replace HB := HB.trans (hBt.below HB.size (UpOld.all (bx := [⟨R3, some 0, 0, 1, .agg #[.bool nr, .slice ar mr cr, .slice br kr dr], none, []⟩, ⟨W2, some 1, 0, 2, .agg #[.bool false, .slice none 0 0], none, []⟩]) ⟨someNe, someNe, trivial⟩))
    clear hBt hr hR hP hX hU
    refine wp_seq ?_
    refine region4 [some 7, some 8, some 6, some 9, some 10, some 4, some 5, none, none] [Eqs (.agg #[.bool nr, .slice ar mr cr, .slice br kr dr]), Tup2 (OutW ((tp pr qr / tq qr)) ((Br) + 6)) (OutW ((tp pr qr % tq qr)) ((Br) + 6)), Tup2 (OutW ((tp pr qr / tq qr)) ((Br) + 6)) (OutW ((tp pr qr % tq qr)) ((Br) + 6)), OutW ((tp pr qr / tq qr)) ((Br) + 6), OutW ((tp pr qr % tq qr)) ((Br) + 6), (fun _ _ => True), (fun _ _ => True), (fun _ _ => True), (fun _ _ => True)] [⟨W2, some 5, 0, 4, .agg #[.bool false, .slice none 0 0], some (7, 9, 3), []⟩, ⟨W2, some 6, 0, 5, .agg #[.bool false, .slice none 0 0], some (8, 10, 4), []⟩] [] (by kernel_rfl) hn rfl (by kernel_rfl) (by kernel_rfl) (by kernel_rfl) (by kernel_rfl) (by kernel_rfl) (by kernel_rfl) ⟨Eqs.mono4 _, Tup2.mono4 (OutW.mono4 _ _) (OutW.mono4 _ _), Tup2.mono4 (OutW.mono4 _ _) (OutW.mono4 _ _), OutW.mono4 _ _, OutW.mono4 _ _, True.mono4, True.mono4, True.mono4, True.mono4, trivial⟩ (ok_cons W2ok (ok_cons W2ok ok_nil)) (IsOld.all (bx := [⟨W2, some 5, 0, 4, .agg #[.bool false, .slice none 0 0], some (7, 9, 3), []⟩, ⟨W2, some 6, 0, 5, .agg #[.bool false, .slice none 0 0], some (8, 10, 4), []⟩]) ⟨someNe, someNe, trivial⟩) (DisOld.all (bx := [⟨W2, some 5, 0, 4, .agg #[.bool false, .slice none 0 0], some (7, 9, 3), []⟩, ⟨W2, some 6, 0, 5, .agg #[.bool false, .slice none 0 0], some (8, 10, 4), []⟩]) ⟨someNe, someNe, trivial⟩) ?_ ?_
    · exact ⟨.norm 7 rfl rfl rfl (fun a_ w_ hn_ hBt hr hR hD hO hS => op_loadv R3ok ((hR 1 rfl).trans f1) (b1.keep hBt ⟨someNe, someNe, trivial⟩)),
        .norm 8 rfl rfl rfl (fun a_ w_ hn_ hBt hr hR hD hO hS => op_rdivide (isr_eq (show a_.eval (.tmp 7) = .agg #[.bool nr, .slice ar mr cr, .slice br kr dr] from hD 0 rfl) (Ar.rl hr) (Sr.rl hr) Vr Lr Mr) (by omega)),
        .norm 6 rfl rfl rfl (fun a_ w_ hn_ hBt hr hR hD hO hS => op_mvp (p := Tup2 (OutW ((tp pr qr / tq qr)) ((Br) + 6)) (OutW ((tp pr qr % tq qr)) ((Br) + 6))) (show Tup2 (OutW ((tp pr qr / tq qr)) ((Br) + 6)) (OutW ((tp pr qr % tq qr)) ((Br) + 6)) (a_.eval (.tmp 8)) w_ from hD 1 rfl)),
        .norm 9 rfl rfl rfl (fun a_ w_ hn_ hBt hr hR hD hO hS => op_ex20 (show Tup2 (OutW ((tp pr qr / tq qr)) ((Br) + 6)) (OutW ((tp pr qr % tq qr)) ((Br) + 6)) (a_.eval (.tmp 6)) w_ from hD 2 rfl)),
        .norm 10 rfl rfl rfl (fun a_ w_ hn_ hBt hr hR hD hO hS => op_ex21 (show Tup2 (OutW ((tp pr qr / tq qr)) ((Br) + 6)) (OutW ((tp pr qr % tq qr)) ((Br) + 6)) (a_.eval (.tmp 6)) w_ from hD 2 rfl)),
        .alloc 0 _ rfl rfl (.inl ⟨rfl, rfl⟩) rfl rfl rfl rfl rfl,
        .alloc 1 _ rfl rfl (.inl ⟨rfl, rfl⟩) rfl rfl rfl rfl rfl,
        .store 0 _ _ _ rfl rfl rfl rfl rfl rfl rfl (fun ia h => by cases h; rfl) rfl rfl rfl OutW.cs,
        .store 1 _ _ _ rfl rfl rfl rfl rfl rfl rfl (fun ia h => by cases h; rfl) rfl rfl rfl OutW.cs,
        trivial⟩
    · intro a2 w2 gs2 hn2 hd2 hBt hr hR hP hX hU
      replace hn := hn2; replace hd := hd2.trans hd
      have ne2_4 : (gs1 1) ≠ gs2 0 := by have h1 := b2.lt; have h2 := (hX 0 _ rfl).2.2.1 (by simp); omega
      have ne2_5 : (gs1 1) ≠ gs2 1 := by have h1 := b2.lt; have h2 := (hX 1 _ rfl).2.2.1 (by simp); omega
      replace b2 := b2.keep hBt ⟨someNe, someNe, trivial⟩
      obtain ⟨n_3, a_3, c_3, r_3, e9, G3, l3⟩ : OutW ((tp pr qr / tq qr)) ((Br) + 6) (a2.eval (.tmp 9)) w2 := hP 3 (by decide)
      have A3 := G3.ag
      have b4 : BoxV W2 w2 (gs2 0) (.agg #[.bool n_3, .slice a_3 r_3.length c_3]) := boxv_of (hX 0 _ rfl).2.2.2 e9
      have f4 := (hX 0 _ rfl).1
      have u4 : w.heap.size ≤ gs2 0 := Nat.le_trans HB.size ((hX 0 _ rfl).2.2.1 (by simp))
      obtain ⟨n_4, a_4, c_4, r_4, e10, G4, l4⟩ : OutW ((tp pr qr % tq qr)) ((Br) + 6) (a2.eval (.tmp 10)) w2 := hP 4 (by decide)
      have A4 := G4.ag
      have b5 : BoxV W2 w2 (gs2 1) (.agg #[.bool n_4, .slice a_4 r_4.length c_4]) := boxv_of (hX 1 _ rfl).2.2.2 e10
      have f5 := (hX 1 _ rfl).1
      have u5 : w.heap.size ≤ gs2 1 := Nat.le_trans HB.size ((hX 1 _ rfl).2.2.1 (by simp))
      replace f2 := (hR 2 rfl).trans f2
      replace f3 := (hR 3 rfl).trans f3
      replace Ar := Ar.rl hr
      replace Sr := Sr.rl hr
      replace Dr := Dr.rl hr
      replace HB := HB.trans (hBt.below HB.size (UpOld.all (bx := [⟨W2, some 5, 0, 4, .agg #[.bool false, .slice none 0 0], some (7, 9, 3), []⟩, ⟨W2, some 6, 0, 5, .agg #[.bool false, .slice none 0 0], some (8, 10, 4), []⟩]) ⟨someNe, someNe, trivial⟩))
      clear hBt hr hR hP hX hU
      refine wp_seq ?_
      refine wp_seq ?_
      refine region4 [some 11, some 12, some 13] [Eqs (.agg #[.bool n_4, .slice a_4 r_4.length c_4]), Eqs (.int .i64 (Int.sign (tp pr qr % tq qr))), Eqs (.bool (!decide ((Int.sign (tp pr qr % tq qr)) = 0)))] [] [] (by kernel_rfl) hn rfl (by kernel_rfl) (by kernel_rfl) (by kernel_rfl) (by kernel_rfl) (by kernel_rfl) (by kernel_rfl) ⟨Eqs.mono4 _, Eqs.mono4 _, Eqs.mono4 _, trivial⟩ ok_nil (IsOld.all (bx := []) trivial) (DisOld.all (bx := []) trivial) ?_ ?_
      · exact ⟨.norm 11 rfl rfl rfl (fun a_ w_ hn_ hBt hr hR hD hO hS => op_loadv W2ok ((hR 5 rfl).trans f5) (b5.keep hBt trivial)),
          .norm 12 rfl rfl rfl (fun a_ w_ hn_ hBt hr hR hD hO hS => op_sign (isw_eq (show a_.eval (.tmp 11) = .agg #[.bool n_4, .slice a_4 r_4.length c_4] from hD 0 rfl) (A4.rl hr) l4) (by omega)),
          .norm 13 rfl rfl rfl (fun a_ w_ hn_ hBt hr hR hD hO hS => op_neqk (show a_.eval (.tmp 12) = .int .i64 (Int.sign (tp pr qr % tq qr)) from hD 1 rfl)),
          trivial⟩
      · intro a5 w5 gs5 hn5 hd5 hBt hr hR hP hX hU
        replace hn := hn5; replace hd := hd5.trans hd
        replace b2 := b2.keep hBt trivial
        replace b4 := b4.keep hBt trivial
        replace f2 := (hR 2 rfl).trans f2
        replace f3 := (hR 3 rfl).trans f3
        replace f4 := (hR 4 rfl).trans f4
        have e13 : a5.eval (.tmp 13) = .bool (!decide ((Int.sign (tp pr qr % tq qr)) = 0)) := hP 2 (by decide)
        have f13 := e13
        replace Ar := Ar.rl hr
        replace Sr := Sr.rl hr
        replace Dr := Dr.rl hr
        replace G3 := G3.rl hr
        replace A3 := A3.rl hr
        replace G4 := G4.rl hr
        replace A4 := A4.rl hr
        replace HB := HB.trans (hBt.below HB.size (UpOld.all (bx := []) trivial))
        clear hBt hr hR hP hX hU
        refine wp_cond_split f13 (fun hc13 => ?_) (fun hc13 => ?_)
        · skip
          exact absurd (sign_zero_iff.2 h0) (by simpa using hc13)
        · skip
          refine wp_skip ?_
          refine wp_seq ?_
          refine region4 [some 15, none, some 3] [Eqs (.agg #[.bool n_3, .slice a_3 r_3.length c_3]), (fun _ _ => True), Eqs ((.bool true))] [⟨W2, none, (gs1 1), 2, .agg #[.bool false, .slice none 0 0], some (1, 15, 0), []⟩] [] (by kernel_rfl) hn rfl (by kernel_rfl) (by kernel_rfl) (by kernel_rfl) (by kernel_rfl) (by kernel_rfl) (by kernel_rfl) ⟨Eqs.mono4 _, True.mono4, Eqs.mono4 _, trivial⟩ (ok_cons W2ok ok_nil) (IsOld.all (bx := [⟨W2, none, (gs1 1), 2, .agg #[.bool false, .slice none 0 0], some (1, 15, 0), []⟩]) ⟨fun _ => ⟨f2, b2⟩, trivial⟩) (DisOld.all (bx := [⟨W2, none, (gs1 1), 2, .agg #[.bool false, .slice none 0 0], some (1, 15, 0), []⟩]) ⟨fun _ => trivial, trivial⟩) ?_ ?_
          · exact ⟨.norm 15 rfl rfl rfl (fun a_ w_ hn_ hBt hr hR hD hO hS => op_loadv W2ok ((hR 4 rfl).trans f4) (b4.keep hBt ⟨fun _ => ne2_4, trivial⟩)),
              .store 0 _ _ _ rfl rfl rfl rfl rfl rfl rfl (fun ia h => by cases h) rfl rfl rfl (eqs_cs w2_cs),
              .norm 3 rfl rfl rfl (fun a_ w_ hn_ hBt hr hR hD hO hS => op_assign rfl),
              trivial⟩
          · intro a6 w6 gs6 hn6 hd6 hBt hr hR hP hX hU
            replace hn := hn6; replace hd := hd6.trans hd
            have e15 : a6.eval (.tmp 15) = .agg #[.bool n_3, .slice a_3 r_3.length c_3] := hP 0 (by decide)
            have b2 : BoxV W2 w6 ((gs1 1)) (.agg #[.bool n_3, .slice a_3 r_3.length c_3]) := boxv_old ((hX 0 _ rfl).2.1 rfl) (hX 0 _ rfl).2.2.2 e15
            replace f2 : a6.eval (.tmp 2) = _ := (hR 2 rfl).trans f2
            have e3 : a6.eval (.tmp 3) = (.bool true) := hP 2 (by decide)
            have f3 := e3
            replace Ar := Ar.rl hr
            replace Sr := Sr.rl hr
            replace Dr := Dr.rl hr
            replace G3 := G3.rl hr
            replace A3 := A3.rl hr
            replace G4 := G4.rl hr
            replace A4 := A4.rl hr
            replace HB := HB.trans (hBt.below HB.size (UpOld.all (bx := [⟨W2, none, (gs1 1), 2, .agg #[.bool false, .slice none 0 0], some (1, 15, 0), []⟩]) ⟨fun _ => u2, trivial⟩))
            clear hBt hr hR hP hX hU
            refine wp_ret ?_
            repeat (first | refine then_ret ?_ | refine scope_ret ?_ | refine block_ret ?_)
            exact bodyPost_ret (v := .tuple #[.agg #[.bool n_3, .slice a_3 r_3.length c_3], (.bool true)]) (res_ct rfl f2 (lv_W2 b2) f3) hd ⟨_, rfl, ⟨_, _, rfl, OutW.to (outw_eq rfl G3 l3) rfl (by omega), rfl⟩, HB⟩

theorem has_rwhole : Has Try.prog 12 := by unfold Has; kernel_rfl
theorem op_rwhole {dst : Option Tmp} {ty : TypeId} {pos : String} {after : Array Edge} {guard : Option (Nat × Bool)} {a : Act} {w : World} {ats : Array TypeId} {i : Nat} {Br : Nat} {pr qr : Int} (Hr : IsR pr qr Br (a.eval (.tmp i)) w) (hL : Br ≤ 100000) (h0 : tp pr qr % tq qr = 0) :
    Does Try.prog { dst, op := .call { callee := .value (.func 12), args := #[.tmp i], argTypes := ats }, type := ty, pos, after, guard } a.eval w fun v w' => Below w.heap.size w w' ∧ (Tup2 (OutW (tp pr qr / tq qr) (Br + 6)) (Eqs (.bool true))) v w' := by
  obtain ⟨nr, ar, mr, cr, rs, br, kr, dr, rt, er, Ar, Sr, Vr, Lr, Mr⟩ := Hr
  refine does_call has_rwhole _ (by simp only [List.map_toArray, List.map_cons, List.map_nil, er]) ((rwhole_z w Br _ _ _ _ _ _ Ar Lr _ _ _ _ _ Sr Vr Mr hL h0).mono ?_)
  rintro e w' ⟨v, rfl, h1, hb⟩
  exact ⟨_, rfl, hb, h1⟩

set_option maxRecDepth 20000 in
set_option maxHeartbeats 2000000 in
theorem rwhole0_z (w : World) (Br : Nat) (nr : Bool) (ar : Option Addr) (mr cr : Nat) (rs : List Int) (pr : Int) (Ar : Ag w nr ar mr cr rs pr) (Lr : rs.length ≤ Br) (br : Option Addr) (kr dr : Nat) (rt : List Int) (qr : Int) (Sr : Sl w (.slice br kr dr) rt) (Vr : val rt = qr) (Mr : rt.length ≤ Br) (hL : Br ≤ 100000) (h0 : tp pr qr % tq qr ≠ 0) :
    Calls Try.prog 12 #[.agg #[.bool nr, .slice ar mr cr, .slice br kr dr]] w fun e w' => ∃ v, e = .returned v ∧ (Tup2 (OutW 0 (Br + 6)) (Eqs (.bool false))) v w' ∧ Below w.heap.size w w' := by
  go_enter Try.func12, Try.ntmps12
  generalize hA : (Act.mk _ _) = aa
  have hn : aa.tmps.size = 16 := by rw [← hA]; rfl
  have hd : aa.defers = [] := by rw [← hA]
  have f0 : aa.eval (.tmp 0) = .agg #[.bool nr, .slice ar mr cr, .slice br kr dr] := by rw [← hA]; rfl
  clear hA
  have HB : Below w.heap.size w w := Below.refl _ _
  have Dr : Ag w false br kr dr rt qr := ⟨Sr, Vr⟩
  refine wp_seq ?_
  refine region4 [some 1, some 2, some 3] [(fun _ _ => True), (fun _ _ => True), Eqs ((.bool false))] [⟨R3, some 0, 0, 1, .agg #[.bool nr, .slice ar mr cr, .slice br kr dr], none, []⟩, ⟨W2, some 1, 0, 2, .agg #[.bool false, .slice none 0 0], none, []⟩] [] (by kernel_rfl) hn rfl (by kernel_rfl) (by kernel_rfl) (by kernel_rfl) (by kernel_rfl) (by kernel_rfl) (by kernel_rfl) ⟨True.mono4, True.mono4, Eqs.mono4 _, trivial⟩ (ok_cons R3ok (ok_cons W2ok ok_nil)) (IsOld.all (bx := [⟨R3, some 0, 0, 1, .agg #[.bool nr, .slice ar mr cr, .slice br kr dr], none, []⟩, ⟨W2, some 1, 0, 2, .agg #[.bool false, .slice none 0 0], none, []⟩]) ⟨someNe, someNe, trivial⟩) (DisOld.all (bx := [⟨R3, some 0, 0, 1, .agg #[.bool nr, .slice ar mr cr, .slice br kr dr], none, []⟩, ⟨W2, some 1, 0, 2, .agg #[.bool false, .slice none 0 0], none, []⟩]) ⟨someNe, someNe, trivial⟩) ?_ ?_
  · exact ⟨.alloc 0 _ rfl rfl (.inr ⟨_, rfl, r3_cs, fun a_ hR => (hR 0 rfl).trans f0⟩) rfl rfl rfl rfl rfl,
      .alloc 1 _ rfl rfl (.inl ⟨rfl, rfl⟩) rfl rfl rfl rfl rfl,
      .norm 3 rfl rfl rfl (fun a_ w_ hn_ hBt hr hR hD hO hS => op_assign rfl),
      trivial⟩
  · intro a1 w1 gs1 hn1 hd1 hBt hr hR hP hX hU
    replace hn := hn1; replace hd := hd1.trans hd
    have ne1_2 : gs1 0 ≠ gs1 1 := hU 0 1 (by simp) (by simp) (by decide)
    have b1 : BoxV R3 w1 (gs1 0) (.agg #[.bool nr, .slice ar mr cr, .slice br kr dr]) := (hX 0 _ rfl).2.2.2
    have f1 := (hX 0 _ rfl).1
    have u1 : w.heap.size ≤ gs1 0 := Nat.le_trans HB.size ((hX 0 _ rfl).2.2.1 (by simp))
    have b2 : BoxV W2 w1 (gs1 1) (.agg #[.bool false, .slice none 0 0]) := (hX 1 _ rfl).2.2.2
    have f2 := (hX 1 _ rfl).1
    have u2 : w.heap.size ≤ gs1 1 := Nat.le_trans HB.size ((hX 1 _ rfl).2.2.1 (by simp))
    have e3 : a1.eval (.tmp 3) = (.bool false) := hP 2 (by decide)
    have f3 := e3
    replace Ar := Ar.rl hr
    replace Sr := Sr.rl hr
    replace Dr := Dr.rl hr
    replace HB := HB.trans (hBt.below HB.size (UpOld.all (bx := [⟨R3, some 0, 0, 1, .agg #[.bool nr, .slice ar mr cr, .slice br kr dr], none, []⟩, ⟨W2, some 1, 0, 2, .agg #[.bool false, .slice none 0 0], none, []⟩]) ⟨someNe, someNe, trivial⟩))
    clear hBt hr hR hP hX hU
    refine wp_seq ?_
    refine region4 [some 7, some 8, some 6, some 9, some 10, some 4, some 5, none, none] [Eqs (.agg #[.bool nr, .slice ar mr cr, .slice br kr dr]), Tup2 (OutW ((tp pr qr / tq qr)) ((Br) + 6)) (OutW ((tp pr qr % tq qr)) ((Br) + 6)), Tup2 (OutW ((tp pr qr / tq qr)) ((Br) + 6)) (OutW ((tp pr qr % tq qr)) ((Br) + 6)), OutW ((tp pr qr / tq qr)) ((Br) + 6), OutW ((tp pr qr % tq qr)) ((Br) + 6), (fun _ _ => True), (fun _ _ => True), (fun _ _ => True), (fun _ _ => True)] [⟨W2, some 5, 0, 4, .agg #[.bool false, .slice none 0 0], some (7, 9, 3), []⟩, ⟨W2, some 6, 0, 5, .agg #[.bool false, .slice none 0 0], some (8, 10, 4), []⟩] [] (by kernel_rfl) hn rfl (by kernel_rfl) (by kernel_rfl) (by kernel_rfl) (by kernel_rfl) (by kernel_rfl) (by kernel_rfl) ⟨Eqs.mono4 _, Tup2.mono4 (OutW.mono4 _ _) (OutW.mono4 _ _), Tup2.mono4 (OutW.mono4 _ _) (OutW.mono4 _ _), OutW.mono4 _ _, OutW.mono4 _ _, True.mono4, True.mono4, True.mono4, True.mono4, trivial⟩ (ok_cons W2ok (ok_cons W2ok ok_nil)) (IsOld.all (bx := [⟨W2, some 5, 0, 4, .agg #[.bool false, .slice none 0 0], some (7, 9, 3), []⟩, ⟨W2, some 6, 0, 5, .agg #[.bool false, .slice none 0 0], some (8, 10, 4), []⟩]) ⟨someNe, someNe, trivial⟩) (DisOld.all (bx := [⟨W2, some 5, 0, 4, .agg #[.bool false, .slice none 0 0], some (7, 9, 3), []⟩, ⟨W2, some 6, 0, 5, .agg #[.bool false, .slice none 0 0], some (8, 10, 4), []⟩]) ⟨someNe, someNe, trivial⟩) ?_ ?_
    · exact ⟨.norm 7 rfl rfl rfl (fun a_ w_ hn_ hBt hr hR hD hO hS => op_loadv R3ok ((hR 1 rfl).trans f1) (b1.keep hBt ⟨someNe, someNe, trivial⟩)),
        .norm 8 rfl rfl rfl (fun a_ w_ hn_ hBt hr hR hD hO hS => op_rdivide (isr_eq (show a_.eval (.tmp 7) = .agg #[.bool nr, .slice ar mr cr, .slice br kr dr] from hD 0 rfl) (Ar.rl hr) (Sr.rl hr) Vr Lr Mr) (by omega)),
        .norm 6 rfl rfl rfl (fun a_ w_ hn_ hBt hr hR hD hO hS => op_mvp (p := Tup2 (OutW ((tp pr qr / tq qr)) ((Br) + 6)) (OutW ((tp pr qr % tq qr)) ((Br) + 6))) (show Tup2 (OutW ((tp pr qr / tq qr)) ((Br) + 6)) (OutW ((tp pr qr % tq qr)) ((Br) + 6)) (a_.eval (.tmp 8)) w_ from hD 1 rfl)),
        .norm 9 rfl rfl rfl (fun a_ w_ hn_ hBt hr hR hD hO hS => op_ex20 (show Tup2 (OutW ((tp pr qr / tq qr)) ((Br) + 6)) (OutW ((tp pr qr % tq qr)) ((Br) + 6)) (a_.eval (.tmp 6)) w_ from hD 2 rfl)),
        .norm 10 rfl rfl rfl (fun a_ w_ hn_ hBt hr hR hD hO hS => op_ex21 (show Tup2 (OutW ((tp pr qr / tq qr)) ((Br) + 6)) (OutW ((tp pr qr % tq qr)) ((Br) + 6)) (a_.eval (.tmp 6)) w_ from hD 2 rfl)),
        .alloc 0 _ rfl rfl (.inl ⟨rfl, rfl⟩) rfl rfl rfl rfl rfl,
        .alloc 1 _ rfl rfl (.inl ⟨rfl, rfl⟩) rfl rfl rfl rfl rfl,
        .store 0 _ _ _ rfl rfl rfl rfl rfl rfl rfl (fun ia h => by cases h; rfl) rfl rfl rfl OutW.cs,
        .store 1 _ _ _ rfl rfl rfl rfl rfl rfl rfl (fun ia h => by cases h; rfl) rfl rfl rfl OutW.cs,
        trivial⟩
    · intro a2 w2 gs2 hn2 hd2 hBt hr hR hP hX hU
      replace hn := hn2; replace hd := hd2.trans hd
      have ne2_4 : (gs1 1) ≠ gs2 0 := by have h1 := b2.lt; have h2 := (hX 0 _ rfl).2.2.1 (by simp); omega
      have ne2_5 : (gs1 1) ≠ gs2 1 := by have h1 := b2.lt; have h2 := (hX 1 _ rfl).2.2.1 (by simp); omega
      replace b2 := b2.keep hBt ⟨someNe, someNe, trivial⟩
      obtain ⟨n_3, a_3, c_3, r_3, e9, G3, l3⟩ : OutW ((tp pr qr / tq qr)) ((Br) + 6) (a2.eval (.tmp 9)) w2 := hP 3 (by decide)
      have A3 := G3.ag
      have b4 : BoxV W2 w2 (gs2 0) (.agg #[.bool n_3, .slice a_3 r_3.length c_3]) := boxv_of (hX 0 _ rfl).2.2.2 e9
      have f4 := (hX 0 _ rfl).1
      have u4 : w.heap.size ≤ gs2 0 := Nat.le_trans HB.size ((hX 0 _ rfl).2.2.1 (by simp))
      obtain ⟨n_4, a_4, c_4, r_4, e10, G4, l4⟩ : OutW ((tp pr qr % tq qr)) ((Br) + 6) (a2.eval (.tmp 10)) w2 := hP 4 (by decide)
      have A4 := G4.ag
      have b5 : BoxV W2 w2 (gs2 1) (.agg #[.bool n_4, .slice a_4 r_4.length c_4]) := boxv_of (hX 1 _ rfl).2.2.2 e10
      have f5 := (hX 1 _ rfl).1
      have u5 : w.heap.size ≤ gs2 1 := Nat.le_trans HB.size ((hX 1 _ rfl).2.2.1 (by simp))
      replace f2 := (hR 2 rfl).trans f2
      replace f3 := (hR 3 rfl).trans f3
      replace Ar := Ar.rl hr
      replace Sr := Sr.rl hr
      replace Dr := Dr.rl hr
      replace HB := HB.trans (hBt.below HB.size (UpOld.all (bx := [⟨W2, some 5, 0, 4, .agg #[.bool false, .slice none 0 0], some (7, 9, 3), []⟩, ⟨W2, some 6, 0, 5, .agg #[.bool false, .slice none 0 0], some (8, 10, 4), []⟩]) ⟨someNe, someNe, trivial⟩))
      clear hBt hr hR hP hX hU
      refine wp_seq ?_
      refine wp_seq ?_
      refine region4 [some 11, some 12, some 13] [Eqs (.agg #[.bool n_4, .slice a_4 r_4.length c_4]), Eqs (.int .i64 (Int.sign (tp pr qr % tq qr))), Eqs (.bool (!decide ((Int.sign (tp pr qr % tq qr)) = 0)))] [] [] (by kernel_rfl) hn rfl (by kernel_rfl) (by kernel_rfl) (by kernel_rfl) (by kernel_rfl) (by kernel_rfl) (by kernel_rfl) ⟨Eqs.mono4 _, Eqs.mono4 _, Eqs.mono4 _, trivial⟩ ok_nil (IsOld.all (bx := []) trivial) (DisOld.all (bx := []) trivial) ?_ ?_
      · exact ⟨.norm 11 rfl rfl rfl (fun a_ w_ hn_ hBt hr hR hD hO hS => op_loadv W2ok ((hR 5 rfl).trans f5) (b5.keep hBt trivial)),
          .norm 12 rfl rfl rfl (fun a_ w_ hn_ hBt hr hR hD hO hS => op_sign (isw_eq (show a_.eval (.tmp 11) = .agg #[.bool n_4, .slice a_4 r_4.length c_4] from hD 0 rfl) (A4.rl hr) l4) (by omega)),
          .norm 13 rfl rfl rfl (fun a_ w_ hn_ hBt hr hR hD hO hS => op_neqk (show a_.eval (.tmp 12) = .int .i64 (Int.sign (tp pr qr % tq qr)) from hD 1 rfl)),
          trivial⟩
      · intro a5 w5 gs5 hn5 hd5 hBt hr hR hP hX hU
        replace hn := hn5; replace hd := hd5.trans hd
        replace b2 := b2.keep hBt trivial
        replace b4 := b4.keep hBt trivial
        replace f2 := (hR 2 rfl).trans f2
        replace f3 := (hR 3 rfl).trans f3
        replace f4 := (hR 4 rfl).trans f4
        have e13 : a5.eval (.tmp 13) = .bool (!decide ((Int.sign (tp pr qr % tq qr)) = 0)) := hP 2 (by decide)
        have f13 := e13
        replace Ar := Ar.rl hr
        replace Sr := Sr.rl hr
        replace Dr := Dr.rl hr
        replace G3 := G3.rl hr
        replace A3 := A3.rl hr
        replace G4 := G4.rl hr
        replace A4 := A4.rl hr
        replace HB := HB.trans (hBt.below HB.size (UpOld.all (bx := []) trivial))
        clear hBt hr hR hP hX hU
        refine wp_cond_split f13 (fun hc13 => ?_) (fun hc13 => ?_)
        · skip
          refine wp_seq ?_
          refine region4 [some 14, none, some 3] [Eqs (.agg #[.bool false, .slice none 0 0]), (fun _ _ => True), Eqs ((.bool false))] [⟨W2, none, (gs1 1), 2, .agg #[.bool false, .slice none 0 0], some (1, 14, 0), []⟩] [] (by kernel_rfl) hn rfl (by kernel_rfl) (by kernel_rfl) (by kernel_rfl) (by kernel_rfl) (by kernel_rfl) (by kernel_rfl) ⟨Eqs.mono4 _, True.mono4, Eqs.mono4 _, trivial⟩ (ok_cons W2ok ok_nil) (IsOld.all (bx := [⟨W2, none, (gs1 1), 2, .agg #[.bool false, .slice none 0 0], some (1, 14, 0), []⟩]) ⟨fun _ => ⟨f2, b2⟩, trivial⟩) (DisOld.all (bx := [⟨W2, none, (gs1 1), 2, .agg #[.bool false, .slice none 0 0], some (1, 14, 0), []⟩]) ⟨fun _ => trivial, trivial⟩) ?_ ?_
          · exact ⟨.norm 14 rfl rfl rfl (fun a_ w_ hn_ hBt hr hR hD hO hS => op_bW0),
              .store 0 _ _ _ rfl rfl rfl rfl rfl rfl rfl (fun ia h => by cases h) rfl rfl rfl (eqs_cs w2_cs),
              .norm 3 rfl rfl rfl (fun a_ w_ hn_ hBt hr hR hD hO hS => op_assign rfl),
              trivial⟩
          · intro a6 w6 gs6 hn6 hd6 hBt hr hR hP hX hU
            replace hn := hn6; replace hd := hd6.trans hd
            replace b4 := b4.keep hBt ⟨fun _ => ne2_4, trivial⟩
            have e14 : a6.eval (.tmp 14) = .agg #[.bool false, .slice none 0 0] := hP 0 (by decide)
            have b2 : BoxV W2 w6 ((gs1 1)) (.agg #[.bool false, .slice none 0 0]) := boxv_old ((hX 0 _ rfl).2.1 rfl) (hX 0 _ rfl).2.2.2 e14
            replace f2 : a6.eval (.tmp 2) = _ := (hR 2 rfl).trans f2
            replace f4 := (hR 4 rfl).trans f4
            have e3 : a6.eval (.tmp 3) = (.bool false) := hP 2 (by decide)
            have f3 := e3
            replace Ar := Ar.rl hr
            replace Sr := Sr.rl hr
            replace Dr := Dr.rl hr
            replace G3 := G3.rl hr
            replace A3 := A3.rl hr
            replace G4 := G4.rl hr
            replace A4 := A4.rl hr
            replace HB := HB.trans (hBt.below HB.size (UpOld.all (bx := [⟨W2, none, (gs1 1), 2, .agg #[.bool false, .slice none 0 0], some (1, 14, 0), []⟩]) ⟨fun _ => u2, trivial⟩))
            clear hBt hr hR hP hX hU
            refine wp_ret ?_
            repeat (first | refine then_ret ?_ | refine scope_ret ?_ | refine block_ret ?_)
            exact bodyPost_ret (v := .tuple #[.agg #[.bool false, .slice none 0 0], (.bool false)]) (res_ct rfl f2 (lv_W2 b2) f3) hd ⟨_, rfl, ⟨_, _, rfl, OutW.to (outw0 _) rfl (by omega), rfl⟩, HB⟩
        · skip
          exact absurd (sign_zero_iff.1 (by simpa using hc13)) h0

theorem has_rwhole0 : Has Try.prog 12 := by unfold Has; kernel_rfl
theorem op_rwhole0 {dst : Option Tmp} {ty : TypeId} {pos : String} {after : Array Edge} {guard : Option (Nat × Bool)} {a : Act} {w : World} {ats : Array TypeId} {i : Nat} {Br : Nat} {pr qr : Int} (Hr : IsR pr qr Br (a.eval (.tmp i)) w) (hL : Br ≤ 100000) (h0 : tp pr qr % tq qr ≠ 0) :
    Does Try.prog { dst, op := .call { callee := .value (.func 12), args := #[.tmp i], argTypes := ats }, type := ty, pos, after, guard } a.eval w fun v w' => Below w.heap.size w w' ∧ (Tup2 (OutW 0 (Br + 6)) (Eqs (.bool false))) v w' := by
  obtain ⟨nr, ar, mr, cr, rs, br, kr, dr, rt, er, Ar, Sr, Vr, Lr, Mr⟩ := Hr
  refine does_call has_rwhole0 _ (by simp only [List.map_toArray, List.map_cons, List.map_nil, er]) ((rwhole0_z w Br _ _ _ _ _ _ Ar Lr _ _ _ _ _ Sr Vr Mr hL h0).mono ?_)
  rintro e w' ⟨v, rfl, h1, hb⟩
  exact ⟨_, rfl, hb, h1⟩

end Lm
end Go.Proofs.Ytkdcgnooeojjgab

namespace Go.Proofs.Ytkdcgnooeojjgab
namespace Lm
open Go Go.RowKit

section
variable {dst : Option Tmp} {ty : TypeId} {pos : String} {after : Array Edge} {guard : Option (Nat × Bool)} {a : Act} {w : World} {ats : Array TypeId} {i j : Nat} {x y : Int} {L L1 L2 : Nat}
theorem has_lenw : Has Try.prog 27 := by unfold Has; kernel_rfl
theorem op_lenw {ng : Bool} {ao : Option Addr} {n c : Nat} (h : a.eval (.tmp i) = .agg #[.bool ng, .slice ao n c]) (hn : n ≤ 35184372088832) :
    Does Try.prog { dst, op := .call { callee := .value (.func 27), args := #[.tmp i], argTypes := ats }, type := ty, pos, after, guard } a.eval w fun v w' => Below w.heap.size w w' ∧ Eqs (.int .i64 (1 + (n : Int))) v w' := by
  refine does_call has_lenw _ (by simp only [List.map_toArray, List.map_cons, List.map_nil, h]) ((wlen_any w ng ao n c hn).mono ?_)
  rintro e w' ⟨rfl, hb⟩
  exact ⟨_, rfl, hb, rfl⟩
theorem op_samef (hx : OutW x L1 (a.eval (.tmp i)) w) (hy : OutW y L2 (a.eval (.tmp j)) w) (h : x ≠ y) :
    Does Try.prog { dst, op := .call { callee := .value (.func 21), args := #[.tmp i, .tmp j], argTypes := ats }, type := ty, pos, after, guard } a.eval w fun v w' => Below w.heap.size w w' ∧ Eqs (.bool false) v w' := by
  obtain ⟨n1, a1, c1, xs, e1, A1, l1⟩ := hx
  obtain ⟨n2, a2, c2, ys, e2, A2, l2⟩ := hy
  refine does_call has_same _ (by simp only [List.map_toArray, List.map_cons, List.map_nil, e1, e2]) ((same_z _ _ _ _ _ _ _ _ _ _ _ A1 A2 false (decide_eq_false h)).mono ?_)
  rintro e w' ⟨rfl, hb⟩
  exact ⟨_, rfl, hb, rfl⟩
theorem has_samel : Has Try.prog 52 := by unfold Has; kernel_rfl
theorem op_samel (hx : OutL x L1 (a.eval (.tmp i)) w) (hy : OutL y L2 (a.eval (.tmp j)) w) :
    Does Try.prog { dst, op := .call { callee := .value (.func 52), args := #[.tmp i, .tmp j], argTypes := ats }, type := ty, pos, after, guard } a.eval w fun v w' => Below w.heap.size w w' ∧ Eqs (.bool (decide (x = y))) v w' := by
  obtain ⟨a1, c1, xs, e1, G1, l1⟩ := hx
  obtain ⟨a2, c2, ys, e2, G2, l2⟩ := hy
  refine does_call has_samel _ (by simp only [List.map_toArray, List.map_cons, List.map_nil, e1, e2]) ((same_any w _ _ _ _ _ _ xs ys G1.sl G2.sl).mono ?_)
  rintro e w' ⟨rfl, hb⟩
  refine ⟨_, rfl, hb, ?_⟩
  have v1 := G1.val
  have v2 := G2.val
  show Value.bool (sameB xs ys) = Value.bool (decide (x = y))
  by_cases h : x = y
  · rw [sameB_of (canon_one G1.canon G2.canon (by rw [v1, v2, h])), decide_eq_true h]
  · have : xs ≠ ys := fun e => h (by rw [← v1, ← v2, e])
    simp [sameB, h, this]
theorem dec3 : IsDec [51] 3 := by
  refine ⟨?_, by decide, .inr ⟨51, _, rfl, by decide⟩⟩
  intro c hc
  simp at hc
  omega
theorem dec2 : IsDec [50] 2 := by
  refine ⟨?_, by decide, .inr ⟨50, _, rfl, by decide⟩⟩
  intro c hc
  simp at hc
  omega
theorem has_wtext : Has Try.prog 66 := by unfold Has; kernel_rfl
theorem op_text3 (hx : OutW x L (a.eval (.tmp i)) w) (h : x = -3) (hl : L ≤ 100000) :
    Does Try.prog { dst, op := .call { callee := .value (.func 66), args := #[.tmp i], argTypes := ats }, type := ty, pos, after, guard } a.eval w fun v w' => Below w.heap.size w w' ∧ Eqs (.string ⟨#[45, 51]⟩) v w' := by
  subst h
  obtain ⟨n1, a1, c1, xs, e1, A1, l1⟩ := hx
  refine does_call has_wtext _ (by simp only [List.map_toArray, List.map_cons, List.map_nil, e1]) ((wtext_neg w n1 a1 _ c1 xs A1.sl (by omega) (by rw [A1.worth]; decide)).mono ?_)
  rintro e w' ⟨ds, rfl, hd, hb⟩
  have e2 := isDec_one hd (show IsDec [51] (val xs) by rw [A1.1.val]; exact dec3)
  subst e2
  exact ⟨_, rfl, hb, rfl⟩
theorem has_ltext : Has Try.prog 68 := by unfold Has; kernel_rfl
theorem op_text2 (hx : IsL x L (a.eval (.tmp i)) w) (h : x = 2) (hl : L ≤ 100000) :
    Does Try.prog { dst, op := .call { callee := .value (.func 68), args := #[.tmp i], argTypes := ats }, type := ty, pos, after, guard } a.eval w fun v w' => Below w.heap.size w w' ∧ Eqs (.string ⟨#[50]⟩) v w' := by
  subst h
  obtain ⟨a1, n1, c1, xs, e1, S1, V1, l1⟩ := hx
  refine does_call has_ltext _ (by simp only [List.map_toArray, List.map_cons, List.map_nil, e1]) ((text_any w a1 n1 c1 xs S1 (by omega)).mono ?_)
  rintro e w' ⟨ds, rfl, hd, hb⟩
  have e2 := isDec_one hd (show IsDec [50] (val xs) by rw [V1]; exact dec2)
  subst e2
  exact ⟨_, rfl, hb, rfl⟩
theorem op_cat {x y : Operand} {s t r : ByteArray} (h1 : a.eval x = .string s) (h2 : a.eval y = .string t) (hs : s.size + t.size ≤ 9223372036854775807) (h : s ++ t = r) :
    Does Try.prog { dst, op := .binOp .add 9 x y 9, type := ty, pos, after, guard } a.eval w fun v w' => Below w.heap.size w w' ∧ Eqs (.string r) v w' := by
  subst h
  refine does_bin (v := .string (s ++ t)) ?_ ?_ ⟨Below.refl _ _, rfl⟩
  · rw [h1, h2]; simp [go_sem]
  · rw [h1, h2]; simp [go_sem]; exact hs
theorem op_eqls {s t : ByteArray} (h1 : a.eval (.tmp i) = .string s) (h : s = t) :
    Does Try.prog { dst, op := .binOp .eql 9 (.tmp i) (.const (.string t)) 9, type := ty, pos, after, guard } a.eval w fun v w' => Below w.heap.size w w' ∧ Eqs (.bool true) v w' := by
  subst h
  refine does_bin (v := .bool true) ?_ ?_ ⟨Below.refl _ _, rfl⟩
  · rw [h1]; simp [go_sem, Act.eval]
  · rw [h1]; simp [go_sem, Act.eval]
theorem op_bits1 (h : BitsOf x (a.eval (.tmp i)) w) (hx : 0 < x) :
    Does Try.prog { dst, op := .binOp .eql 3 (.tmp i) (.const (.int .i64 1)) 3, type := ty, pos, after, guard } a.eval w fun v w' => Below w.heap.size w w' ∧ Eqs (.bool (decide (x = 1))) v w' := by
  obtain ⟨k, e, hb⟩ := h
  refine (op_eqlk e).mono (fun v w' ⟨h1, h2⟩ => ⟨h1, ?_⟩)
  show v = _
  rw [show v = _ from h2]
  congr 1
  exact decide_eq_decide.2 (bits_is_one hb hx)
theorem op_eqle {u : Int} (h1 : a.eval (.tmp i) = .int .i64 u) :
    Does Try.prog { dst, op := .binOp .eql 47 (.tmp i) (.const (.int .i64 u)) 47, type := ty, pos, after, guard } a.eval w fun v w' => Below w.heap.size w w' ∧ Eqs (.bool true) v w' := by
  refine does_bin (v := .bool true) ?_ ?_ ⟨Below.refl _ _, rfl⟩
  · rw [h1]; simp [go_sem, Act.eval]
  · rw [h1]; simp [go_sem, Act.eval]
theorem has_lsmall : Has Try.prog 38 := by unfold Has; kernel_rfl
theorem op_lsmall {v : Int} (h1 : -9223372036854775808 ≤ v) (h2 : v ≤ 9223372036854775807) :
    Does Try.prog { dst, op := .call { callee := .value (.func 38), args := #[.const (.int .i64 v)], argTypes := ats }, type := ty, pos, after, guard } a.eval w fun v' w' => Below w.heap.size w w' ∧ OutW v 2 v' w' := by
  refine does_call has_lsmall _ (by simp only [List.map_toArray, List.map_cons, List.map_nil, Act.eval]) ((lsmall_g _ v h1 h2).mono ?_)
  rintro e w' ⟨ng, ao, cap, rs, rfl, G, l, hb⟩
  exact ⟨_, rfl, hb, _, _, _, _, rfl, G, by omega⟩
end

set_option maxRecDepth 20000 in
set_option maxHeartbeats 1000000 in
theorem rlen_z (w : World) (nr : Bool) (ar : Option Addr) (mr cr : Nat) (br : Option Addr) (kr dr : Nat) (hm : mr ≤ 35184372088832) (hk : kr ≤ 35184372088832) :
    Calls Try.prog 7 #[.agg #[.bool nr, .slice ar mr cr, .slice br kr dr]] w fun e w' => ∃ v, e = .returned v ∧ (Eqs (.int .i64 (1 + (mr : Int) + (kr : Int)))) v w' ∧ Below w.heap.size w w' := by
  go_enter Try.func7, Try.ntmps7
  generalize hA : (Act.mk _ _) = aa
  have hn : aa.tmps.size = 10 := by rw [← hA]; rfl
  have hd : aa.defers = [] := by rw [← hA]
  have f0 : aa.eval (.tmp 0) = .agg #[.bool nr, .slice ar mr cr, .slice br kr dr] := by rw [← hA]; rfl
  clear hA
  have HB : Below w.heap.size w w := Below.refl _ _
  refine wp_seq ?_
  refine region4 [some 1, some 2] [(fun _ _ => True), Eqs ((.int .i64 0))] [⟨R3, some 0, 0, 1, .agg #[.bool nr, .slice ar mr cr, .slice br kr dr], none, []⟩] [] (by kernel_rfl) hn rfl (by kernel_rfl) (by kernel_rfl) (by kernel_rfl) (by kernel_rfl) (by kernel_rfl) (by kernel_rfl) ⟨True.mono4, Eqs.mono4 _, trivial⟩ (ok_cons R3ok ok_nil) (IsOld.all (bx := [⟨R3, some 0, 0, 1, .agg #[.bool nr, .slice ar mr cr, .slice br kr dr], none, []⟩]) ⟨someNe, trivial⟩) (DisOld.all (bx := [⟨R3, some 0, 0, 1, .agg #[.bool nr, .slice ar mr cr, .slice br kr dr], none, []⟩]) ⟨someNe, trivial⟩) ?_ ?_
  · exact ⟨.alloc 0 _ rfl rfl (.inr ⟨_, rfl, r3_cs, fun a_ hR => (hR 0 rfl).trans f0⟩) rfl rfl rfl rfl rfl,
      .norm 2 rfl rfl rfl (fun a_ w_ hn_ hBt hr hR hD hO hS => op_assign rfl),
      trivial⟩
  · intro a1 w1 gs1 hn1 hd1 hBt hr hR hP hX hU
    replace hn := hn1; replace hd := hd1.trans hd
    have b1 : BoxV R3 w1 (gs1 0) (.agg #[.bool nr, .slice ar mr cr, .slice br kr dr]) := (hX 0 _ rfl).2.2.2
    have f1 := (hX 0 _ rfl).1
    have u1 : w.heap.size ≤ gs1 0 := Nat.le_trans HB.size ((hX 0 _ rfl).2.2.1 (by simp))
    have e2 : a1.eval (.tmp 2) = (.int .i64 0) := hP 1 (by decide)
    have f2 := e2
    replace HB := HB.trans (hBt.below HB.size (UpOld.all (bx := [⟨R3, some 0, 0, 1, .agg #[.bool nr, .slice ar mr cr, .slice br kr dr], none, []⟩]) ⟨someNe, trivial⟩))
    clear hBt hr hR hP hX hU
    refine wp_seq ?_
    refine region4 [some 3, some 4, some 5, some 6, some 7, some 8, some 9, some 2] [Eqs (.pointer (some ⟨gs1 0, 0, none⟩)), Eqs (.agg #[.bool nr, .slice ar mr cr]), Eqs (.int .i64 (1 + (mr : Int))), Eqs (.pointer (some ⟨gs1 0, 2, none⟩)), Eqs (.slice br kr dr), Eqs (.int .i64 (kr : Int)), Eqs (.int .i64 ((1 + (mr : Int)) + (kr : Int))), Eqs (.int .i64 ((1 + (mr : Int)) + (kr : Int)))] [] [] (by kernel_rfl) hn rfl (by kernel_rfl) (by kernel_rfl) (by kernel_rfl) (by kernel_rfl) (by kernel_rfl) (by kernel_rfl) ⟨Eqs.mono4 _, Eqs.mono4 _, Eqs.mono4 _, Eqs.mono4 _, Eqs.mono4 _, Eqs.mono4 _, Eqs.mono4 _, Eqs.mono4 _, trivial⟩ ok_nil (IsOld.all (bx := []) trivial) (DisOld.all (bx := []) trivial) ?_ ?_
    · exact ⟨.norm 3 rfl rfl rfl (fun a_ w_ hn_ hBt hr hR hD hO hS => op_faR fa_num ((hR 1 rfl).trans f1)),
        .norm 4 rfl rfl rfl (fun a_ w_ hn_ hBt hr hR hD hO hS => op_ldnum (show a_.eval (.tmp 3) = .pointer (some ⟨gs1 0, 0, none⟩) from hD 0 rfl) (b1.keep hBt trivial)),
        .norm 5 rfl rfl rfl (fun a_ w_ hn_ hBt hr hR hD hO hS => op_lenw (show a_.eval (.tmp 4) = .agg #[.bool nr, .slice ar mr cr] from hD 1 rfl) (by omega)),
        .norm 6 rfl rfl rfl (fun a_ w_ hn_ hBt hr hR hD hO hS => op_faR fa_den ((hR 1 rfl).trans f1)),
        .norm 7 rfl rfl rfl (fun a_ w_ hn_ hBt hr hR hD hO hS => op_ldden (show a_.eval (.tmp 6) = .pointer (some ⟨gs1 0, 2, none⟩) from hD 3 rfl) (b1.keep hBt trivial)),
        .norm 8 rfl rfl rfl (fun a_ w_ hn_ hBt hr hR hD hO hS => op_len (show a_.eval (.tmp 7) = .slice br kr dr from hD 4 rfl)),
        .norm 9 rfl rfl rfl (fun a_ w_ hn_ hBt hr hR hD hO hS => op_plus (show a_.eval (.tmp 5) = .int .i64 (1 + (mr : Int)) from hD 2 rfl) (show a_.eval (.tmp 8) = .int .i64 (kr : Int) from hD 5 rfl) (by omega)),
        .norm 2 rfl rfl rfl (fun a_ w_ hn_ hBt hr hR hD hO hS => op_assign (show a_.eval (.tmp 9) = .int .i64 ((1 + (mr : Int)) + (kr : Int)) from hD 6 rfl)),
        trivial⟩
    · intro a2 w2 gs2 hn2 hd2 hBt hr hR hP hX hU
      replace hn := hn2; replace hd := hd2.trans hd
      have e2 : a2.eval (.tmp 2) = .int .i64 ((1 + (mr : Int)) + (kr : Int)) := hP 7 (by decide)
      have f2 := e2
      replace HB := HB.trans (hBt.below HB.size (UpOld.all (bx := []) trivial))
      clear hBt hr hR hP hX hU
      refine wp_ret ?_
      repeat (first | refine then_ret ?_ | refine scope_ret ?_ | refine block_ret ?_)
      exact bodyPost_ret (v := .int .i64 ((1 + (mr : Int)) + (kr : Int))) (res_t rfl f2) hd ⟨_, rfl, rfl, HB⟩

theorem has_rlen : Has Try.prog 7 := by unfold Has; kernel_rfl
theorem op_rlen {dst : Option Tmp} {ty : TypeId} {pos : String} {after : Array Edge} {guard : Option (Nat × Bool)} {a : Act} {w : World} {ats : Array TypeId} {i : Nat} {nr : Bool} {ar br : Option Addr} {mr cr kr dr : Nat} (h : a.eval (.tmp i) = .agg #[.bool nr, .slice ar mr cr, .slice br kr dr]) (hm : mr ≤ 35184372088832) (hk : kr ≤ 35184372088832) :
    Does Try.prog { dst, op := .call { callee := .value (.func 7), args := #[.tmp i], argTypes := ats }, type := ty, pos, after, guard } a.eval w fun v w' => Below w.heap.size w w' ∧ Eqs (.int .i64 (1 + (mr : Int) + (kr : Int))) v w' := by
  refine does_call has_rlen _ (by simp only [List.map_toArray, List.map_cons, List.map_nil, h]) ((rlen_z w nr ar mr cr br kr dr hm hk).mono ?_)
  rintro e w' ⟨v, rfl, h1, hb⟩
  exact ⟨_, rfl, hb, h1⟩

set_option maxRecDepth 20000 in
set_option maxHeartbeats 1000000 in
theorem samer_z (w : World) (nr : Bool) (ar : Option Addr) (cr : Nat) (rs : List Int) (pr : Int) (Gr : Wh w nr ar cr rs pr) (br : Option Addr) (dr : Nat) (rt : List Int) (qr : Int) (Kr : Got w br dr rt qr) (nu : Bool) (au : Option Addr) (cu : Nat) (us : List Int) (pu : Int) (Gu : Wh w nu au cu us pu) (bu : Option Addr) (du : Nat) (ut : List Int) (qu : Int) (Ku : Got w bu du ut qu) (hp : pr = pu) :
    Calls Try.prog 19 #[.agg #[.bool nr, .slice ar rs.length cr, .slice br rt.length dr], .agg #[.bool nu, .slice au us.length cu, .slice bu ut.length du]] w fun e w' => ∃ v, e = .returned v ∧ (Eqs (.bool (decide (qr = qu)))) v w' ∧ Below w.heap.size w w' := by
  go_enter Try.func19, Try.ntmps19
  generalize hA : (Act.mk _ _) = aa
  have hn : aa.tmps.size = 17 := by rw [← hA]; rfl
  have hd : aa.defers = [] := by rw [← hA]
  have f0 : aa.eval (.tmp 0) = .agg #[.bool nr, .slice ar rs.length cr, .slice br rt.length dr] := by rw [← hA]; rfl
  have f1 : aa.eval (.tmp 1) = .agg #[.bool nu, .slice au us.length cu, .slice bu ut.length du] := by rw [← hA]; rfl
  clear hA
  have HB : Below w.heap.size w w := Below.refl _ _
  refine wp_seq ?_
  refine region4 [some 2, some 3, some 4] [(fun _ _ => True), (fun _ _ => True), Eqs ((.bool false))] [⟨R3, some 0, 0, 2, .agg #[.bool nr, .slice ar rs.length cr, .slice br rt.length dr], none, []⟩, ⟨R3, some 1, 0, 3, .agg #[.bool nu, .slice au us.length cu, .slice bu ut.length du], none, []⟩] [] (by kernel_rfl) hn rfl (by kernel_rfl) (by kernel_rfl) (by kernel_rfl) (by kernel_rfl) (by kernel_rfl) (by kernel_rfl) ⟨True.mono4, True.mono4, Eqs.mono4 _, trivial⟩ (ok_cons R3ok (ok_cons R3ok ok_nil)) (IsOld.all (bx := [⟨R3, some 0, 0, 2, .agg #[.bool nr, .slice ar rs.length cr, .slice br rt.length dr], none, []⟩, ⟨R3, some 1, 0, 3, .agg #[.bool nu, .slice au us.length cu, .slice bu ut.length du], none, []⟩]) ⟨someNe, someNe, trivial⟩) (DisOld.all (bx := [⟨R3, some 0, 0, 2, .agg #[.bool nr, .slice ar rs.length cr, .slice br rt.length dr], none, []⟩, ⟨R3, some 1, 0, 3, .agg #[.bool nu, .slice au us.length cu, .slice bu ut.length du], none, []⟩]) ⟨someNe, someNe, trivial⟩) ?_ ?_
  · exact ⟨.alloc 0 _ rfl rfl (.inr ⟨_, rfl, r3_cs, fun a_ hR => (hR 0 rfl).trans f0⟩) rfl rfl rfl rfl rfl,
      .alloc 1 _ rfl rfl (.inr ⟨_, rfl, r3_cs, fun a_ hR => (hR 1 rfl).trans f1⟩) rfl rfl rfl rfl rfl,
      .norm 4 rfl rfl rfl (fun a_ w_ hn_ hBt hr hR hD hO hS => op_assign rfl),
      trivial⟩
  · intro a1 w1 gs1 hn1 hd1 hBt hr hR hP hX hU
    replace hn := hn1; replace hd := hd1.trans hd
    have b2 : BoxV R3 w1 (gs1 0) (.agg #[.bool nr, .slice ar rs.length cr, .slice br rt.length dr]) := (hX 0 _ rfl).2.2.2
    have f2 := (hX 0 _ rfl).1
    have u2 : w.heap.size ≤ gs1 0 := Nat.le_trans HB.size ((hX 0 _ rfl).2.2.1 (by simp))
    have b3 : BoxV R3 w1 (gs1 1) (.agg #[.bool nu, .slice au us.length cu, .slice bu ut.length du]) := (hX 1 _ rfl).2.2.2
    have f3 := (hX 1 _ rfl).1
    have u3 : w.heap.size ≤ gs1 1 := Nat.le_trans HB.size ((hX 1 _ rfl).2.2.1 (by simp))
    have e4 : a1.eval (.tmp 4) = (.bool false) := hP 2 (by decide)
    have f4 := e4
    replace Gr := Gr.rl hr
    replace Kr := Kr.rl hr
    replace Gu := Gu.rl hr
    replace Ku := Ku.rl hr
    replace HB := HB.trans (hBt.below HB.size (UpOld.all (bx := [⟨R3, some 0, 0, 2, .agg #[.bool nr, .slice ar rs.length cr, .slice br rt.length dr], none, []⟩, ⟨R3, some 1, 0, 3, .agg #[.bool nu, .slice au us.length cu, .slice bu ut.length du], none, []⟩]) ⟨someNe, someNe, trivial⟩))
    clear hBt hr hR hP hX hU
    refine wp_seq ?_
    refine region4 [some 5, some 6, some 7, some 8, some 9, some 10, some 11, some 12, some 13, some 14, some 15, some 16, some 4] [Eqs (.pointer (some ⟨gs1 0, 0, none⟩)), Eqs (.agg #[.bool nr, .slice ar rs.length cr]), Eqs (.pointer (some ⟨gs1 1, 0, none⟩)), Eqs (.agg #[.bool nu, .slice au us.length cu]), Eqs (.bool true), Eqs (.bool true), Eqs (.pointer (some ⟨gs1 0, 2, none⟩)), Eqs (.slice br rt.length dr), Eqs (.pointer (some ⟨gs1 1, 2, none⟩)), Eqs (.slice bu ut.length du), Eqs (.bool (decide (qr = qu))), Eqs (.bool (decide (qr = qu))), Eqs (.bool (decide (qr = qu)))] [] [] (by kernel_rfl) hn rfl (by kernel_rfl) (by kernel_rfl) (by kernel_rfl) (by kernel_rfl) (by kernel_rfl) (by kernel_rfl) ⟨Eqs.mono4 _, Eqs.mono4 _, Eqs.mono4 _, Eqs.mono4 _, Eqs.mono4 _, Eqs.mono4 _, Eqs.mono4 _, Eqs.mono4 _, Eqs.mono4 _, Eqs.mono4 _, Eqs.mono4 _, Eqs.mono4 _, Eqs.mono4 _, trivial⟩ ok_nil (IsOld.all (bx := []) trivial) (DisOld.all (bx := []) trivial) ?_ ?_
    · exact ⟨.norm 5 rfl rfl rfl (fun a_ w_ hn_ hBt hr hR hD hO hS => op_faR fa_num ((hR 2 rfl).trans f2)),
        .norm 6 rfl rfl rfl (fun a_ w_ hn_ hBt hr hR hD hO hS => op_ldnum (show a_.eval (.tmp 5) = .pointer (some ⟨gs1 0, 0, none⟩) from hD 0 rfl) (b2.keep hBt trivial)),
        .norm 7 rfl rfl rfl (fun a_ w_ hn_ hBt hr hR hD hO hS => op_faR fa_num ((hR 3 rfl).trans f3)),
        .norm 8 rfl rfl rfl (fun a_ w_ hn_ hBt hr hR hD hO hS => op_ldnum (show a_.eval (.tmp 7) = .pointer (some ⟨gs1 1, 0, none⟩) from hD 2 rfl) (b3.keep hBt trivial)),
        .norm 9 rfl rfl rfl (fun a_ w_ hn_ hBt hr hR hD hO hS => op_same (outw_eq (show a_.eval (.tmp 6) = .agg #[.bool nr, .slice ar rs.length cr] from hD 1 rfl) (Gr.rl hr) (Nat.le_refl _)) (outw_eq (show a_.eval (.tmp 8) = .agg #[.bool nu, .slice au us.length cu] from hD 3 rfl) (Gu.rl hr) (Nat.le_refl _)) hp),
        .norm 10 rfl rfl rfl (fun a_ w_ hn_ hBt hr hR hD hO hS => op_mv (show a_.eval (.tmp 9) = .bool true from hD 4 rfl)),
        .norm 11 rfl rfl rfl (fun a_ w_ hn_ hBt hr hR hD hO hS => ⟨⟨_, rfl⟩, fun _ => op_faR fa_den ((hR 2 rfl).trans f2), fun hne => absurd (hD 5 rfl) hne⟩),
        .norm 12 rfl rfl rfl (fun a_ w_ hn_ hBt hr hR hD hO hS => ⟨⟨_, rfl⟩, fun _ => op_ldden (show a_.eval (.tmp 11) = .pointer (some ⟨gs1 0, 2, none⟩) from hD 6 rfl) (b2.keep hBt trivial), fun hne => absurd (hD 5 rfl) hne⟩),
        .norm 13 rfl rfl rfl (fun a_ w_ hn_ hBt hr hR hD hO hS => ⟨⟨_, rfl⟩, fun _ => op_faR fa_den ((hR 3 rfl).trans f3), fun hne => absurd (hD 5 rfl) hne⟩),
        .norm 14 rfl rfl rfl (fun a_ w_ hn_ hBt hr hR hD hO hS => ⟨⟨_, rfl⟩, fun _ => op_ldden (show a_.eval (.tmp 13) = .pointer (some ⟨gs1 1, 2, none⟩) from hD 8 rfl) (b3.keep hBt trivial), fun hne => absurd (hD 5 rfl) hne⟩),
        .norm 15 rfl rfl rfl (fun a_ w_ hn_ hBt hr hR hD hO hS => ⟨⟨_, rfl⟩, fun _ => op_samel (outl_eq (show a_.eval (.tmp 12) = .slice br rt.length dr from hD 7 rfl) (Kr.rl hr) (Nat.le_refl _)) (outl_eq (show a_.eval (.tmp 14) = .slice bu ut.length du from hD 9 rfl) (Ku.rl hr) (Nat.le_refl _)), fun hne => absurd (hD 5 rfl) hne⟩),
        .norm 16 rfl rfl rfl (fun a_ w_ hn_ hBt hr hR hD hO hS => op_pickb (show a_.eval (.tmp 10) = .bool true from hD 5 rfl) (show a_.eval (.tmp 15) = .bool (decide (qr = qu)) from hD 10 rfl)),
        .norm 4 rfl rfl rfl (fun a_ w_ hn_ hBt hr hR hD hO hS => op_assign (show a_.eval (.tmp 16) = .bool (decide (qr = qu)) from hD 11 rfl)),
        trivial⟩
    · intro a2 w2 gs2 hn2 hd2 hBt hr hR hP hX hU
      replace hn := hn2; replace hd := hd2.trans hd
      have e4 : a2.eval (.tmp 4) = .bool (decide (qr = qu)) := hP 12 (by decide)
      have f4 := e4
      replace Gr := Gr.rl hr
      replace Kr := Kr.rl hr
      replace Gu := Gu.rl hr
      replace Ku := Ku.rl hr
      replace HB := HB.trans (hBt.below HB.size (UpOld.all (bx := []) trivial))
      clear hBt hr hR hP hX hU
      refine wp_ret ?_
      repeat (first | refine then_ret ?_ | refine scope_ret ?_ | refine block_ret ?_)
      exact bodyPost_ret (v := .bool (decide (qr = qu))) (res_t rfl f4) hd ⟨_, rfl, rfl, HB⟩

set_option maxRecDepth 20000 in
set_option maxHeartbeats 1000000 in
theorem samerf_z (w : World) (nr : Bool) (ar : Option Addr) (cr : Nat) (rs : List Int) (pr : Int) (Gr : Wh w nr ar cr rs pr) (br : Option Addr) (dr : Nat) (rt : List Int) (qr : Int) (Kr : Got w br dr rt qr) (nu : Bool) (au : Option Addr) (cu : Nat) (us : List Int) (pu : Int) (Gu : Wh w nu au cu us pu) (bu : Option Addr) (du : Nat) (ut : List Int) (qu : Int) (Ku : Got w bu du ut qu) (hp : pr ≠ pu) :
    Calls Try.prog 19 #[.agg #[.bool nr, .slice ar rs.length cr, .slice br rt.length dr], .agg #[.bool nu, .slice au us.length cu, .slice bu ut.length du]] w fun e w' => ∃ v, e = .returned v ∧ (Eqs (.bool false)) v w' ∧ Below w.heap.size w w' := by
  go_enter Try.func19, Try.ntmps19
  generalize hA : (Act.mk _ _) = aa
  have hn : aa.tmps.size = 17 := by rw [← hA]; rfl
  have hd : aa.defers = [] := by rw [← hA]
  have f0 : aa.eval (.tmp 0) = .agg #[.bool nr, .slice ar rs.length cr, .slice br rt.length dr] := by rw [← hA]; rfl
  have f1 : aa.eval (.tmp 1) = .agg #[.bool nu, .slice au us.length cu, .slice bu ut.length du] := by rw [← hA]; rfl
  clear hA
  have HB : Below w.heap.size w w := Below.refl _ _
  refine wp_seq ?_
  refine region4 [some 2, some 3, some 4] [(fun _ _ => True), (fun _ _ => True), Eqs ((.bool false))] [⟨R3, some 0, 0, 2, .agg #[.bool nr, .slice ar rs.length cr, .slice br rt.length dr], none, []⟩, ⟨R3, some 1, 0, 3, .agg #[.bool nu, .slice au us.length cu, .slice bu ut.length du], none, []⟩] [] (by kernel_rfl) hn rfl (by kernel_rfl) (by kernel_rfl) (by kernel_rfl) (by kernel_rfl) (by kernel_rfl) (by kernel_rfl) ⟨True.mono4, True.mono4, Eqs.mono4 _, trivial⟩ (ok_cons R3ok (ok_cons R3ok ok_nil)) (IsOld.all (bx := [⟨R3, some 0, 0, 2, .agg #[.bool nr, .slice ar rs.length cr, .slice br rt.length dr], none, []⟩, ⟨R3, some 1, 0, 3, .agg #[.bool nu, .slice au us.length cu, .slice bu ut.length du], none, []⟩]) ⟨someNe, someNe, trivial⟩) (DisOld.all (bx := [⟨R3, some 0, 0, 2, .agg #[.bool nr, .slice ar rs.length cr, .slice br rt.length dr], none, []⟩, ⟨R3, some 1, 0, 3, .agg #[.bool nu, .slice au us.length cu, .slice bu ut.length du], none, []⟩]) ⟨someNe, someNe, trivial⟩) ?_ ?_
  · exact ⟨.alloc 0 _ rfl rfl (.inr ⟨_, rfl, r3_cs, fun a_ hR => (hR 0 rfl).trans f0⟩) rfl rfl rfl rfl rfl,
      .alloc 1 _ rfl rfl (.inr ⟨_, rfl, r3_cs, fun a_ hR => (hR 1 rfl).trans f1⟩) rfl rfl rfl rfl rfl,
      .norm 4 rfl rfl rfl (fun a_ w_ hn_ hBt hr hR hD hO hS => op_assign rfl),
      trivial⟩
  · intro a1 w1 gs1 hn1 hd1 hBt hr hR hP hX hU
    replace hn := hn1; replace hd := hd1.trans hd
    have b2 : BoxV R3 w1 (gs1 0) (.agg #[.bool nr, .slice ar rs.length cr, .slice br rt.length dr]) := (hX 0 _ rfl).2.2.2
    have f2 := (hX 0 _ rfl).1
    have u2 : w.heap.size ≤ gs1 0 := Nat.le_trans HB.size ((hX 0 _ rfl).2.2.1 (by simp))
    have b3 : BoxV R3 w1 (gs1 1) (.agg #[.bool nu, .slice au us.length cu, .slice bu ut.length du]) := (hX 1 _ rfl).2.2.2
    have f3 := (hX 1 _ rfl).1
    have u3 : w.heap.size ≤ gs1 1 := Nat.le_trans HB.size ((hX 1 _ rfl).2.2.1 (by simp))
    have e4 : a1.eval (.tmp 4) = (.bool false) := hP 2 (by decide)
    have f4 := e4
    replace Gr := Gr.rl hr
    replace Kr := Kr.rl hr
    replace Gu := Gu.rl hr
    replace Ku := Ku.rl hr
    replace HB := HB.trans (hBt.below HB.size (UpOld.all (bx := [⟨R3, some 0, 0, 2, .agg #[.bool nr, .slice ar rs.length cr, .slice br rt.length dr], none, []⟩, ⟨R3, some 1, 0, 3, .agg #[.bool nu, .slice au us.length cu, .slice bu ut.length du], none, []⟩]) ⟨someNe, someNe, trivial⟩))
    clear hBt hr hR hP hX hU
    refine wp_seq ?_
    refine region4 [some 5, some 6, some 7, some 8, some 9, some 10, some 11, some 12, some 13, some 14, some 15, some 16, some 4] [Eqs (.pointer (some ⟨gs1 0, 0, none⟩)), Eqs (.agg #[.bool nr, .slice ar rs.length cr]), Eqs (.pointer (some ⟨gs1 1, 0, none⟩)), Eqs (.agg #[.bool nu, .slice au us.length cu]), Eqs (.bool false), Eqs (.bool false), (fun _ _ => True), (fun _ _ => True), (fun _ _ => True), (fun _ _ => True), (fun _ _ => True), Eqs (.bool false), Eqs (.bool false)] [] [] (by kernel_rfl) hn rfl (by kernel_rfl) (by kernel_rfl) (by kernel_rfl) (by kernel_rfl) (by kernel_rfl) (by kernel_rfl) ⟨Eqs.mono4 _, Eqs.mono4 _, Eqs.mono4 _, Eqs.mono4 _, Eqs.mono4 _, Eqs.mono4 _, True.mono4, True.mono4, True.mono4, True.mono4, True.mono4, Eqs.mono4 _, Eqs.mono4 _, trivial⟩ ok_nil (IsOld.all (bx := []) trivial) (DisOld.all (bx := []) trivial) ?_ ?_
    · exact ⟨.norm 5 rfl rfl rfl (fun a_ w_ hn_ hBt hr hR hD hO hS => op_faR fa_num ((hR 2 rfl).trans f2)),
        .norm 6 rfl rfl rfl (fun a_ w_ hn_ hBt hr hR hD hO hS => op_ldnum (show a_.eval (.tmp 5) = .pointer (some ⟨gs1 0, 0, none⟩) from hD 0 rfl) (b2.keep hBt trivial)),
        .norm 7 rfl rfl rfl (fun a_ w_ hn_ hBt hr hR hD hO hS => op_faR fa_num ((hR 3 rfl).trans f3)),
        .norm 8 rfl rfl rfl (fun a_ w_ hn_ hBt hr hR hD hO hS => op_ldnum (show a_.eval (.tmp 7) = .pointer (some ⟨gs1 1, 0, none⟩) from hD 2 rfl) (b3.keep hBt trivial)),
        .norm 9 rfl rfl rfl (fun a_ w_ hn_ hBt hr hR hD hO hS => op_samef (outw_eq (show a_.eval (.tmp 6) = .agg #[.bool nr, .slice ar rs.length cr] from hD 1 rfl) (Gr.rl hr) (Nat.le_refl _)) (outw_eq (show a_.eval (.tmp 8) = .agg #[.bool nu, .slice au us.length cu] from hD 3 rfl) (Gu.rl hr) (Nat.le_refl _)) hp),
        .norm 10 rfl rfl rfl (fun a_ w_ hn_ hBt hr hR hD hO hS => op_mv (show a_.eval (.tmp 9) = .bool false from hD 4 rfl)),
        .norm 11 rfl rfl rfl (fun a_ w_ hn_ hBt hr hR hD hO hS => ⟨⟨_, rfl⟩, fun h => absurd ((show _ = Value.bool false from hD 5 rfl).symm.trans h) (by simp), fun _ => trivial⟩),
        .norm 12 rfl rfl rfl (fun a_ w_ hn_ hBt hr hR hD hO hS => ⟨⟨_, rfl⟩, fun h => absurd ((show _ = Value.bool false from hD 5 rfl).symm.trans h) (by simp), fun _ => trivial⟩),
        .norm 13 rfl rfl rfl (fun a_ w_ hn_ hBt hr hR hD hO hS => ⟨⟨_, rfl⟩, fun h => absurd ((show _ = Value.bool false from hD 5 rfl).symm.trans h) (by simp), fun _ => trivial⟩),
        .norm 14 rfl rfl rfl (fun a_ w_ hn_ hBt hr hR hD hO hS => ⟨⟨_, rfl⟩, fun h => absurd ((show _ = Value.bool false from hD 5 rfl).symm.trans h) (by simp), fun _ => trivial⟩),
        .norm 15 rfl rfl rfl (fun a_ w_ hn_ hBt hr hR hD hO hS => ⟨⟨_, rfl⟩, fun h => absurd ((show _ = Value.bool false from hD 5 rfl).symm.trans h) (by simp), fun _ => trivial⟩),
        .norm 16 rfl rfl rfl (fun a_ w_ hn_ hBt hr hR hD hO hS => op_pickb (show a_.eval (.tmp 10) = .bool false from hD 5 rfl) rfl),
        .norm 4 rfl rfl rfl (fun a_ w_ hn_ hBt hr hR hD hO hS => op_assign (show a_.eval (.tmp 16) = .bool false from hD 11 rfl)),
        trivial⟩
    · intro a2 w2 gs2 hn2 hd2 hBt hr hR hP hX hU
      replace hn := hn2; replace hd := hd2.trans hd
      have e4 : a2.eval (.tmp 4) = .bool false := hP 12 (by decide)
      have f4 := e4
      replace Gr := Gr.rl hr
      replace Kr := Kr.rl hr
      replace Gu := Gu.rl hr
      replace Ku := Ku.rl hr
      replace HB := HB.trans (hBt.below HB.size (UpOld.all (bx := []) trivial))
      clear hBt hr hR hP hX hU
      refine wp_ret ?_
      repeat (first | refine then_ret ?_ | refine scope_ret ?_ | refine block_ret ?_)
      exact bodyPost_ret (v := .bool false) (res_t rfl f4) hd ⟨_, rfl, rfl, HB⟩

theorem has_samer : Has Try.prog 19 := by unfold Has; kernel_rfl
theorem op_samerb {dst : Option Tmp} {ty : TypeId} {pos : String} {after : Array Edge} {guard : Option (Nat × Bool)} {a : Act} {w : World} {ats : Array TypeId} {i j : Nat} {pr qr pu qu : Int} {Lr Lu : Nat} (h1 : OutR pr qr Lr (a.eval (.tmp i)) w) (h2 : OutR pu qu Lu (a.eval (.tmp j)) w) :
    Does Try.prog { dst, op := .call { callee := .value (.func 19), args := #[.tmp i, .tmp j], argTypes := ats }, type := ty, pos, after, guard } a.eval w fun v w' => Below w.heap.size w w' ∧ Eqs (.bool (decide (pr = pu ∧ qr = qu))) v w' := by
  obtain ⟨ng, ao, cap, rs, bo, dap, ss, e1, G1, K1, _, _⟩ := h1
  obtain ⟨ng2, ao2, cap2, rs2, bo2, dap2, ss2, e2, G2, K2, _, _⟩ := h2
  by_cases hp : pr = pu
  · refine does_call has_samer _ (by simp only [List.map_toArray, List.map_cons, List.map_nil, e1, e2]) ((samer_z w _ _ _ _ _ G1 _ _ _ _ K1 _ _ _ _ _ G2 _ _ _ _ K2 hp).mono ?_)
    rintro e w' ⟨v, rfl, h1, hb⟩
    exact ⟨_, rfl, hb, by simpa [hp] using h1⟩
  · refine does_call has_samer _ (by simp only [List.map_toArray, List.map_cons, List.map_nil, e1, e2]) ((samerf_z w _ _ _ _ _ G1 _ _ _ _ K1 _ _ _ _ _ G2 _ _ _ _ K2 hp).mono ?_)
    rintro e w' ⟨v, rfl, h1, hb⟩
    exact ⟨_, rfl, hb, by simpa [hp] using h1⟩
theorem op_samer {dst : Option Tmp} {ty : TypeId} {pos : String} {after : Array Edge} {guard : Option (Nat × Bool)} {a : Act} {w : World} {ats : Array TypeId} {i j : Nat} {pr qr pu qu : Int} {Lr Lu : Nat} (h1 : OutR pr qr Lr (a.eval (.tmp i)) w) (h2 : OutR pu qu Lu (a.eval (.tmp j)) w) (h : pr = pu ∧ qr = qu) :
    Does Try.prog { dst, op := .call { callee := .value (.func 19), args := #[.tmp i, .tmp j], argTypes := ats }, type := ty, pos, after, guard } a.eval w fun v w' => Below w.heap.size w w' ∧ Eqs (.bool true) v w' :=
  (op_samerb h1 h2).mono (fun v w' ⟨hb, e⟩ => ⟨hb, by rw [Eqs, e, decide_eq_true h]⟩)
theorem outr_zero {v : Value} (w : World) (h : v = .agg #[.bool false, .slice none 0 0, .slice none 0 0]) : OutR 0 0 0 v w := ⟨false, none, 0, [], none, 0, [], h, ⟨⟨sl_nil w, canon_nil, rfl⟩, rfl⟩, ⟨sl_nil w, canon_nil, rfl⟩, Nat.le_refl _, Nat.le_refl _⟩

set_option maxRecDepth 20000 in
set_option maxHeartbeats 2000000 in
theorem rtext32_z (w : World) (Br : Nat) (nr : Bool) (ar : Option Addr) (mr cr : Nat) (rs : List Int) (pr : Int) (Ar : Ag w nr ar mr cr rs pr) (Lr : rs.length ≤ Br) (br : Option Addr) (kr dr : Nat) (rt : List Int) (qr : Int) (Sr : Sl w (.slice br kr dr) rt) (Vr : val rt = qr) (Mr : rt.length ≤ Br) (hL : Br ≤ 1000) (hp : nm (tp pr qr) (tq qr) = -3) (hq : dn (tp pr qr) (tq qr) = 2) :
    Calls Try.prog 39 #[.agg #[.bool nr, .slice ar mr cr, .slice br kr dr]] w fun e w' => ∃ v, e = .returned v ∧ (Eqs (.string ⟨#[45, 51, 47, 50]⟩)) v w' ∧ Below w.heap.size w w' := by
  go_enter Try.func39, Try.ntmps39
  generalize hA : (Act.mk _ _) = aa
  have hn : aa.tmps.size = 21 := by rw [← hA]; rfl
  have hd : aa.defers = [] := by rw [← hA]
  have f0 : aa.eval (.tmp 0) = .agg #[.bool nr, .slice ar mr cr, .slice br kr dr] := by rw [← hA]; rfl
  clear hA
  have HB : Below w.heap.size w w := Below.refl _ _
  have Dr : Ag w false br kr dr rt qr := ⟨Sr, Vr⟩
  refine wp_seq ?_
  refine region4 [some 1, some 2] [(fun _ _ => True), Eqs ((.string ⟨#[]⟩))] [⟨R3, some 0, 0, 1, .agg #[.bool nr, .slice ar mr cr, .slice br kr dr], none, []⟩] [] (by kernel_rfl) hn rfl (by kernel_rfl) (by kernel_rfl) (by kernel_rfl) (by kernel_rfl) (by kernel_rfl) (by kernel_rfl) ⟨True.mono4, Eqs.mono4 _, trivial⟩ (ok_cons R3ok ok_nil) (IsOld.all (bx := [⟨R3, some 0, 0, 1, .agg #[.bool nr, .slice ar mr cr, .slice br kr dr], none, []⟩]) ⟨someNe, trivial⟩) (DisOld.all (bx := [⟨R3, some 0, 0, 1, .agg #[.bool nr, .slice ar mr cr, .slice br kr dr], none, []⟩]) ⟨someNe, trivial⟩) ?_ ?_
  · exact ⟨.alloc 0 _ rfl rfl (.inr ⟨_, rfl, r3_cs, fun a_ hR => (hR 0 rfl).trans f0⟩) rfl rfl rfl rfl rfl,
      .norm 2 rfl rfl rfl (fun a_ w_ hn_ hBt hr hR hD hO hS => op_assign rfl),
      trivial⟩
  · intro a1 w1 gs1 hn1 hd1 hBt hr hR hP hX hU
    replace hn := hn1; replace hd := hd1.trans hd
    have b1 : BoxV R3 w1 (gs1 0) (.agg #[.bool nr, .slice ar mr cr, .slice br kr dr]) := (hX 0 _ rfl).2.2.2
    have f1 := (hX 0 _ rfl).1
    have u1 : w.heap.size ≤ gs1 0 := Nat.le_trans HB.size ((hX 0 _ rfl).2.2.1 (by simp))
    have e2 : a1.eval (.tmp 2) = (.string ⟨#[]⟩) := hP 1 (by decide)
    have f2 := e2
    replace Ar := Ar.rl hr
    replace Sr := Sr.rl hr
    replace Dr := Dr.rl hr
    replace HB := HB.trans (hBt.below HB.size (UpOld.all (bx := [⟨R3, some 0, 0, 1, .agg #[.bool nr, .slice ar mr cr, .slice br kr dr], none, []⟩]) ⟨someNe, trivial⟩))
    clear hBt hr hR hP hX hU
    refine wp_seq ?_
    refine region4 [some 5, some 6, some 3, none] [Eqs (.agg #[.bool nr, .slice ar mr cr, .slice br kr dr]), OutR ((nm (tp pr qr) (tq qr))) ((dn (tp pr qr) (tq qr))) (2 * ((Br) + 2)), (fun _ _ => True), (fun _ _ => True)] [⟨R3, some 2, 0, 3, .agg #[.bool false, .slice none 0 0, .slice none 0 0], some (3, 6, 1), []⟩] [] (by kernel_rfl) hn rfl (by kernel_rfl) (by kernel_rfl) (by kernel_rfl) (by kernel_rfl) (by kernel_rfl) (by kernel_rfl) ⟨Eqs.mono4 _, OutR.mono4 _ _ _, True.mono4, True.mono4, trivial⟩ (ok_cons R3ok ok_nil) (IsOld.all (bx := [⟨R3, some 2, 0, 3, .agg #[.bool false, .slice none 0 0, .slice none 0 0], some (3, 6, 1), []⟩]) ⟨someNe, trivial⟩) (DisOld.all (bx := [⟨R3, some 2, 0, 3, .agg #[.bool false, .slice none 0 0, .slice none 0 0], some (3, 6, 1), []⟩]) ⟨someNe, trivial⟩) ?_ ?_
    · exact ⟨.norm 5 rfl rfl rfl (fun a_ w_ hn_ hBt hr hR hD hO hS => op_loadv R3ok ((hR 1 rfl).trans f1) (b1.keep hBt ⟨someNe, trivial⟩)),
        .norm 6 rfl rfl rfl (fun a_ w_ hn_ hBt hr hR hD hO hS => op_rtrim (isr_eq (show a_.eval (.tmp 5) = .agg #[.bool nr, .slice ar mr cr, .slice br kr dr] from hD 0 rfl) (Ar.rl hr) (Sr.rl hr) Vr Lr Mr) (by omega)),
        .alloc 0 _ rfl rfl (.inl ⟨rfl, rfl⟩) rfl rfl rfl rfl rfl,
        .store 0 _ _ _ rfl rfl rfl rfl rfl rfl rfl (fun ia h => by cases h; rfl) rfl rfl rfl OutR.cs,
        trivial⟩
    · intro a2 w2 gs2 hn2 hd2 hBt hr hR hP hX hU
      replace hn := hn2; replace hd := hd2.trans hd
      obtain ⟨n_3, a_3, c_3, r_3, b_3, d_3, s_3, e6, G3, K3, l3, k3⟩ : OutR ((nm (tp pr qr) (tq qr))) ((dn (tp pr qr) (tq qr))) (2 * ((Br) + 2)) (a2.eval (.tmp 6)) w2 := hP 1 (by decide)
      have A3 := G3.ag; have S3 := K3.sl; have V3 := K3.val
      have b3 : BoxV R3 w2 (gs2 0) (.agg #[.bool n_3, .slice a_3 r_3.length c_3, .slice b_3 s_3.length d_3]) := boxv_of (hX 0 _ rfl).2.2.2 e6
      have f3 := (hX 0 _ rfl).1
      have u3 : w.heap.size ≤ gs2 0 := Nat.le_trans HB.size ((hX 0 _ rfl).2.2.1 (by simp))
      replace f2 := (hR 2 rfl).trans f2
      replace Ar := Ar.rl hr
      replace Sr := Sr.rl hr
      replace Dr := Dr.rl hr
      replace HB := HB.trans (hBt.below HB.size (UpOld.all (bx := [⟨R3, some 2, 0, 3, .agg #[.bool false, .slice none 0 0, .slice none 0 0], some (3, 6, 1), []⟩]) ⟨someNe, trivial⟩))
      clear hBt hr hR hP hX hU
      refine wp_seq ?_
      refine region4 [some 7, some 8, some 9, some 4] [Eqs (.pointer (some ⟨gs2 0, 0, none⟩)), Eqs (.agg #[.bool n_3, .slice a_3 r_3.length c_3]), Eqs (.string ⟨#[45, 51]⟩), Eqs (.string ⟨#[45, 51]⟩)] [] [] (by kernel_rfl) hn rfl (by kernel_rfl) (by kernel_rfl) (by kernel_rfl) (by kernel_rfl) (by kernel_rfl) (by kernel_rfl) ⟨Eqs.mono4 _, Eqs.mono4 _, Eqs.mono4 _, Eqs.mono4 _, trivial⟩ ok_nil (IsOld.all (bx := []) trivial) (DisOld.all (bx := []) trivial) ?_ ?_
      · exact ⟨.norm 7 rfl rfl rfl (fun a_ w_ hn_ hBt hr hR hD hO hS => op_faR fa_num ((hR 3 rfl).trans f3)),
          .norm 8 rfl rfl rfl (fun a_ w_ hn_ hBt hr hR hD hO hS => op_ldnum (show a_.eval (.tmp 7) = .pointer (some ⟨gs2 0, 0, none⟩) from hD 0 rfl) (b3.keep hBt trivial)),
          .norm 9 rfl rfl rfl (fun a_ w_ hn_ hBt hr hR hD hO hS => op_text3 (outw_eq (show a_.eval (.tmp 8) = .agg #[.bool n_3, .slice a_3 r_3.length c_3] from hD 1 rfl) (G3.rl hr) l3) hp (by omega)),
          .norm 4 rfl rfl rfl (fun a_ w_ hn_ hBt hr hR hD hO hS => op_assign (show a_.eval (.tmp 9) = .string ⟨#[45, 51]⟩ from hD 2 rfl)),
          trivial⟩
      · intro a4 w4 gs4 hn4 hd4 hBt hr hR hP hX hU
        replace hn := hn4; replace hd := hd4.trans hd
        replace b3 := b3.keep hBt trivial
        replace f2 := (hR 2 rfl).trans f2
        replace f3 := (hR 3 rfl).trans f3
        have e4 : a4.eval (.tmp 4) = .string ⟨#[45, 51]⟩ := hP 3 (by decide)
        have f4 := e4
        replace Ar := Ar.rl hr
        replace Sr := Sr.rl hr
        replace Dr := Dr.rl hr
        replace G3 := G3.rl hr
        replace A3 := A3.rl hr
        replace K3 := K3.rl hr
        replace S3 := S3.rl hr
        replace HB := HB.trans (hBt.below HB.size (UpOld.all (bx := []) trivial))
        clear hBt hr hR hP hX hU
        refine wp_seq ?_
        refine wp_seq ?_
        refine region4 [some 10, some 11, some 12, some 13] [Eqs (.pointer (some ⟨gs2 0, 2, none⟩)), Eqs (.slice b_3 s_3.length d_3), BitsOf ((dn (tp pr qr) (tq qr))), Eqs (.bool (decide ((dn (tp pr qr) (tq qr)) = 1)))] [] [] (by kernel_rfl) hn rfl (by kernel_rfl) (by kernel_rfl) (by kernel_rfl) (by kernel_rfl) (by kernel_rfl) (by kernel_rfl) ⟨Eqs.mono4 _, Eqs.mono4 _, BitsOf.mono4 _, Eqs.mono4 _, trivial⟩ ok_nil (IsOld.all (bx := []) trivial) (DisOld.all (bx := []) trivial) ?_ ?_
        · exact ⟨.norm 10 rfl rfl rfl (fun a_ w_ hn_ hBt hr hR hD hO hS => op_faR fa_den ((hR 3 rfl).trans f3)),
            .norm 11 rfl rfl rfl (fun a_ w_ hn_ hBt hr hR hD hO hS => op_ldden (show a_.eval (.tmp 10) = .pointer (some ⟨gs2 0, 2, none⟩) from hD 0 rfl) (b3.keep hBt trivial)),
            .norm 12 rfl rfl rfl (fun a_ w_ hn_ hBt hr hR hD hO hS => op_lbits (isl_eq (show a_.eval (.tmp 11) = .slice b_3 s_3.length d_3 from hD 1 rfl) (S3.rl hr) V3 k3) (by omega)),
            .norm 13 rfl rfl rfl (fun a_ w_ hn_ hBt hr hR hD hO hS => op_bits1 (show BitsOf ((dn (tp pr qr) (tq qr))) (a_.eval (.tmp 12)) w_ from hD 2 rfl) (by rw [hq]; omega)),
            trivial⟩
        · intro a5 w5 gs5 hn5 hd5 hBt hr hR hP hX hU
          replace hn := hn5; replace hd := hd5.trans hd
          replace b3 := b3.keep hBt trivial
          replace f2 := (hR 2 rfl).trans f2
          replace f3 := (hR 3 rfl).trans f3
          replace f4 := (hR 4 rfl).trans f4
          have e13 : a5.eval (.tmp 13) = .bool (decide ((dn (tp pr qr) (tq qr)) = 1)) := hP 3 (by decide)
          have f13 := e13
          replace Ar := Ar.rl hr
          replace Sr := Sr.rl hr
          replace Dr := Dr.rl hr
          replace G3 := G3.rl hr
          replace A3 := A3.rl hr
          replace K3 := K3.rl hr
          replace S3 := S3.rl hr
          replace HB := HB.trans (hBt.below HB.size (UpOld.all (bx := []) trivial))
          clear hBt hr hR hP hX hU
          refine wp_cond_split f13 (fun hc13 => ?_) (fun hc13 => ?_)
          · skip
            exact absurd (of_decide_eq_true hc13) (by rw [hq]; omega)
          · skip
            refine wp_skip ?_
            refine wp_seq ?_
            refine region4 [some 15, some 16, some 17, some 18, some 19, some 20, some 2] [Eqs (.string ⟨#[45, 51]⟩), Eqs (.string ⟨#[45, 51, 47]⟩), Eqs (.pointer (some ⟨gs2 0, 2, none⟩)), Eqs (.slice b_3 s_3.length d_3), Eqs (.string ⟨#[50]⟩), Eqs (.string ⟨#[45, 51, 47, 50]⟩), Eqs (.string ⟨#[45, 51, 47, 50]⟩)] [] [] (by kernel_rfl) hn rfl (by kernel_rfl) (by kernel_rfl) (by kernel_rfl) (by kernel_rfl) (by kernel_rfl) (by kernel_rfl) ⟨Eqs.mono4 _, Eqs.mono4 _, Eqs.mono4 _, Eqs.mono4 _, Eqs.mono4 _, Eqs.mono4 _, Eqs.mono4 _, trivial⟩ ok_nil (IsOld.all (bx := []) trivial) (DisOld.all (bx := []) trivial) ?_ ?_
            · exact ⟨.norm 15 rfl rfl rfl (fun a_ w_ hn_ hBt hr hR hD hO hS => op_mv ((hR 4 rfl).trans f4)),
                .norm 16 rfl rfl rfl (fun a_ w_ hn_ hBt hr hR hD hO hS => op_cat (show a_.eval (.tmp 15) = .string ⟨#[45, 51]⟩ from hD 0 rfl) rfl (by decide) rfl),
                .norm 17 rfl rfl rfl (fun a_ w_ hn_ hBt hr hR hD hO hS => op_faR fa_den ((hR 3 rfl).trans f3)),
                .norm 18 rfl rfl rfl (fun a_ w_ hn_ hBt hr hR hD hO hS => op_ldden (show a_.eval (.tmp 17) = .pointer (some ⟨gs2 0, 2, none⟩) from hD 2 rfl) (b3.keep hBt trivial)),
                .norm 19 rfl rfl rfl (fun a_ w_ hn_ hBt hr hR hD hO hS => op_text2 (isl_eq (show a_.eval (.tmp 18) = .slice b_3 s_3.length d_3 from hD 3 rfl) (S3.rl hr) V3 k3) hq (by omega)),
                .norm 20 rfl rfl rfl (fun a_ w_ hn_ hBt hr hR hD hO hS => op_cat (show a_.eval (.tmp 16) = .string ⟨#[45, 51, 47]⟩ from hD 1 rfl) (show a_.eval (.tmp 19) = .string ⟨#[50]⟩ from hD 4 rfl) (by decide) rfl),
                .norm 2 rfl rfl rfl (fun a_ w_ hn_ hBt hr hR hD hO hS => op_assign (show a_.eval (.tmp 20) = .string ⟨#[45, 51, 47, 50]⟩ from hD 5 rfl)),
                trivial⟩
            · intro a6 w6 gs6 hn6 hd6 hBt hr hR hP hX hU
              replace hn := hn6; replace hd := hd6.trans hd
              have e2 : a6.eval (.tmp 2) = .string ⟨#[45, 51, 47, 50]⟩ := hP 6 (by decide)
              have f2 := e2
              replace Ar := Ar.rl hr
              replace Sr := Sr.rl hr
              replace Dr := Dr.rl hr
              replace G3 := G3.rl hr
              replace A3 := A3.rl hr
              replace K3 := K3.rl hr
              replace S3 := S3.rl hr
              replace HB := HB.trans (hBt.below HB.size (UpOld.all (bx := []) trivial))
              clear hBt hr hR hP hX hU
              refine wp_ret ?_
              repeat (first | refine then_ret ?_ | refine scope_ret ?_ | refine block_ret ?_)
              exact bodyPost_ret (v := .string ⟨#[45, 51, 47, 50]⟩) (res_t rfl f2) hd ⟨_, rfl, rfl, HB⟩

theorem has_rtext32 : Has Try.prog 39 := by unfold Has; kernel_rfl
theorem op_rtext32 {dst : Option Tmp} {ty : TypeId} {pos : String} {after : Array Edge} {guard : Option (Nat × Bool)} {a : Act} {w : World} {ats : Array TypeId} {i : Nat} {Br : Nat} {pr qr : Int} (Hr : IsR pr qr Br (a.eval (.tmp i)) w) (hL : Br ≤ 1000) (hp : nm (tp pr qr) (tq qr) = -3) (hq : dn (tp pr qr) (tq qr) = 2) :
    Does Try.prog { dst, op := .call { callee := .value (.func 39), args := #[.tmp i], argTypes := ats }, type := ty, pos, after, guard } a.eval w fun v w' => Below w.heap.size w w' ∧ (Eqs (.string ⟨#[45, 51, 47, 50]⟩)) v w' := by
  obtain ⟨nr, ar, mr, cr, rs, br, kr, dr, rt, er, Ar, Sr, Vr, Lr, Mr⟩ := Hr
  refine does_call has_rtext32 _ (by simp only [List.map_toArray, List.map_cons, List.map_nil, er]) ((rtext32_z w Br _ _ _ _ _ _ Ar Lr _ _ _ _ _ Sr Vr Mr hL hp hq).mono ?_)
  rintro e w' ⟨v, rfl, h1, hb⟩
  exact ⟨_, rfl, hb, h1⟩

set_option maxRecDepth 20000 in
set_option maxHeartbeats 1000000 in
theorem rawake_z (w : World) : Calls Try.prog 6 #[] w fun e w' => ∃ v, e = .returned v ∧ (Eqs (.bool true)) v w' ∧ Below w.heap.size w w' := by
  go_enter Try.func6, Try.ntmps6
  generalize hA : (Act.mk _ _) = aa
  have hn : aa.tmps.size = 16 := by rw [← hA]; rfl
  have hd : aa.defers = [] := by rw [← hA]
  clear hA
  have HB : Below w.heap.size w w := Below.refl _ _
  refine wp_seq ?_
  refine region4 [some 0] [Eqs ((.bool false))] [] [] (by kernel_rfl) hn rfl (by kernel_rfl) (by kernel_rfl) (by kernel_rfl) (by kernel_rfl) (by kernel_rfl) (by kernel_rfl) ⟨Eqs.mono4 _, trivial⟩ ok_nil (IsOld.all (bx := []) trivial) (DisOld.all (bx := []) trivial) ?_ ?_
  · exact ⟨.norm 0 rfl rfl rfl (fun a_ w_ hn_ hBt hr hR hD hO hS => op_assign rfl),
      trivial⟩
  · intro a1 w1 gs1 hn1 hd1 hBt hr hR hP hX hU
    replace hn := hn1; replace hd := hd1.trans hd
    have e0 : a1.eval (.tmp 0) = (.bool false) := hP 0 (by decide)
    have f0 := e0
    replace HB := HB.trans (hBt.below HB.size (UpOld.all (bx := []) trivial))
    clear hBt hr hR hP hX hU
    refine wp_seq ?_
    refine region4 [some 4, some 5, some 6, some 3, some 7, some 8, some 1, none, some 2] [OutW (6) (2), OutW ((-4)) (2), Tup2 (OutR ((nm 6 (-4))) ((dn 6 (-4))) ((2) + (2))) (Eqs (.int .i64 0)), Tup2 (OutR ((nm 6 (-4))) ((dn 6 (-4))) ((2) + (2))) (Eqs (.int .i64 0)), OutR ((nm 6 (-4))) ((dn 6 (-4))) ((2) + (2)), Eqs (.int .i64 0), (fun _ _ => True), (fun _ _ => True), Eqs (.int .i64 0)] [⟨R3, some 6, 0, 1, .agg #[.bool false, .slice none 0 0, .slice none 0 0], some (7, 7, 4), []⟩] [] (by kernel_rfl) hn rfl (by kernel_rfl) (by kernel_rfl) (by kernel_rfl) (by kernel_rfl) (by kernel_rfl) (by kernel_rfl) ⟨OutW.mono4 _ _, OutW.mono4 _ _, Tup2.mono4 (OutR.mono4 _ _ _) (Eqs.mono4 _), Tup2.mono4 (OutR.mono4 _ _ _) (Eqs.mono4 _), OutR.mono4 _ _ _, Eqs.mono4 _, True.mono4, True.mono4, Eqs.mono4 _, trivial⟩ (ok_cons R3ok ok_nil) (IsOld.all (bx := [⟨R3, some 6, 0, 1, .agg #[.bool false, .slice none 0 0, .slice none 0 0], some (7, 7, 4), []⟩]) ⟨someNe, trivial⟩) (DisOld.all (bx := [⟨R3, some 6, 0, 1, .agg #[.bool false, .slice none 0 0, .slice none 0 0], some (7, 7, 4), []⟩]) ⟨someNe, trivial⟩) ?_ ?_
    · exact ⟨.norm 4 rfl rfl rfl (fun a_ w_ hn_ hBt hr hR hD hO hS => op_lsmall (by omega) (by omega)),
        .norm 5 rfl rfl rfl (fun a_ w_ hn_ hBt hr hR hD hO hS => op_lsmall (by omega) (by omega)),
        .norm 6 rfl rfl rfl (fun a_ w_ hn_ hBt hr hR hD hO hS => op_rof (show OutW (6) (2) (a_.eval (.tmp 4)) w_ from hD 0 rfl).is (show OutW ((-4)) (2) (a_.eval (.tmp 5)) w_ from hD 1 rfl).is (by omega) (by omega)),
        .norm 3 rfl rfl rfl (fun a_ w_ hn_ hBt hr hR hD hO hS => op_mvp (p := Tup2 (OutR ((nm 6 (-4))) ((dn 6 (-4))) ((2) + (2))) (Eqs (.int .i64 0))) (show Tup2 (OutR ((nm 6 (-4))) ((dn 6 (-4))) ((2) + (2))) (Eqs (.int .i64 0)) (a_.eval (.tmp 6)) w_ from hD 2 rfl)),
        .norm 7 rfl rfl rfl (fun a_ w_ hn_ hBt hr hR hD hO hS => op_ex20 (show Tup2 (OutR ((nm 6 (-4))) ((dn 6 (-4))) ((2) + (2))) (Eqs (.int .i64 0)) (a_.eval (.tmp 3)) w_ from hD 3 rfl)),
        .norm 8 rfl rfl rfl (fun a_ w_ hn_ hBt hr hR hD hO hS => op_ex21 (show Tup2 (OutR ((nm 6 (-4))) ((dn 6 (-4))) ((2) + (2))) (Eqs (.int .i64 0)) (a_.eval (.tmp 3)) w_ from hD 3 rfl)),
        .alloc 0 _ rfl rfl (.inl ⟨rfl, rfl⟩) rfl rfl rfl rfl rfl,
        .store 0 _ _ _ rfl rfl rfl rfl rfl rfl rfl (fun ia h => by cases h; rfl) rfl rfl rfl OutR.cs,
        .norm 2 rfl rfl rfl (fun a_ w_ hn_ hBt hr hR hD hO hS => op_assign (show a_.eval (.tmp 8) = .int .i64 0 from hD 5 rfl)),
        trivial⟩
    · intro a2 w2 gs2 hn2 hd2 hBt hr hR hP hX hU
      replace hn := hn2; replace hd := hd2.trans hd
      obtain ⟨n_3, a_3, c_3, r_3, b_3, d_3, s_3, e7, G3, K3, l3, k3⟩ : OutR ((nm 6 (-4))) ((dn 6 (-4))) ((2) + (2)) (a2.eval (.tmp 7)) w2 := hP 4 (by decide)
      have A3 := G3.ag; have S3 := K3.sl; have V3 := K3.val
      have b1 : BoxV R3 w2 (gs2 0) (.agg #[.bool n_3, .slice a_3 r_3.length c_3, .slice b_3 s_3.length d_3]) := boxv_of (hX 0 _ rfl).2.2.2 e7
      have f1 := (hX 0 _ rfl).1
      have u1 : w.heap.size ≤ gs2 0 := Nat.le_trans HB.size ((hX 0 _ rfl).2.2.1 (by simp))
      replace f0 := (hR 0 rfl).trans f0
      have e2 : a2.eval (.tmp 2) = .int .i64 0 := hP 8 (by decide)
      have f2 := e2
      replace HB := HB.trans (hBt.below HB.size (UpOld.all (bx := [⟨R3, some 6, 0, 1, .agg #[.bool false, .slice none 0 0, .slice none 0 0], some (7, 7, 4), []⟩]) ⟨someNe, trivial⟩))
      clear hBt hr hR hP hX hU
      refine wp_seq ?_
      refine region4 [some 9, some 10, some 11, some 12, some 13, some 14, some 15, some 0] [Eqs (.int .i64 0), Eqs (.bool true), Eqs (.bool true), Eqs (.agg #[.bool n_3, .slice a_3 r_3.length c_3, .slice b_3 s_3.length d_3]), Eqs (.string ⟨#[45, 51, 47, 50]⟩), Eqs (.bool true), Eqs (.bool true), Eqs (.bool true)] [] [] (by kernel_rfl) hn rfl (by kernel_rfl) (by kernel_rfl) (by kernel_rfl) (by kernel_rfl) (by kernel_rfl) (by kernel_rfl) ⟨Eqs.mono4 _, Eqs.mono4 _, Eqs.mono4 _, Eqs.mono4 _, Eqs.mono4 _, Eqs.mono4 _, Eqs.mono4 _, Eqs.mono4 _, trivial⟩ ok_nil (IsOld.all (bx := []) trivial) (DisOld.all (bx := []) trivial) ?_ ?_
      · exact ⟨.norm 9 rfl rfl rfl (fun a_ w_ hn_ hBt hr hR hD hO hS => op_mv ((hR 2 rfl).trans f2)),
          .norm 10 rfl rfl rfl (fun a_ w_ hn_ hBt hr hR hD hO hS => op_eqle (show a_.eval (.tmp 9) = .int .i64 0 from hD 0 rfl)),
          .norm 11 rfl rfl rfl (fun a_ w_ hn_ hBt hr hR hD hO hS => op_mv (show a_.eval (.tmp 10) = .bool true from hD 1 rfl)),
          .norm 12 rfl rfl rfl (fun a_ w_ hn_ hBt hr hR hD hO hS => ⟨⟨_, rfl⟩, fun _ => op_loadv R3ok ((hR 1 rfl).trans f1) (b1.keep hBt trivial), fun hne => absurd (hD 2 rfl) hne⟩),
          .norm 13 rfl rfl rfl (fun a_ w_ hn_ hBt hr hR hD hO hS => ⟨⟨_, rfl⟩, fun _ => op_rtext32 (isr_eq (show a_.eval (.tmp 12) = .agg #[.bool n_3, .slice a_3 r_3.length c_3, .slice b_3 s_3.length d_3] from hD 3 rfl) (A3.rl hr) (S3.rl hr) V3 l3 k3) (by omega) (by decide) (by decide), fun hne => absurd (hD 2 rfl) hne⟩),
          .norm 14 rfl rfl rfl (fun a_ w_ hn_ hBt hr hR hD hO hS => ⟨⟨_, rfl⟩, fun _ => op_eqls (show a_.eval (.tmp 13) = .string ⟨#[45, 51, 47, 50]⟩ from hD 4 rfl) rfl, fun hne => absurd (hD 2 rfl) hne⟩),
          .norm 15 rfl rfl rfl (fun a_ w_ hn_ hBt hr hR hD hO hS => op_pickb (show a_.eval (.tmp 11) = .bool true from hD 2 rfl) (show a_.eval (.tmp 14) = .bool true from hD 5 rfl)),
          .norm 0 rfl rfl rfl (fun a_ w_ hn_ hBt hr hR hD hO hS => op_assign (show a_.eval (.tmp 15) = .bool true from hD 6 rfl)),
          trivial⟩
      · intro a4 w4 gs4 hn4 hd4 hBt hr hR hP hX hU
        replace hn := hn4; replace hd := hd4.trans hd
        have e0 : a4.eval (.tmp 0) = .bool true := hP 7 (by decide)
        have f0 := e0
        replace G3 := G3.rl hr
        replace A3 := A3.rl hr
        replace K3 := K3.rl hr
        replace S3 := S3.rl hr
        replace HB := HB.trans (hBt.below HB.size (UpOld.all (bx := []) trivial))
        clear hBt hr hR hP hX hU
        refine wp_ret ?_
        repeat (first | refine then_ret ?_ | refine scope_ret ?_ | refine block_ret ?_)
        exact bodyPost_ret (v := .bool true) (res_t rfl f0) hd ⟨_, rfl, rfl, HB⟩

theorem has_rawake : Has Try.prog 6 := by unfold Has; kernel_rfl
theorem op_rawake {dst : Option Tmp} {ty : TypeId} {pos : String} {after : Array Edge} {guard : Option (Nat × Bool)} {a : Act} {w : World} {ats : Array TypeId} : Does Try.prog { dst, op := .call { callee := .value (.func 6), args := #[], argTypes := ats }, type := ty, pos, after, guard } a.eval w fun v w' => Below w.heap.size w w' ∧ Eqs (.bool true) v w' := by
  refine does_call has_rawake _ (by simp only [List.map_toArray, List.map_nil]) ((rawake_z w).mono ?_)
  rintro e w' ⟨v, rfl, h1, hb⟩
  exact ⟨_, rfl, hb, h1⟩

end Lm
end Go.Proofs.Ytkdcgnooeojjgab

namespace Go.Proofs.Ytkdcgnooeojjgab
namespace Dm

/-- Each number of the list is a limb. -/
def Limb (zs : List Int) : Prop := ∀ z ∈ zs, 0 ≤ z ∧ z < 10000

/-- The base's powers. -/
def pw : Nat → Int
  | 0 => 1
  | n + 1 => 10000 * pw n

/-- What a list of limbs is worth, the lowest limb first. -/
def val : List Int → Int
  | [] => 0
  | z :: zs => z + 10000 * val zs

/-- How long the list is without the limbs 0 on top. -/
def tl : List Int → Nat
  | [] => 0
  | z :: zs => if tl zs = 0 then (if z = 0 then 0 else 1) else tl zs + 1

/-- Limbs, and none is 0 on top. -/
def Canon (zs : List Int) : Prop := Limb zs ∧ tl zs = zs.length

theorem pw_pos (n : Nat) : 1 ≤ pw n := by
  induction n with
  | zero => simp [pw]
  | succ n ih => simp only [pw]; omega

theorem pw_add (m n : Nat) : pw (m + n) = pw m * pw n := by
  induction m with
  | zero => simp [pw]
  | succ m ih => rw [Nat.succ_add]; simp only [pw, ih, Int.mul_assoc]

theorem pw_mono {m n : Nat} (h : m ≤ n) : pw m ≤ pw n := by
  obtain ⟨k, rfl⟩ := Nat.le.dest h
  rw [pw_add]
  have h1 := pw_pos m
  have h2 := pw_pos k
  have : pw m * 1 ≤ pw m * pw k := Int.mul_le_mul_of_nonneg_left h2 (by omega)
  omega

theorem limb_nil : Limb [] := fun _ h => by cases h
theorem limb_cons {z : Int} {zs : List Int} : Limb (z :: zs) ↔ (0 ≤ z ∧ z < 10000) ∧ Limb zs := by
  constructor
  · intro h; exact ⟨h z (by simp), fun y hy => h y (by simp [hy])⟩
  · rintro ⟨h1, h2⟩ y hy
    simp at hy
    rcases hy with rfl | hy
    · exact h1
    · exact h2 y hy

theorem limb_append {xs ys : List Int} : Limb (xs ++ ys) ↔ Limb xs ∧ Limb ys := by
  constructor
  · intro h; exact ⟨fun y hy => h y (by simp [hy]), fun y hy => h y (by simp [hy])⟩
  · rintro ⟨h1, h2⟩ y hy
    simp at hy
    rcases hy with hy | hy
    · exact h1 y hy
    · exact h2 y hy

theorem limb_take {zs : List Int} (h : Limb zs) (k : Nat) : Limb (zs.take k) := fun y hy => h y (List.mem_of_mem_take hy)
theorem limb_drop {zs : List Int} (h : Limb zs) (k : Nat) : Limb (zs.drop k) := fun y hy => h y (List.mem_of_mem_drop hy)

theorem limb_getD {zs : List Int} (h : Limb zs) (i : Nat) : 0 ≤ zs.getD i 0 ∧ zs.getD i 0 < 10000 := by
  rw [List.getD_eq_getElem?_getD]
  cases hi : zs[i]? with
  | none => simp
  | some z => simpa using h z (List.mem_of_getElem? hi)

theorem limb_get? {zs : List Int} (h : Limb zs) (i : Nat) : 0 ≤ zs[i]?.getD 0 ∧ zs[i]?.getD 0 < 10000 := by
  have := limb_getD h i
  rwa [List.getD_eq_getElem?_getD] at this

theorem limb_zeros (n : Nat) : Limb (List.replicate n 0) := fun y hy => by
  have := List.eq_of_mem_replicate hy
  omega

theorem val_append (xs ys : List Int) : val (xs ++ ys) = val xs + pw xs.length * val ys := by
  induction xs with
  | nil => simp [val, pw]
  | cons x xs ih =>
    simp only [List.cons_append, val, List.length_cons, pw, ih, Int.mul_add, Int.mul_assoc]
    omega

theorem val_zeros (n : Nat) : val (List.replicate n 0) = 0 := by
  induction n with
  | zero => rfl
  | succ n ih => simp [List.replicate_succ, val, ih]

theorem val_bounds {zs : List Int} (h : Limb zs) : 0 ≤ val zs ∧ val zs < pw zs.length := by
  induction zs with
  | nil => simp [val, pw]
  | cons z zs ih =>
    have h' := limb_cons.1 h
    have := ih h'.2
    simp only [val, List.length_cons, pw]
    omega

theorem tl_le (zs : List Int) : tl zs ≤ zs.length := by
  induction zs with
  | nil => simp [tl]
  | cons z zs ih =>
    simp only [tl, List.length_cons]
    repeat' split
    all_goals omega

theorem tl_zero {zs : List Int} (h : tl zs = 0) : val zs = 0 := by
  induction zs with
  | nil => rfl
  | cons z zs ih =>
    simp only [tl] at h
    by_cases h0 : tl zs = 0
    · rw [if_pos h0] at h
      by_cases hz : z = 0
      · simp [val, ih h0, hz]
      · rw [if_neg hz] at h; omega
    · rw [if_neg h0] at h; omega

/-- Without the limbs 0 on top a list is worth the same. -/
theorem val_take_tl (zs : List Int) : val (zs.take (tl zs)) = val zs := by
  induction zs with
  | nil => rfl
  | cons z zs ih =>
    simp only [tl]
    by_cases h0 : tl zs = 0
    · rw [if_pos h0]
      by_cases hz : z = 0
      · simp [hz, val, tl_zero h0]
      · simp [hz, val, tl_zero h0]
    · rw [if_neg h0]
      simp [val, ih]

theorem tl_take_tl (zs : List Int) : tl (zs.take (tl zs)) = tl zs := by
  induction zs with
  | nil => rfl
  | cons z zs ih =>
    by_cases h0 : tl zs = 0
    · by_cases hz : z = 0
      · simp [tl, h0, hz]
      · simp [tl, h0, hz]
    · have e : tl (z :: zs) = tl zs + 1 := by simp [tl, h0]
      rw [e, List.take_succ_cons]
      simp [tl, ih, h0]

theorem canon_trim {zs : List Int} (h : Limb zs) : Canon (zs.take (tl zs)) :=
  ⟨limb_take h _, by rw [tl_take_tl, List.length_take, Nat.min_eq_left (tl_le zs)]⟩

theorem canon_nil : Canon [] := ⟨limb_nil, rfl⟩

theorem tl_le_of_zero {zs : List Int} {n : Nat} (h : tl zs ≤ n + 1) (h0 : zs.getD n 0 = 0) : tl zs ≤ n := by
  induction zs generalizing n with
  | nil => simp [tl]
  | cons z zs ih =>
    simp only [tl] at h ⊢
    by_cases ht : tl zs = 0
    · rw [if_pos ht] at h ⊢
      by_cases hz : z = 0
      · rw [if_pos hz]; omega
      · rw [if_neg hz]
        cases n with
        | zero => simp at h0; exact absurd h0 hz
        | succ n => omega
    · rw [if_neg ht] at h ⊢
      cases n with
      | zero => omega
      | succ n =>
        have := ih (n := n) (by omega) (by simpa using h0)
        omega

theorem tl_gt {zs : List Int} {n : Nat} (h0 : zs.getD n 0 ≠ 0) : n + 1 ≤ tl zs := by
  induction zs generalizing n with
  | nil => simp at h0
  | cons z zs ih =>
    cases n with
    | zero =>
      simp at h0
      simp only [tl, h0, if_false]
      split <;> omega
    | succ n =>
      have := ih (n := n) (by simpa using h0)
      simp only [tl]
      rw [if_neg (by omega)]
      omega

theorem canon_cons {z : Int} {zs : List Int} (h : Canon (z :: zs)) : Canon zs ∧ (zs = [] → z ≠ 0) := by
  obtain ⟨h1, h2⟩ := h
  have hl := tl_le zs
  simp only [tl, List.length_cons] at h2
  refine ⟨⟨(limb_cons.1 h1).2, ?_⟩, ?_⟩
  · by_cases h0 : tl zs = 0
    · rw [if_pos h0] at h2
      by_cases hz : z = 0
      · rw [if_pos hz] at h2; omega
      · rw [if_neg hz] at h2; omega
    · rw [if_neg h0] at h2; omega
  · rintro rfl hz
    simp [tl, hz] at h2

theorem canon_low {zs : List Int} (h : Canon zs) (h0 : zs ≠ []) : pw (zs.length - 1) ≤ val zs := by
  induction zs with
  | nil => exact absurd rfl h0
  | cons z zs ih =>
    have hc := canon_cons h
    have hz := (limb_cons.1 h.1).1
    cases zs with
    | nil =>
      have := hc.2 rfl
      simp [val, pw]
      omega
    | cons y ys =>
      have := ih hc.1 (by simp)
      simp only [List.length_cons, Nat.add_sub_cancel, pw] at this ⊢
      rw [val]
      omega

/-- Two lists without limbs 0 on top that are worth the same are one. -/
theorem canon_one {xs ys : List Int} (hx : Canon xs) (hy : Canon ys) (h : val xs = val ys) : xs = ys := by
  induction xs generalizing ys with
  | nil =>
    cases ys with
    | nil => rfl
    | cons y ys =>
      have := canon_low hy (by simp)
      have := pw_pos ((y :: ys).length - 1)
      have h0 : 0 = val (y :: ys) := h
      omega
  | cons x xs ih =>
    cases ys with
    | nil =>
      have := canon_low hx (by simp)
      have := pw_pos ((x :: xs).length - 1)
      have h0 : val (x :: xs) = 0 := h
      omega
    | cons y ys =>
      have h1 := (limb_cons.1 hx.1).1
      have h2 := (limb_cons.1 hy.1).1
      simp only [val] at h
      have e : x = y := by omega
      have e' : val xs = val ys := by omega
      rw [e, ih (canon_cons hx).1 (canon_cons hy).1 e']

theorem canon_zero {zs : List Int} (h : Canon zs) : val zs = 0 ↔ zs = [] := by
  constructor
  · intro h0; exact canon_one h canon_nil h0
  · rintro rfl; rfl

theorem canon_lt {xs ys : List Int} (hx : Canon xs) (hy : Canon ys) (h : xs.length < ys.length) : val xs < val ys := by
  have h1 := (val_bounds hx.1).2
  have h2 := canon_low hy (by intro e; subst e; simp at h)
  have h3 := pw_mono (m := xs.length) (n := ys.length - 1) (by omega)
  omega

theorem val_pos_tl {zs : List Int} (h : Limb zs) (h0 : 0 < tl zs) : 0 < val zs := by
  have hl : (zs.take (tl zs)).length = tl zs := by have := tl_le zs; rw [List.length_take]; omega
  have h1 := canon_low (canon_trim h) (by intro e; rw [e] at hl; simp at hl; omega)
  have h2 := pw_pos ((zs.take (tl zs)).length - 1)
  rw [val_take_tl] at h1
  omega

/-- Of two lists of one length that are the same above place k, the one with the lower limb at k is worth less. -/
theorem val_lt_at {xs ys : List Int} {k : Nat} (hx : Limb xs) (hy : Limb ys) (hl : xs.length = ys.length) (hk : k < xs.length) (hd : xs.drop (k + 1) = ys.drop (k + 1)) (h : xs.getD k 0 < ys.getD k 0) : val xs < val ys := by
  induction k generalizing xs ys with
  | zero =>
    cases xs with
    | nil => simp at hk
    | cons x xs =>
      cases ys with
      | nil => simp at hl
      | cons y ys =>
        simp at hd h
        subst hd
        simp only [val]
        omega
  | succ k ih =>
    cases xs with
    | nil => simp at hk
    | cons x xs =>
      cases ys with
      | nil => simp at hl
      | cons y ys =>
        have h1 := limb_cons.1 hx
        have h2 := limb_cons.1 hy
        have := ih h1.2 h2.2 (by simpa using hl) (by simpa using hk) (by simpa using hd) (by simpa using h)
        simp only [val]
        omega

theorem take_succ_getD (zs : List Int) (k : Nat) (h : k < zs.length) : zs.take (k + 1) = zs.take k ++ [zs.getD k 0] := by
  rw [List.take_succ_eq_append_getElem h, List.getD_eq_getElem?_getD, List.getElem?_eq_getElem h]
  rfl

theorem drop_getD (zs : List Int) (k : Nat) (h : k < zs.length) : zs.drop k = zs.getD k 0 :: zs.drop (k + 1) := by
  rw [List.drop_eq_getElem_cons h, List.getD_eq_getElem?_getD, List.getElem?_eq_getElem h]
  rfl

/-- The value of the first k limbs, limbs above the top counted as 0. -/
def vf (zs : List Int) : Nat → Int
  | 0 => 0
  | k + 1 => vf zs k + pw k * zs.getD k 0

theorem vf_take (zs : List Int) (k : Nat) : vf zs k = val (zs.take k) := by
  induction k with
  | zero => simp [vf, val]
  | succ k ih =>
    by_cases h : k < zs.length
    · rw [take_succ_getD zs k h, val_append, vf, ih, List.length_take, Nat.min_eq_left (by omega)]
      simp [val]
    · rw [vf, ih, List.take_of_length_le (by omega), List.take_of_length_le (by omega)]
      have : zs.getD k 0 = 0 := by rw [List.getD_eq_getElem?_getD, List.getElem?_eq_none (by omega)]; rfl
      rw [this]; omega

theorem vf_all (zs : List Int) (k : Nat) (h : zs.length ≤ k) : vf zs k = val zs := by
  rw [vf_take, List.take_of_length_le h]

theorem val_snoc (ps : List Int) (x : Int) : val (ps ++ [x]) = val ps + pw ps.length * x := by
  rw [val_append]; simp [val]

theorem set_snoc (ps zs : List Int) (k : Nat) (x : Int) (hk : ps.length = k) (h : k < zs.length) : (ps ++ zs.drop k).set k x = (ps ++ [x]) ++ zs.drop (k + 1) := by
  subst hk
  rw [drop_getD zs _ h]
  simp

theorem set_cons (zs qs : List Int) (k : Nat) (x : Int) (h : k < zs.length) : (zs.take (k + 1) ++ qs).set k x = zs.take k ++ x :: qs := by
  rw [take_succ_getD zs k h]
  have : (zs.take k).length = k := by rw [List.length_take]; omega
  rw [List.append_assoc, List.set_append_right _ _ (by omega)]
  simp [this]

end Dm
end Go.Proofs.Ytkdcgnooeojjgab

namespace Go.Proofs.Ytkdcgnooeojjgab
namespace Dm
open Go.RowKit

theorem hide {p : Prop} (h : p) : Hid p := h

/-- The slice value v reads in w as the digits zs. -/
def Sl (w : World) (v : Value) (zs : List Int) : Prop :=
  ∃ ao cap, v = .slice ao zs.length cap ∧ zs.length ≤ cap ∧ cap ≤ maxLen ∧ Limb zs ∧
    (zs = [] ∨ ∃ b off, ao = some ⟨b, off, none⟩ ∧ ∀ i, i < zs.length → w.cell? ⟨b, off + i, none⟩ = some (.int .i64 (zs.getD i 0)))

/-- Cells of a block from off on are these numbers. -/
def At (cur : Array Value) (k : IntKind) (off : Nat) (zs : List Int) : Prop := ∀ i, i < zs.length → cur[off + i]? = some (.int k (zs.getD i 0))

/-- The slice value v lies, its room too, in a block from B on that nothing freezes, and reads as the digits zs. -/
def Ow (B : Nat) (w : World) (v : Value) (zs : List Int) : Prop :=
  ∃ ao cap, v = .slice ao zs.length cap ∧ zs.length ≤ cap ∧ cap ≤ maxLen ∧ Limb zs ∧
    (cap = 0 ∨ ∃ g off cur, ao = some ⟨g, off, none⟩ ∧ B ≤ g ∧ w.heap[g]? = some (.cells cur 3 (0, 0)) ∧ off + cap ≤ cur.size ∧ At cur .i64 off zs)

/-- w' is w, but that block g holds the cells cur. -/
structure Wr (w w' : World) (g : Nat) (cur : Array Value) (e : TypeId) : Prop where
  os : w'.os = w.os
  tape : w'.tape = w.tape
  output : w'.output = w.output
  size : w'.heap.size = w.heap.size
  here : w'.heap[g]? = some (.cells cur e (0, 0))
  other : ∀ k, k ≠ g → w'.heap[k]? = w.heap[k]?

/-- The slice value v is a list of the call's own without digits 0 on top, worth x. -/
def Is (B : Nat) (w : World) (v : Value) (x : Int) : Prop := ∃ rs, Ow B w v rs ∧ Canon rs ∧ val rs = x

theorem lt_of_cell {w : World} {b off : Nat} {v : Value} (h : w.cell? ⟨b, off, none⟩ = some v) : b < w.heap.size := by
  apply Classical.byContradiction
  intro hn
  have : w.heap[b]? = none := Array.getElem?_eq_none (by omega)
  simp [World.cell?, this] at h

theorem lt_of_heap {w : World} {b : Nat} {o : Obj} (h : w.heap[b]? = some o) : b < w.heap.size := by
  apply Classical.byContradiction
  intro hn
  rw [Array.getElem?_eq_none (by omega)] at h
  cases h

theorem Sl.below {w w' : World} {v : Value} {zs : List Int} (h : Sl w v zs) (hb : Below w.heap.size w w') : Sl w' v zs := by
  obtain ⟨ao, cap, rfl, h1, h2, h3, h4⟩ := h
  refine ⟨ao, cap, rfl, h1, h2, h3, ?_⟩
  rcases h4 with h4 | ⟨b, off, rfl, hc⟩
  · exact .inl h4
  · refine .inr ⟨b, off, rfl, fun i hi => ?_⟩
    have h5 := hc i hi
    rw [hb.cell (p := ⟨b, off + i, none⟩) (lt_of_cell h5)]
    exact h5

theorem Ow.sl {B : Nat} {w : World} {v : Value} {zs : List Int} (h : Ow B w v zs) : Sl w v zs := by
  obtain ⟨ao, cap, rfl, h1, h2, h3, h4⟩ := h
  refine ⟨ao, cap, rfl, h1, h2, h3, ?_⟩
  rcases h4 with h4 | ⟨g, off, cur, rfl, _, hh, hs, ha⟩
  · exact .inl (List.eq_nil_of_length_eq_zero (by omega))
  · exact .inr ⟨g, off, rfl, fun i hi => by rw [cell_of_row w g (off + i) cur _ (0, 0) hh]; exact ha i hi⟩

theorem Ow.mono {B B' : Nat} {w : World} {v : Value} {zs : List Int} (h : Ow B w v zs) (hB : B' ≤ B) : Ow B' w v zs := by
  obtain ⟨ao, cap, rfl, h1, h2, h3, h4⟩ := h
  refine ⟨ao, cap, rfl, h1, h2, h3, ?_⟩
  rcases h4 with h4 | ⟨g, off, cur, rfl, hg, hh, hs, ha⟩
  · exact .inl h4
  · exact .inr ⟨g, off, cur, rfl, by omega, hh, hs, ha⟩

theorem Ow.below {B : Nat} {w w' : World} {v : Value} {zs : List Int} (h : Ow B w v zs) (hb : Below w.heap.size w w') : Ow B w' v zs := by
  obtain ⟨ao, cap, rfl, h1, h2, h3, h4⟩ := h
  refine ⟨ao, cap, rfl, h1, h2, h3, ?_⟩
  rcases h4 with h4 | ⟨g, off, cur, rfl, hg, hh, hs, ha⟩
  · exact .inl h4
  · exact .inr ⟨g, off, cur, rfl, hg, by rw [hb.block g (lt_of_heap hh)]; exact hh, hs, ha⟩

theorem At.set {cur : Array Value} {k : IntKind} {off : Nat} {zs : List Int} (h : At cur k off zs) (j : Nat) (x : Int) : At (cur.setIfInBounds (off + j) (.int k x)) k off (zs.set j x) := by
  intro i hi
  rw [List.length_set] at hi
  have h1 := h i hi
  have hb : off + i < cur.size := by
    apply Classical.byContradiction
    intro hn
    rw [Array.getElem?_eq_none (by omega)] at h1
    cases h1
  rw [Array.getElem?_setIfInBounds, List.getD_eq_getElem?_getD, List.getElem?_set]
  by_cases hj : j = i
  · subst hj
    simp [hi, hb]
  · rw [if_neg (by omega), if_neg hj, h1, List.getD_eq_getElem?_getD]

theorem At.cell {cur : Array Value} {k : IntKind} {off : Nat} {zs : List Int} (h : At cur k off zs) {w : World} {g : Nat} {e : TypeId} (hh : w.heap[g]? = some (.cells cur e (0, 0))) (i : Nat) (hi : i < zs.length) : w.cell? ⟨g, off + i, none⟩ = some (.int k (zs.getD i 0)) := by
  rw [cell_of_row w g (off + i) cur _ (0, 0) hh]; exact h i hi

theorem Wr.refl {w : World} {g : Nat} {cur : Array Value} {e : TypeId} (h : w.heap[g]? = some (.cells cur e (0, 0))) : Wr w w g cur e := ⟨rfl, rfl, rfl, rfl, h, fun _ _ => rfl⟩

theorem Wr.drew {w w' : World} {g : Nat} {cur : Array Value} {e : TypeId} (h : Wr w w' g cur e) : Wr w w'.drew g cur e := ⟨h.os, h.tape, h.output, h.size, h.here, h.other⟩

theorem Wr.drewN {w w' : World} {g : Nat} {cur : Array Value} {e : TypeId} (h : Wr w w' g cur e) (n : Nat) : Wr w (w'.drewN n) g cur e := ⟨h.os, h.tape, h.output, h.size, h.here, h.other⟩

theorem Wr.set {w w' : World} {g : Nat} {cur : Array Value} {e : TypeId} (h : Wr w w' g cur e) (i : Nat) (u : Value) : Wr w (w'.setCell ⟨g, i, none⟩ u) g (cur.setIfInBounds i u) e :=
  ⟨h.os, h.tape, h.output, by simp [World.setCell, h.size], heap_setCell_same w' g i cur e u h.here, fun k hk => (heap_setCell_other w' ⟨g, i, none⟩ k u hk).trans (h.other k hk)⟩

theorem Wr.trans {w w' w'' : World} {g : Nat} {cur cur' : Array Value} {e : TypeId} (h : Wr w w' g cur e) (h' : Wr w' w'' g cur' e) : Wr w w'' g cur' e :=
  ⟨h'.os.trans h.os, h'.tape.trans h.tape, h'.output.trans h.output, h'.size.trans h.size, h'.here, fun k hk => (h'.other k hk).trans (h.other k hk)⟩

theorem Wr.free {w w' : World} {g : Nat} {cur : Array Value} {e : TypeId} (h : Wr w w' g cur e) (i : Nat) : w'.frozen? ⟨g, i, none⟩ = false := frozen_of_row w' g i cur e h.here

theorem Wr.below {w w' : World} {g : Nat} {cur : Array Value} {e : TypeId} (h : Wr w w' g cur e) {B : Nat} (hB : B ≤ g) : Below B w w' :=
  ⟨h.os, h.tape, h.output, by rw [h.size]; exact Nat.le_refl _, fun k hk => h.other k (by omega)⟩

theorem Sl.parts {w : World} {ao : Option Addr} {n cap : Nat} {zs : List Int} (h : Sl w (.slice ao n cap) zs) : n = zs.length ∧ zs.length ≤ cap ∧ cap ≤ 9223372036854775807 ∧ Limb zs := by
  obtain ⟨ao', cap', hv, h1, h2, h3, h4⟩ := h
  obtain ⟨rfl, rfl, rfl⟩ := (Value.slice.injEq .. ▸ hv)
  exact ⟨rfl, h1, h2, h3⟩

theorem Sl.cells {w : World} {ao : Option Addr} {n cap : Nat} {zs : List Int} (h : Sl w (.slice ao n cap) zs) (hp : 0 < zs.length) : ∃ b off, ao = some ⟨b, off, none⟩ ∧ ∀ i, i < zs.length → w.cell? ⟨b, off + i, none⟩ = some (.int .i64 (zs.getD i 0)) := by
  obtain ⟨ao', cap', hv, h1, h2, h3, h4⟩ := h
  obtain ⟨rfl, rfl, rfl⟩ := (Value.slice.injEq .. ▸ hv)
  rcases h4 with rfl | h4
  · simp at hp
  · exact h4

theorem Sl.take {w : World} {ao : Option Addr} {n cap : Nat} {zs : List Int} (h : Sl w (.slice ao n cap) zs) {k : Nat} (hk : k ≤ zs.length) : Sl w (.slice ao k cap) (zs.take k) := by
  obtain ⟨ao', cap', hv, h1, h2, h3, h4⟩ := h
  obtain ⟨rfl, rfl, rfl⟩ := (Value.slice.injEq .. ▸ hv)
  have hl : (zs.take k).length = k := by rw [List.length_take]; omega
  refine ⟨ao, cap, by rw [hl], by omega, h2, limb_take h3 _, ?_⟩
  rcases h4 with rfl | ⟨b, off, rfl, hc⟩
  · exact .inl (by simp)
  · refine .inr ⟨b, off, rfl, fun i hi => ?_⟩
    rw [hc i (by omega), List.getD_eq_getElem?_getD, List.getD_eq_getElem?_getD, List.getElem?_take, if_pos (by omega)]

theorem Sl.cut {w : World} {ao : Option Addr} {n cap : Nat} {zs : List Int} (h : Sl w (.slice ao n cap) zs) : Sl w (.slice ao (tl zs) cap) (zs.take (tl zs)) := h.take (tl_le zs)

theorem Ow.take {B : Nat} {w : World} {ao : Option Addr} {n cap : Nat} {zs : List Int} (h : Ow B w (.slice ao n cap) zs) {k : Nat} (hk : k ≤ zs.length) : Ow B w (.slice ao k cap) (zs.take k) := by
  obtain ⟨ao', cap', hv, h1, h2, h3, h4⟩ := h
  obtain ⟨rfl, rfl, rfl⟩ := (Value.slice.injEq .. ▸ hv)
  have hl : (zs.take k).length = k := by rw [List.length_take]; omega
  refine ⟨ao, cap, by rw [hl], by omega, h2, limb_take h3 _, ?_⟩
  rcases h4 with h4 | ⟨g, off, cur, rfl, hg, hh, hs, ha⟩
  · exact .inl h4
  · refine .inr ⟨g, off, cur, rfl, hg, hh, hs, fun i hi => ?_⟩
    rw [ha i (by omega), List.getD_eq_getElem?_getD, List.getD_eq_getElem?_getD, List.getElem?_take, if_pos (by omega)]

/-- A list of digits in another block than g reads as it did. -/
theorem Wr.sl {w w' : World} {g : Nat} {cur : Array Value} {e : TypeId} (h : Wr w w' g cur e) {B : Nat} {w0 : World} (hB : B ≤ g) (hb : Below B w0 w) (hs : w0.heap.size = B) {v : Value} {zs : List Int} (hv : Sl w0 v zs) : Sl w' v zs := by
  subst hs
  exact hv.below (hb.trans (h.below hB))

end Dm
end Go.Proofs.Ytkdcgnooeojjgab
