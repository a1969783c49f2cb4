/-
  The calls on fractions. What the laws on fractions lean on. The contracts of the reference's Sign, Size and Cmp. The contracts of the reference's plus: two magnitudes together. The reference's numbers with signs: what a sign and digits are worth; the contract of made. The contract of the reference's Minus and Abs. The document's own whole numbers. Regions as Inv4 has them, in which calls may also write single blocks that stood already (what is lent). No function is named here. Lowest terms, as numbers: fractions that are one number have one numerator and one denominator. No program is named here.
-/
import Derived.Deep.QuietTactic
import Derived.BigQuiet
import Derived.Deep.RegionWith
import Derived.Deep.RegionHeld3
import Derived.Deep.AppendLies
import Derived.Test.YtdiiankcjgoecaaDoorRBkLawZ1
namespace Go.Proofs.YtdiiankcjgoecaaDoor
namespace Lm
open Go Go.RowKit
section
variable {dst : Option Tmp} {ty : TypeId} {pos : String} {after : Array Edge} {guard : Option (Nat × Bool)} {a : Act} {w : World} {ats : Array TypeId} {i j : Nat} {x y : Int} {L L1 L2 : Nat}
theorem has_wtrim : Has Tryd.prog 18 := by unfold Has; kernel_rfl
theorem op_wtrim (hx : IsW x L1 (a.eval (.tmp i)) w) (h1 : L1 ≤ 400000) :
    Does Tryd.prog { dst, op := .call { callee := .value (.func 18), args := #[.tmp i], argTypes := ats }, type := ty, pos, after, guard } a.eval w fun v w' => Below w.heap.size w w' ∧ OutW x L1 v w' := by
  obtain ⟨n1, a1, m1, c1, xs, e1, A1, l1⟩ := hx
  refine does_call has_wtrim _ (by simp only [List.map_toArray, List.map_cons, List.map_nil, e1]) ((trim_z _ _ _ _ _ _ _ A1 (by omega)).mono ?_)
  rintro e w' ⟨ng, ao, cap, rs, rfl, G, l, hb⟩
  exact ⟨_, rfl, hb, _, _, _, _, rfl, G, by omega⟩
theorem has_wdiv : Has Tryd.prog 40 := by unfold Has; kernel_rfl
theorem op_wdiv (hx : IsW x L1 (a.eval (.tmp i)) w) (hy : IsW y L2 (a.eval (.tmp j)) w) (h1 : L1 ≤ 400000) (h2 : L2 ≤ 400000) (h0 : y ≠ 0) :
    Does Tryd.prog { dst, op := .call { callee := .value (.func 40), args := #[.tmp i, .tmp j], argTypes := ats }, type := ty, pos, after, guard } a.eval w fun v w' => Below w.heap.size w w' ∧ Tup3 (OutW (x / y) (L1 + 4)) (OutW (x % y) L2) (Eqs (.bool true)) v w' := by
  obtain ⟨n1, a1, m1, c1, xs, e1, A1, l1⟩ := hx
  obtain ⟨n2, a2, m2, c2, ys, e2, A2, l2⟩ := hy
  have h := wdivmod_g w n1 a1 m1 c1 xs A1.sl n2 a2 m2 c2 ys A2.sl (by omega) (by omega) (fun e => h0 (by rw [← A2.worth, e]; cases n2 <;> simp [sg]))
  rw [A1.worth, A2.worth] at h
  refine does_call has_wdiv _ (by simp only [List.map_toArray, List.map_cons, List.map_nil, e1, e2]) (h.mono ?_)
  rintro e w' ⟨nq, aq, cq, qs, nr, ar, cr, rs, rfl, G, G', l, l', hb⟩
  exact ⟨_, rfl, hb, _, _, _, rfl, ⟨_, _, _, _, rfl, G, by omega⟩, ⟨_, _, _, _, rfl, G', by omega⟩, rfl⟩
theorem has_small : Has Tryd.prog 55 := by unfold Has; kernel_rfl
theorem op_small {v : Int} (h1 : 0 ≤ v) (h2 : v < 18446744073709551616) :
    Does Tryd.prog { dst, op := .call { callee := .value (.func 55), args := #[.const (.int .u64 v)], argTypes := ats }, type := ty, pos, after, guard } a.eval w fun v' w' => Below w.heap.size w w' ∧ OutL v 2 v' w' := by
  refine does_call has_small _ (by simp only [List.map_toArray, List.map_cons, List.map_nil, Act.eval]) ((small_any w v h1 h2).mono ?_)
  rintro e w' ⟨v', rfl, I, hb⟩
  obtain ⟨ao, cap, rs, rfl, G, l⟩ := got_small I h2
  exact ⟨_, rfl, hb, _, _, _, rfl, G, l⟩
end
set_option maxRecDepth 20000 in
set_option maxHeartbeats 2000000 in
theorem from_z (w : World) (Bx : Nat) (nx : Bool) (ax : Option Addr) (mx cx : Nat) (xs : List Int) (zx : Int) (Ax : Ag w nx ax mx cx xs zx) (Lx : xs.length ≤ Bx) (hL : Bx ≤ 100000) :
    Calls Tryd.prog 58 #[.agg #[.bool nx, .slice ax mx cx]] w fun e w' => ∃ v, e = .returned v ∧ (OutR zx 1 (Bx + 2)) v w' ∧ Below w.heap.size w w' := by
  go_enter Tryd.func58, Tryd.ntmps58
  generalize hA : (Act.mk _ _) = aa
  have hn : aa.tmps.size = 7 := by rw [← hA]; rfl
  have hd : aa.defers = [] := by rw [← hA]
  have f0 : aa.eval (.tmp 0) = .agg #[.bool nx, .slice ax mx cx] := by rw [← hA]; rfl
  clear hA
  have HB : Below w.heap.size w w := Below.refl _ _
  have Tx := Ax.sl
  refine wp_seq ?_
  refine region4 [some 1, some 2] [(fun _ _ => True), (fun _ _ => True)] [⟨W2, some 0, 0, 1, .agg #[.bool nx, .slice ax mx cx], none, []⟩, ⟨R3, some 1, 0, 2, .agg #[.bool false, .slice none 0 0, .slice none 0 0], none, []⟩] [] (by kernel_rfl) hn rfl (by kernel_rfl) (by kernel_rfl) (by kernel_rfl) (by kernel_rfl) (by kernel_rfl) (by kernel_rfl) ⟨True.mono4, True.mono4, trivial⟩ (ok_cons W2ok (ok_cons R3ok ok_nil)) (IsOld.all (bx := [⟨W2, some 0, 0, 1, .agg #[.bool nx, .slice ax mx cx], none, []⟩, ⟨R3, some 1, 0, 2, .agg #[.bool false, .slice none 0 0, .slice none 0 0], none, []⟩]) ⟨someNe, someNe, trivial⟩) (DisOld.all (bx := [⟨W2, some 0, 0, 1, .agg #[.bool nx, .slice ax mx cx], none, []⟩, ⟨R3, some 1, 0, 2, .agg #[.bool false, .slice none 0 0, .slice none 0 0], none, []⟩]) ⟨someNe, someNe, trivial⟩) ?_ ?_
  · exact ⟨.alloc 0 _ rfl rfl (.inr ⟨_, rfl, w2_cs, fun a_ hR => (hR 0 rfl).trans f0⟩) rfl rfl rfl rfl rfl,
      .alloc 1 _ rfl rfl (.inl ⟨rfl, rfl⟩) rfl rfl rfl rfl rfl,
      trivial⟩
  · intro a1 w1 gs1 hn1 hd1 hBt hr hR hP hX hU
    replace hn := hn1; replace hd := hd1.trans hd
    have ne1_2 : gs1 0 ≠ gs1 1 := hU 0 1 (by simp) (by simp) (by decide)
    have b1 : BoxV W2 w1 (gs1 0) (.agg #[.bool nx, .slice ax mx cx]) := (hX 0 _ rfl).2.2.2
    have f1 := (hX 0 _ rfl).1
    have u1 : w.heap.size ≤ gs1 0 := Nat.le_trans HB.size ((hX 0 _ rfl).2.2.1 (by simp))
    have b2 : BoxV R3 w1 (gs1 1) (.agg #[.bool false, .slice none 0 0, .slice none 0 0]) := (hX 1 _ rfl).2.2.2
    have f2 := (hX 1 _ rfl).1
    have u2 : w.heap.size ≤ gs1 1 := Nat.le_trans HB.size ((hX 1 _ rfl).2.2.1 (by simp))
    replace Ax := Ax.rl hr
    replace Tx := Tx.rl hr
    replace HB := HB.trans (hBt.below HB.size (UpOld.all (bx := [⟨W2, some 0, 0, 1, .agg #[.bool nx, .slice ax mx cx], none, []⟩, ⟨R3, some 1, 0, 2, .agg #[.bool false, .slice none 0 0, .slice none 0 0], none, []⟩]) ⟨someNe, someNe, trivial⟩))
    clear hBt hr hR hP hX hU
    refine wp_seq ?_
    refine region4 [some 3, some 4, some 5, some 6, none] [Eqs (.agg #[.bool nx, .slice ax mx cx]), OutW (zx) (Bx), OutL (1) (2), OutR (zx) (1) ((Bx) + (2)), (fun _ _ => True)] [⟨R3, none, (gs1 1), 2, .agg #[.bool false, .slice none 0 0, .slice none 0 0], some (4, 6, 3), []⟩] [] (by kernel_rfl) hn rfl (by kernel_rfl) (by kernel_rfl) (by kernel_rfl) (by kernel_rfl) (by kernel_rfl) (by kernel_rfl) ⟨Eqs.mono4 _, OutW.mono4 _ _, OutL.mono4 _ _, OutR.mono4 _ _ _, True.mono4, trivial⟩ (ok_cons R3ok ok_nil) (IsOld.all (bx := [⟨R3, none, (gs1 1), 2, .agg #[.bool false, .slice none 0 0, .slice none 0 0], some (4, 6, 3), []⟩]) ⟨fun _ => ⟨f2, b2⟩, trivial⟩) (DisOld.all (bx := [⟨R3, none, (gs1 1), 2, .agg #[.bool false, .slice none 0 0, .slice none 0 0], some (4, 6, 3), []⟩]) ⟨fun _ => trivial, trivial⟩) ?_ ?_
    · exact ⟨.norm 3 rfl rfl rfl (fun a_ w_ hn_ hBt hr hR hD hO hS => op_loadv W2ok ((hR 1 rfl).trans f1) (b1.keep hBt ⟨fun _ => ne1_2.symm, trivial⟩)),
        .norm 4 rfl rfl rfl (fun a_ w_ hn_ hBt hr hR hD hO hS => op_wtrim (isw_eq (show a_.eval (.tmp 3) = .agg #[.bool nx, .slice ax mx cx] from hD 0 rfl) (Ax.rl hr) Lx) (by omega)),
        .norm 5 rfl rfl rfl (fun a_ w_ hn_ hBt hr hR hD hO hS => op_small (by omega) (by omega)),
        .norm 6 rfl rfl rfl (fun a_ w_ hn_ hBt hr hR hD hO hS => op_bRo ((show OutW (zx) (Bx) (a_.eval (.tmp 4)) w_ from hD 1 rfl).to rfl (by omega)) ((show OutL (1) (2) (a_.eval (.tmp 5)) w_ from hD 2 rfl).to (by omega))),
        .store 0 _ _ _ rfl rfl rfl rfl rfl rfl rfl (fun ia h => by cases h) rfl rfl rfl OutR.cs,
        trivial⟩
    · intro a2 w2 gs2 hn2 hd2 hBt hr hR hP hX hU
      replace hn := hn2; replace hd := hd2.trans hd
      obtain ⟨n_3, a_3, c_3, r_3, b_3, d_3, s_3, e6, G3, K3, l3, k3⟩ : OutR (zx) (1) ((Bx) + (2)) (a2.eval (.tmp 6)) w2 := hP 3 (by decide)
      have A3 := G3.ag; have S3 := K3.sl; have V3 := K3.val
      have b2 : BoxV R3 w2 ((gs1 1)) (.agg #[.bool n_3, .slice a_3 r_3.length c_3, .slice b_3 s_3.length d_3]) := boxv_old ((hX 0 _ rfl).2.1 rfl) (hX 0 _ rfl).2.2.2 e6
      replace f2 : a2.eval (.tmp 2) = _ := (hR 2 rfl).trans f2
      replace Ax := Ax.rl hr
      replace Tx := Tx.rl hr
      replace HB := HB.trans (hBt.below HB.size (UpOld.all (bx := [⟨R3, none, (gs1 1), 2, .agg #[.bool false, .slice none 0 0, .slice none 0 0], some (4, 6, 3), []⟩]) ⟨fun _ => u2, trivial⟩))
      clear hBt hr hR hP hX hU
      refine wp_ret ?_
      repeat (first | refine then_ret ?_ | refine scope_ret ?_ | refine block_ret ?_)
      exact bodyPost_ret (v := .agg #[.bool n_3, .slice a_3 r_3.length c_3, .slice b_3 s_3.length d_3]) (res_c rfl f2 (lv_R3 b2)) hd ⟨_, rfl, OutR.to (outr_eq rfl G3 K3 l3 k3) rfl rfl (by omega), HB⟩
theorem has_from : Has Tryd.prog 58 := by unfold Has; kernel_rfl
theorem op_from {dst : Option Tmp} {ty : TypeId} {pos : String} {after : Array Edge} {guard : Option (Nat × Bool)} {a : Act} {w : World} {ats : Array TypeId} {i : Nat} {Bx : Nat} {zx : Int} (Hx : IsW zx Bx (a.eval (.tmp i)) w) (hL : Bx ≤ 100000) :
    Does Tryd.prog { dst, op := .call { callee := .value (.func 58), args := #[.tmp i], argTypes := ats }, type := ty, pos, after, guard } a.eval w fun v w' => Below w.heap.size w w' ∧ (OutR zx 1 (Bx + 2)) v w' := by
  obtain ⟨nx, ax, mx, cx, xs, ex, Ax, Lx⟩ := Hx
  refine does_call has_from _ (by simp only [List.map_toArray, List.map_cons, List.map_nil, ex]) ((from_z w Bx _ _ _ _ _ _ Ax Lx hL).mono ?_)
  rintro e w' ⟨v, rfl, h1, hb⟩
  exact ⟨_, rfl, hb, h1⟩
set_option maxRecDepth 20000 in
set_option maxHeartbeats 2000000 in
theorem rtrim_z (w : World) (Br : Nat) (nr : Bool) (ar : Option Addr) (mr cr : Nat) (rs : List Int) (pr : Int) (Ar : Ag w nr ar mr cr rs pr) (Lr : rs.length ≤ Br) (br : Option Addr) (kr dr : Nat) (rt : List Int) (qr : Int) (Sr : Sl w (.slice br kr dr) rt) (Vr : val rt = qr) (Mr : rt.length ≤ Br) (hL : 2 * (Br + 2) ≤ 100000) :
    Calls Tryd.prog 31 #[.agg #[.bool nr, .slice ar mr cr, .slice br kr dr]] w fun e w' => ∃ v, e = .returned v ∧ (OutR (nm (tp pr qr) (tq qr)) (dn (tp pr qr) (tq qr)) (2 * (Br + 2))) v w' ∧ Below w.heap.size w w' := by
  go_enter Tryd.func31, Tryd.ntmps31
  generalize hA : (Act.mk _ _) = aa
  have hn : aa.tmps.size = 8 := by rw [← hA]; rfl
  have hd : aa.defers = [] := by rw [← hA]
  have f0 : aa.eval (.tmp 0) = .agg #[.bool nr, .slice ar mr cr, .slice br kr dr] := by rw [← hA]; rfl
  clear hA
  have HB : Below w.heap.size w w := Below.refl _ _
  have Dr : Ag w false br kr dr rt qr := ⟨Sr, Vr⟩
  refine wp_seq ?_
  refine region4 [some 1, some 2] [(fun _ _ => True), (fun _ _ => True)] [⟨R3, some 0, 0, 1, .agg #[.bool nr, .slice ar mr cr, .slice br kr dr], none, []⟩, ⟨R3, some 1, 0, 2, .agg #[.bool false, .slice none 0 0, .slice none 0 0], none, []⟩] [] (by kernel_rfl) hn rfl (by kernel_rfl) (by kernel_rfl) (by kernel_rfl) (by kernel_rfl) (by kernel_rfl) (by kernel_rfl) ⟨True.mono4, True.mono4, trivial⟩ (ok_cons R3ok (ok_cons R3ok ok_nil)) (IsOld.all (bx := [⟨R3, some 0, 0, 1, .agg #[.bool nr, .slice ar mr cr, .slice br kr dr], none, []⟩, ⟨R3, some 1, 0, 2, .agg #[.bool false, .slice none 0 0, .slice none 0 0], none, []⟩]) ⟨someNe, someNe, trivial⟩) (DisOld.all (bx := [⟨R3, some 0, 0, 1, .agg #[.bool nr, .slice ar mr cr, .slice br kr dr], none, []⟩, ⟨R3, some 1, 0, 2, .agg #[.bool false, .slice none 0 0, .slice none 0 0], none, []⟩]) ⟨someNe, someNe, trivial⟩) ?_ ?_
  · exact ⟨.alloc 0 _ rfl rfl (.inr ⟨_, rfl, r3_cs, fun a_ hR => (hR 0 rfl).trans f0⟩) rfl rfl rfl rfl rfl,
      .alloc 1 _ rfl rfl (.inl ⟨rfl, rfl⟩) rfl rfl rfl rfl rfl,
      trivial⟩
  · intro a1 w1 gs1 hn1 hd1 hBt hr hR hP hX hU
    replace hn := hn1; replace hd := hd1.trans hd
    have ne1_2 : gs1 0 ≠ gs1 1 := hU 0 1 (by simp) (by simp) (by decide)
    have b1 : BoxV R3 w1 (gs1 0) (.agg #[.bool nr, .slice ar mr cr, .slice br kr dr]) := (hX 0 _ rfl).2.2.2
    have f1 := (hX 0 _ rfl).1
    have u1 : w.heap.size ≤ gs1 0 := Nat.le_trans HB.size ((hX 0 _ rfl).2.2.1 (by simp))
    have b2 : BoxV R3 w1 (gs1 1) (.agg #[.bool false, .slice none 0 0, .slice none 0 0]) := (hX 1 _ rfl).2.2.2
    have f2 := (hX 1 _ rfl).1
    have u2 : w.heap.size ≤ gs1 1 := Nat.le_trans HB.size ((hX 1 _ rfl).2.2.1 (by simp))
    replace Ar := Ar.rl hr
    replace Sr := Sr.rl hr
    replace Dr := Dr.rl hr
    replace HB := HB.trans (hBt.below HB.size (UpOld.all (bx := [⟨R3, some 0, 0, 1, .agg #[.bool nr, .slice ar mr cr, .slice br kr dr], none, []⟩, ⟨R3, some 1, 0, 2, .agg #[.bool false, .slice none 0 0, .slice none 0 0], none, []⟩]) ⟨someNe, someNe, trivial⟩))
    clear hBt hr hR hP hX hU
    refine wp_seq ?_
    refine region4 [some 3, some 4, some 5, some 6, some 7, none] [Eqs (.agg #[.bool nr, .slice ar mr cr, .slice br kr dr]), Tup2 (IsW ((tp pr qr)) ((Br) + 2)) (IsW ((tq qr)) ((Br) + 2)), IsW ((tp pr qr)) ((Br) + 2), IsW ((tq qr)) ((Br) + 2), OutR ((nm (tp pr qr) (tq qr))) ((dn (tp pr qr) (tq qr))) (((Br) + 2) + ((Br) + 2)), (fun _ _ => True)] [⟨R3, none, (gs1 1), 2, .agg #[.bool false, .slice none 0 0, .slice none 0 0], some (5, 7, 4), []⟩] [] (by kernel_rfl) hn rfl (by kernel_rfl) (by kernel_rfl) (by kernel_rfl) (by kernel_rfl) (by kernel_rfl) (by kernel_rfl) ⟨Eqs.mono4 _, Tup2.mono4 (IsW.mono4 _ _) (IsW.mono4 _ _), IsW.mono4 _ _, IsW.mono4 _ _, OutR.mono4 _ _ _, True.mono4, trivial⟩ (ok_cons R3ok ok_nil) (IsOld.all (bx := [⟨R3, none, (gs1 1), 2, .agg #[.bool false, .slice none 0 0, .slice none 0 0], some (5, 7, 4), []⟩]) ⟨fun _ => ⟨f2, b2⟩, trivial⟩) (DisOld.all (bx := [⟨R3, none, (gs1 1), 2, .agg #[.bool false, .slice none 0 0, .slice none 0 0], some (5, 7, 4), []⟩]) ⟨fun _ => trivial, trivial⟩) ?_ ?_
    · exact ⟨.norm 3 rfl rfl rfl (fun a_ w_ hn_ hBt hr hR hD hO hS => op_loadv R3ok ((hR 1 rfl).trans f1) (b1.keep hBt ⟨fun _ => ne1_2.symm, trivial⟩)),
        .norm 4 rfl rfl rfl (fun a_ w_ hn_ hBt hr hR hD hO hS => op_terms (isr_eq (show a_.eval (.tmp 3) = .agg #[.bool nr, .slice ar mr cr, .slice br kr dr] from hD 0 rfl) (Ar.rl hr) (Sr.rl hr) Vr Lr Mr) (by omega)),
        .norm 5 rfl rfl rfl (fun a_ w_ hn_ hBt hr hR hD hO hS => op_ex20 (show Tup2 (IsW ((tp pr qr)) ((Br) + 2)) (IsW ((tq qr)) ((Br) + 2)) (a_.eval (.tmp 4)) w_ from hD 1 rfl)),
        .norm 6 rfl rfl rfl (fun a_ w_ hn_ hBt hr hR hD hO hS => op_ex21 (show Tup2 (IsW ((tp pr qr)) ((Br) + 2)) (IsW ((tq qr)) ((Br) + 2)) (a_.eval (.tmp 4)) w_ from hD 1 rfl)),
        .norm 7 rfl rfl rfl (fun a_ w_ hn_ hBt hr hR hD hO hS => op_lowest (show IsW ((tp pr qr)) ((Br) + 2) (a_.eval (.tmp 5)) w_ from hD 2 rfl) (show IsW ((tq qr)) ((Br) + 2) (a_.eval (.tmp 6)) w_ from hD 3 rfl) (by omega) (tq_ne _)),
        .store 0 _ _ _ rfl rfl rfl rfl rfl rfl rfl (fun ia h => by cases h) rfl rfl rfl OutR.cs,
        trivial⟩
    · intro a2 w2 gs2 hn2 hd2 hBt hr hR hP hX hU
      replace hn := hn2; replace hd := hd2.trans hd
      obtain ⟨n_3, a_3, c_3, r_3, b_3, d_3, s_3, e7, G3, K3, l3, k3⟩ : OutR ((nm (tp pr qr) (tq qr))) ((dn (tp pr qr) (tq qr))) (((Br) + 2) + ((Br) + 2)) (a2.eval (.tmp 7)) w2 := hP 4 (by decide)
      have A3 := G3.ag; have S3 := K3.sl; have V3 := K3.val
      have b2 : BoxV R3 w2 ((gs1 1)) (.agg #[.bool n_3, .slice a_3 r_3.length c_3, .slice b_3 s_3.length d_3]) := boxv_old ((hX 0 _ rfl).2.1 rfl) (hX 0 _ rfl).2.2.2 e7
      replace f2 : a2.eval (.tmp 2) = _ := (hR 2 rfl).trans f2
      replace Ar := Ar.rl hr
      replace Sr := Sr.rl hr
      replace Dr := Dr.rl hr
      replace HB := HB.trans (hBt.below HB.size (UpOld.all (bx := [⟨R3, none, (gs1 1), 2, .agg #[.bool false, .slice none 0 0, .slice none 0 0], some (5, 7, 4), []⟩]) ⟨fun _ => u2, trivial⟩))
      clear hBt hr hR hP hX hU
      refine wp_ret ?_
      repeat (first | refine then_ret ?_ | refine scope_ret ?_ | refine block_ret ?_)
      exact bodyPost_ret (v := .agg #[.bool n_3, .slice a_3 r_3.length c_3, .slice b_3 s_3.length d_3]) (res_c rfl f2 (lv_R3 b2)) hd ⟨_, rfl, OutR.to (outr_eq rfl G3 K3 l3 k3) rfl rfl (by omega), HB⟩
theorem has_rtrim : Has Tryd.prog 31 := by unfold Has; kernel_rfl
theorem op_rtrim {dst : Option Tmp} {ty : TypeId} {pos : String} {after : Array Edge} {guard : Option (Nat × Bool)} {a : Act} {w : World} {ats : Array TypeId} {i : Nat} {Br : Nat} {pr qr : Int} (Hr : IsR pr qr Br (a.eval (.tmp i)) w) (hL : 2 * (Br + 2) ≤ 100000) :
    Does Tryd.prog { dst, op := .call { callee := .value (.func 31), args := #[.tmp i], argTypes := ats }, type := ty, pos, after, guard } a.eval w fun v w' => Below w.heap.size w w' ∧ (OutR (nm (tp pr qr) (tq qr)) (dn (tp pr qr) (tq qr)) (2 * (Br + 2))) v w' := by
  obtain ⟨nr, ar, mr, cr, rs, br, kr, dr, rt, er, Ar, Sr, Vr, Lr, Mr⟩ := Hr
  refine does_call has_rtrim _ (by simp only [List.map_toArray, List.map_cons, List.map_nil, er]) ((rtrim_z w Br _ _ _ _ _ _ Ar Lr _ _ _ _ _ Sr Vr Mr hL).mono ?_)
  rintro e w' ⟨v, rfl, h1, hb⟩
  exact ⟨_, rfl, hb, h1⟩
set_option maxRecDepth 20000 in
set_option maxHeartbeats 2000000 in
theorem rof_z (w : World) (Bx : Nat) (nx : Bool) (ax : Option Addr) (mx cx : Nat) (xs : List Int) (zx : Int) (Ax : Ag w nx ax mx cx xs zx) (Lx : xs.length ≤ Bx) (By : Nat) (ny : Bool) (ay : Option Addr) (my cy : Nat) (ys : List Int) (zy : Int) (Ay : Ag w ny ay my cy ys zy) (Ly : ys.length ≤ By) (hL : Bx + By ≤ 100000) (hy : zy ≠ 0) :
    Calls Tryd.prog 56 #[.agg #[.bool nx, .slice ax mx cx], .agg #[.bool ny, .slice ay my cy]] w fun e w' => ∃ v, e = .returned v ∧ (Tup2 (OutR (nm zx zy) (dn zx zy) (Bx + By)) (Eqs (.int .i64 0))) v w' ∧ Below w.heap.size w w' := by
  go_enter Tryd.func56, Tryd.ntmps56
  generalize hA : (Act.mk _ _) = aa
  have hn : aa.tmps.size = 13 := by rw [← hA]; rfl
  have hd : aa.defers = [] := by rw [← hA]
  have f0 : aa.eval (.tmp 0) = .agg #[.bool nx, .slice ax mx cx] := by rw [← hA]; rfl
  have f1 : aa.eval (.tmp 1) = .agg #[.bool ny, .slice ay my cy] := by rw [← hA]; rfl
  clear hA
  have HB : Below w.heap.size w w := Below.refl _ _
  have Tx := Ax.sl
  have Ty := Ay.sl
  refine wp_seq ?_
  refine region4 [some 2, some 3, some 4, some 5] [(fun _ _ => True), (fun _ _ => True), (fun _ _ => True), Eqs ((.int .i64 0))] [⟨W2, some 0, 0, 2, .agg #[.bool nx, .slice ax mx cx], none, []⟩, ⟨W2, some 1, 0, 3, .agg #[.bool ny, .slice ay my cy], none, []⟩, ⟨R3, some 2, 0, 4, .agg #[.bool false, .slice none 0 0, .slice none 0 0], none, []⟩] [] (by kernel_rfl) hn rfl (by kernel_rfl) (by kernel_rfl) (by kernel_rfl) (by kernel_rfl) (by kernel_rfl) (by kernel_rfl) ⟨True.mono4, True.mono4, True.mono4, Eqs.mono4 _, trivial⟩ (ok_cons W2ok (ok_cons W2ok (ok_cons R3ok ok_nil))) (IsOld.all (bx := [⟨W2, some 0, 0, 2, .agg #[.bool nx, .slice ax mx cx], none, []⟩, ⟨W2, some 1, 0, 3, .agg #[.bool ny, .slice ay my cy], none, []⟩, ⟨R3, some 2, 0, 4, .agg #[.bool false, .slice none 0 0, .slice none 0 0], none, []⟩]) ⟨someNe, someNe, someNe, trivial⟩) (DisOld.all (bx := [⟨W2, some 0, 0, 2, .agg #[.bool nx, .slice ax mx cx], none, []⟩, ⟨W2, some 1, 0, 3, .agg #[.bool ny, .slice ay my cy], none, []⟩, ⟨R3, some 2, 0, 4, .agg #[.bool false, .slice none 0 0, .slice none 0 0], none, []⟩]) ⟨someNe, someNe, someNe, trivial⟩) ?_ ?_
  · exact ⟨.alloc 0 _ rfl rfl (.inr ⟨_, rfl, w2_cs, fun a_ hR => (hR 0 rfl).trans f0⟩) rfl rfl rfl rfl rfl,
      .alloc 1 _ rfl rfl (.inr ⟨_, rfl, w2_cs, fun a_ hR => (hR 1 rfl).trans f1⟩) rfl rfl rfl rfl rfl,
      .alloc 2 _ rfl rfl (.inl ⟨rfl, rfl⟩) rfl rfl rfl rfl rfl,
      .norm 5 rfl rfl rfl (fun a_ w_ hn_ hBt hr hR hD hO hS => op_assign rfl),
      trivial⟩
  · intro a1 w1 gs1 hn1 hd1 hBt hr hR hP hX hU
    replace hn := hn1; replace hd := hd1.trans hd
    have ne2_4 : gs1 0 ≠ gs1 2 := hU 0 2 (by simp) (by simp) (by decide)
    have ne3_4 : gs1 1 ≠ gs1 2 := hU 1 2 (by simp) (by simp) (by decide)
    have b2 : BoxV W2 w1 (gs1 0) (.agg #[.bool nx, .slice ax mx cx]) := (hX 0 _ rfl).2.2.2
    have f2 := (hX 0 _ rfl).1
    have u2 : w.heap.size ≤ gs1 0 := Nat.le_trans HB.size ((hX 0 _ rfl).2.2.1 (by simp))
    have b3 : BoxV W2 w1 (gs1 1) (.agg #[.bool ny, .slice ay my cy]) := (hX 1 _ rfl).2.2.2
    have f3 := (hX 1 _ rfl).1
    have u3 : w.heap.size ≤ gs1 1 := Nat.le_trans HB.size ((hX 1 _ rfl).2.2.1 (by simp))
    have b4 : BoxV R3 w1 (gs1 2) (.agg #[.bool false, .slice none 0 0, .slice none 0 0]) := (hX 2 _ rfl).2.2.2
    have f4 := (hX 2 _ rfl).1
    have u4 : w.heap.size ≤ gs1 2 := Nat.le_trans HB.size ((hX 2 _ rfl).2.2.1 (by simp))
    have e5 : a1.eval (.tmp 5) = (.int .i64 0) := hP 3 (by decide)
    have f5 := e5
    replace Ax := Ax.rl hr
    replace Tx := Tx.rl hr
    replace Ay := Ay.rl hr
    replace Ty := Ty.rl hr
    replace HB := HB.trans (hBt.below HB.size (UpOld.all (bx := [⟨W2, some 0, 0, 2, .agg #[.bool nx, .slice ax mx cx], none, []⟩, ⟨W2, some 1, 0, 3, .agg #[.bool ny, .slice ay my cy], none, []⟩, ⟨R3, some 2, 0, 4, .agg #[.bool false, .slice none 0 0, .slice none 0 0], none, []⟩]) ⟨someNe, someNe, someNe, trivial⟩))
    clear hBt hr hR hP hX hU
    refine wp_seq ?_
    refine wp_seq ?_
    refine region4 [some 6, some 7, some 8] [Eqs (.agg #[.bool ny, .slice ay my cy]), Eqs (.int .i64 (Int.sign zy)), Eqs (.bool (decide ((Int.sign zy) = 0)))] [] [] (by kernel_rfl) hn rfl (by kernel_rfl) (by kernel_rfl) (by kernel_rfl) (by kernel_rfl) (by kernel_rfl) (by kernel_rfl) ⟨Eqs.mono4 _, Eqs.mono4 _, Eqs.mono4 _, trivial⟩ ok_nil (IsOld.all (bx := []) trivial) (DisOld.all (bx := []) trivial) ?_ ?_
    · exact ⟨.norm 6 rfl rfl rfl (fun a_ w_ hn_ hBt hr hR hD hO hS => op_loadv W2ok ((hR 3 rfl).trans f3) (b3.keep hBt trivial)),
        .norm 7 rfl rfl rfl (fun a_ w_ hn_ hBt hr hR hD hO hS => op_sign (isw_eq (show a_.eval (.tmp 6) = .agg #[.bool ny, .slice ay my cy] from hD 0 rfl) (Ay.rl hr) Ly) (by omega)),
        .norm 8 rfl rfl rfl (fun a_ w_ hn_ hBt hr hR hD hO hS => op_eqlk (show a_.eval (.tmp 7) = .int .i64 (Int.sign zy) from hD 1 rfl)),
        trivial⟩
    · intro a2 w2 gs2 hn2 hd2 hBt hr hR hP hX hU
      replace hn := hn2; replace hd := hd2.trans hd
      replace b2 := b2.keep hBt trivial
      replace b3 := b3.keep hBt trivial
      replace b4 := b4.keep hBt trivial
      replace f2 := (hR 2 rfl).trans f2
      replace f3 := (hR 3 rfl).trans f3
      replace f4 := (hR 4 rfl).trans f4
      replace f5 := (hR 5 rfl).trans f5
      have e8 : a2.eval (.tmp 8) = .bool (decide ((Int.sign zy) = 0)) := hP 2 (by decide)
      have f8 := e8
      replace Ax := Ax.rl hr
      replace Tx := Tx.rl hr
      replace Ay := Ay.rl hr
      replace Ty := Ty.rl hr
      replace HB := HB.trans (hBt.below HB.size (UpOld.all (bx := []) trivial))
      clear hBt hr hR hP hX hU
      refine wp_cond_split f8 (fun hc8 => ?_) (fun hc8 => ?_)
      · skip
        exact absurd (sign_zero_iff.1 (of_decide_eq_true hc8)) hy
      · skip
        refine wp_skip ?_
        refine wp_seq ?_
        refine region4 [some 10, some 11, some 12, none, some 5] [Eqs (.agg #[.bool nx, .slice ax mx cx]), Eqs (.agg #[.bool ny, .slice ay my cy]), OutR ((nm zx zy)) ((dn zx zy)) ((Bx) + (By)), (fun _ _ => True), Eqs ((.int .i64 0))] [⟨R3, none, (gs1 2), 4, .agg #[.bool false, .slice none 0 0, .slice none 0 0], some (3, 12, 2), []⟩] [] (by kernel_rfl) hn rfl (by kernel_rfl) (by kernel_rfl) (by kernel_rfl) (by kernel_rfl) (by kernel_rfl) (by kernel_rfl) ⟨Eqs.mono4 _, Eqs.mono4 _, OutR.mono4 _ _ _, True.mono4, Eqs.mono4 _, trivial⟩ (ok_cons R3ok ok_nil) (IsOld.all (bx := [⟨R3, none, (gs1 2), 4, .agg #[.bool false, .slice none 0 0, .slice none 0 0], some (3, 12, 2), []⟩]) ⟨fun _ => ⟨f4, b4⟩, trivial⟩) (DisOld.all (bx := [⟨R3, none, (gs1 2), 4, .agg #[.bool false, .slice none 0 0, .slice none 0 0], some (3, 12, 2), []⟩]) ⟨fun _ => trivial, trivial⟩) ?_ ?_
        · exact ⟨.norm 10 rfl rfl rfl (fun a_ w_ hn_ hBt hr hR hD hO hS => op_loadv W2ok ((hR 2 rfl).trans f2) (b2.keep hBt ⟨fun _ => ne2_4.symm, trivial⟩)),
            .norm 11 rfl rfl rfl (fun a_ w_ hn_ hBt hr hR hD hO hS => op_loadv W2ok ((hR 3 rfl).trans f3) (b3.keep hBt ⟨fun _ => ne3_4.symm, trivial⟩)),
            .norm 12 rfl rfl rfl (fun a_ w_ hn_ hBt hr hR hD hO hS => op_lowest (isw_eq (show a_.eval (.tmp 10) = .agg #[.bool nx, .slice ax mx cx] from hD 0 rfl) (Ax.rl hr) Lx) (isw_eq (show a_.eval (.tmp 11) = .agg #[.bool ny, .slice ay my cy] from hD 1 rfl) (Ay.rl hr) Ly) (by omega) hy),
            .store 0 _ _ _ rfl rfl rfl rfl rfl rfl rfl (fun ia h => by cases h) rfl rfl rfl OutR.cs,
            .norm 5 rfl rfl rfl (fun a_ w_ hn_ hBt hr hR hD hO hS => op_assign rfl),
            trivial⟩
        · intro a3 w3 gs3 hn3 hd3 hBt hr hR hP hX hU
          replace hn := hn3; replace hd := hd3.trans hd
          obtain ⟨n_4, a_4, c_4, r_4, b_4, d_4, s_4, e12, G4, K4, l4, k4⟩ : OutR ((nm zx zy)) ((dn zx zy)) ((Bx) + (By)) (a3.eval (.tmp 12)) w3 := hP 2 (by decide)
          have A4 := G4.ag; have S4 := K4.sl; have V4 := K4.val
          have b4 : BoxV R3 w3 ((gs1 2)) (.agg #[.bool n_4, .slice a_4 r_4.length c_4, .slice b_4 s_4.length d_4]) := boxv_old ((hX 0 _ rfl).2.1 rfl) (hX 0 _ rfl).2.2.2 e12
          replace f4 : a3.eval (.tmp 4) = _ := (hR 4 rfl).trans f4
          have e5 : a3.eval (.tmp 5) = (.int .i64 0) := hP 4 (by decide)
          have f5 := e5
          replace Ax := Ax.rl hr
          replace Tx := Tx.rl hr
          replace Ay := Ay.rl hr
          replace Ty := Ty.rl hr
          replace HB := HB.trans (hBt.below HB.size (UpOld.all (bx := [⟨R3, none, (gs1 2), 4, .agg #[.bool false, .slice none 0 0, .slice none 0 0], some (3, 12, 2), []⟩]) ⟨fun _ => u4, trivial⟩))
          clear hBt hr hR hP hX hU
          refine wp_ret ?_
          repeat (first | refine then_ret ?_ | refine scope_ret ?_ | refine block_ret ?_)
          exact bodyPost_ret (v := .tuple #[.agg #[.bool n_4, .slice a_4 r_4.length c_4, .slice b_4 s_4.length d_4], (.int .i64 0)]) (res_ct rfl f4 (lv_R3 b4) f5) hd ⟨_, rfl, ⟨_, _, rfl, OutR.to (outr_eq rfl G4 K4 l4 k4) rfl rfl (by omega), rfl⟩, HB⟩
theorem has_rof : Has Tryd.prog 56 := by unfold Has; kernel_rfl
theorem op_rof {dst : Option Tmp} {ty : TypeId} {pos : String} {after : Array Edge} {guard : Option (Nat × Bool)} {a : Act} {w : World} {ats : Array TypeId} {i j : Nat} {Bx : Nat} {zx : Int} (Hx : IsW zx Bx (a.eval (.tmp i)) w) {By : Nat} {zy : Int} (Hy : IsW zy By (a.eval (.tmp j)) w) (hL : Bx + By ≤ 100000) (hy : zy ≠ 0) :
    Does Tryd.prog { dst, op := .call { callee := .value (.func 56), args := #[.tmp i, .tmp j], argTypes := ats }, type := ty, pos, after, guard } a.eval w fun v w' => Below w.heap.size w w' ∧ (Tup2 (OutR (nm zx zy) (dn zx zy) (Bx + By)) (Eqs (.int .i64 0))) v w' := by
  obtain ⟨nx, ax, mx, cx, xs, ex, Ax, Lx⟩ := Hx
  obtain ⟨ny, ay, my, cy, ys, ey, Ay, Ly⟩ := Hy
  refine does_call has_rof _ (by simp only [List.map_toArray, List.map_cons, List.map_nil, ex, ey]) ((rof_z w Bx _ _ _ _ _ _ Ax Lx By _ _ _ _ _ _ Ay Ly hL hy).mono ?_)
  rintro e w' ⟨v, rfl, h1, hb⟩
  exact ⟨_, rfl, hb, h1⟩
set_option maxRecDepth 20000 in
set_option maxHeartbeats 2000000 in
theorem rof0_z (w : World) (Bx : Nat) (nx : Bool) (ax : Option Addr) (mx cx : Nat) (xs : List Int) (zx : Int) (Ax : Ag w nx ax mx cx xs zx) (Lx : xs.length ≤ Bx) (By : Nat) (ny : Bool) (ay : Option Addr) (my cy : Nat) (ys : List Int) (zy : Int) (Ay : Ag w ny ay my cy ys zy) (Ly : ys.length ≤ By) (hL : Bx + By ≤ 100000) (hy : zy = 0) :
    Calls Tryd.prog 56 #[.agg #[.bool nx, .slice ax mx cx], .agg #[.bool ny, .slice ay my cy]] w fun e w' => ∃ v, e = .returned v ∧ (Tup2 (Eqs (.agg #[.bool false, .slice none 0 0, .slice none 0 0])) (Eqs (.int .i64 20))) v w' ∧ Below w.heap.size w w' := by
  go_enter Tryd.func56, Tryd.ntmps56
  generalize hA : (Act.mk _ _) = aa
  have hn : aa.tmps.size = 13 := by rw [← hA]; rfl
  have hd : aa.defers = [] := by rw [← hA]
  have f0 : aa.eval (.tmp 0) = .agg #[.bool nx, .slice ax mx cx] := by rw [← hA]; rfl
  have f1 : aa.eval (.tmp 1) = .agg #[.bool ny, .slice ay my cy] := by rw [← hA]; rfl
  clear hA
  have HB : Below w.heap.size w w := Below.refl _ _
  have Tx := Ax.sl
  have Ty := Ay.sl
  refine wp_seq ?_
  refine region4 [some 2, some 3, some 4, some 5] [(fun _ _ => True), (fun _ _ => True), (fun _ _ => True), Eqs ((.int .i64 0))] [⟨W2, some 0, 0, 2, .agg #[.bool nx, .slice ax mx cx], none, []⟩, ⟨W2, some 1, 0, 3, .agg #[.bool ny, .slice ay my cy], none, []⟩, ⟨R3, some 2, 0, 4, .agg #[.bool false, .slice none 0 0, .slice none 0 0], none, []⟩] [] (by kernel_rfl) hn rfl (by kernel_rfl) (by kernel_rfl) (by kernel_rfl) (by kernel_rfl) (by kernel_rfl) (by kernel_rfl) ⟨True.mono4, True.mono4, True.mono4, Eqs.mono4 _, trivial⟩ (ok_cons W2ok (ok_cons W2ok (ok_cons R3ok ok_nil))) (IsOld.all (bx := [⟨W2, some 0, 0, 2, .agg #[.bool nx, .slice ax mx cx], none, []⟩, ⟨W2, some 1, 0, 3, .agg #[.bool ny, .slice ay my cy], none, []⟩, ⟨R3, some 2, 0, 4, .agg #[.bool false, .slice none 0 0, .slice none 0 0], none, []⟩]) ⟨someNe, someNe, someNe, trivial⟩) (DisOld.all (bx := [⟨W2, some 0, 0, 2, .agg #[.bool nx, .slice ax mx cx], none, []⟩, ⟨W2, some 1, 0, 3, .agg #[.bool ny, .slice ay my cy], none, []⟩, ⟨R3, some 2, 0, 4, .agg #[.bool false, .slice none 0 0, .slice none 0 0], none, []⟩]) ⟨someNe, someNe, someNe, trivial⟩) ?_ ?_
  · exact ⟨.alloc 0 _ rfl rfl (.inr ⟨_, rfl, w2_cs, fun a_ hR => (hR 0 rfl).trans f0⟩) rfl rfl rfl rfl rfl,
      .alloc 1 _ rfl rfl (.inr ⟨_, rfl, w2_cs, fun a_ hR => (hR 1 rfl).trans f1⟩) rfl rfl rfl rfl rfl,
      .alloc 2 _ rfl rfl (.inl ⟨rfl, rfl⟩) rfl rfl rfl rfl rfl,
      .norm 5 rfl rfl rfl (fun a_ w_ hn_ hBt hr hR hD hO hS => op_assign rfl),
      trivial⟩
  · intro a1 w1 gs1 hn1 hd1 hBt hr hR hP hX hU
    replace hn := hn1; replace hd := hd1.trans hd
    have ne2_4 : gs1 0 ≠ gs1 2 := hU 0 2 (by simp) (by simp) (by decide)
    have ne3_4 : gs1 1 ≠ gs1 2 := hU 1 2 (by simp) (by simp) (by decide)
    have b2 : BoxV W2 w1 (gs1 0) (.agg #[.bool nx, .slice ax mx cx]) := (hX 0 _ rfl).2.2.2
    have f2 := (hX 0 _ rfl).1
    have u2 : w.heap.size ≤ gs1 0 := Nat.le_trans HB.size ((hX 0 _ rfl).2.2.1 (by simp))
    have b3 : BoxV W2 w1 (gs1 1) (.agg #[.bool ny, .slice ay my cy]) := (hX 1 _ rfl).2.2.2
    have f3 := (hX 1 _ rfl).1
    have u3 : w.heap.size ≤ gs1 1 := Nat.le_trans HB.size ((hX 1 _ rfl).2.2.1 (by simp))
    have b4 : BoxV R3 w1 (gs1 2) (.agg #[.bool false, .slice none 0 0, .slice none 0 0]) := (hX 2 _ rfl).2.2.2
    have f4 := (hX 2 _ rfl).1
    have u4 : w.heap.size ≤ gs1 2 := Nat.le_trans HB.size ((hX 2 _ rfl).2.2.1 (by simp))
    have e5 : a1.eval (.tmp 5) = (.int .i64 0) := hP 3 (by decide)
    have f5 := e5
    replace Ax := Ax.rl hr
    replace Tx := Tx.rl hr
    replace Ay := Ay.rl hr
    replace Ty := Ty.rl hr
    replace HB := HB.trans (hBt.below HB.size (UpOld.all (bx := [⟨W2, some 0, 0, 2, .agg #[.bool nx, .slice ax mx cx], none, []⟩, ⟨W2, some 1, 0, 3, .agg #[.bool ny, .slice ay my cy], none, []⟩, ⟨R3, some 2, 0, 4, .agg #[.bool false, .slice none 0 0, .slice none 0 0], none, []⟩]) ⟨someNe, someNe, someNe, trivial⟩))
    clear hBt hr hR hP hX hU
    refine wp_seq ?_
    refine wp_seq ?_
    refine region4 [some 6, some 7, some 8] [Eqs (.agg #[.bool ny, .slice ay my cy]), Eqs (.int .i64 (Int.sign zy)), Eqs (.bool (decide ((Int.sign zy) = 0)))] [] [] (by kernel_rfl) hn rfl (by kernel_rfl) (by kernel_rfl) (by kernel_rfl) (by kernel_rfl) (by kernel_rfl) (by kernel_rfl) ⟨Eqs.mono4 _, Eqs.mono4 _, Eqs.mono4 _, trivial⟩ ok_nil (IsOld.all (bx := []) trivial) (DisOld.all (bx := []) trivial) ?_ ?_
    · exact ⟨.norm 6 rfl rfl rfl (fun a_ w_ hn_ hBt hr hR hD hO hS => op_loadv W2ok ((hR 3 rfl).trans f3) (b3.keep hBt trivial)),
        .norm 7 rfl rfl rfl (fun a_ w_ hn_ hBt hr hR hD hO hS => op_sign (isw_eq (show a_.eval (.tmp 6) = .agg #[.bool ny, .slice ay my cy] from hD 0 rfl) (Ay.rl hr) Ly) (by omega)),
        .norm 8 rfl rfl rfl (fun a_ w_ hn_ hBt hr hR hD hO hS => op_eqlk (show a_.eval (.tmp 7) = .int .i64 (Int.sign zy) from hD 1 rfl)),
        trivial⟩
    · intro a2 w2 gs2 hn2 hd2 hBt hr hR hP hX hU
      replace hn := hn2; replace hd := hd2.trans hd
      replace b2 := b2.keep hBt trivial
      replace b3 := b3.keep hBt trivial
      replace b4 := b4.keep hBt trivial
      replace f2 := (hR 2 rfl).trans f2
      replace f3 := (hR 3 rfl).trans f3
      replace f4 := (hR 4 rfl).trans f4
      replace f5 := (hR 5 rfl).trans f5
      have e8 : a2.eval (.tmp 8) = .bool (decide ((Int.sign zy) = 0)) := hP 2 (by decide)
      have f8 := e8
      replace Ax := Ax.rl hr
      replace Tx := Tx.rl hr
      replace Ay := Ay.rl hr
      replace Ty := Ty.rl hr
      replace HB := HB.trans (hBt.below HB.size (UpOld.all (bx := []) trivial))
      clear hBt hr hR hP hX hU
      refine wp_cond_split f8 (fun hc8 => ?_) (fun hc8 => ?_)
      · skip
        refine wp_seq ?_
        refine region4 [some 9, none, some 5] [Eqs (.agg #[.bool false, .slice none 0 0, .slice none 0 0]), (fun _ _ => True), Eqs ((.int .i64 20))] [⟨R3, none, (gs1 2), 4, .agg #[.bool false, .slice none 0 0, .slice none 0 0], some (1, 9, 0), []⟩] [] (by kernel_rfl) hn rfl (by kernel_rfl) (by kernel_rfl) (by kernel_rfl) (by kernel_rfl) (by kernel_rfl) (by kernel_rfl) ⟨Eqs.mono4 _, True.mono4, Eqs.mono4 _, trivial⟩ (ok_cons R3ok ok_nil) (IsOld.all (bx := [⟨R3, none, (gs1 2), 4, .agg #[.bool false, .slice none 0 0, .slice none 0 0], some (1, 9, 0), []⟩]) ⟨fun _ => ⟨f4, b4⟩, trivial⟩) (DisOld.all (bx := [⟨R3, none, (gs1 2), 4, .agg #[.bool false, .slice none 0 0, .slice none 0 0], some (1, 9, 0), []⟩]) ⟨fun _ => trivial, trivial⟩) ?_ ?_
        · exact ⟨.norm 9 rfl rfl rfl (fun a_ w_ hn_ hBt hr hR hD hO hS => op_bR0),
            .store 0 _ _ _ rfl rfl rfl rfl rfl rfl rfl (fun ia h => by cases h) rfl rfl rfl (eqs_cs r3_cs),
            .norm 5 rfl rfl rfl (fun a_ w_ hn_ hBt hr hR hD hO hS => op_assign rfl),
            trivial⟩
        · intro a3 w3 gs3 hn3 hd3 hBt hr hR hP hX hU
          replace hn := hn3; replace hd := hd3.trans hd
          replace b2 := b2.keep hBt ⟨fun _ => ne2_4.symm, trivial⟩
          replace b3 := b3.keep hBt ⟨fun _ => ne3_4.symm, trivial⟩
          have e9 : a3.eval (.tmp 9) = .agg #[.bool false, .slice none 0 0, .slice none 0 0] := hP 0 (by decide)
          have b4 : BoxV R3 w3 ((gs1 2)) (.agg #[.bool false, .slice none 0 0, .slice none 0 0]) := boxv_old ((hX 0 _ rfl).2.1 rfl) (hX 0 _ rfl).2.2.2 e9
          replace f4 : a3.eval (.tmp 4) = _ := (hR 4 rfl).trans f4
          replace f2 := (hR 2 rfl).trans f2
          replace f3 := (hR 3 rfl).trans f3
          have e5 : a3.eval (.tmp 5) = (.int .i64 20) := hP 2 (by decide)
          have f5 := e5
          replace Ax := Ax.rl hr
          replace Tx := Tx.rl hr
          replace Ay := Ay.rl hr
          replace Ty := Ty.rl hr
          replace HB := HB.trans (hBt.below HB.size (UpOld.all (bx := [⟨R3, none, (gs1 2), 4, .agg #[.bool false, .slice none 0 0, .slice none 0 0], some (1, 9, 0), []⟩]) ⟨fun _ => u4, trivial⟩))
          clear hBt hr hR hP hX hU
          refine wp_ret ?_
          repeat (first | refine then_ret ?_ | refine scope_ret ?_ | refine block_ret ?_)
          exact bodyPost_ret (v := .tuple #[.agg #[.bool false, .slice none 0 0, .slice none 0 0], (.int .i64 20)]) (res_ct rfl f4 (lv_R3 b4) f5) hd ⟨_, rfl, ⟨_, _, rfl, rfl, rfl⟩, HB⟩
      · skip
        exact absurd (sign_zero_iff.2 hy) (of_decide_eq_false hc8)
theorem has_rof0 : Has Tryd.prog 56 := by unfold Has; kernel_rfl
theorem op_rof0 {dst : Option Tmp} {ty : TypeId} {pos : String} {after : Array Edge} {guard : Option (Nat × Bool)} {a : Act} {w : World} {ats : Array TypeId} {i j : Nat} {Bx : Nat} {zx : Int} (Hx : IsW zx Bx (a.eval (.tmp i)) w) {By : Nat} {zy : Int} (Hy : IsW zy By (a.eval (.tmp j)) w) (hL : Bx + By ≤ 100000) (hy : zy = 0) :
    Does Tryd.prog { dst, op := .call { callee := .value (.func 56), args := #[.tmp i, .tmp j], argTypes := ats }, type := ty, pos, after, guard } a.eval w fun v w' => Below w.heap.size w w' ∧ (Tup2 (Eqs (.agg #[.bool false, .slice none 0 0, .slice none 0 0])) (Eqs (.int .i64 20))) v w' := by
  obtain ⟨nx, ax, mx, cx, xs, ex, Ax, Lx⟩ := Hx
  obtain ⟨ny, ay, my, cy, ys, ey, Ay, Ly⟩ := Hy
  refine does_call has_rof0 _ (by simp only [List.map_toArray, List.map_cons, List.map_nil, ex, ey]) ((rof0_z w Bx _ _ _ _ _ _ Ax Lx By _ _ _ _ _ _ Ay Ly hL hy).mono ?_)
  rintro e w' ⟨v, rfl, h1, hb⟩
  exact ⟨_, rfl, hb, h1⟩
set_option maxRecDepth 20000 in
set_option maxHeartbeats 2000000 in
theorem rdivide_z (w : World) (Br : Nat) (nr : Bool) (ar : Option Addr) (mr cr : Nat) (rs : List Int) (pr : Int) (Ar : Ag w nr ar mr cr rs pr) (Lr : rs.length ≤ Br) (br : Option Addr) (kr dr : Nat) (rt : List Int) (qr : Int) (Sr : Sl w (.slice br kr dr) rt) (Vr : val rt = qr) (Mr : rt.length ≤ Br) (hL : Br ≤ 100000) :
    Calls Tryd.prog 66 #[.agg #[.bool nr, .slice ar mr cr, .slice br kr dr]] w fun e w' => ∃ v, e = .returned v ∧ (Tup2 (OutW (tp pr qr / tq qr) (Br + 6)) (OutW (tp pr qr % tq qr) (Br + 6))) v w' ∧ Below w.heap.size w w' := by
  go_enter Tryd.func66, Tryd.ntmps66
  generalize hA : (Act.mk _ _) = aa
  have hn : aa.tmps.size = 20 := by rw [← hA]; rfl
  have hd : aa.defers = [] := by rw [← hA]
  have f0 : aa.eval (.tmp 0) = .agg #[.bool nr, .slice ar mr cr, .slice br kr dr] := by rw [← hA]; rfl
  clear hA
  have HB : Below w.heap.size w w := Below.refl _ _
  have Dr : Ag w false br kr dr rt qr := ⟨Sr, Vr⟩
  refine wp_seq ?_
  refine region4 [some 1, some 2, some 3] [(fun _ _ => True), (fun _ _ => True), (fun _ _ => True)] [⟨R3, some 0, 0, 1, .agg #[.bool nr, .slice ar mr cr, .slice br kr dr], none, []⟩, ⟨W2, some 1, 0, 2, .agg #[.bool false, .slice none 0 0], none, []⟩, ⟨W2, some 2, 0, 3, .agg #[.bool false, .slice none 0 0], none, []⟩] [] (by kernel_rfl) hn rfl (by kernel_rfl) (by kernel_rfl) (by kernel_rfl) (by kernel_rfl) (by kernel_rfl) (by kernel_rfl) ⟨True.mono4, True.mono4, True.mono4, trivial⟩ (ok_cons R3ok (ok_cons W2ok (ok_cons W2ok ok_nil))) (IsOld.all (bx := [⟨R3, some 0, 0, 1, .agg #[.bool nr, .slice ar mr cr, .slice br kr dr], none, []⟩, ⟨W2, some 1, 0, 2, .agg #[.bool false, .slice none 0 0], none, []⟩, ⟨W2, some 2, 0, 3, .agg #[.bool false, .slice none 0 0], none, []⟩]) ⟨someNe, someNe, someNe, trivial⟩) (DisOld.all (bx := [⟨R3, some 0, 0, 1, .agg #[.bool nr, .slice ar mr cr, .slice br kr dr], none, []⟩, ⟨W2, some 1, 0, 2, .agg #[.bool false, .slice none 0 0], none, []⟩, ⟨W2, some 2, 0, 3, .agg #[.bool false, .slice none 0 0], none, []⟩]) ⟨someNe, someNe, someNe, trivial⟩) ?_ ?_
  · exact ⟨.alloc 0 _ rfl rfl (.inr ⟨_, rfl, r3_cs, fun a_ hR => (hR 0 rfl).trans f0⟩) rfl rfl rfl rfl rfl,
      .alloc 1 _ rfl rfl (.inl ⟨rfl, rfl⟩) rfl rfl rfl rfl rfl,
      .alloc 2 _ rfl rfl (.inl ⟨rfl, rfl⟩) rfl rfl rfl rfl rfl,
      trivial⟩
  · intro a1 w1 gs1 hn1 hd1 hBt hr hR hP hX hU
    replace hn := hn1; replace hd := hd1.trans hd
    have ne1_2 : gs1 0 ≠ gs1 1 := hU 0 1 (by simp) (by simp) (by decide)
    have ne1_3 : gs1 0 ≠ gs1 2 := hU 0 2 (by simp) (by simp) (by decide)
    have ne2_3 : gs1 1 ≠ gs1 2 := hU 1 2 (by simp) (by simp) (by decide)
    have b1 : BoxV R3 w1 (gs1 0) (.agg #[.bool nr, .slice ar mr cr, .slice br kr dr]) := (hX 0 _ rfl).2.2.2
    have f1 := (hX 0 _ rfl).1
    have u1 : w.heap.size ≤ gs1 0 := Nat.le_trans HB.size ((hX 0 _ rfl).2.2.1 (by simp))
    have b2 : BoxV W2 w1 (gs1 1) (.agg #[.bool false, .slice none 0 0]) := (hX 1 _ rfl).2.2.2
    have f2 := (hX 1 _ rfl).1
    have u2 : w.heap.size ≤ gs1 1 := Nat.le_trans HB.size ((hX 1 _ rfl).2.2.1 (by simp))
    have b3 : BoxV W2 w1 (gs1 2) (.agg #[.bool false, .slice none 0 0]) := (hX 2 _ rfl).2.2.2
    have f3 := (hX 2 _ rfl).1
    have u3 : w.heap.size ≤ gs1 2 := Nat.le_trans HB.size ((hX 2 _ rfl).2.2.1 (by simp))
    replace Ar := Ar.rl hr
    replace Sr := Sr.rl hr
    replace Dr := Dr.rl hr
    replace HB := HB.trans (hBt.below HB.size (UpOld.all (bx := [⟨R3, some 0, 0, 1, .agg #[.bool nr, .slice ar mr cr, .slice br kr dr], none, []⟩, ⟨W2, some 1, 0, 2, .agg #[.bool false, .slice none 0 0], none, []⟩, ⟨W2, some 2, 0, 3, .agg #[.bool false, .slice none 0 0], none, []⟩]) ⟨someNe, someNe, someNe, trivial⟩))
    clear hBt hr hR hP hX hU
    refine wp_seq ?_
    refine region4 [some 7, some 8, some 6, some 9, some 10, some 4, some 5, none, none] [Eqs (.agg #[.bool nr, .slice ar mr cr, .slice br kr dr]), Tup2 (IsW ((tp pr qr)) ((Br) + 2)) (IsW ((tq qr)) ((Br) + 2)), Tup2 (IsW ((tp pr qr)) ((Br) + 2)) (IsW ((tq qr)) ((Br) + 2)), IsW ((tp pr qr)) ((Br) + 2), IsW ((tq qr)) ((Br) + 2), (fun _ _ => True), (fun _ _ => True), (fun _ _ => True), (fun _ _ => True)] [⟨W2, some 5, 0, 4, .agg #[.bool false, .slice none 0 0], some (7, 9, 3), []⟩, ⟨W2, some 6, 0, 5, .agg #[.bool false, .slice none 0 0], some (8, 10, 4), []⟩] [] (by kernel_rfl) hn rfl (by kernel_rfl) (by kernel_rfl) (by kernel_rfl) (by kernel_rfl) (by kernel_rfl) (by kernel_rfl) ⟨Eqs.mono4 _, Tup2.mono4 (IsW.mono4 _ _) (IsW.mono4 _ _), Tup2.mono4 (IsW.mono4 _ _) (IsW.mono4 _ _), IsW.mono4 _ _, IsW.mono4 _ _, True.mono4, True.mono4, True.mono4, True.mono4, trivial⟩ (ok_cons W2ok (ok_cons W2ok ok_nil)) (IsOld.all (bx := [⟨W2, some 5, 0, 4, .agg #[.bool false, .slice none 0 0], some (7, 9, 3), []⟩, ⟨W2, some 6, 0, 5, .agg #[.bool false, .slice none 0 0], some (8, 10, 4), []⟩]) ⟨someNe, someNe, trivial⟩) (DisOld.all (bx := [⟨W2, some 5, 0, 4, .agg #[.bool false, .slice none 0 0], some (7, 9, 3), []⟩, ⟨W2, some 6, 0, 5, .agg #[.bool false, .slice none 0 0], some (8, 10, 4), []⟩]) ⟨someNe, someNe, trivial⟩) ?_ ?_
    · exact ⟨.norm 7 rfl rfl rfl (fun a_ w_ hn_ hBt hr hR hD hO hS => op_loadv R3ok ((hR 1 rfl).trans f1) (b1.keep hBt ⟨someNe, someNe, trivial⟩)),
        .norm 8 rfl rfl rfl (fun a_ w_ hn_ hBt hr hR hD hO hS => op_terms (isr_eq (show a_.eval (.tmp 7) = .agg #[.bool nr, .slice ar mr cr, .slice br kr dr] from hD 0 rfl) (Ar.rl hr) (Sr.rl hr) Vr Lr Mr) (by omega)),
        .norm 6 rfl rfl rfl (fun a_ w_ hn_ hBt hr hR hD hO hS => op_mvp (p := Tup2 (IsW ((tp pr qr)) ((Br) + 2)) (IsW ((tq qr)) ((Br) + 2))) (show Tup2 (IsW ((tp pr qr)) ((Br) + 2)) (IsW ((tq qr)) ((Br) + 2)) (a_.eval (.tmp 8)) w_ from hD 1 rfl)),
        .norm 9 rfl rfl rfl (fun a_ w_ hn_ hBt hr hR hD hO hS => op_ex20 (show Tup2 (IsW ((tp pr qr)) ((Br) + 2)) (IsW ((tq qr)) ((Br) + 2)) (a_.eval (.tmp 6)) w_ from hD 2 rfl)),
        .norm 10 rfl rfl rfl (fun a_ w_ hn_ hBt hr hR hD hO hS => op_ex21 (show Tup2 (IsW ((tp pr qr)) ((Br) + 2)) (IsW ((tq qr)) ((Br) + 2)) (a_.eval (.tmp 6)) w_ from hD 2 rfl)),
        .alloc 0 _ rfl rfl (.inl ⟨rfl, rfl⟩) rfl rfl rfl rfl rfl,
        .alloc 1 _ rfl rfl (.inl ⟨rfl, rfl⟩) rfl rfl rfl rfl rfl,
        .store 0 _ _ _ rfl rfl rfl rfl rfl rfl rfl (fun ia h => by cases h; rfl) rfl rfl rfl IsW.cs,
        .store 1 _ _ _ rfl rfl rfl rfl rfl rfl rfl (fun ia h => by cases h; rfl) rfl rfl rfl IsW.cs,
        trivial⟩
    · intro a2 w2 gs2 hn2 hd2 hBt hr hR hP hX hU
      replace hn := hn2; replace hd := hd2.trans hd
      have ne2_4 : (gs1 1) ≠ gs2 0 := by have h1 := b2.lt; have h2 := (hX 0 _ rfl).2.2.1 (by simp); omega
      have ne3_4 : (gs1 2) ≠ gs2 0 := by have h1 := b3.lt; have h2 := (hX 0 _ rfl).2.2.1 (by simp); omega
      have ne2_5 : (gs1 1) ≠ gs2 1 := by have h1 := b2.lt; have h2 := (hX 1 _ rfl).2.2.1 (by simp); omega
      have ne3_5 : (gs1 2) ≠ gs2 1 := by have h1 := b3.lt; have h2 := (hX 1 _ rfl).2.2.1 (by simp); omega
      replace b2 := b2.keep hBt ⟨someNe, someNe, trivial⟩
      replace b3 := b3.keep hBt ⟨someNe, someNe, trivial⟩
      obtain ⟨n_3, a_3, m_3, c_3, r_3, e9, A3, l3⟩ : IsW ((tp pr qr)) ((Br) + 2) (a2.eval (.tmp 9)) w2 := hP 3 (by decide)
      have b4 : BoxV W2 w2 (gs2 0) (.agg #[.bool n_3, .slice a_3 m_3 c_3]) := boxv_of (hX 0 _ rfl).2.2.2 e9
      have f4 := (hX 0 _ rfl).1
      have u4 : w.heap.size ≤ gs2 0 := Nat.le_trans HB.size ((hX 0 _ rfl).2.2.1 (by simp))
      obtain ⟨n_4, a_4, m_4, c_4, r_4, e10, A4, l4⟩ : IsW ((tq qr)) ((Br) + 2) (a2.eval (.tmp 10)) w2 := hP 4 (by decide)
      have b5 : BoxV W2 w2 (gs2 1) (.agg #[.bool n_4, .slice a_4 m_4 c_4]) := boxv_of (hX 1 _ rfl).2.2.2 e10
      have f5 := (hX 1 _ rfl).1
      have u5 : w.heap.size ≤ gs2 1 := Nat.le_trans HB.size ((hX 1 _ rfl).2.2.1 (by simp))
      replace f2 := (hR 2 rfl).trans f2
      replace f3 := (hR 3 rfl).trans f3
      replace Ar := Ar.rl hr
      replace Sr := Sr.rl hr
      replace Dr := Dr.rl hr
      replace HB := HB.trans (hBt.below HB.size (UpOld.all (bx := [⟨W2, some 5, 0, 4, .agg #[.bool false, .slice none 0 0], some (7, 9, 3), []⟩, ⟨W2, some 6, 0, 5, .agg #[.bool false, .slice none 0 0], some (8, 10, 4), []⟩]) ⟨someNe, someNe, trivial⟩))
      clear hBt hr hR hP hX hU
      refine wp_seq ?_
      refine region4 [some 12, some 13, some 14, some 11, some 15, some 16, some 17, none, none] [Eqs (.agg #[.bool n_3, .slice a_3 m_3 c_3]), Eqs (.agg #[.bool n_4, .slice a_4 m_4 c_4]), Tup3 (OutW (((tp pr qr) / (tq qr))) (((Br) + 2) + 4)) (OutW (((tp pr qr) % (tq qr))) ((Br) + 2)) (Eqs (.bool true)), Tup3 (OutW (((tp pr qr) / (tq qr))) (((Br) + 2) + 4)) (OutW (((tp pr qr) % (tq qr))) ((Br) + 2)) (Eqs (.bool true)), OutW (((tp pr qr) / (tq qr))) (((Br) + 2) + 4), OutW (((tp pr qr) % (tq qr))) ((Br) + 2), Eqs (.bool true), (fun _ _ => True), (fun _ _ => True)] [⟨W2, none, (gs1 1), 2, .agg #[.bool false, .slice none 0 0], some (7, 15, 4), []⟩, ⟨W2, none, (gs1 2), 3, .agg #[.bool false, .slice none 0 0], some (8, 16, 5), []⟩] [] (by kernel_rfl) hn rfl (by kernel_rfl) (by kernel_rfl) (by kernel_rfl) (by kernel_rfl) (by kernel_rfl) (by kernel_rfl) ⟨Eqs.mono4 _, Eqs.mono4 _, Tup3.mono4 (OutW.mono4 _ _) (OutW.mono4 _ _) (Eqs.mono4 _), Tup3.mono4 (OutW.mono4 _ _) (OutW.mono4 _ _) (Eqs.mono4 _), OutW.mono4 _ _, OutW.mono4 _ _, Eqs.mono4 _, True.mono4, True.mono4, trivial⟩ (ok_cons W2ok (ok_cons W2ok ok_nil)) (IsOld.all (bx := [⟨W2, none, (gs1 1), 2, .agg #[.bool false, .slice none 0 0], some (7, 15, 4), []⟩, ⟨W2, none, (gs1 2), 3, .agg #[.bool false, .slice none 0 0], some (8, 16, 5), []⟩]) ⟨fun _ => ⟨f2, b2⟩, fun _ => ⟨f3, b3⟩, trivial⟩) (DisOld.all (bx := [⟨W2, none, (gs1 1), 2, .agg #[.bool false, .slice none 0 0], some (7, 15, 4), []⟩, ⟨W2, none, (gs1 2), 3, .agg #[.bool false, .slice none 0 0], some (8, 16, 5), []⟩]) ⟨fun _ => ⟨fun _ => ne2_3.symm, trivial⟩, fun _ => trivial, trivial⟩) ?_ ?_
      · exact ⟨.norm 12 rfl rfl rfl (fun a_ w_ hn_ hBt hr hR hD hO hS => op_loadv W2ok ((hR 4 rfl).trans f4) (b4.keep hBt ⟨fun _ => ne2_4, fun _ => ne3_4, trivial⟩)),
          .norm 13 rfl rfl rfl (fun a_ w_ hn_ hBt hr hR hD hO hS => op_loadv W2ok ((hR 5 rfl).trans f5) (b5.keep hBt ⟨fun _ => ne2_5, fun _ => ne3_5, trivial⟩)),
          .norm 14 rfl rfl rfl (fun a_ w_ hn_ hBt hr hR hD hO hS => op_wdiv (isw_eq (show a_.eval (.tmp 12) = .agg #[.bool n_3, .slice a_3 m_3 c_3] from hD 0 rfl) (A3.rl hr) l3) (isw_eq (show a_.eval (.tmp 13) = .agg #[.bool n_4, .slice a_4 m_4 c_4] from hD 1 rfl) (A4.rl hr) l4) (by omega) (by omega) (tq_ne _)),
          .norm 11 rfl rfl rfl (fun a_ w_ hn_ hBt hr hR hD hO hS => op_mvp (p := Tup3 (OutW (((tp pr qr) / (tq qr))) (((Br) + 2) + 4)) (OutW (((tp pr qr) % (tq qr))) ((Br) + 2)) (Eqs (.bool true))) (show Tup3 (OutW (((tp pr qr) / (tq qr))) (((Br) + 2) + 4)) (OutW (((tp pr qr) % (tq qr))) ((Br) + 2)) (Eqs (.bool true)) (a_.eval (.tmp 14)) w_ from hD 2 rfl)),
          .norm 15 rfl rfl rfl (fun a_ w_ hn_ hBt hr hR hD hO hS => op_ex30 (show Tup3 (OutW (((tp pr qr) / (tq qr))) (((Br) + 2) + 4)) (OutW (((tp pr qr) % (tq qr))) ((Br) + 2)) (Eqs (.bool true)) (a_.eval (.tmp 11)) w_ from hD 3 rfl)),
          .norm 16 rfl rfl rfl (fun a_ w_ hn_ hBt hr hR hD hO hS => op_ex31 (show Tup3 (OutW (((tp pr qr) / (tq qr))) (((Br) + 2) + 4)) (OutW (((tp pr qr) % (tq qr))) ((Br) + 2)) (Eqs (.bool true)) (a_.eval (.tmp 11)) w_ from hD 3 rfl)),
          .norm 17 rfl rfl rfl (fun a_ w_ hn_ hBt hr hR hD hO hS => op_ex32 (show Tup3 (OutW (((tp pr qr) / (tq qr))) (((Br) + 2) + 4)) (OutW (((tp pr qr) % (tq qr))) ((Br) + 2)) (Eqs (.bool true)) (a_.eval (.tmp 11)) w_ from hD 3 rfl)),
          .store 0 _ _ _ rfl rfl rfl rfl rfl rfl rfl (fun ia h => by cases h) rfl rfl rfl OutW.cs,
          .store 1 _ _ _ rfl rfl rfl rfl rfl rfl rfl (fun ia h => by cases h) rfl rfl rfl OutW.cs,
          trivial⟩
      · intro a5 w5 gs5 hn5 hd5 hBt hr hR hP hX hU
        replace hn := hn5; replace hd := hd5.trans hd
        obtain ⟨n_6, a_6, c_6, r_6, e15, G6, l6⟩ : OutW (((tp pr qr) / (tq qr))) (((Br) + 2) + 4) (a5.eval (.tmp 15)) w5 := hP 4 (by decide)
        have A6 := G6.ag
        have b2 : BoxV W2 w5 ((gs1 1)) (.agg #[.bool n_6, .slice a_6 r_6.length c_6]) := boxv_old ((hX 0 _ rfl).2.1 rfl) (hX 0 _ rfl).2.2.2 e15
        replace f2 : a5.eval (.tmp 2) = _ := (hR 2 rfl).trans f2
        obtain ⟨n_7, a_7, c_7, r_7, e16, G7, l7⟩ : OutW (((tp pr qr) % (tq qr))) ((Br) + 2) (a5.eval (.tmp 16)) w5 := hP 5 (by decide)
        have A7 := G7.ag
        have b3 : BoxV W2 w5 ((gs1 2)) (.agg #[.bool n_7, .slice a_7 r_7.length c_7]) := boxv_old ((hX 1 _ rfl).2.1 rfl) (hX 1 _ rfl).2.2.2 e16
        replace f3 : a5.eval (.tmp 3) = _ := (hR 3 rfl).trans f3
        replace Ar := Ar.rl hr
        replace Sr := Sr.rl hr
        replace Dr := Dr.rl hr
        replace A3 := A3.rl hr
        replace A4 := A4.rl hr
        replace HB := HB.trans (hBt.below HB.size (UpOld.all (bx := [⟨W2, none, (gs1 1), 2, .agg #[.bool false, .slice none 0 0], some (7, 15, 4), []⟩, ⟨W2, none, (gs1 2), 3, .agg #[.bool false, .slice none 0 0], some (8, 16, 5), []⟩]) ⟨fun _ => u2, fun _ => u3, trivial⟩))
        clear hBt hr hR hP hX hU
        refine wp_seq ?_
        refine region4 [some 18, some 19, none, none] [Eqs (.agg #[.bool n_6, .slice a_6 r_6.length c_6]), Eqs (.agg #[.bool n_7, .slice a_7 r_7.length c_7]), (fun _ _ => True), (fun _ _ => True)] [⟨W2, none, (gs1 1), 2, .agg #[.bool n_6, .slice a_6 r_6.length c_6], some (2, 18, 0), [0]⟩, ⟨W2, none, (gs1 2), 3, .agg #[.bool n_7, .slice a_7 r_7.length c_7], some (3, 19, 1), [1]⟩] [] (by kernel_rfl) hn rfl (by kernel_rfl) (by kernel_rfl) (by kernel_rfl) (by kernel_rfl) (by kernel_rfl) (by kernel_rfl) ⟨Eqs.mono4 _, Eqs.mono4 _, True.mono4, True.mono4, trivial⟩ (ok_cons W2ok (ok_cons W2ok ok_nil)) (IsOld.all (bx := [⟨W2, none, (gs1 1), 2, .agg #[.bool n_6, .slice a_6 r_6.length c_6], some (2, 18, 0), [0]⟩, ⟨W2, none, (gs1 2), 3, .agg #[.bool n_7, .slice a_7 r_7.length c_7], some (3, 19, 1), [1]⟩]) ⟨fun _ => ⟨f2, b2⟩, fun _ => ⟨f3, b3⟩, trivial⟩) (DisOld.all (bx := [⟨W2, none, (gs1 1), 2, .agg #[.bool n_6, .slice a_6 r_6.length c_6], some (2, 18, 0), [0]⟩, ⟨W2, none, (gs1 2), 3, .agg #[.bool n_7, .slice a_7 r_7.length c_7], some (3, 19, 1), [1]⟩]) ⟨fun _ => ⟨fun _ => ne2_3.symm, trivial⟩, fun _ => trivial, trivial⟩) ?_ ?_
        · exact ⟨.norm 18 rfl rfl rfl (fun a_ w_ hn_ hBt hr hR hD hO hS => op_loadv W2ok ((hR 2 rfl).trans f2) (hO 0 _ rfl rfl rfl)),
            .norm 19 rfl rfl rfl (fun a_ w_ hn_ hBt hr hR hD hO hS => op_loadv W2ok ((hR 3 rfl).trans f3) (hO 1 _ rfl rfl rfl)),
            .store 0 _ _ _ rfl rfl rfl rfl rfl rfl rfl (fun ia h => by cases h) rfl rfl rfl (eqs_cs w2_cs),
            .store 1 _ _ _ rfl rfl rfl rfl rfl rfl rfl (fun ia h => by cases h) rfl rfl rfl (eqs_cs w2_cs),
            trivial⟩
        · intro a8 w8 gs8 hn8 hd8 hBt hr hR hP hX hU
          replace hn := hn8; replace hd := hd8.trans hd
          have e18 : a8.eval (.tmp 18) = .agg #[.bool n_6, .slice a_6 r_6.length c_6] := hP 0 (by decide)
          have b2 : BoxV W2 w8 ((gs1 1)) (.agg #[.bool n_6, .slice a_6 r_6.length c_6]) := boxv_old ((hX 0 _ rfl).2.1 rfl) (hX 0 _ rfl).2.2.2 e18
          replace f2 : a8.eval (.tmp 2) = _ := (hR 2 rfl).trans f2
          have e19 : a8.eval (.tmp 19) = .agg #[.bool n_7, .slice a_7 r_7.length c_7] := hP 1 (by decide)
          have b3 : BoxV W2 w8 ((gs1 2)) (.agg #[.bool n_7, .slice a_7 r_7.length c_7]) := boxv_old ((hX 1 _ rfl).2.1 rfl) (hX 1 _ rfl).2.2.2 e19
          replace f3 : a8.eval (.tmp 3) = _ := (hR 3 rfl).trans f3
          replace Ar := Ar.rl hr
          replace Sr := Sr.rl hr
          replace Dr := Dr.rl hr
          replace A3 := A3.rl hr
          replace A4 := A4.rl hr
          replace G6 := G6.rl hr
          replace A6 := A6.rl hr
          replace G7 := G7.rl hr
          replace A7 := A7.rl hr
          replace HB := HB.trans (hBt.below HB.size (UpOld.all (bx := [⟨W2, none, (gs1 1), 2, .agg #[.bool n_6, .slice a_6 r_6.length c_6], some (2, 18, 0), [0]⟩, ⟨W2, none, (gs1 2), 3, .agg #[.bool n_7, .slice a_7 r_7.length c_7], some (3, 19, 1), [1]⟩]) ⟨fun _ => u2, fun _ => u3, trivial⟩))
          clear hBt hr hR hP hX hU
          refine wp_ret ?_
          repeat (first | refine then_ret ?_ | refine scope_ret ?_ | refine block_ret ?_)
          exact bodyPost_ret (v := .tuple #[.agg #[.bool n_6, .slice a_6 r_6.length c_6], .agg #[.bool n_7, .slice a_7 r_7.length c_7]]) (res_cc rfl f2 (lv_W2 b2) f3 (lv_W2 b3)) hd ⟨_, rfl, ⟨_, _, rfl, OutW.to (outw_eq rfl G6 l6) rfl (by omega), OutW.to (outw_eq rfl G7 l7) rfl (by omega)⟩, HB⟩
theorem has_rdivide : Has Tryd.prog 66 := by unfold Has; kernel_rfl
theorem op_rdivide {dst : Option Tmp} {ty : TypeId} {pos : String} {after : Array Edge} {guard : Option (Nat × Bool)} {a : Act} {w : World} {ats : Array TypeId} {i : Nat} {Br : Nat} {pr qr : Int} (Hr : IsR pr qr Br (a.eval (.tmp i)) w) (hL : Br ≤ 100000) :
    Does Tryd.prog { dst, op := .call { callee := .value (.func 66), args := #[.tmp i], argTypes := ats }, type := ty, pos, after, guard } a.eval w fun v w' => Below w.heap.size w w' ∧ (Tup2 (OutW (tp pr qr / tq qr) (Br + 6)) (OutW (tp pr qr % tq qr) (Br + 6))) v w' := by
  obtain ⟨nr, ar, mr, cr, rs, br, kr, dr, rt, er, Ar, Sr, Vr, Lr, Mr⟩ := Hr
  refine does_call has_rdivide _ (by simp only [List.map_toArray, List.map_cons, List.map_nil, er]) ((rdivide_z w Br _ _ _ _ _ _ Ar Lr _ _ _ _ _ Sr Vr Mr hL).mono ?_)
  rintro e w' ⟨v, rfl, h1, hb⟩
  exact ⟨_, rfl, hb, h1⟩
set_option maxRecDepth 20000 in
set_option maxHeartbeats 2000000 in
theorem rwhole_z (w : World) (Br : Nat) (nr : Bool) (ar : Option Addr) (mr cr : Nat) (rs : List Int) (pr : Int) (Ar : Ag w nr ar mr cr rs pr) (Lr : rs.length ≤ Br) (br : Option Addr) (kr dr : Nat) (rt : List Int) (qr : Int) (Sr : Sl w (.slice br kr dr) rt) (Vr : val rt = qr) (Mr : rt.length ≤ Br) (hL : Br ≤ 100000) (h0 : tp pr qr % tq qr = 0) :
    Calls Tryd.prog 30 #[.agg #[.bool nr, .slice ar mr cr, .slice br kr dr]] w fun e w' => ∃ v, e = .returned v ∧ (Tup2 (OutW (tp pr qr / tq qr) (Br + 6)) (Eqs (.bool true))) v w' ∧ Below w.heap.size w w' := by
  go_enter Tryd.func30, Tryd.ntmps30
  generalize hA : (Act.mk _ _) = aa
  have hn : aa.tmps.size = 16 := by rw [← hA]; rfl
  have hd : aa.defers = [] := by rw [← hA]
  have f0 : aa.eval (.tmp 0) = .agg #[.bool nr, .slice ar mr cr, .slice br kr dr] := by rw [← hA]; rfl
  clear hA
  have HB : Below w.heap.size w w := Below.refl _ _
  have Dr : Ag w false br kr dr rt qr := ⟨Sr, Vr⟩
  refine wp_seq ?_
  refine region4 [some 1, some 2, some 3] [(fun _ _ => True), (fun _ _ => True), Eqs ((.bool false))] [⟨R3, some 0, 0, 1, .agg #[.bool nr, .slice ar mr cr, .slice br kr dr], none, []⟩, ⟨W2, some 1, 0, 2, .agg #[.bool false, .slice none 0 0], none, []⟩] [] (by kernel_rfl) hn rfl (by kernel_rfl) (by kernel_rfl) (by kernel_rfl) (by kernel_rfl) (by kernel_rfl) (by kernel_rfl) ⟨True.mono4, True.mono4, Eqs.mono4 _, trivial⟩ (ok_cons R3ok (ok_cons W2ok ok_nil)) (IsOld.all (bx := [⟨R3, some 0, 0, 1, .agg #[.bool nr, .slice ar mr cr, .slice br kr dr], none, []⟩, ⟨W2, some 1, 0, 2, .agg #[.bool false, .slice none 0 0], none, []⟩]) ⟨someNe, someNe, trivial⟩) (DisOld.all (bx := [⟨R3, some 0, 0, 1, .agg #[.bool nr, .slice ar mr cr, .slice br kr dr], none, []⟩, ⟨W2, some 1, 0, 2, .agg #[.bool false, .slice none 0 0], none, []⟩]) ⟨someNe, someNe, trivial⟩) ?_ ?_
  · exact ⟨.alloc 0 _ rfl rfl (.inr ⟨_, rfl, r3_cs, fun a_ hR => (hR 0 rfl).trans f0⟩) rfl rfl rfl rfl rfl,
      .alloc 1 _ rfl rfl (.inl ⟨rfl, rfl⟩) rfl rfl rfl rfl rfl,
      .norm 3 rfl rfl rfl (fun a_ w_ hn_ hBt hr hR hD hO hS => op_assign rfl),
      trivial⟩
  · intro a1 w1 gs1 hn1 hd1 hBt hr hR hP hX hU
    replace hn := hn1; replace hd := hd1.trans hd
    have ne1_2 : gs1 0 ≠ gs1 1 := hU 0 1 (by simp) (by simp) (by decide)
    have b1 : BoxV R3 w1 (gs1 0) (.agg #[.bool nr, .slice ar mr cr, .slice br kr dr]) := (hX 0 _ rfl).2.2.2
    have f1 := (hX 0 _ rfl).1
    have u1 : w.heap.size ≤ gs1 0 := Nat.le_trans HB.size ((hX 0 _ rfl).2.2.1 (by simp))
    have b2 : BoxV W2 w1 (gs1 1) (.agg #[.bool false, .slice none 0 0]) := (hX 1 _ rfl).2.2.2
    have f2 := (hX 1 _ rfl).1
    have u2 : w.heap.size ≤ gs1 1 := Nat.le_trans HB.size ((hX 1 _ rfl).2.2.1 (by simp))
    have e3 : a1.eval (.tmp 3) = (.bool false) := hP 2 (by decide)
    have f3 := e3
    replace Ar := Ar.rl hr
    replace Sr := Sr.rl hr
    replace Dr := Dr.rl hr
    replace HB := HB.trans (hBt.below HB.size (UpOld.all (bx := [⟨R3, some 0, 0, 1, .agg #[.bool nr, .slice ar mr cr, .slice br kr dr], none, []⟩, ⟨W2, some 1, 0, 2, .agg #[.bool false, .slice none 0 0], none, []⟩]) ⟨someNe, someNe, trivial⟩))
    clear hBt hr hR hP hX hU
    refine wp_seq ?_
    refine region4 [some 7, some 8, some 6, some 9, some 10, some 4, some 5, none, none] [Eqs (.agg #[.bool nr, .slice ar mr cr, .slice br kr dr]), Tup2 (OutW ((tp pr qr / tq qr)) ((Br) + 6)) (OutW ((tp pr qr % tq qr)) ((Br) + 6)), Tup2 (OutW ((tp pr qr / tq qr)) ((Br) + 6)) (OutW ((tp pr qr % tq qr)) ((Br) + 6)), OutW ((tp pr qr / tq qr)) ((Br) + 6), OutW ((tp pr qr % tq qr)) ((Br) + 6), (fun _ _ => True), (fun _ _ => True), (fun _ _ => True), (fun _ _ => True)] [⟨W2, some 5, 0, 4, .agg #[.bool false, .slice none 0 0], some (7, 9, 3), []⟩, ⟨W2, some 6, 0, 5, .agg #[.bool false, .slice none 0 0], some (8, 10, 4), []⟩] [] (by kernel_rfl) hn rfl (by kernel_rfl) (by kernel_rfl) (by kernel_rfl) (by kernel_rfl) (by kernel_rfl) (by kernel_rfl) ⟨Eqs.mono4 _, Tup2.mono4 (OutW.mono4 _ _) (OutW.mono4 _ _), Tup2.mono4 (OutW.mono4 _ _) (OutW.mono4 _ _), OutW.mono4 _ _, OutW.mono4 _ _, True.mono4, True.mono4, True.mono4, True.mono4, trivial⟩ (ok_cons W2ok (ok_cons W2ok ok_nil)) (IsOld.all (bx := [⟨W2, some 5, 0, 4, .agg #[.bool false, .slice none 0 0], some (7, 9, 3), []⟩, ⟨W2, some 6, 0, 5, .agg #[.bool false, .slice none 0 0], some (8, 10, 4), []⟩]) ⟨someNe, someNe, trivial⟩) (DisOld.all (bx := [⟨W2, some 5, 0, 4, .agg #[.bool false, .slice none 0 0], some (7, 9, 3), []⟩, ⟨W2, some 6, 0, 5, .agg #[.bool false, .slice none 0 0], some (8, 10, 4), []⟩]) ⟨someNe, someNe, trivial⟩) ?_ ?_
    · exact ⟨.norm 7 rfl rfl rfl (fun a_ w_ hn_ hBt hr hR hD hO hS => op_loadv R3ok ((hR 1 rfl).trans f1) (b1.keep hBt ⟨someNe, someNe, trivial⟩)),
        .norm 8 rfl rfl rfl (fun a_ w_ hn_ hBt hr hR hD hO hS => op_rdivide (isr_eq (show a_.eval (.tmp 7) = .agg #[.bool nr, .slice ar mr cr, .slice br kr dr] from hD 0 rfl) (Ar.rl hr) (Sr.rl hr) Vr Lr Mr) (by omega)),
        .norm 6 rfl rfl rfl (fun a_ w_ hn_ hBt hr hR hD hO hS => op_mvp (p := Tup2 (OutW ((tp pr qr / tq qr)) ((Br) + 6)) (OutW ((tp pr qr % tq qr)) ((Br) + 6))) (show Tup2 (OutW ((tp pr qr / tq qr)) ((Br) + 6)) (OutW ((tp pr qr % tq qr)) ((Br) + 6)) (a_.eval (.tmp 8)) w_ from hD 1 rfl)),
        .norm 9 rfl rfl rfl (fun a_ w_ hn_ hBt hr hR hD hO hS => op_ex20 (show Tup2 (OutW ((tp pr qr / tq qr)) ((Br) + 6)) (OutW ((tp pr qr % tq qr)) ((Br) + 6)) (a_.eval (.tmp 6)) w_ from hD 2 rfl)),
        .norm 10 rfl rfl rfl (fun a_ w_ hn_ hBt hr hR hD hO hS => op_ex21 (show Tup2 (OutW ((tp pr qr / tq qr)) ((Br) + 6)) (OutW ((tp pr qr % tq qr)) ((Br) + 6)) (a_.eval (.tmp 6)) w_ from hD 2 rfl)),
        .alloc 0 _ rfl rfl (.inl ⟨rfl, rfl⟩) rfl rfl rfl rfl rfl,
        .alloc 1 _ rfl rfl (.inl ⟨rfl, rfl⟩) rfl rfl rfl rfl rfl,
        .store 0 _ _ _ rfl rfl rfl rfl rfl rfl rfl (fun ia h => by cases h; rfl) rfl rfl rfl OutW.cs,
        .store 1 _ _ _ rfl rfl rfl rfl rfl rfl rfl (fun ia h => by cases h; rfl) rfl rfl rfl OutW.cs,
        trivial⟩
    · intro a2 w2 gs2 hn2 hd2 hBt hr hR hP hX hU
      replace hn := hn2; replace hd := hd2.trans hd
      have ne2_4 : (gs1 1) ≠ gs2 0 := by have h1 := b2.lt; have h2 := (hX 0 _ rfl).2.2.1 (by simp); omega
      have ne2_5 : (gs1 1) ≠ gs2 1 := by have h1 := b2.lt; have h2 := (hX 1 _ rfl).2.2.1 (by simp); omega
      replace b2 := b2.keep hBt ⟨someNe, someNe, trivial⟩
      obtain ⟨n_3, a_3, c_3, r_3, e9, G3, l3⟩ : OutW ((tp pr qr / tq qr)) ((Br) + 6) (a2.eval (.tmp 9)) w2 := hP 3 (by decide)
      have A3 := G3.ag
      have b4 : BoxV W2 w2 (gs2 0) (.agg #[.bool n_3, .slice a_3 r_3.length c_3]) := boxv_of (hX 0 _ rfl).2.2.2 e9
      have f4 := (hX 0 _ rfl).1
      have u4 : w.heap.size ≤ gs2 0 := Nat.le_trans HB.size ((hX 0 _ rfl).2.2.1 (by simp))
      obtain ⟨n_4, a_4, c_4, r_4, e10, G4, l4⟩ : OutW ((tp pr qr % tq qr)) ((Br) + 6) (a2.eval (.tmp 10)) w2 := hP 4 (by decide)
      have A4 := G4.ag
      have b5 : BoxV W2 w2 (gs2 1) (.agg #[.bool n_4, .slice a_4 r_4.length c_4]) := boxv_of (hX 1 _ rfl).2.2.2 e10
      have f5 := (hX 1 _ rfl).1
      have u5 : w.heap.size ≤ gs2 1 := Nat.le_trans HB.size ((hX 1 _ rfl).2.2.1 (by simp))
      replace f2 := (hR 2 rfl).trans f2
      replace f3 := (hR 3 rfl).trans f3
      replace Ar := Ar.rl hr
      replace Sr := Sr.rl hr
      replace Dr := Dr.rl hr
      replace HB := HB.trans (hBt.below HB.size (UpOld.all (bx := [⟨W2, some 5, 0, 4, .agg #[.bool false, .slice none 0 0], some (7, 9, 3), []⟩, ⟨W2, some 6, 0, 5, .agg #[.bool false, .slice none 0 0], some (8, 10, 4), []⟩]) ⟨someNe, someNe, trivial⟩))
      clear hBt hr hR hP hX hU
      refine wp_seq ?_
      refine wp_seq ?_
      refine region4 [some 11, some 12, some 13] [Eqs (.agg #[.bool n_4, .slice a_4 r_4.length c_4]), Eqs (.int .i64 (Int.sign (tp pr qr % tq qr))), Eqs (.bool (!decide ((Int.sign (tp pr qr % tq qr)) = 0)))] [] [] (by kernel_rfl) hn rfl (by kernel_rfl) (by kernel_rfl) (by kernel_rfl) (by kernel_rfl) (by kernel_rfl) (by kernel_rfl) ⟨Eqs.mono4 _, Eqs.mono4 _, Eqs.mono4 _, trivial⟩ ok_nil (IsOld.all (bx := []) trivial) (DisOld.all (bx := []) trivial) ?_ ?_
      · exact ⟨.norm 11 rfl rfl rfl (fun a_ w_ hn_ hBt hr hR hD hO hS => op_loadv W2ok ((hR 5 rfl).trans f5) (b5.keep hBt trivial)),
          .norm 12 rfl rfl rfl (fun a_ w_ hn_ hBt hr hR hD hO hS => op_sign (isw_eq (show a_.eval (.tmp 11) = .agg #[.bool n_4, .slice a_4 r_4.length c_4] from hD 0 rfl) (A4.rl hr) l4) (by omega)),
          .norm 13 rfl rfl rfl (fun a_ w_ hn_ hBt hr hR hD hO hS => op_neqk (show a_.eval (.tmp 12) = .int .i64 (Int.sign (tp pr qr % tq qr)) from hD 1 rfl)),
          trivial⟩
      · intro a5 w5 gs5 hn5 hd5 hBt hr hR hP hX hU
        replace hn := hn5; replace hd := hd5.trans hd
        replace b2 := b2.keep hBt trivial
        replace b4 := b4.keep hBt trivial
        replace f2 := (hR 2 rfl).trans f2
        replace f3 := (hR 3 rfl).trans f3
        replace f4 := (hR 4 rfl).trans f4
        have e13 : a5.eval (.tmp 13) = .bool (!decide ((Int.sign (tp pr qr % tq qr)) = 0)) := hP 2 (by decide)
        have f13 := e13
        replace Ar := Ar.rl hr
        replace Sr := Sr.rl hr
        replace Dr := Dr.rl hr
        replace G3 := G3.rl hr
        replace A3 := A3.rl hr
        replace G4 := G4.rl hr
        replace A4 := A4.rl hr
        replace HB := HB.trans (hBt.below HB.size (UpOld.all (bx := []) trivial))
        clear hBt hr hR hP hX hU
        refine wp_cond_split f13 (fun hc13 => ?_) (fun hc13 => ?_)
        · skip
          exact absurd (sign_zero_iff.2 h0) (by simpa using hc13)
        · skip
          refine wp_skip ?_
          refine wp_seq ?_
          refine region4 [some 15, none, some 3] [Eqs (.agg #[.bool n_3, .slice a_3 r_3.length c_3]), (fun _ _ => True), Eqs ((.bool true))] [⟨W2, none, (gs1 1), 2, .agg #[.bool false, .slice none 0 0], some (1, 15, 0), []⟩] [] (by kernel_rfl) hn rfl (by kernel_rfl) (by kernel_rfl) (by kernel_rfl) (by kernel_rfl) (by kernel_rfl) (by kernel_rfl) ⟨Eqs.mono4 _, True.mono4, Eqs.mono4 _, trivial⟩ (ok_cons W2ok ok_nil) (IsOld.all (bx := [⟨W2, none, (gs1 1), 2, .agg #[.bool false, .slice none 0 0], some (1, 15, 0), []⟩]) ⟨fun _ => ⟨f2, b2⟩, trivial⟩) (DisOld.all (bx := [⟨W2, none, (gs1 1), 2, .agg #[.bool false, .slice none 0 0], some (1, 15, 0), []⟩]) ⟨fun _ => trivial, trivial⟩) ?_ ?_
          · exact ⟨.norm 15 rfl rfl rfl (fun a_ w_ hn_ hBt hr hR hD hO hS => op_loadv W2ok ((hR 4 rfl).trans f4) (b4.keep hBt ⟨fun _ => ne2_4, trivial⟩)),
              .store 0 _ _ _ rfl rfl rfl rfl rfl rfl rfl (fun ia h => by cases h) rfl rfl rfl (eqs_cs w2_cs),
              .norm 3 rfl rfl rfl (fun a_ w_ hn_ hBt hr hR hD hO hS => op_assign rfl),
              trivial⟩
          · intro a6 w6 gs6 hn6 hd6 hBt hr hR hP hX hU
            replace hn := hn6; replace hd := hd6.trans hd
            have e15 : a6.eval (.tmp 15) = .agg #[.bool n_3, .slice a_3 r_3.length c_3] := hP 0 (by decide)
            have b2 : BoxV W2 w6 ((gs1 1)) (.agg #[.bool n_3, .slice a_3 r_3.length c_3]) := boxv_old ((hX 0 _ rfl).2.1 rfl) (hX 0 _ rfl).2.2.2 e15
            replace f2 : a6.eval (.tmp 2) = _ := (hR 2 rfl).trans f2
            have e3 : a6.eval (.tmp 3) = (.bool true) := hP 2 (by decide)
            have f3 := e3
            replace Ar := Ar.rl hr
            replace Sr := Sr.rl hr
            replace Dr := Dr.rl hr
            replace G3 := G3.rl hr
            replace A3 := A3.rl hr
            replace G4 := G4.rl hr
            replace A4 := A4.rl hr
            replace HB := HB.trans (hBt.below HB.size (UpOld.all (bx := [⟨W2, none, (gs1 1), 2, .agg #[.bool false, .slice none 0 0], some (1, 15, 0), []⟩]) ⟨fun _ => u2, trivial⟩))
            clear hBt hr hR hP hX hU
            refine wp_ret ?_
            repeat (first | refine then_ret ?_ | refine scope_ret ?_ | refine block_ret ?_)
            exact bodyPost_ret (v := .tuple #[.agg #[.bool n_3, .slice a_3 r_3.length c_3], (.bool true)]) (res_ct rfl f2 (lv_W2 b2) f3) hd ⟨_, rfl, ⟨_, _, rfl, OutW.to (outw_eq rfl G3 l3) rfl (by omega), rfl⟩, HB⟩
theorem has_rwhole : Has Tryd.prog 30 := by unfold Has; kernel_rfl
theorem op_rwhole {dst : Option Tmp} {ty : TypeId} {pos : String} {after : Array Edge} {guard : Option (Nat × Bool)} {a : Act} {w : World} {ats : Array TypeId} {i : Nat} {Br : Nat} {pr qr : Int} (Hr : IsR pr qr Br (a.eval (.tmp i)) w) (hL : Br ≤ 100000) (h0 : tp pr qr % tq qr = 0) :
    Does Tryd.prog { dst, op := .call { callee := .value (.func 30), args := #[.tmp i], argTypes := ats }, type := ty, pos, after, guard } a.eval w fun v w' => Below w.heap.size w w' ∧ (Tup2 (OutW (tp pr qr / tq qr) (Br + 6)) (Eqs (.bool true))) v w' := by
  obtain ⟨nr, ar, mr, cr, rs, br, kr, dr, rt, er, Ar, Sr, Vr, Lr, Mr⟩ := Hr
  refine does_call has_rwhole _ (by simp only [List.map_toArray, List.map_cons, List.map_nil, er]) ((rwhole_z w Br _ _ _ _ _ _ Ar Lr _ _ _ _ _ Sr Vr Mr hL h0).mono ?_)
  rintro e w' ⟨v, rfl, h1, hb⟩
  exact ⟨_, rfl, hb, h1⟩
set_option maxRecDepth 20000 in
set_option maxHeartbeats 2000000 in
theorem rwhole0_z (w : World) (Br : Nat) (nr : Bool) (ar : Option Addr) (mr cr : Nat) (rs : List Int) (pr : Int) (Ar : Ag w nr ar mr cr rs pr) (Lr : rs.length ≤ Br) (br : Option Addr) (kr dr : Nat) (rt : List Int) (qr : Int) (Sr : Sl w (.slice br kr dr) rt) (Vr : val rt = qr) (Mr : rt.length ≤ Br) (hL : Br ≤ 100000) (h0 : tp pr qr % tq qr ≠ 0) :
    Calls Tryd.prog 30 #[.agg #[.bool nr, .slice ar mr cr, .slice br kr dr]] w fun e w' => ∃ v, e = .returned v ∧ (Tup2 (OutW 0 (Br + 6)) (Eqs (.bool false))) v w' ∧ Below w.heap.size w w' := by
  go_enter Tryd.func30, Tryd.ntmps30
  generalize hA : (Act.mk _ _) = aa
  have hn : aa.tmps.size = 16 := by rw [← hA]; rfl
  have hd : aa.defers = [] := by rw [← hA]
  have f0 : aa.eval (.tmp 0) = .agg #[.bool nr, .slice ar mr cr, .slice br kr dr] := by rw [← hA]; rfl
  clear hA
  have HB : Below w.heap.size w w := Below.refl _ _
  have Dr : Ag w false br kr dr rt qr := ⟨Sr, Vr⟩
  refine wp_seq ?_
  refine region4 [some 1, some 2, some 3] [(fun _ _ => True), (fun _ _ => True), Eqs ((.bool false))] [⟨R3, some 0, 0, 1, .agg #[.bool nr, .slice ar mr cr, .slice br kr dr], none, []⟩, ⟨W2, some 1, 0, 2, .agg #[.bool false, .slice none 0 0], none, []⟩] [] (by kernel_rfl) hn rfl (by kernel_rfl) (by kernel_rfl) (by kernel_rfl) (by kernel_rfl) (by kernel_rfl) (by kernel_rfl) ⟨True.mono4, True.mono4, Eqs.mono4 _, trivial⟩ (ok_cons R3ok (ok_cons W2ok ok_nil)) (IsOld.all (bx := [⟨R3, some 0, 0, 1, .agg #[.bool nr, .slice ar mr cr, .slice br kr dr], none, []⟩, ⟨W2, some 1, 0, 2, .agg #[.bool false, .slice none 0 0], none, []⟩]) ⟨someNe, someNe, trivial⟩) (DisOld.all (bx := [⟨R3, some 0, 0, 1, .agg #[.bool nr, .slice ar mr cr, .slice br kr dr], none, []⟩, ⟨W2, some 1, 0, 2, .agg #[.bool false, .slice none 0 0], none, []⟩]) ⟨someNe, someNe, trivial⟩) ?_ ?_
  · exact ⟨.alloc 0 _ rfl rfl (.inr ⟨_, rfl, r3_cs, fun a_ hR => (hR 0 rfl).trans f0⟩) rfl rfl rfl rfl rfl,
      .alloc 1 _ rfl rfl (.inl ⟨rfl, rfl⟩) rfl rfl rfl rfl rfl,
      .norm 3 rfl rfl rfl (fun a_ w_ hn_ hBt hr hR hD hO hS => op_assign rfl),
      trivial⟩
  · intro a1 w1 gs1 hn1 hd1 hBt hr hR hP hX hU
    replace hn := hn1; replace hd := hd1.trans hd
    have ne1_2 : gs1 0 ≠ gs1 1 := hU 0 1 (by simp) (by simp) (by decide)
    have b1 : BoxV R3 w1 (gs1 0) (.agg #[.bool nr, .slice ar mr cr, .slice br kr dr]) := (hX 0 _ rfl).2.2.2
    have f1 := (hX 0 _ rfl).1
    have u1 : w.heap.size ≤ gs1 0 := Nat.le_trans HB.size ((hX 0 _ rfl).2.2.1 (by simp))
    have b2 : BoxV W2 w1 (gs1 1) (.agg #[.bool false, .slice none 0 0]) := (hX 1 _ rfl).2.2.2
    have f2 := (hX 1 _ rfl).1
    have u2 : w.heap.size ≤ gs1 1 := Nat.le_trans HB.size ((hX 1 _ rfl).2.2.1 (by simp))
    have e3 : a1.eval (.tmp 3) = (.bool false) := hP 2 (by decide)
    have f3 := e3
    replace Ar := Ar.rl hr
    replace Sr := Sr.rl hr
    replace Dr := Dr.rl hr
    replace HB := HB.trans (hBt.below HB.size (UpOld.all (bx := [⟨R3, some 0, 0, 1, .agg #[.bool nr, .slice ar mr cr, .slice br kr dr], none, []⟩, ⟨W2, some 1, 0, 2, .agg #[.bool false, .slice none 0 0], none, []⟩]) ⟨someNe, someNe, trivial⟩))
    clear hBt hr hR hP hX hU
    refine wp_seq ?_
    refine region4 [some 7, some 8, some 6, some 9, some 10, some 4, some 5, none, none] [Eqs (.agg #[.bool nr, .slice ar mr cr, .slice br kr dr]), Tup2 (OutW ((tp pr qr / tq qr)) ((Br) + 6)) (OutW ((tp pr qr % tq qr)) ((Br) + 6)), Tup2 (OutW ((tp pr qr / tq qr)) ((Br) + 6)) (OutW ((tp pr qr % tq qr)) ((Br) + 6)), OutW ((tp pr qr / tq qr)) ((Br) + 6), OutW ((tp pr qr % tq qr)) ((Br) + 6), (fun _ _ => True), (fun _ _ => True), (fun _ _ => True), (fun _ _ => True)] [⟨W2, some 5, 0, 4, .agg #[.bool false, .slice none 0 0], some (7, 9, 3), []⟩, ⟨W2, some 6, 0, 5, .agg #[.bool false, .slice none 0 0], some (8, 10, 4), []⟩] [] (by kernel_rfl) hn rfl (by kernel_rfl) (by kernel_rfl) (by kernel_rfl) (by kernel_rfl) (by kernel_rfl) (by kernel_rfl) ⟨Eqs.mono4 _, Tup2.mono4 (OutW.mono4 _ _) (OutW.mono4 _ _), Tup2.mono4 (OutW.mono4 _ _) (OutW.mono4 _ _), OutW.mono4 _ _, OutW.mono4 _ _, True.mono4, True.mono4, True.mono4, True.mono4, trivial⟩ (ok_cons W2ok (ok_cons W2ok ok_nil)) (IsOld.all (bx := [⟨W2, some 5, 0, 4, .agg #[.bool false, .slice none 0 0], some (7, 9, 3), []⟩, ⟨W2, some 6, 0, 5, .agg #[.bool false, .slice none 0 0], some (8, 10, 4), []⟩]) ⟨someNe, someNe, trivial⟩) (DisOld.all (bx := [⟨W2, some 5, 0, 4, .agg #[.bool false, .slice none 0 0], some (7, 9, 3), []⟩, ⟨W2, some 6, 0, 5, .agg #[.bool false, .slice none 0 0], some (8, 10, 4), []⟩]) ⟨someNe, someNe, trivial⟩) ?_ ?_
    · exact ⟨.norm 7 rfl rfl rfl (fun a_ w_ hn_ hBt hr hR hD hO hS => op_loadv R3ok ((hR 1 rfl).trans f1) (b1.keep hBt ⟨someNe, someNe, trivial⟩)),
        .norm 8 rfl rfl rfl (fun a_ w_ hn_ hBt hr hR hD hO hS => op_rdivide (isr_eq (show a_.eval (.tmp 7) = .agg #[.bool nr, .slice ar mr cr, .slice br kr dr] from hD 0 rfl) (Ar.rl hr) (Sr.rl hr) Vr Lr Mr) (by omega)),
        .norm 6 rfl rfl rfl (fun a_ w_ hn_ hBt hr hR hD hO hS => op_mvp (p := Tup2 (OutW ((tp pr qr / tq qr)) ((Br) + 6)) (OutW ((tp pr qr % tq qr)) ((Br) + 6))) (show Tup2 (OutW ((tp pr qr / tq qr)) ((Br) + 6)) (OutW ((tp pr qr % tq qr)) ((Br) + 6)) (a_.eval (.tmp 8)) w_ from hD 1 rfl)),
        .norm 9 rfl rfl rfl (fun a_ w_ hn_ hBt hr hR hD hO hS => op_ex20 (show Tup2 (OutW ((tp pr qr / tq qr)) ((Br) + 6)) (OutW ((tp pr qr % tq qr)) ((Br) + 6)) (a_.eval (.tmp 6)) w_ from hD 2 rfl)),
        .norm 10 rfl rfl rfl (fun a_ w_ hn_ hBt hr hR hD hO hS => op_ex21 (show Tup2 (OutW ((tp pr qr / tq qr)) ((Br) + 6)) (OutW ((tp pr qr % tq qr)) ((Br) + 6)) (a_.eval (.tmp 6)) w_ from hD 2 rfl)),
        .alloc 0 _ rfl rfl (.inl ⟨rfl, rfl⟩) rfl rfl rfl rfl rfl,
        .alloc 1 _ rfl rfl (.inl ⟨rfl, rfl⟩) rfl rfl rfl rfl rfl,
        .store 0 _ _ _ rfl rfl rfl rfl rfl rfl rfl (fun ia h => by cases h; rfl) rfl rfl rfl OutW.cs,
        .store 1 _ _ _ rfl rfl rfl rfl rfl rfl rfl (fun ia h => by cases h; rfl) rfl rfl rfl OutW.cs,
        trivial⟩
    · intro a2 w2 gs2 hn2 hd2 hBt hr hR hP hX hU
      replace hn := hn2; replace hd := hd2.trans hd
      have ne2_4 : (gs1 1) ≠ gs2 0 := by have h1 := b2.lt; have h2 := (hX 0 _ rfl).2.2.1 (by simp); omega
      have ne2_5 : (gs1 1) ≠ gs2 1 := by have h1 := b2.lt; have h2 := (hX 1 _ rfl).2.2.1 (by simp); omega
      replace b2 := b2.keep hBt ⟨someNe, someNe, trivial⟩
      obtain ⟨n_3, a_3, c_3, r_3, e9, G3, l3⟩ : OutW ((tp pr qr / tq qr)) ((Br) + 6) (a2.eval (.tmp 9)) w2 := hP 3 (by decide)
      have A3 := G3.ag
      have b4 : BoxV W2 w2 (gs2 0) (.agg #[.bool n_3, .slice a_3 r_3.length c_3]) := boxv_of (hX 0 _ rfl).2.2.2 e9
      have f4 := (hX 0 _ rfl).1
      have u4 : w.heap.size ≤ gs2 0 := Nat.le_trans HB.size ((hX 0 _ rfl).2.2.1 (by simp))
      obtain ⟨n_4, a_4, c_4, r_4, e10, G4, l4⟩ : OutW ((tp pr qr % tq qr)) ((Br) + 6) (a2.eval (.tmp 10)) w2 := hP 4 (by decide)
      have A4 := G4.ag
      have b5 : BoxV W2 w2 (gs2 1) (.agg #[.bool n_4, .slice a_4 r_4.length c_4]) := boxv_of (hX 1 _ rfl).2.2.2 e10
      have f5 := (hX 1 _ rfl).1
      have u5 : w.heap.size ≤ gs2 1 := Nat.le_trans HB.size ((hX 1 _ rfl).2.2.1 (by simp))
      replace f2 := (hR 2 rfl).trans f2
      replace f3 := (hR 3 rfl).trans f3
      replace Ar := Ar.rl hr
      replace Sr := Sr.rl hr
      replace Dr := Dr.rl hr
      replace HB := HB.trans (hBt.below HB.size (UpOld.all (bx := [⟨W2, some 5, 0, 4, .agg #[.bool false, .slice none 0 0], some (7, 9, 3), []⟩, ⟨W2, some 6, 0, 5, .agg #[.bool false, .slice none 0 0], some (8, 10, 4), []⟩]) ⟨someNe, someNe, trivial⟩))
      clear hBt hr hR hP hX hU
      refine wp_seq ?_
      refine wp_seq ?_
      refine region4 [some 11, some 12, some 13] [Eqs (.agg #[.bool n_4, .slice a_4 r_4.length c_4]), Eqs (.int .i64 (Int.sign (tp pr qr % tq qr))), Eqs (.bool (!decide ((Int.sign (tp pr qr % tq qr)) = 0)))] [] [] (by kernel_rfl) hn rfl (by kernel_rfl) (by kernel_rfl) (by kernel_rfl) (by kernel_rfl) (by kernel_rfl) (by kernel_rfl) ⟨Eqs.mono4 _, Eqs.mono4 _, Eqs.mono4 _, trivial⟩ ok_nil (IsOld.all (bx := []) trivial) (DisOld.all (bx := []) trivial) ?_ ?_
      · exact ⟨.norm 11 rfl rfl rfl (fun a_ w_ hn_ hBt hr hR hD hO hS => op_loadv W2ok ((hR 5 rfl).trans f5) (b5.keep hBt trivial)),
          .norm 12 rfl rfl rfl (fun a_ w_ hn_ hBt hr hR hD hO hS => op_sign (isw_eq (show a_.eval (.tmp 11) = .agg #[.bool n_4, .slice a_4 r_4.length c_4] from hD 0 rfl) (A4.rl hr) l4) (by omega)),
          .norm 13 rfl rfl rfl (fun a_ w_ hn_ hBt hr hR hD hO hS => op_neqk (show a_.eval (.tmp 12) = .int .i64 (Int.sign (tp pr qr % tq qr)) from hD 1 rfl)),
          trivial⟩
      · intro a5 w5 gs5 hn5 hd5 hBt hr hR hP hX hU
        replace hn := hn5; replace hd := hd5.trans hd
        replace b2 := b2.keep hBt trivial
        replace b4 := b4.keep hBt trivial
        replace f2 := (hR 2 rfl).trans f2
        replace f3 := (hR 3 rfl).trans f3
        replace f4 := (hR 4 rfl).trans f4
        have e13 : a5.eval (.tmp 13) = .bool (!decide ((Int.sign (tp pr qr % tq qr)) = 0)) := hP 2 (by decide)
        have f13 := e13
        replace Ar := Ar.rl hr
        replace Sr := Sr.rl hr
        replace Dr := Dr.rl hr
        replace G3 := G3.rl hr
        replace A3 := A3.rl hr
        replace G4 := G4.rl hr
        replace A4 := A4.rl hr
        replace HB := HB.trans (hBt.below HB.size (UpOld.all (bx := []) trivial))
        clear hBt hr hR hP hX hU
        refine wp_cond_split f13 (fun hc13 => ?_) (fun hc13 => ?_)
        · skip
          refine wp_seq ?_
          refine region4 [some 14, none, some 3] [Eqs (.agg #[.bool false, .slice none 0 0]), (fun _ _ => True), Eqs ((.bool false))] [⟨W2, none, (gs1 1), 2, .agg #[.bool false, .slice none 0 0], some (1, 14, 0), []⟩] [] (by kernel_rfl) hn rfl (by kernel_rfl) (by kernel_rfl) (by kernel_rfl) (by kernel_rfl) (by kernel_rfl) (by kernel_rfl) ⟨Eqs.mono4 _, True.mono4, Eqs.mono4 _, trivial⟩ (ok_cons W2ok ok_nil) (IsOld.all (bx := [⟨W2, none, (gs1 1), 2, .agg #[.bool false, .slice none 0 0], some (1, 14, 0), []⟩]) ⟨fun _ => ⟨f2, b2⟩, trivial⟩) (DisOld.all (bx := [⟨W2, none, (gs1 1), 2, .agg #[.bool false, .slice none 0 0], some (1, 14, 0), []⟩]) ⟨fun _ => trivial, trivial⟩) ?_ ?_
          · exact ⟨.norm 14 rfl rfl rfl (fun a_ w_ hn_ hBt hr hR hD hO hS => op_bW0),
              .store 0 _ _ _ rfl rfl rfl rfl rfl rfl rfl (fun ia h => by cases h) rfl rfl rfl (eqs_cs w2_cs),
              .norm 3 rfl rfl rfl (fun a_ w_ hn_ hBt hr hR hD hO hS => op_assign rfl),
              trivial⟩
          · intro a6 w6 gs6 hn6 hd6 hBt hr hR hP hX hU
            replace hn := hn6; replace hd := hd6.trans hd
            replace b4 := b4.keep hBt ⟨fun _ => ne2_4, trivial⟩
            have e14 : a6.eval (.tmp 14) = .agg #[.bool false, .slice none 0 0] := hP 0 (by decide)
            have b2 : BoxV W2 w6 ((gs1 1)) (.agg #[.bool false, .slice none 0 0]) := boxv_old ((hX 0 _ rfl).2.1 rfl) (hX 0 _ rfl).2.2.2 e14
            replace f2 : a6.eval (.tmp 2) = _ := (hR 2 rfl).trans f2
            replace f4 := (hR 4 rfl).trans f4
            have e3 : a6.eval (.tmp 3) = (.bool false) := hP 2 (by decide)
            have f3 := e3
            replace Ar := Ar.rl hr
            replace Sr := Sr.rl hr
            replace Dr := Dr.rl hr
            replace G3 := G3.rl hr
            replace A3 := A3.rl hr
            replace G4 := G4.rl hr
            replace A4 := A4.rl hr
            replace HB := HB.trans (hBt.below HB.size (UpOld.all (bx := [⟨W2, none, (gs1 1), 2, .agg #[.bool false, .slice none 0 0], some (1, 14, 0), []⟩]) ⟨fun _ => u2, trivial⟩))
            clear hBt hr hR hP hX hU
            refine wp_ret ?_
            repeat (first | refine then_ret ?_ | refine scope_ret ?_ | refine block_ret ?_)
            exact bodyPost_ret (v := .tuple #[.agg #[.bool false, .slice none 0 0], (.bool false)]) (res_ct rfl f2 (lv_W2 b2) f3) hd ⟨_, rfl, ⟨_, _, rfl, OutW.to (outw0 _) rfl (by omega), rfl⟩, HB⟩
        · skip
          exact absurd (sign_zero_iff.1 (by simpa using hc13)) h0
theorem has_rwhole0 : Has Tryd.prog 30 := by unfold Has; kernel_rfl
theorem op_rwhole0 {dst : Option Tmp} {ty : TypeId} {pos : String} {after : Array Edge} {guard : Option (Nat × Bool)} {a : Act} {w : World} {ats : Array TypeId} {i : Nat} {Br : Nat} {pr qr : Int} (Hr : IsR pr qr Br (a.eval (.tmp i)) w) (hL : Br ≤ 100000) (h0 : tp pr qr % tq qr ≠ 0) :
    Does Tryd.prog { dst, op := .call { callee := .value (.func 30), args := #[.tmp i], argTypes := ats }, type := ty, pos, after, guard } a.eval w fun v w' => Below w.heap.size w w' ∧ (Tup2 (OutW 0 (Br + 6)) (Eqs (.bool false))) v w' := by
  obtain ⟨nr, ar, mr, cr, rs, br, kr, dr, rt, er, Ar, Sr, Vr, Lr, Mr⟩ := Hr
  refine does_call has_rwhole0 _ (by simp only [List.map_toArray, List.map_cons, List.map_nil, er]) ((rwhole0_z w Br _ _ _ _ _ _ Ar Lr _ _ _ _ _ Sr Vr Mr hL h0).mono ?_)
  rintro e w' ⟨v, rfl, h1, hb⟩
  exact ⟨_, rfl, hb, h1⟩
end Lm
end Go.Proofs.YtdiiankcjgoecaaDoor

namespace Go.Proofs.YtdiiankcjgoecaaDoor
namespace Lm
open Go Go.RowKit
section
variable {dst : Option Tmp} {ty : TypeId} {pos : String} {after : Array Edge} {guard : Option (Nat × Bool)} {a : Act} {w : World} {ats : Array TypeId} {i j : Nat} {x y : Int} {L L1 L2 : Nat}
theorem has_lenw : Has Tryd.prog 10 := by unfold Has; kernel_rfl
theorem op_lenw {ng : Bool} {ao : Option Addr} {n c : Nat} (h : a.eval (.tmp i) = .agg #[.bool ng, .slice ao n c]) (hn : n ≤ 35184372088832) :
    Does Tryd.prog { dst, op := .call { callee := .value (.func 10), args := #[.tmp i], argTypes := ats }, type := ty, pos, after, guard } a.eval w fun v w' => Below w.heap.size w w' ∧ Eqs (.int .i64 (1 + (n : Int))) v w' := by
  refine does_call has_lenw _ (by simp only [List.map_toArray, List.map_cons, List.map_nil, h]) ((wlen_any w ng ao n c hn).mono ?_)
  rintro e w' ⟨rfl, hb⟩
  exact ⟨_, rfl, hb, rfl⟩
theorem op_samef (hx : OutW x L1 (a.eval (.tmp i)) w) (hy : OutW y L2 (a.eval (.tmp j)) w) (h : x ≠ y) :
    Does Tryd.prog { dst, op := .call { callee := .value (.func 17), args := #[.tmp i, .tmp j], argTypes := ats }, type := ty, pos, after, guard } a.eval w fun v w' => Below w.heap.size w w' ∧ Eqs (.bool false) v w' := by
  obtain ⟨n1, a1, c1, xs, e1, A1, l1⟩ := hx
  obtain ⟨n2, a2, c2, ys, e2, A2, l2⟩ := hy
  refine does_call has_same _ (by simp only [List.map_toArray, List.map_cons, List.map_nil, e1, e2]) ((same_z _ _ _ _ _ _ _ _ _ _ _ A1 A2 false (decide_eq_false h)).mono ?_)
  rintro e w' ⟨rfl, hb⟩
  exact ⟨_, rfl, hb, rfl⟩
theorem has_samel : Has Tryd.prog 51 := by unfold Has; kernel_rfl
theorem op_samel (hx : OutL x L1 (a.eval (.tmp i)) w) (hy : OutL y L2 (a.eval (.tmp j)) w) :
    Does Tryd.prog { dst, op := .call { callee := .value (.func 51), args := #[.tmp i, .tmp j], argTypes := ats }, type := ty, pos, after, guard } a.eval w fun v w' => Below w.heap.size w w' ∧ Eqs (.bool (decide (x = y))) v w' := by
  obtain ⟨a1, c1, xs, e1, G1, l1⟩ := hx
  obtain ⟨a2, c2, ys, e2, G2, l2⟩ := hy
  refine does_call has_samel _ (by simp only [List.map_toArray, List.map_cons, List.map_nil, e1, e2]) ((same_any w _ _ _ _ _ _ xs ys G1.sl G2.sl).mono ?_)
  rintro e w' ⟨rfl, hb⟩
  refine ⟨_, rfl, hb, ?_⟩
  have v1 := G1.val
  have v2 := G2.val
  show Value.bool (sameB xs ys) = Value.bool (decide (x = y))
  by_cases h : x = y
  · rw [sameB_of (canon_one G1.canon G2.canon (by rw [v1, v2, h])), decide_eq_true h]
  · have : xs ≠ ys := fun e => h (by rw [← v1, ← v2, e])
    simp [sameB, h, this]
theorem dec3 : IsDec [51] 3 := by
  refine ⟨?_, by decide, .inr ⟨51, _, rfl, by decide⟩⟩
  intro c hc
  simp at hc
  omega
theorem dec2 : IsDec [50] 2 := by
  refine ⟨?_, by decide, .inr ⟨50, _, rfl, by decide⟩⟩
  intro c hc
  simp at hc
  omega
theorem has_wtext : Has Tryd.prog 13 := by unfold Has; kernel_rfl
theorem op_text3 (hx : OutW x L (a.eval (.tmp i)) w) (h : x = -3) (hl : L ≤ 100000) :
    Does Tryd.prog { dst, op := .call { callee := .value (.func 13), args := #[.tmp i], argTypes := ats }, type := ty, pos, after, guard } a.eval w fun v w' => Below w.heap.size w w' ∧ Eqs (.string ⟨#[45, 51]⟩) v w' := by
  subst h
  obtain ⟨n1, a1, c1, xs, e1, A1, l1⟩ := hx
  refine does_call has_wtext _ (by simp only [List.map_toArray, List.map_cons, List.map_nil, e1]) ((wtext_neg w n1 a1 _ c1 xs A1.sl (by omega) (by rw [A1.worth]; decide)).mono ?_)
  rintro e w' ⟨ds, rfl, hd, hb⟩
  have e2 := isDec_one hd (show IsDec [51] (val xs) by rw [A1.1.val]; exact dec3)
  subst e2
  exact ⟨_, rfl, hb, rfl⟩
theorem has_ltext : Has Tryd.prog 47 := by unfold Has; kernel_rfl
theorem op_text2 (hx : IsL x L (a.eval (.tmp i)) w) (h : x = 2) (hl : L ≤ 100000) :
    Does Tryd.prog { dst, op := .call { callee := .value (.func 47), args := #[.tmp i], argTypes := ats }, type := ty, pos, after, guard } a.eval w fun v w' => Below w.heap.size w w' ∧ Eqs (.string ⟨#[50]⟩) v w' := by
  subst h
  obtain ⟨a1, n1, c1, xs, e1, S1, V1, l1⟩ := hx
  refine does_call has_ltext _ (by simp only [List.map_toArray, List.map_cons, List.map_nil, e1]) ((text_any w a1 n1 c1 xs S1 (by omega)).mono ?_)
  rintro e w' ⟨ds, rfl, hd, hb⟩
  have e2 := isDec_one hd (show IsDec [50] (val xs) by rw [V1]; exact dec2)
  subst e2
  exact ⟨_, rfl, hb, rfl⟩
theorem op_cat {x y : Operand} {s t r : ByteArray} (h1 : a.eval x = .string s) (h2 : a.eval y = .string t) (hs : s.size + t.size ≤ 9223372036854775807) (h : s ++ t = r) :
    Does Tryd.prog { dst, op := .binOp .add 9 x y 9, type := ty, pos, after, guard } a.eval w fun v w' => Below w.heap.size w w' ∧ Eqs (.string r) v w' := by
  subst h
  refine does_bin (v := .string (s ++ t)) ?_ ?_ ⟨Below.refl _ _, rfl⟩
  · rw [h1, h2]; simp [go_sem]
  · rw [h1, h2]; simp [go_sem]; exact hs
theorem op_eqls {s t : ByteArray} (h1 : a.eval (.tmp i) = .string s) (h : s = t) :
    Does Tryd.prog { dst, op := .binOp .eql 9 (.tmp i) (.const (.string t)) 9, type := ty, pos, after, guard } a.eval w fun v w' => Below w.heap.size w w' ∧ Eqs (.bool true) v w' := by
  subst h
  refine does_bin (v := .bool true) ?_ ?_ ⟨Below.refl _ _, rfl⟩
  · rw [h1]; simp [go_sem, Act.eval]
  · rw [h1]; simp [go_sem, Act.eval]
theorem op_bits1 (h : BitsOf x (a.eval (.tmp i)) w) (hx : 0 < x) :
    Does Tryd.prog { dst, op := .binOp .eql 3 (.tmp i) (.const (.int .i64 1)) 3, type := ty, pos, after, guard } a.eval w fun v w' => Below w.heap.size w w' ∧ Eqs (.bool (decide (x = 1))) v w' := by
  obtain ⟨k, e, hb⟩ := h
  refine (op_eqlk e).mono (fun v w' ⟨h1, h2⟩ => ⟨h1, ?_⟩)
  show v = _
  rw [show v = _ from h2]
  congr 1
  exact decide_eq_decide.2 (bits_is_one hb hx)
theorem op_eqle {u : Int} (h1 : a.eval (.tmp i) = .int .i64 u) :
    Does Tryd.prog { dst, op := .binOp .eql 27 (.tmp i) (.const (.int .i64 u)) 27, type := ty, pos, after, guard } a.eval w fun v w' => Below w.heap.size w w' ∧ Eqs (.bool true) v w' := by
  refine does_bin (v := .bool true) ?_ ?_ ⟨Below.refl _ _, rfl⟩
  · rw [h1]; simp [go_sem, Act.eval]
  · rw [h1]; simp [go_sem, Act.eval]
theorem has_lsmall : Has Tryd.prog 41 := by unfold Has; kernel_rfl
theorem op_lsmall {v : Int} (h1 : -9223372036854775808 ≤ v) (h2 : v ≤ 9223372036854775807) :
    Does Tryd.prog { dst, op := .call { callee := .value (.func 41), args := #[.const (.int .i64 v)], argTypes := ats }, type := ty, pos, after, guard } a.eval w fun v' w' => Below w.heap.size w w' ∧ OutW v 2 v' w' := by
  refine does_call has_lsmall _ (by simp only [List.map_toArray, List.map_cons, List.map_nil, Act.eval]) ((lsmall_g _ v h1 h2).mono ?_)
  rintro e w' ⟨ng, ao, cap, rs, rfl, G, l, hb⟩
  exact ⟨_, rfl, hb, _, _, _, _, rfl, G, by omega⟩
end
set_option maxRecDepth 20000 in
set_option maxHeartbeats 1000000 in
theorem rlen_z (w : World) (nr : Bool) (ar : Option Addr) (mr cr : Nat) (br : Option Addr) (kr dr : Nat) (hm : mr ≤ 35184372088832) (hk : kr ≤ 35184372088832) :
    Calls Tryd.prog 23 #[.agg #[.bool nr, .slice ar mr cr, .slice br kr dr]] w fun e w' => ∃ v, e = .returned v ∧ (Eqs (.int .i64 (1 + (mr : Int) + (kr : Int)))) v w' ∧ Below w.heap.size w w' := by
  go_enter Tryd.func23, Tryd.ntmps23
  generalize hA : (Act.mk _ _) = aa
  have hn : aa.tmps.size = 10 := by rw [← hA]; rfl
  have hd : aa.defers = [] := by rw [← hA]
  have f0 : aa.eval (.tmp 0) = .agg #[.bool nr, .slice ar mr cr, .slice br kr dr] := by rw [← hA]; rfl
  clear hA
  have HB : Below w.heap.size w w := Below.refl _ _
  refine wp_seq ?_
  refine region4 [some 1, some 2] [(fun _ _ => True), Eqs ((.int .i64 0))] [⟨R3, some 0, 0, 1, .agg #[.bool nr, .slice ar mr cr, .slice br kr dr], none, []⟩] [] (by kernel_rfl) hn rfl (by kernel_rfl) (by kernel_rfl) (by kernel_rfl) (by kernel_rfl) (by kernel_rfl) (by kernel_rfl) ⟨True.mono4, Eqs.mono4 _, trivial⟩ (ok_cons R3ok ok_nil) (IsOld.all (bx := [⟨R3, some 0, 0, 1, .agg #[.bool nr, .slice ar mr cr, .slice br kr dr], none, []⟩]) ⟨someNe, trivial⟩) (DisOld.all (bx := [⟨R3, some 0, 0, 1, .agg #[.bool nr, .slice ar mr cr, .slice br kr dr], none, []⟩]) ⟨someNe, trivial⟩) ?_ ?_
  · exact ⟨.alloc 0 _ rfl rfl (.inr ⟨_, rfl, r3_cs, fun a_ hR => (hR 0 rfl).trans f0⟩) rfl rfl rfl rfl rfl,
      .norm 2 rfl rfl rfl (fun a_ w_ hn_ hBt hr hR hD hO hS => op_assign rfl),
      trivial⟩
  · intro a1 w1 gs1 hn1 hd1 hBt hr hR hP hX hU
    replace hn := hn1; replace hd := hd1.trans hd
    have b1 : BoxV R3 w1 (gs1 0) (.agg #[.bool nr, .slice ar mr cr, .slice br kr dr]) := (hX 0 _ rfl).2.2.2
    have f1 := (hX 0 _ rfl).1
    have u1 : w.heap.size ≤ gs1 0 := Nat.le_trans HB.size ((hX 0 _ rfl).2.2.1 (by simp))
    have e2 : a1.eval (.tmp 2) = (.int .i64 0) := hP 1 (by decide)
    have f2 := e2
    replace HB := HB.trans (hBt.below HB.size (UpOld.all (bx := [⟨R3, some 0, 0, 1, .agg #[.bool nr, .slice ar mr cr, .slice br kr dr], none, []⟩]) ⟨someNe, trivial⟩))
    clear hBt hr hR hP hX hU
    refine wp_seq ?_
    refine region4 [some 3, some 4, some 5, some 6, some 7, some 8, some 9, some 2] [Eqs (.pointer (some ⟨gs1 0, 0, none⟩)), Eqs (.agg #[.bool nr, .slice ar mr cr]), Eqs (.int .i64 (1 + (mr : Int))), Eqs (.pointer (some ⟨gs1 0, 2, none⟩)), Eqs (.slice br kr dr), Eqs (.int .i64 (kr : Int)), Eqs (.int .i64 ((1 + (mr : Int)) + (kr : Int))), Eqs (.int .i64 ((1 + (mr : Int)) + (kr : Int)))] [] [] (by kernel_rfl) hn rfl (by kernel_rfl) (by kernel_rfl) (by kernel_rfl) (by kernel_rfl) (by kernel_rfl) (by kernel_rfl) ⟨Eqs.mono4 _, Eqs.mono4 _, Eqs.mono4 _, Eqs.mono4 _, Eqs.mono4 _, Eqs.mono4 _, Eqs.mono4 _, Eqs.mono4 _, trivial⟩ ok_nil (IsOld.all (bx := []) trivial) (DisOld.all (bx := []) trivial) ?_ ?_
    · exact ⟨.norm 3 rfl rfl rfl (fun a_ w_ hn_ hBt hr hR hD hO hS => op_faR fa_num ((hR 1 rfl).trans f1)),
        .norm 4 rfl rfl rfl (fun a_ w_ hn_ hBt hr hR hD hO hS => op_ldnum (show a_.eval (.tmp 3) = .pointer (some ⟨gs1 0, 0, none⟩) from hD 0 rfl) (b1.keep hBt trivial)),
        .norm 5 rfl rfl rfl (fun a_ w_ hn_ hBt hr hR hD hO hS => op_lenw (show a_.eval (.tmp 4) = .agg #[.bool nr, .slice ar mr cr] from hD 1 rfl) (by omega)),
        .norm 6 rfl rfl rfl (fun a_ w_ hn_ hBt hr hR hD hO hS => op_faR fa_den ((hR 1 rfl).trans f1)),
        .norm 7 rfl rfl rfl (fun a_ w_ hn_ hBt hr hR hD hO hS => op_ldden (show a_.eval (.tmp 6) = .pointer (some ⟨gs1 0, 2, none⟩) from hD 3 rfl) (b1.keep hBt trivial)),
        .norm 8 rfl rfl rfl (fun a_ w_ hn_ hBt hr hR hD hO hS => op_len (show a_.eval (.tmp 7) = .slice br kr dr from hD 4 rfl)),
        .norm 9 rfl rfl rfl (fun a_ w_ hn_ hBt hr hR hD hO hS => op_plus (show a_.eval (.tmp 5) = .int .i64 (1 + (mr : Int)) from hD 2 rfl) (show a_.eval (.tmp 8) = .int .i64 (kr : Int) from hD 5 rfl) (by omega)),
        .norm 2 rfl rfl rfl (fun a_ w_ hn_ hBt hr hR hD hO hS => op_assign (show a_.eval (.tmp 9) = .int .i64 ((1 + (mr : Int)) + (kr : Int)) from hD 6 rfl)),
        trivial⟩
    · intro a2 w2 gs2 hn2 hd2 hBt hr hR hP hX hU
      replace hn := hn2; replace hd := hd2.trans hd
      have e2 : a2.eval (.tmp 2) = .int .i64 ((1 + (mr : Int)) + (kr : Int)) := hP 7 (by decide)
      have f2 := e2
      replace HB := HB.trans (hBt.below HB.size (UpOld.all (bx := []) trivial))
      clear hBt hr hR hP hX hU
      refine wp_ret ?_
      repeat (first | refine then_ret ?_ | refine scope_ret ?_ | refine block_ret ?_)
      exact bodyPost_ret (v := .int .i64 ((1 + (mr : Int)) + (kr : Int))) (res_t rfl f2) hd ⟨_, rfl, rfl, HB⟩
theorem has_rlen : Has Tryd.prog 23 := by unfold Has; kernel_rfl
theorem op_rlen {dst : Option Tmp} {ty : TypeId} {pos : String} {after : Array Edge} {guard : Option (Nat × Bool)} {a : Act} {w : World} {ats : Array TypeId} {i : Nat} {nr : Bool} {ar br : Option Addr} {mr cr kr dr : Nat} (h : a.eval (.tmp i) = .agg #[.bool nr, .slice ar mr cr, .slice br kr dr]) (hm : mr ≤ 35184372088832) (hk : kr ≤ 35184372088832) :
    Does Tryd.prog { dst, op := .call { callee := .value (.func 23), args := #[.tmp i], argTypes := ats }, type := ty, pos, after, guard } a.eval w fun v w' => Below w.heap.size w w' ∧ Eqs (.int .i64 (1 + (mr : Int) + (kr : Int))) v w' := by
  refine does_call has_rlen _ (by simp only [List.map_toArray, List.map_cons, List.map_nil, h]) ((rlen_z w nr ar mr cr br kr dr hm hk).mono ?_)
  rintro e w' ⟨v, rfl, h1, hb⟩
  exact ⟨_, rfl, hb, h1⟩
set_option maxRecDepth 20000 in
set_option maxHeartbeats 1000000 in
theorem samer_z (w : World) (nr : Bool) (ar : Option Addr) (cr : Nat) (rs : List Int) (pr : Int) (Gr : Wh w nr ar cr rs pr) (br : Option Addr) (dr : Nat) (rt : List Int) (qr : Int) (Kr : Got w br dr rt qr) (nu : Bool) (au : Option Addr) (cu : Nat) (us : List Int) (pu : Int) (Gu : Wh w nu au cu us pu) (bu : Option Addr) (du : Nat) (ut : List Int) (qu : Int) (Ku : Got w bu du ut qu) (hp : pr = pu) :
    Calls Tryd.prog 29 #[.agg #[.bool nr, .slice ar rs.length cr, .slice br rt.length dr], .agg #[.bool nu, .slice au us.length cu, .slice bu ut.length du]] w fun e w' => ∃ v, e = .returned v ∧ (Eqs (.bool (decide (qr = qu)))) v w' ∧ Below w.heap.size w w' := by
  go_enter Tryd.func29, Tryd.ntmps29
  generalize hA : (Act.mk _ _) = aa
  have hn : aa.tmps.size = 17 := by rw [← hA]; rfl
  have hd : aa.defers = [] := by rw [← hA]
  have f0 : aa.eval (.tmp 0) = .agg #[.bool nr, .slice ar rs.length cr, .slice br rt.length dr] := by rw [← hA]; rfl
  have f1 : aa.eval (.tmp 1) = .agg #[.bool nu, .slice au us.length cu, .slice bu ut.length du] := by rw [← hA]; rfl
  clear hA
  have HB : Below w.heap.size w w := Below.refl _ _
  refine wp_seq ?_
  refine region4 [some 2, some 3, some 4] [(fun _ _ => True), (fun _ _ => True), Eqs ((.bool false))] [⟨R3, some 0, 0, 2, .agg #[.bool nr, .slice ar rs.length cr, .slice br rt.length dr], none, []⟩, ⟨R3, some 1, 0, 3, .agg #[.bool nu, .slice au us.length cu, .slice bu ut.length du], none, []⟩] [] (by kernel_rfl) hn rfl (by kernel_rfl) (by kernel_rfl) (by kernel_rfl) (by kernel_rfl) (by kernel_rfl) (by kernel_rfl) ⟨True.mono4, True.mono4, Eqs.mono4 _, trivial⟩ (ok_cons R3ok (ok_cons R3ok ok_nil)) (IsOld.all (bx := [⟨R3, some 0, 0, 2, .agg #[.bool nr, .slice ar rs.length cr, .slice br rt.length dr], none, []⟩, ⟨R3, some 1, 0, 3, .agg #[.bool nu, .slice au us.length cu, .slice bu ut.length du], none, []⟩]) ⟨someNe, someNe, trivial⟩) (DisOld.all (bx := [⟨R3, some 0, 0, 2, .agg #[.bool nr, .slice ar rs.length cr, .slice br rt.length dr], none, []⟩, ⟨R3, some 1, 0, 3, .agg #[.bool nu, .slice au us.length cu, .slice bu ut.length du], none, []⟩]) ⟨someNe, someNe, trivial⟩) ?_ ?_
  · exact ⟨.alloc 0 _ rfl rfl (.inr ⟨_, rfl, r3_cs, fun a_ hR => (hR 0 rfl).trans f0⟩) rfl rfl rfl rfl rfl,
      .alloc 1 _ rfl rfl (.inr ⟨_, rfl, r3_cs, fun a_ hR => (hR 1 rfl).trans f1⟩) rfl rfl rfl rfl rfl,
      .norm 4 rfl rfl rfl (fun a_ w_ hn_ hBt hr hR hD hO hS => op_assign rfl),
      trivial⟩
  · intro a1 w1 gs1 hn1 hd1 hBt hr hR hP hX hU
    replace hn := hn1; replace hd := hd1.trans hd
    have b2 : BoxV R3 w1 (gs1 0) (.agg #[.bool nr, .slice ar rs.length cr, .slice br rt.length dr]) := (hX 0 _ rfl).2.2.2
    have f2 := (hX 0 _ rfl).1
    have u2 : w.heap.size ≤ gs1 0 := Nat.le_trans HB.size ((hX 0 _ rfl).2.2.1 (by simp))
    have b3 : BoxV R3 w1 (gs1 1) (.agg #[.bool nu, .slice au us.length cu, .slice bu ut.length du]) := (hX 1 _ rfl).2.2.2
    have f3 := (hX 1 _ rfl).1
    have u3 : w.heap.size ≤ gs1 1 := Nat.le_trans HB.size ((hX 1 _ rfl).2.2.1 (by simp))
    have e4 : a1.eval (.tmp 4) = (.bool false) := hP 2 (by decide)
    have f4 := e4
    replace Gr := Gr.rl hr
    replace Kr := Kr.rl hr
    replace Gu := Gu.rl hr
    replace Ku := Ku.rl hr
    replace HB := HB.trans (hBt.below HB.size (UpOld.all (bx := [⟨R3, some 0, 0, 2, .agg #[.bool nr, .slice ar rs.length cr, .slice br rt.length dr], none, []⟩, ⟨R3, some 1, 0, 3, .agg #[.bool nu, .slice au us.length cu, .slice bu ut.length du], none, []⟩]) ⟨someNe, someNe, trivial⟩))
    clear hBt hr hR hP hX hU
    refine wp_seq ?_
    refine region4 [some 5, some 6, some 7, some 8, some 9, some 10, some 11, some 12, some 13, some 14, some 15, some 16, some 4] [Eqs (.pointer (some ⟨gs1 0, 0, none⟩)), Eqs (.agg #[.bool nr, .slice ar rs.length cr]), Eqs (.pointer (some ⟨gs1 1, 0, none⟩)), Eqs (.agg #[.bool nu, .slice au us.length cu]), Eqs (.bool true), Eqs (.bool true), Eqs (.pointer (some ⟨gs1 0, 2, none⟩)), Eqs (.slice br rt.length dr), Eqs (.pointer (some ⟨gs1 1, 2, none⟩)), Eqs (.slice bu ut.length du), Eqs (.bool (decide (qr = qu))), Eqs (.bool (decide (qr = qu))), Eqs (.bool (decide (qr = qu)))] [] [] (by kernel_rfl) hn rfl (by kernel_rfl) (by kernel_rfl) (by kernel_rfl) (by kernel_rfl) (by kernel_rfl) (by kernel_rfl) ⟨Eqs.mono4 _, Eqs.mono4 _, Eqs.mono4 _, Eqs.mono4 _, Eqs.mono4 _, Eqs.mono4 _, Eqs.mono4 _, Eqs.mono4 _, Eqs.mono4 _, Eqs.mono4 _, Eqs.mono4 _, Eqs.mono4 _, Eqs.mono4 _, trivial⟩ ok_nil (IsOld.all (bx := []) trivial) (DisOld.all (bx := []) trivial) ?_ ?_
    · exact ⟨.norm 5 rfl rfl rfl (fun a_ w_ hn_ hBt hr hR hD hO hS => op_faR fa_num ((hR 2 rfl).trans f2)),
        .norm 6 rfl rfl rfl (fun a_ w_ hn_ hBt hr hR hD hO hS => op_ldnum (show a_.eval (.tmp 5) = .pointer (some ⟨gs1 0, 0, none⟩) from hD 0 rfl) (b2.keep hBt trivial)),
        .norm 7 rfl rfl rfl (fun a_ w_ hn_ hBt hr hR hD hO hS => op_faR fa_num ((hR 3 rfl).trans f3)),
        .norm 8 rfl rfl rfl (fun a_ w_ hn_ hBt hr hR hD hO hS => op_ldnum (show a_.eval (.tmp 7) = .pointer (some ⟨gs1 1, 0, none⟩) from hD 2 rfl) (b3.keep hBt trivial)),
        .norm 9 rfl rfl rfl (fun a_ w_ hn_ hBt hr hR hD hO hS => op_same (outw_eq (show a_.eval (.tmp 6) = .agg #[.bool nr, .slice ar rs.length cr] from hD 1 rfl) (Gr.rl hr) (Nat.le_refl _)) (outw_eq (show a_.eval (.tmp 8) = .agg #[.bool nu, .slice au us.length cu] from hD 3 rfl) (Gu.rl hr) (Nat.le_refl _)) hp),
        .norm 10 rfl rfl rfl (fun a_ w_ hn_ hBt hr hR hD hO hS => op_mv (show a_.eval (.tmp 9) = .bool true from hD 4 rfl)),
        .norm 11 rfl rfl rfl (fun a_ w_ hn_ hBt hr hR hD hO hS => ⟨⟨_, rfl⟩, fun _ => op_faR fa_den ((hR 2 rfl).trans f2), fun hne => absurd (hD 5 rfl) hne⟩),
        .norm 12 rfl rfl rfl (fun a_ w_ hn_ hBt hr hR hD hO hS => ⟨⟨_, rfl⟩, fun _ => op_ldden (show a_.eval (.tmp 11) = .pointer (some ⟨gs1 0, 2, none⟩) from hD 6 rfl) (b2.keep hBt trivial), fun hne => absurd (hD 5 rfl) hne⟩),
        .norm 13 rfl rfl rfl (fun a_ w_ hn_ hBt hr hR hD hO hS => ⟨⟨_, rfl⟩, fun _ => op_faR fa_den ((hR 3 rfl).trans f3), fun hne => absurd (hD 5 rfl) hne⟩),
        .norm 14 rfl rfl rfl (fun a_ w_ hn_ hBt hr hR hD hO hS => ⟨⟨_, rfl⟩, fun _ => op_ldden (show a_.eval (.tmp 13) = .pointer (some ⟨gs1 1, 2, none⟩) from hD 8 rfl) (b3.keep hBt trivial), fun hne => absurd (hD 5 rfl) hne⟩),
        .norm 15 rfl rfl rfl (fun a_ w_ hn_ hBt hr hR hD hO hS => ⟨⟨_, rfl⟩, fun _ => op_samel (outl_eq (show a_.eval (.tmp 12) = .slice br rt.length dr from hD 7 rfl) (Kr.rl hr) (Nat.le_refl _)) (outl_eq (show a_.eval (.tmp 14) = .slice bu ut.length du from hD 9 rfl) (Ku.rl hr) (Nat.le_refl _)), fun hne => absurd (hD 5 rfl) hne⟩),
        .norm 16 rfl rfl rfl (fun a_ w_ hn_ hBt hr hR hD hO hS => op_pickb (show a_.eval (.tmp 10) = .bool true from hD 5 rfl) (show a_.eval (.tmp 15) = .bool (decide (qr = qu)) from hD 10 rfl)),
        .norm 4 rfl rfl rfl (fun a_ w_ hn_ hBt hr hR hD hO hS => op_assign (show a_.eval (.tmp 16) = .bool (decide (qr = qu)) from hD 11 rfl)),
        trivial⟩
    · intro a2 w2 gs2 hn2 hd2 hBt hr hR hP hX hU
      replace hn := hn2; replace hd := hd2.trans hd
      have e4 : a2.eval (.tmp 4) = .bool (decide (qr = qu)) := hP 12 (by decide)
      have f4 := e4
      replace Gr := Gr.rl hr
      replace Kr := Kr.rl hr
      replace Gu := Gu.rl hr
      replace Ku := Ku.rl hr
      replace HB := HB.trans (hBt.below HB.size (UpOld.all (bx := []) trivial))
      clear hBt hr hR hP hX hU
      refine wp_ret ?_
      repeat (first | refine then_ret ?_ | refine scope_ret ?_ | refine block_ret ?_)
      exact bodyPost_ret (v := .bool (decide (qr = qu))) (res_t rfl f4) hd ⟨_, rfl, rfl, HB⟩
set_option maxRecDepth 20000 in
set_option maxHeartbeats 1000000 in
theorem samerf_z (w : World) (nr : Bool) (ar : Option Addr) (cr : Nat) (rs : List Int) (pr : Int) (Gr : Wh w nr ar cr rs pr) (br : Option Addr) (dr : Nat) (rt : List Int) (qr : Int) (Kr : Got w br dr rt qr) (nu : Bool) (au : Option Addr) (cu : Nat) (us : List Int) (pu : Int) (Gu : Wh w nu au cu us pu) (bu : Option Addr) (du : Nat) (ut : List Int) (qu : Int) (Ku : Got w bu du ut qu) (hp : pr ≠ pu) :
    Calls Tryd.prog 29 #[.agg #[.bool nr, .slice ar rs.length cr, .slice br rt.length dr], .agg #[.bool nu, .slice au us.length cu, .slice bu ut.length du]] w fun e w' => ∃ v, e = .returned v ∧ (Eqs (.bool false)) v w' ∧ Below w.heap.size w w' := by
  go_enter Tryd.func29, Tryd.ntmps29
  generalize hA : (Act.mk _ _) = aa
  have hn : aa.tmps.size = 17 := by rw [← hA]; rfl
  have hd : aa.defers = [] := by rw [← hA]
  have f0 : aa.eval (.tmp 0) = .agg #[.bool nr, .slice ar rs.length cr, .slice br rt.length dr] := by rw [← hA]; rfl
  have f1 : aa.eval (.tmp 1) = .agg #[.bool nu, .slice au us.length cu, .slice bu ut.length du] := by rw [← hA]; rfl
  clear hA
  have HB : Below w.heap.size w w := Below.refl _ _
  refine wp_seq ?_
  refine region4 [some 2, some 3, some 4] [(fun _ _ => True), (fun _ _ => True), Eqs ((.bool false))] [⟨R3, some 0, 0, 2, .agg #[.bool nr, .slice ar rs.length cr, .slice br rt.length dr], none, []⟩, ⟨R3, some 1, 0, 3, .agg #[.bool nu, .slice au us.length cu, .slice bu ut.length du], none, []⟩] [] (by kernel_rfl) hn rfl (by kernel_rfl) (by kernel_rfl) (by kernel_rfl) (by kernel_rfl) (by kernel_rfl) (by kernel_rfl) ⟨True.mono4, True.mono4, Eqs.mono4 _, trivial⟩ (ok_cons R3ok (ok_cons R3ok ok_nil)) (IsOld.all (bx := [⟨R3, some 0, 0, 2, .agg #[.bool nr, .slice ar rs.length cr, .slice br rt.length dr], none, []⟩, ⟨R3, some 1, 0, 3, .agg #[.bool nu, .slice au us.length cu, .slice bu ut.length du], none, []⟩]) ⟨someNe, someNe, trivial⟩) (DisOld.all (bx := [⟨R3, some 0, 0, 2, .agg #[.bool nr, .slice ar rs.length cr, .slice br rt.length dr], none, []⟩, ⟨R3, some 1, 0, 3, .agg #[.bool nu, .slice au us.length cu, .slice bu ut.length du], none, []⟩]) ⟨someNe, someNe, trivial⟩) ?_ ?_
  · exact ⟨.alloc 0 _ rfl rfl (.inr ⟨_, rfl, r3_cs, fun a_ hR => (hR 0 rfl).trans f0⟩) rfl rfl rfl rfl rfl,
      .alloc 1 _ rfl rfl (.inr ⟨_, rfl, r3_cs, fun a_ hR => (hR 1 rfl).trans f1⟩) rfl rfl rfl rfl rfl,
      .norm 4 rfl rfl rfl (fun a_ w_ hn_ hBt hr hR hD hO hS => op_assign rfl),
      trivial⟩
  · intro a1 w1 gs1 hn1 hd1 hBt hr hR hP hX hU
    replace hn := hn1; replace hd := hd1.trans hd
    have b2 : BoxV R3 w1 (gs1 0) (.agg #[.bool nr, .slice ar rs.length cr, .slice br rt.length dr]) := (hX 0 _ rfl).2.2.2
    have f2 := (hX 0 _ rfl).1
    have u2 : w.heap.size ≤ gs1 0 := Nat.le_trans HB.size ((hX 0 _ rfl).2.2.1 (by simp))
    have b3 : BoxV R3 w1 (gs1 1) (.agg #[.bool nu, .slice au us.length cu, .slice bu ut.length du]) := (hX 1 _ rfl).2.2.2
    have f3 := (hX 1 _ rfl).1
    have u3 : w.heap.size ≤ gs1 1 := Nat.le_trans HB.size ((hX 1 _ rfl).2.2.1 (by simp))
    have e4 : a1.eval (.tmp 4) = (.bool false) := hP 2 (by decide)
    have f4 := e4
    replace Gr := Gr.rl hr
    replace Kr := Kr.rl hr
    replace Gu := Gu.rl hr
    replace Ku := Ku.rl hr
    replace HB := HB.trans (hBt.below HB.size (UpOld.all (bx := [⟨R3, some 0, 0, 2, .agg #[.bool nr, .slice ar rs.length cr, .slice br rt.length dr], none, []⟩, ⟨R3, some 1, 0, 3, .agg #[.bool nu, .slice au us.length cu, .slice bu ut.length du], none, []⟩]) ⟨someNe, someNe, trivial⟩))
    clear hBt hr hR hP hX hU
    refine wp_seq ?_
    refine region4 [some 5, some 6, some 7, some 8, some 9, some 10, some 11, some 12, some 13, some 14, some 15, some 16, some 4] [Eqs (.pointer (some ⟨gs1 0, 0, none⟩)), Eqs (.agg #[.bool nr, .slice ar rs.length cr]), Eqs (.pointer (some ⟨gs1 1, 0, none⟩)), Eqs (.agg #[.bool nu, .slice au us.length cu]), Eqs (.bool false), Eqs (.bool false), (fun _ _ => True), (fun _ _ => True), (fun _ _ => True), (fun _ _ => True), (fun _ _ => True), Eqs (.bool false), Eqs (.bool false)] [] [] (by kernel_rfl) hn rfl (by kernel_rfl) (by kernel_rfl) (by kernel_rfl) (by kernel_rfl) (by kernel_rfl) (by kernel_rfl) ⟨Eqs.mono4 _, Eqs.mono4 _, Eqs.mono4 _, Eqs.mono4 _, Eqs.mono4 _, Eqs.mono4 _, True.mono4, True.mono4, True.mono4, True.mono4, True.mono4, Eqs.mono4 _, Eqs.mono4 _, trivial⟩ ok_nil (IsOld.all (bx := []) trivial) (DisOld.all (bx := []) trivial) ?_ ?_
    · exact ⟨.norm 5 rfl rfl rfl (fun a_ w_ hn_ hBt hr hR hD hO hS => op_faR fa_num ((hR 2 rfl).trans f2)),
        .norm 6 rfl rfl rfl (fun a_ w_ hn_ hBt hr hR hD hO hS => op_ldnum (show a_.eval (.tmp 5) = .pointer (some ⟨gs1 0, 0, none⟩) from hD 0 rfl) (b2.keep hBt trivial)),
        .norm 7 rfl rfl rfl (fun a_ w_ hn_ hBt hr hR hD hO hS => op_faR fa_num ((hR 3 rfl).trans f3)),
        .norm 8 rfl rfl rfl (fun a_ w_ hn_ hBt hr hR hD hO hS => op_ldnum (show a_.eval (.tmp 7) = .pointer (some ⟨gs1 1, 0, none⟩) from hD 2 rfl) (b3.keep hBt trivial)),
        .norm 9 rfl rfl rfl (fun a_ w_ hn_ hBt hr hR hD hO hS => op_samef (outw_eq (show a_.eval (.tmp 6) = .agg #[.bool nr, .slice ar rs.length cr] from hD 1 rfl) (Gr.rl hr) (Nat.le_refl _)) (outw_eq (show a_.eval (.tmp 8) = .agg #[.bool nu, .slice au us.length cu] from hD 3 rfl) (Gu.rl hr) (Nat.le_refl _)) hp),
        .norm 10 rfl rfl rfl (fun a_ w_ hn_ hBt hr hR hD hO hS => op_mv (show a_.eval (.tmp 9) = .bool false from hD 4 rfl)),
        .norm 11 rfl rfl rfl (fun a_ w_ hn_ hBt hr hR hD hO hS => ⟨⟨_, rfl⟩, fun h => absurd ((show _ = Value.bool false from hD 5 rfl).symm.trans h) (by simp), fun _ => trivial⟩),
        .norm 12 rfl rfl rfl (fun a_ w_ hn_ hBt hr hR hD hO hS => ⟨⟨_, rfl⟩, fun h => absurd ((show _ = Value.bool false from hD 5 rfl).symm.trans h) (by simp), fun _ => trivial⟩),
        .norm 13 rfl rfl rfl (fun a_ w_ hn_ hBt hr hR hD hO hS => ⟨⟨_, rfl⟩, fun h => absurd ((show _ = Value.bool false from hD 5 rfl).symm.trans h) (by simp), fun _ => trivial⟩),
        .norm 14 rfl rfl rfl (fun a_ w_ hn_ hBt hr hR hD hO hS => ⟨⟨_, rfl⟩, fun h => absurd ((show _ = Value.bool false from hD 5 rfl).symm.trans h) (by simp), fun _ => trivial⟩),
        .norm 15 rfl rfl rfl (fun a_ w_ hn_ hBt hr hR hD hO hS => ⟨⟨_, rfl⟩, fun h => absurd ((show _ = Value.bool false from hD 5 rfl).symm.trans h) (by simp), fun _ => trivial⟩),
        .norm 16 rfl rfl rfl (fun a_ w_ hn_ hBt hr hR hD hO hS => op_pickb (show a_.eval (.tmp 10) = .bool false from hD 5 rfl) rfl),
        .norm 4 rfl rfl rfl (fun a_ w_ hn_ hBt hr hR hD hO hS => op_assign (show a_.eval (.tmp 16) = .bool false from hD 11 rfl)),
        trivial⟩
    · intro a2 w2 gs2 hn2 hd2 hBt hr hR hP hX hU
      replace hn := hn2; replace hd := hd2.trans hd
      have e4 : a2.eval (.tmp 4) = .bool false := hP 12 (by decide)
      have f4 := e4
      replace Gr := Gr.rl hr
      replace Kr := Kr.rl hr
      replace Gu := Gu.rl hr
      replace Ku := Ku.rl hr
      replace HB := HB.trans (hBt.below HB.size (UpOld.all (bx := []) trivial))
      clear hBt hr hR hP hX hU
      refine wp_ret ?_
      repeat (first | refine then_ret ?_ | refine scope_ret ?_ | refine block_ret ?_)
      exact bodyPost_ret (v := .bool false) (res_t rfl f4) hd ⟨_, rfl, rfl, HB⟩
theorem has_samer : Has Tryd.prog 29 := by unfold Has; kernel_rfl
theorem op_samerb {dst : Option Tmp} {ty : TypeId} {pos : String} {after : Array Edge} {guard : Option (Nat × Bool)} {a : Act} {w : World} {ats : Array TypeId} {i j : Nat} {pr qr pu qu : Int} {Lr Lu : Nat} (h1 : OutR pr qr Lr (a.eval (.tmp i)) w) (h2 : OutR pu qu Lu (a.eval (.tmp j)) w) :
    Does Tryd.prog { dst, op := .call { callee := .value (.func 29), args := #[.tmp i, .tmp j], argTypes := ats }, type := ty, pos, after, guard } a.eval w fun v w' => Below w.heap.size w w' ∧ Eqs (.bool (decide (pr = pu ∧ qr = qu))) v w' := by
  obtain ⟨ng, ao, cap, rs, bo, dap, ss, e1, G1, K1, _, _⟩ := h1
  obtain ⟨ng2, ao2, cap2, rs2, bo2, dap2, ss2, e2, G2, K2, _, _⟩ := h2
  by_cases hp : pr = pu
  · refine does_call has_samer _ (by simp only [List.map_toArray, List.map_cons, List.map_nil, e1, e2]) ((samer_z w _ _ _ _ _ G1 _ _ _ _ K1 _ _ _ _ _ G2 _ _ _ _ K2 hp).mono ?_)
    rintro e w' ⟨v, rfl, h1, hb⟩
    exact ⟨_, rfl, hb, by simpa [hp] using h1⟩
  · refine does_call has_samer _ (by simp only [List.map_toArray, List.map_cons, List.map_nil, e1, e2]) ((samerf_z w _ _ _ _ _ G1 _ _ _ _ K1 _ _ _ _ _ G2 _ _ _ _ K2 hp).mono ?_)
    rintro e w' ⟨v, rfl, h1, hb⟩
    exact ⟨_, rfl, hb, by simpa [hp] using h1⟩
theorem op_samer {dst : Option Tmp} {ty : TypeId} {pos : String} {after : Array Edge} {guard : Option (Nat × Bool)} {a : Act} {w : World} {ats : Array TypeId} {i j : Nat} {pr qr pu qu : Int} {Lr Lu : Nat} (h1 : OutR pr qr Lr (a.eval (.tmp i)) w) (h2 : OutR pu qu Lu (a.eval (.tmp j)) w) (h : pr = pu ∧ qr = qu) :
    Does Tryd.prog { dst, op := .call { callee := .value (.func 29), args := #[.tmp i, .tmp j], argTypes := ats }, type := ty, pos, after, guard } a.eval w fun v w' => Below w.heap.size w w' ∧ Eqs (.bool true) v w' :=
  (op_samerb h1 h2).mono (fun v w' ⟨hb, e⟩ => ⟨hb, by rw [Eqs, e, decide_eq_true h]⟩)
set_option maxRecDepth 20000 in
set_option maxHeartbeats 2000000 in
theorem rtext32_z (w : World) (Br : Nat) (nr : Bool) (ar : Option Addr) (mr cr : Nat) (rs : List Int) (pr : Int) (Ar : Ag w nr ar mr cr rs pr) (Lr : rs.length ≤ Br) (br : Option Addr) (kr dr : Nat) (rt : List Int) (qr : Int) (Sr : Sl w (.slice br kr dr) rt) (Vr : val rt = qr) (Mr : rt.length ≤ Br) (hL : Br ≤ 1000) (hp : nm (tp pr qr) (tq qr) = -3) (hq : dn (tp pr qr) (tq qr) = 2) :
    Calls Tryd.prog 26 #[.agg #[.bool nr, .slice ar mr cr, .slice br kr dr]] w fun e w' => ∃ v, e = .returned v ∧ (Eqs (.string ⟨#[45, 51, 47, 50]⟩)) v w' ∧ Below w.heap.size w w' := by
  go_enter Tryd.func26, Tryd.ntmps26
  generalize hA : (Act.mk _ _) = aa
  have hn : aa.tmps.size = 21 := by rw [← hA]; rfl
  have hd : aa.defers = [] := by rw [← hA]
  have f0 : aa.eval (.tmp 0) = .agg #[.bool nr, .slice ar mr cr, .slice br kr dr] := by rw [← hA]; rfl
  clear hA
  have HB : Below w.heap.size w w := Below.refl _ _
  have Dr : Ag w false br kr dr rt qr := ⟨Sr, Vr⟩
  refine wp_seq ?_
  refine region4 [some 1, some 2] [(fun _ _ => True), Eqs ((.string ⟨#[]⟩))] [⟨R3, some 0, 0, 1, .agg #[.bool nr, .slice ar mr cr, .slice br kr dr], none, []⟩] [] (by kernel_rfl) hn rfl (by kernel_rfl) (by kernel_rfl) (by kernel_rfl) (by kernel_rfl) (by kernel_rfl) (by kernel_rfl) ⟨True.mono4, Eqs.mono4 _, trivial⟩ (ok_cons R3ok ok_nil) (IsOld.all (bx := [⟨R3, some 0, 0, 1, .agg #[.bool nr, .slice ar mr cr, .slice br kr dr], none, []⟩]) ⟨someNe, trivial⟩) (DisOld.all (bx := [⟨R3, some 0, 0, 1, .agg #[.bool nr, .slice ar mr cr, .slice br kr dr], none, []⟩]) ⟨someNe, trivial⟩) ?_ ?_
  · exact ⟨.alloc 0 _ rfl rfl (.inr ⟨_, rfl, r3_cs, fun a_ hR => (hR 0 rfl).trans f0⟩) rfl rfl rfl rfl rfl,
      .norm 2 rfl rfl rfl (fun a_ w_ hn_ hBt hr hR hD hO hS => op_assign rfl),
      trivial⟩
  · intro a1 w1 gs1 hn1 hd1 hBt hr hR hP hX hU
    replace hn := hn1; replace hd := hd1.trans hd
    have b1 : BoxV R3 w1 (gs1 0) (.agg #[.bool nr, .slice ar mr cr, .slice br kr dr]) := (hX 0 _ rfl).2.2.2
    have f1 := (hX 0 _ rfl).1
    have u1 : w.heap.size ≤ gs1 0 := Nat.le_trans HB.size ((hX 0 _ rfl).2.2.1 (by simp))
    have e2 : a1.eval (.tmp 2) = (.string ⟨#[]⟩) := hP 1 (by decide)
    have f2 := e2
    replace Ar := Ar.rl hr
    replace Sr := Sr.rl hr
    replace Dr := Dr.rl hr
    replace HB := HB.trans (hBt.below HB.size (UpOld.all (bx := [⟨R3, some 0, 0, 1, .agg #[.bool nr, .slice ar mr cr, .slice br kr dr], none, []⟩]) ⟨someNe, trivial⟩))
    clear hBt hr hR hP hX hU
    refine wp_seq ?_
    refine region4 [some 5, some 6, some 3, none] [Eqs (.agg #[.bool nr, .slice ar mr cr, .slice br kr dr]), OutR ((nm (tp pr qr) (tq qr))) ((dn (tp pr qr) (tq qr))) (2 * ((Br) + 2)), (fun _ _ => True), (fun _ _ => True)] [⟨R3, some 2, 0, 3, .agg #[.bool false, .slice none 0 0, .slice none 0 0], some (3, 6, 1), []⟩] [] (by kernel_rfl) hn rfl (by kernel_rfl) (by kernel_rfl) (by kernel_rfl) (by kernel_rfl) (by kernel_rfl) (by kernel_rfl) ⟨Eqs.mono4 _, OutR.mono4 _ _ _, True.mono4, True.mono4, trivial⟩ (ok_cons R3ok ok_nil) (IsOld.all (bx := [⟨R3, some 2, 0, 3, .agg #[.bool false, .slice none 0 0, .slice none 0 0], some (3, 6, 1), []⟩]) ⟨someNe, trivial⟩) (DisOld.all (bx := [⟨R3, some 2, 0, 3, .agg #[.bool false, .slice none 0 0, .slice none 0 0], some (3, 6, 1), []⟩]) ⟨someNe, trivial⟩) ?_ ?_
    · exact ⟨.norm 5 rfl rfl rfl (fun a_ w_ hn_ hBt hr hR hD hO hS => op_loadv R3ok ((hR 1 rfl).trans f1) (b1.keep hBt ⟨someNe, trivial⟩)),
        .norm 6 rfl rfl rfl (fun a_ w_ hn_ hBt hr hR hD hO hS => op_rtrim (isr_eq (show a_.eval (.tmp 5) = .agg #[.bool nr, .slice ar mr cr, .slice br kr dr] from hD 0 rfl) (Ar.rl hr) (Sr.rl hr) Vr Lr Mr) (by omega)),
        .alloc 0 _ rfl rfl (.inl ⟨rfl, rfl⟩) rfl rfl rfl rfl rfl,
        .store 0 _ _ _ rfl rfl rfl rfl rfl rfl rfl (fun ia h => by cases h; rfl) rfl rfl rfl OutR.cs,
        trivial⟩
    · intro a2 w2 gs2 hn2 hd2 hBt hr hR hP hX hU
      replace hn := hn2; replace hd := hd2.trans hd
      obtain ⟨n_3, a_3, c_3, r_3, b_3, d_3, s_3, e6, G3, K3, l3, k3⟩ : OutR ((nm (tp pr qr) (tq qr))) ((dn (tp pr qr) (tq qr))) (2 * ((Br) + 2)) (a2.eval (.tmp 6)) w2 := hP 1 (by decide)
      have A3 := G3.ag; have S3 := K3.sl; have V3 := K3.val
      have b3 : BoxV R3 w2 (gs2 0) (.agg #[.bool n_3, .slice a_3 r_3.length c_3, .slice b_3 s_3.length d_3]) := boxv_of (hX 0 _ rfl).2.2.2 e6
      have f3 := (hX 0 _ rfl).1
      have u3 : w.heap.size ≤ gs2 0 := Nat.le_trans HB.size ((hX 0 _ rfl).2.2.1 (by simp))
      replace f2 := (hR 2 rfl).trans f2
      replace Ar := Ar.rl hr
      replace Sr := Sr.rl hr
      replace Dr := Dr.rl hr
      replace HB := HB.trans (hBt.below HB.size (UpOld.all (bx := [⟨R3, some 2, 0, 3, .agg #[.bool false, .slice none 0 0, .slice none 0 0], some (3, 6, 1), []⟩]) ⟨someNe, trivial⟩))
      clear hBt hr hR hP hX hU
      refine wp_seq ?_
      refine region4 [some 7, some 8, some 9, some 4] [Eqs (.pointer (some ⟨gs2 0, 0, none⟩)), Eqs (.agg #[.bool n_3, .slice a_3 r_3.length c_3]), Eqs (.string ⟨#[45, 51]⟩), Eqs (.string ⟨#[45, 51]⟩)] [] [] (by kernel_rfl) hn rfl (by kernel_rfl) (by kernel_rfl) (by kernel_rfl) (by kernel_rfl) (by kernel_rfl) (by kernel_rfl) ⟨Eqs.mono4 _, Eqs.mono4 _, Eqs.mono4 _, Eqs.mono4 _, trivial⟩ ok_nil (IsOld.all (bx := []) trivial) (DisOld.all (bx := []) trivial) ?_ ?_
      · exact ⟨.norm 7 rfl rfl rfl (fun a_ w_ hn_ hBt hr hR hD hO hS => op_faR fa_num ((hR 3 rfl).trans f3)),
          .norm 8 rfl rfl rfl (fun a_ w_ hn_ hBt hr hR hD hO hS => op_ldnum (show a_.eval (.tmp 7) = .pointer (some ⟨gs2 0, 0, none⟩) from hD 0 rfl) (b3.keep hBt trivial)),
          .norm 9 rfl rfl rfl (fun a_ w_ hn_ hBt hr hR hD hO hS => op_text3 (outw_eq (show a_.eval (.tmp 8) = .agg #[.bool n_3, .slice a_3 r_3.length c_3] from hD 1 rfl) (G3.rl hr) l3) hp (by omega)),
          .norm 4 rfl rfl rfl (fun a_ w_ hn_ hBt hr hR hD hO hS => op_assign (show a_.eval (.tmp 9) = .string ⟨#[45, 51]⟩ from hD 2 rfl)),
          trivial⟩
      · intro a4 w4 gs4 hn4 hd4 hBt hr hR hP hX hU
        replace hn := hn4; replace hd := hd4.trans hd
        replace b3 := b3.keep hBt trivial
        replace f2 := (hR 2 rfl).trans f2
        replace f3 := (hR 3 rfl).trans f3
        have e4 : a4.eval (.tmp 4) = .string ⟨#[45, 51]⟩ := hP 3 (by decide)
        have f4 := e4
        replace Ar := Ar.rl hr
        replace Sr := Sr.rl hr
        replace Dr := Dr.rl hr
        replace G3 := G3.rl hr
        replace A3 := A3.rl hr
        replace K3 := K3.rl hr
        replace S3 := S3.rl hr
        replace HB := HB.trans (hBt.below HB.size (UpOld.all (bx := []) trivial))
        clear hBt hr hR hP hX hU
        refine wp_seq ?_
        refine wp_seq ?_
        refine region4 [some 10, some 11, some 12, some 13] [Eqs (.pointer (some ⟨gs2 0, 2, none⟩)), Eqs (.slice b_3 s_3.length d_3), BitsOf ((dn (tp pr qr) (tq qr))), Eqs (.bool (decide ((dn (tp pr qr) (tq qr)) = 1)))] [] [] (by kernel_rfl) hn rfl (by kernel_rfl) (by kernel_rfl) (by kernel_rfl) (by kernel_rfl) (by kernel_rfl) (by kernel_rfl) ⟨Eqs.mono4 _, Eqs.mono4 _, BitsOf.mono4 _, Eqs.mono4 _, trivial⟩ ok_nil (IsOld.all (bx := []) trivial) (DisOld.all (bx := []) trivial) ?_ ?_
        · exact ⟨.norm 10 rfl rfl rfl (fun a_ w_ hn_ hBt hr hR hD hO hS => op_faR fa_den ((hR 3 rfl).trans f3)),
            .norm 11 rfl rfl rfl (fun a_ w_ hn_ hBt hr hR hD hO hS => op_ldden (show a_.eval (.tmp 10) = .pointer (some ⟨gs2 0, 2, none⟩) from hD 0 rfl) (b3.keep hBt trivial)),
            .norm 12 rfl rfl rfl (fun a_ w_ hn_ hBt hr hR hD hO hS => op_lbits (isl_eq (show a_.eval (.tmp 11) = .slice b_3 s_3.length d_3 from hD 1 rfl) (S3.rl hr) V3 k3) (by omega)),
            .norm 13 rfl rfl rfl (fun a_ w_ hn_ hBt hr hR hD hO hS => op_bits1 (show BitsOf ((dn (tp pr qr) (tq qr))) (a_.eval (.tmp 12)) w_ from hD 2 rfl) (by rw [hq]; omega)),
            trivial⟩
        · intro a5 w5 gs5 hn5 hd5 hBt hr hR hP hX hU
          replace hn := hn5; replace hd := hd5.trans hd
          replace b3 := b3.keep hBt trivial
          replace f2 := (hR 2 rfl).trans f2
          replace f3 := (hR 3 rfl).trans f3
          replace f4 := (hR 4 rfl).trans f4
          have e13 : a5.eval (.tmp 13) = .bool (decide ((dn (tp pr qr) (tq qr)) = 1)) := hP 3 (by decide)
          have f13 := e13
          replace Ar := Ar.rl hr
          replace Sr := Sr.rl hr
          replace Dr := Dr.rl hr
          replace G3 := G3.rl hr
          replace A3 := A3.rl hr
          replace K3 := K3.rl hr
          replace S3 := S3.rl hr
          replace HB := HB.trans (hBt.below HB.size (UpOld.all (bx := []) trivial))
          clear hBt hr hR hP hX hU
          refine wp_cond_split f13 (fun hc13 => ?_) (fun hc13 => ?_)
          · skip
            exact absurd (of_decide_eq_true hc13) (by rw [hq]; omega)
          · skip
            refine wp_skip ?_
            refine wp_seq ?_
            refine region4 [some 15, some 16, some 17, some 18, some 19, some 20, some 2] [Eqs (.string ⟨#[45, 51]⟩), Eqs (.string ⟨#[45, 51, 47]⟩), Eqs (.pointer (some ⟨gs2 0, 2, none⟩)), Eqs (.slice b_3 s_3.length d_3), Eqs (.string ⟨#[50]⟩), Eqs (.string ⟨#[45, 51, 47, 50]⟩), Eqs (.string ⟨#[45, 51, 47, 50]⟩)] [] [] (by kernel_rfl) hn rfl (by kernel_rfl) (by kernel_rfl) (by kernel_rfl) (by kernel_rfl) (by kernel_rfl) (by kernel_rfl) ⟨Eqs.mono4 _, Eqs.mono4 _, Eqs.mono4 _, Eqs.mono4 _, Eqs.mono4 _, Eqs.mono4 _, Eqs.mono4 _, trivial⟩ ok_nil (IsOld.all (bx := []) trivial) (DisOld.all (bx := []) trivial) ?_ ?_
            · exact ⟨.norm 15 rfl rfl rfl (fun a_ w_ hn_ hBt hr hR hD hO hS => op_mv ((hR 4 rfl).trans f4)),
                .norm 16 rfl rfl rfl (fun a_ w_ hn_ hBt hr hR hD hO hS => op_cat (show a_.eval (.tmp 15) = .string ⟨#[45, 51]⟩ from hD 0 rfl) rfl (by decide) rfl),
                .norm 17 rfl rfl rfl (fun a_ w_ hn_ hBt hr hR hD hO hS => op_faR fa_den ((hR 3 rfl).trans f3)),
                .norm 18 rfl rfl rfl (fun a_ w_ hn_ hBt hr hR hD hO hS => op_ldden (show a_.eval (.tmp 17) = .pointer (some ⟨gs2 0, 2, none⟩) from hD 2 rfl) (b3.keep hBt trivial)),
                .norm 19 rfl rfl rfl (fun a_ w_ hn_ hBt hr hR hD hO hS => op_text2 (isl_eq (show a_.eval (.tmp 18) = .slice b_3 s_3.length d_3 from hD 3 rfl) (S3.rl hr) V3 k3) hq (by omega)),
                .norm 20 rfl rfl rfl (fun a_ w_ hn_ hBt hr hR hD hO hS => op_cat (show a_.eval (.tmp 16) = .string ⟨#[45, 51, 47]⟩ from hD 1 rfl) (show a_.eval (.tmp 19) = .string ⟨#[50]⟩ from hD 4 rfl) (by decide) rfl),
                .norm 2 rfl rfl rfl (fun a_ w_ hn_ hBt hr hR hD hO hS => op_assign (show a_.eval (.tmp 20) = .string ⟨#[45, 51, 47, 50]⟩ from hD 5 rfl)),
                trivial⟩
            · intro a6 w6 gs6 hn6 hd6 hBt hr hR hP hX hU
              replace hn := hn6; replace hd := hd6.trans hd
              have e2 : a6.eval (.tmp 2) = .string ⟨#[45, 51, 47, 50]⟩ := hP 6 (by decide)
              have f2 := e2
              replace Ar := Ar.rl hr
              replace Sr := Sr.rl hr
              replace Dr := Dr.rl hr
              replace G3 := G3.rl hr
              replace A3 := A3.rl hr
              replace K3 := K3.rl hr
              replace S3 := S3.rl hr
              replace HB := HB.trans (hBt.below HB.size (UpOld.all (bx := []) trivial))
              clear hBt hr hR hP hX hU
              refine wp_ret ?_
              repeat (first | refine then_ret ?_ | refine scope_ret ?_ | refine block_ret ?_)
              exact bodyPost_ret (v := .string ⟨#[45, 51, 47, 50]⟩) (res_t rfl f2) hd ⟨_, rfl, rfl, HB⟩
theorem has_rtext32 : Has Tryd.prog 26 := by unfold Has; kernel_rfl
theorem op_rtext32 {dst : Option Tmp} {ty : TypeId} {pos : String} {after : Array Edge} {guard : Option (Nat × Bool)} {a : Act} {w : World} {ats : Array TypeId} {i : Nat} {Br : Nat} {pr qr : Int} (Hr : IsR pr qr Br (a.eval (.tmp i)) w) (hL : Br ≤ 1000) (hp : nm (tp pr qr) (tq qr) = -3) (hq : dn (tp pr qr) (tq qr) = 2) :
    Does Tryd.prog { dst, op := .call { callee := .value (.func 26), args := #[.tmp i], argTypes := ats }, type := ty, pos, after, guard } a.eval w fun v w' => Below w.heap.size w w' ∧ (Eqs (.string ⟨#[45, 51, 47, 50]⟩)) v w' := by
  obtain ⟨nr, ar, mr, cr, rs, br, kr, dr, rt, er, Ar, Sr, Vr, Lr, Mr⟩ := Hr
  refine does_call has_rtext32 _ (by simp only [List.map_toArray, List.map_cons, List.map_nil, er]) ((rtext32_z w Br _ _ _ _ _ _ Ar Lr _ _ _ _ _ Sr Vr Mr hL hp hq).mono ?_)
  rintro e w' ⟨v, rfl, h1, hb⟩
  exact ⟨_, rfl, hb, h1⟩
set_option maxRecDepth 20000 in
set_option maxHeartbeats 1000000 in
theorem rawake_z (w : World) : Calls Tryd.prog 22 #[] w fun e w' => ∃ v, e = .returned v ∧ (Eqs (.bool true)) v w' ∧ Below w.heap.size w w' := by
  go_enter Tryd.func22, Tryd.ntmps22
  generalize hA : (Act.mk _ _) = aa
  have hn : aa.tmps.size = 16 := by rw [← hA]; rfl
  have hd : aa.defers = [] := by rw [← hA]
  clear hA
  have HB : Below w.heap.size w w := Below.refl _ _
  refine wp_seq ?_
  refine region4 [some 0] [Eqs ((.bool false))] [] [] (by kernel_rfl) hn rfl (by kernel_rfl) (by kernel_rfl) (by kernel_rfl) (by kernel_rfl) (by kernel_rfl) (by kernel_rfl) ⟨Eqs.mono4 _, trivial⟩ ok_nil (IsOld.all (bx := []) trivial) (DisOld.all (bx := []) trivial) ?_ ?_
  · exact ⟨.norm 0 rfl rfl rfl (fun a_ w_ hn_ hBt hr hR hD hO hS => op_assign rfl),
      trivial⟩
  · intro a1 w1 gs1 hn1 hd1 hBt hr hR hP hX hU
    replace hn := hn1; replace hd := hd1.trans hd
    have e0 : a1.eval (.tmp 0) = (.bool false) := hP 0 (by decide)
    have f0 := e0
    replace HB := HB.trans (hBt.below HB.size (UpOld.all (bx := []) trivial))
    clear hBt hr hR hP hX hU
    refine wp_seq ?_
    refine region4 [some 4, some 5, some 6, some 3, some 7, some 8, some 1, none, some 2] [OutW (6) (2), OutW ((-4)) (2), Tup2 (OutR ((nm 6 (-4))) ((dn 6 (-4))) ((2) + (2))) (Eqs (.int .i64 0)), Tup2 (OutR ((nm 6 (-4))) ((dn 6 (-4))) ((2) + (2))) (Eqs (.int .i64 0)), OutR ((nm 6 (-4))) ((dn 6 (-4))) ((2) + (2)), Eqs (.int .i64 0), (fun _ _ => True), (fun _ _ => True), Eqs (.int .i64 0)] [⟨R3, some 6, 0, 1, .agg #[.bool false, .slice none 0 0, .slice none 0 0], some (7, 7, 4), []⟩] [] (by kernel_rfl) hn rfl (by kernel_rfl) (by kernel_rfl) (by kernel_rfl) (by kernel_rfl) (by kernel_rfl) (by kernel_rfl) ⟨OutW.mono4 _ _, OutW.mono4 _ _, Tup2.mono4 (OutR.mono4 _ _ _) (Eqs.mono4 _), Tup2.mono4 (OutR.mono4 _ _ _) (Eqs.mono4 _), OutR.mono4 _ _ _, Eqs.mono4 _, True.mono4, True.mono4, Eqs.mono4 _, trivial⟩ (ok_cons R3ok ok_nil) (IsOld.all (bx := [⟨R3, some 6, 0, 1, .agg #[.bool false, .slice none 0 0, .slice none 0 0], some (7, 7, 4), []⟩]) ⟨someNe, trivial⟩) (DisOld.all (bx := [⟨R3, some 6, 0, 1, .agg #[.bool false, .slice none 0 0, .slice none 0 0], some (7, 7, 4), []⟩]) ⟨someNe, trivial⟩) ?_ ?_
    · exact ⟨.norm 4 rfl rfl rfl (fun a_ w_ hn_ hBt hr hR hD hO hS => op_lsmall (by omega) (by omega)),
        .norm 5 rfl rfl rfl (fun a_ w_ hn_ hBt hr hR hD hO hS => op_lsmall (by omega) (by omega)),
        .norm 6 rfl rfl rfl (fun a_ w_ hn_ hBt hr hR hD hO hS => op_rof (show OutW (6) (2) (a_.eval (.tmp 4)) w_ from hD 0 rfl).is (show OutW ((-4)) (2) (a_.eval (.tmp 5)) w_ from hD 1 rfl).is (by omega) (by omega)),
        .norm 3 rfl rfl rfl (fun a_ w_ hn_ hBt hr hR hD hO hS => op_mvp (p := Tup2 (OutR ((nm 6 (-4))) ((dn 6 (-4))) ((2) + (2))) (Eqs (.int .i64 0))) (show Tup2 (OutR ((nm 6 (-4))) ((dn 6 (-4))) ((2) + (2))) (Eqs (.int .i64 0)) (a_.eval (.tmp 6)) w_ from hD 2 rfl)),
        .norm 7 rfl rfl rfl (fun a_ w_ hn_ hBt hr hR hD hO hS => op_ex20 (show Tup2 (OutR ((nm 6 (-4))) ((dn 6 (-4))) ((2) + (2))) (Eqs (.int .i64 0)) (a_.eval (.tmp 3)) w_ from hD 3 rfl)),
        .norm 8 rfl rfl rfl (fun a_ w_ hn_ hBt hr hR hD hO hS => op_ex21 (show Tup2 (OutR ((nm 6 (-4))) ((dn 6 (-4))) ((2) + (2))) (Eqs (.int .i64 0)) (a_.eval (.tmp 3)) w_ from hD 3 rfl)),
        .alloc 0 _ rfl rfl (.inl ⟨rfl, rfl⟩) rfl rfl rfl rfl rfl,
        .store 0 _ _ _ rfl rfl rfl rfl rfl rfl rfl (fun ia h => by cases h; rfl) rfl rfl rfl OutR.cs,
        .norm 2 rfl rfl rfl (fun a_ w_ hn_ hBt hr hR hD hO hS => op_assign (show a_.eval (.tmp 8) = .int .i64 0 from hD 5 rfl)),
        trivial⟩
    · intro a2 w2 gs2 hn2 hd2 hBt hr hR hP hX hU
      replace hn := hn2; replace hd := hd2.trans hd
      obtain ⟨n_3, a_3, c_3, r_3, b_3, d_3, s_3, e7, G3, K3, l3, k3⟩ : OutR ((nm 6 (-4))) ((dn 6 (-4))) ((2) + (2)) (a2.eval (.tmp 7)) w2 := hP 4 (by decide)
      have A3 := G3.ag; have S3 := K3.sl; have V3 := K3.val
      have b1 : BoxV R3 w2 (gs2 0) (.agg #[.bool n_3, .slice a_3 r_3.length c_3, .slice b_3 s_3.length d_3]) := boxv_of (hX 0 _ rfl).2.2.2 e7
      have f1 := (hX 0 _ rfl).1
      have u1 : w.heap.size ≤ gs2 0 := Nat.le_trans HB.size ((hX 0 _ rfl).2.2.1 (by simp))
      replace f0 := (hR 0 rfl).trans f0
      have e2 : a2.eval (.tmp 2) = .int .i64 0 := hP 8 (by decide)
      have f2 := e2
      replace HB := HB.trans (hBt.below HB.size (UpOld.all (bx := [⟨R3, some 6, 0, 1, .agg #[.bool false, .slice none 0 0, .slice none 0 0], some (7, 7, 4), []⟩]) ⟨someNe, trivial⟩))
      clear hBt hr hR hP hX hU
      refine wp_seq ?_
      refine region4 [some 9, some 10, some 11, some 12, some 13, some 14, some 15, some 0] [Eqs (.int .i64 0), Eqs (.bool true), Eqs (.bool true), Eqs (.agg #[.bool n_3, .slice a_3 r_3.length c_3, .slice b_3 s_3.length d_3]), Eqs (.string ⟨#[45, 51, 47, 50]⟩), Eqs (.bool true), Eqs (.bool true), Eqs (.bool true)] [] [] (by kernel_rfl) hn rfl (by kernel_rfl) (by kernel_rfl) (by kernel_rfl) (by kernel_rfl) (by kernel_rfl) (by kernel_rfl) ⟨Eqs.mono4 _, Eqs.mono4 _, Eqs.mono4 _, Eqs.mono4 _, Eqs.mono4 _, Eqs.mono4 _, Eqs.mono4 _, Eqs.mono4 _, trivial⟩ ok_nil (IsOld.all (bx := []) trivial) (DisOld.all (bx := []) trivial) ?_ ?_
      · exact ⟨.norm 9 rfl rfl rfl (fun a_ w_ hn_ hBt hr hR hD hO hS => op_mv ((hR 2 rfl).trans f2)),
          .norm 10 rfl rfl rfl (fun a_ w_ hn_ hBt hr hR hD hO hS => op_eqle (show a_.eval (.tmp 9) = .int .i64 0 from hD 0 rfl)),
          .norm 11 rfl rfl rfl (fun a_ w_ hn_ hBt hr hR hD hO hS => op_mv (show a_.eval (.tmp 10) = .bool true from hD 1 rfl)),
          .norm 12 rfl rfl rfl (fun a_ w_ hn_ hBt hr hR hD hO hS => ⟨⟨_, rfl⟩, fun _ => op_loadv R3ok ((hR 1 rfl).trans f1) (b1.keep hBt trivial), fun hne => absurd (hD 2 rfl) hne⟩),
          .norm 13 rfl rfl rfl (fun a_ w_ hn_ hBt hr hR hD hO hS => ⟨⟨_, rfl⟩, fun _ => op_rtext32 (isr_eq (show a_.eval (.tmp 12) = .agg #[.bool n_3, .slice a_3 r_3.length c_3, .slice b_3 s_3.length d_3] from hD 3 rfl) (A3.rl hr) (S3.rl hr) V3 l3 k3) (by omega) (by decide) (by decide), fun hne => absurd (hD 2 rfl) hne⟩),
          .norm 14 rfl rfl rfl (fun a_ w_ hn_ hBt hr hR hD hO hS => ⟨⟨_, rfl⟩, fun _ => op_eqls (show a_.eval (.tmp 13) = .string ⟨#[45, 51, 47, 50]⟩ from hD 4 rfl) rfl, fun hne => absurd (hD 2 rfl) hne⟩),
          .norm 15 rfl rfl rfl (fun a_ w_ hn_ hBt hr hR hD hO hS => op_pickb (show a_.eval (.tmp 11) = .bool true from hD 2 rfl) (show a_.eval (.tmp 14) = .bool true from hD 5 rfl)),
          .norm 0 rfl rfl rfl (fun a_ w_ hn_ hBt hr hR hD hO hS => op_assign (show a_.eval (.tmp 15) = .bool true from hD 6 rfl)),
          trivial⟩
      · intro a4 w4 gs4 hn4 hd4 hBt hr hR hP hX hU
        replace hn := hn4; replace hd := hd4.trans hd
        have e0 : a4.eval (.tmp 0) = .bool true := hP 7 (by decide)
        have f0 := e0
        replace G3 := G3.rl hr
        replace A3 := A3.rl hr
        replace K3 := K3.rl hr
        replace S3 := S3.rl hr
        replace HB := HB.trans (hBt.below HB.size (UpOld.all (bx := []) trivial))
        clear hBt hr hR hP hX hU
        refine wp_ret ?_
        repeat (first | refine then_ret ?_ | refine scope_ret ?_ | refine block_ret ?_)
        exact bodyPost_ret (v := .bool true) (res_t rfl f0) hd ⟨_, rfl, rfl, HB⟩
theorem has_rawake : Has Tryd.prog 22 := by unfold Has; kernel_rfl
theorem op_rawake {dst : Option Tmp} {ty : TypeId} {pos : String} {after : Array Edge} {guard : Option (Nat × Bool)} {a : Act} {w : World} {ats : Array TypeId} : Does Tryd.prog { dst, op := .call { callee := .value (.func 22), args := #[], argTypes := ats }, type := ty, pos, after, guard } a.eval w fun v w' => Below w.heap.size w w' ∧ Eqs (.bool true) v w' := by
  refine does_call has_rawake _ (by simp only [List.map_toArray, List.map_nil]) ((rawake_z w).mono ?_)
  rintro e w' ⟨v, rfl, h1, hb⟩
  exact ⟨_, rfl, hb, h1⟩
end Lm
end Go.Proofs.YtdiiankcjgoecaaDoor

namespace Go.Proofs.YtdiiankcjgoecaaDoor
namespace Dm
open Go.RowKit
open Lm (hide lt_of_cell lt_of_heap div_of info32 cmpI cmpI_lt cmpI_gt cmpI_eq ret_i64)
theorem getD_take (zs : List Int) (i k : Nat) (h : i < k) : (zs.take k).getD i 0 = zs.getD i 0 := by
  rw [List.getD_eq_getElem?_getD, List.getD_eq_getElem?_getD, List.getElem?_take, if_pos h]
end Dm
end Go.Proofs.YtdiiankcjgoecaaDoor

namespace Go.Proofs.YtdiiankcjgoecaaDoor
namespace Dm
open Go.RowKit
open Lm (hide)
def Dl (B : Nat) (w : World) (v : Value) (x : Int) (n : Nat) : Prop := ∃ ds, Ow B w v ds ∧ val ds = x ∧ ds.length ≤ n
end Dm
end Go.Proofs.YtdiiankcjgoecaaDoor

namespace Go.Proofs.YtdiiankcjgoecaaDoor
namespace Dm
open Go.RowKit
open Lm (hide lt_of_cell lt_of_heap)
def sg (ng : Bool) (x : Int) : Int := if ng then -x else x
def Wh (w : World) (ng : Bool) (ao : Option Addr) (cap : Nat) (rs : List Int) (z : Int) : Prop := Got w ao cap rs (z.natAbs : Int) ∧ ng = decide (z < 0)
end Dm
end Go.Proofs.YtdiiankcjgoecaaDoor

namespace Go.Proofs.YtdiiankcjgoecaaDoor
namespace Dm
open Go.RowKit
open Lm (hide lt_of_cell lt_of_heap cmpI cmpI_lt cmpI_gt)
theorem sl_nil (w : World) : Sl w (.slice none ([] : List Int).length 0) [] := ⟨none, 0, rfl, Nat.le_refl _, by simp [maxLen], limb_nil, .inl rfl⟩
end Dm
end Go.Proofs.YtdiiankcjgoecaaDoor

namespace Go.Proofs.YtdiiankcjgoecaaDoor
namespace Lm
open Go Go.RowKit
section
variable {dst : Option Tmp} {ty : TypeId} {pos : String} {after : Array Edge} {guard : Option (Nat × Bool)} {a : Act} {w : World} {ats : Array TypeId} {i j : Nat} {x y u v : Int} {L1 L2 : Nat}
theorem op_lssi (h1 : a.eval (.tmp i) = .int .i64 u) (h2 : a.eval (.tmp j) = .int .i64 v) :
    Does Tryd.prog { dst, op := .binOp .lss 3 (.tmp i) (.tmp j) 3, type := ty, pos, after, guard } a.eval w fun v' w' => Below w.heap.size w w' ∧ Eqs (.bool (decide (u < v))) v' w' := by
  refine does_bin (v := .bool (decide (u < v))) ?_ ?_ ⟨Below.refl _ _, rfl⟩
  · rw [h1, h2]; simp [go_sem]
  · rw [h1, h2]; simp [go_sem]
end
end Lm
end Go.Proofs.YtdiiankcjgoecaaDoor

namespace Go.Proofs.YtdiiankcjgoecaaDoor
namespace Lm
open Go Go.RowKit
structure Xb where
  i : Nat
  m : Nat
  S : Says
section
variable {P : Program} {n : Nat} {Ds : List (Option Nat)} {Ps : List Says} {bx : List Bx} {Xt : List Xb} {a0 : Act} {w0 : World} {l : Array Bool} {a : Act} {w w' : World} {i d : Nat} {v : Value}
end
end Lm
end Go.Proofs.YtdiiankcjgoecaaDoor

namespace Go.Proofs.YtdiiankcjgoecaaDoor
namespace Lm
theorem low_parts (p : Int) {q : Int} (hq : q ≠ 0) : ∃ g a b : Int, 0 < g ∧ p = g * a ∧ q = g * b ∧ b ≠ 0 ∧ Int.gcd a b = 1 ∧ nm p q = Int.sign b * a ∧ dn p q = Int.sign b * b := by
  have hg := gcd_pos_right (p := p) hq
  obtain ⟨a, ha⟩ : ((Int.gcd p q : Nat) : Int) ∣ p := Int.gcd_dvd_left p q
  obtain ⟨b, hb⟩ : ((Int.gcd p q : Nat) : Int) ∣ q := Int.gcd_dvd_right p q
  have ea : p / ((Int.gcd p q : Nat) : Int) = a := by
    conv => lhs; lhs; rw [ha]
    exact Int.mul_ediv_cancel_left _ (by omega)
  have eb : q / ((Int.gcd p q : Nat) : Int) = b := by
    conv => lhs; lhs; rw [hb]
    exact Int.mul_ediv_cancel_left _ (by omega)
  have hs : Int.sign q = Int.sign b := by
    rw [hb, Int.sign_mul, Int.sign_eq_one_of_pos hg, Int.one_mul]
  have hc : Int.gcd a b = 1 := by
    have := Int.gcd_ediv_gcd_ediv_gcd (i := p) (j := q) (by omega)
    rwa [ea, eb] at this
  refine ⟨_, a, b, hg, ha, hb, ?_, hc, ?_, ?_⟩
  · rintro rfl
    rw [Int.mul_zero] at hb
    exact hq hb
  · unfold nm
    rw [ea, hs]
  · unfold dn
    rw [eb, hs]
theorem sign_self_pos {b : Int} (h : b ≠ 0) : 0 < Int.sign b * b := by
  rcases Int.lt_trichotomy b 0 with h1 | h1 | h1
  · rw [Int.sign_eq_neg_one_of_neg h1]; omega
  · exact absurd h1 h
  · rw [Int.sign_eq_one_of_pos h1]; omega
theorem dn_pos (p : Int) {q : Int} (hq : q ≠ 0) : 0 < dn p q := by
  obtain ⟨g, a, b, _, _, _, hb, _, _, e⟩ := low_parts p hq
  rw [e]
  exact sign_self_pos hb
end Lm
end Go.Proofs.YtdiiankcjgoecaaDoor

