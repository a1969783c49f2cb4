/-
  The calls on fractions. What the laws on fractions lean on. The contracts of the reference's Sign, Size and Cmp. The contracts of the reference's plus: two magnitudes together. The contract of the reference's less: a magnitude less one that is not above it. The reference's numbers with signs: what a sign and digits are worth; the contract of made. The contract of the reference's Add. The contract of the reference's Minus and Abs. The contract of Book's Own. The contracts of the reference's Of and Told: whole numbers as they are handed in, and as they are told. The contract of the reference's Int. The contract of the reference's Sub. The contract of the reference's Mul. What the reference's divided holds on its way: its memory, and the plain facts on quotient and rest. The contract of the reference's divided. The contract of the reference's Gcd. The contracts of the reference's DivMod and Gcd on whole numbers. Structs that hold the document's own numbers and fractions, and single operations on them, over a frame that is not written out.
-/
import Derived.Deep.QuietTactic
import Derived.BigQuiet
import Derived.Deep.RegionWith
import Derived.Deep.RegionHeld3
import Derived.Deep.AppendLies
import Derived.Deep.DeepCutAuto
import Derived.BigRegion
import Derived.Test.YtdiiankcjgoecaaDoorRTlLawZ1
namespace Go.Proofs.YtdiiankcjgoecaaDoor
namespace Lm
open Go Go.RowKit
section
variable {dst : Option Tmp} {ty : TypeId} {pos : String} {after : Array Edge} {guard : Option (Nat × Bool)} {a : Act} {w : World} {ats : Array TypeId} {i j : Nat} {x y : Int} {L L1 L2 : Nat}
theorem has_wtrim : Has Tryd.prog 18 := by unfold Has; kernel_rfl
theorem op_wtrim (hx : IsW x L1 (a.eval (.tmp i)) w) (h1 : L1 ≤ 400000) :
    Does Tryd.prog { dst, op := .call { callee := .value (.func 18), args := #[.tmp i], argTypes := ats }, type := ty, pos, after, guard } a.eval w fun v w' => Below w.heap.size w w' ∧ OutW x L1 v w' := by
  obtain ⟨n1, a1, m1, c1, xs, e1, A1, l1⟩ := hx
  refine does_call has_wtrim _ (by simp only [List.map_toArray, List.map_cons, List.map_nil, e1]) ((trim_z _ _ _ _ _ _ _ A1 (by omega)).mono ?_)
  rintro e w' ⟨ng, ao, cap, rs, rfl, G, l, hb⟩
  exact ⟨_, rfl, hb, _, _, _, _, rfl, G, by omega⟩
theorem has_small : Has Tryd.prog 55 := by unfold Has; kernel_rfl
theorem op_small {v : Int} (h1 : 0 ≤ v) (h2 : v < 18446744073709551616) :
    Does Tryd.prog { dst, op := .call { callee := .value (.func 55), args := #[.const (.int .u64 v)], argTypes := ats }, type := ty, pos, after, guard } a.eval w fun v' w' => Below w.heap.size w w' ∧ OutL v 2 v' w' := by
  refine does_call has_small _ (by simp only [List.map_toArray, List.map_cons, List.map_nil, Act.eval]) ((small_any w v h1 h2).mono ?_)
  rintro e w' ⟨v', rfl, I, hb⟩
  obtain ⟨ao, cap, rs, rfl, G, l⟩ := got_small I h2
  exact ⟨_, rfl, hb, _, _, _, rfl, G, l⟩
end
set_option maxRecDepth 20000 in
set_option maxHeartbeats 2000000 in
theorem from_z (w : World) (Bx : Nat) (nx : Bool) (ax : Option Addr) (mx cx : Nat) (xs : List Int) (zx : Int) (Ax : Ag w nx ax mx cx xs zx) (Lx : xs.length ≤ Bx) (hL : Bx ≤ 100000) :
    Calls Tryd.prog 58 #[.agg #[.bool nx, .slice ax mx cx]] w fun e w' => ∃ v, e = .returned v ∧ (OutR zx 1 (Bx + 2)) v w' ∧ Below w.heap.size w w' := by
  go_enter Tryd.func58, Tryd.ntmps58
  generalize hA : (Act.mk _ _) = aa
  have hn : aa.tmps.size = 7 := by rw [← hA]; rfl
  have hd : aa.defers = [] := by rw [← hA]
  have f0 : aa.eval (.tmp 0) = .agg #[.bool nx, .slice ax mx cx] := by rw [← hA]; rfl
  clear hA
  have HB : Below w.heap.size w w := Below.refl _ _
  have Tx := Ax.sl
  refine wp_seq ?_
  refine region4 [some 1, some 2] [(fun _ _ => True), (fun _ _ => True)] [⟨W2, some 0, 0, 1, .agg #[.bool nx, .slice ax mx cx], none, []⟩, ⟨R3, some 1, 0, 2, .agg #[.bool false, .slice none 0 0, .slice none 0 0], none, []⟩] [] (by kernel_rfl) hn rfl (by kernel_rfl) (by kernel_rfl) (by kernel_rfl) (by kernel_rfl) (by kernel_rfl) (by kernel_rfl) ⟨True.mono4, True.mono4, trivial⟩ (ok_cons W2ok (ok_cons R3ok ok_nil)) (IsOld.all (bx := [⟨W2, some 0, 0, 1, .agg #[.bool nx, .slice ax mx cx], none, []⟩, ⟨R3, some 1, 0, 2, .agg #[.bool false, .slice none 0 0, .slice none 0 0], none, []⟩]) ⟨someNe, someNe, trivial⟩) (DisOld.all (bx := [⟨W2, some 0, 0, 1, .agg #[.bool nx, .slice ax mx cx], none, []⟩, ⟨R3, some 1, 0, 2, .agg #[.bool false, .slice none 0 0, .slice none 0 0], none, []⟩]) ⟨someNe, someNe, trivial⟩) ?_ ?_
  · exact ⟨.alloc 0 _ rfl rfl (.inr ⟨_, rfl, w2_cs, fun a_ hR => (hR 0 rfl).trans f0⟩) rfl rfl rfl rfl rfl,
      .alloc 1 _ rfl rfl (.inl ⟨rfl, rfl⟩) rfl rfl rfl rfl rfl,
      trivial⟩
  · intro a1 w1 gs1 hn1 hd1 hBt hr hR hP hX hU
    replace hn := hn1; replace hd := hd1.trans hd
    have ne1_2 : gs1 0 ≠ gs1 1 := hU 0 1 (by simp) (by simp) (by decide)
    have b1 : BoxV W2 w1 (gs1 0) (.agg #[.bool nx, .slice ax mx cx]) := (hX 0 _ rfl).2.2.2
    have f1 := (hX 0 _ rfl).1
    have u1 : w.heap.size ≤ gs1 0 := Nat.le_trans HB.size ((hX 0 _ rfl).2.2.1 (by simp))
    have b2 : BoxV R3 w1 (gs1 1) (.agg #[.bool false, .slice none 0 0, .slice none 0 0]) := (hX 1 _ rfl).2.2.2
    have f2 := (hX 1 _ rfl).1
    have u2 : w.heap.size ≤ gs1 1 := Nat.le_trans HB.size ((hX 1 _ rfl).2.2.1 (by simp))
    replace Ax := Ax.rl hr
    replace Tx := Tx.rl hr
    replace HB := HB.trans (hBt.below HB.size (UpOld.all (bx := [⟨W2, some 0, 0, 1, .agg #[.bool nx, .slice ax mx cx], none, []⟩, ⟨R3, some 1, 0, 2, .agg #[.bool false, .slice none 0 0, .slice none 0 0], none, []⟩]) ⟨someNe, someNe, trivial⟩))
    clear hBt hr hR hP hX hU
    refine wp_seq ?_
    refine region4 [some 3, some 4, some 5, some 6, none] [Eqs (.agg #[.bool nx, .slice ax mx cx]), OutW (zx) (Bx), OutL (1) (2), OutR (zx) (1) ((Bx) + (2)), (fun _ _ => True)] [⟨R3, none, (gs1 1), 2, .agg #[.bool false, .slice none 0 0, .slice none 0 0], some (4, 6, 3), []⟩] [] (by kernel_rfl) hn rfl (by kernel_rfl) (by kernel_rfl) (by kernel_rfl) (by kernel_rfl) (by kernel_rfl) (by kernel_rfl) ⟨Eqs.mono4 _, OutW.mono4 _ _, OutL.mono4 _ _, OutR.mono4 _ _ _, True.mono4, trivial⟩ (ok_cons R3ok ok_nil) (IsOld.all (bx := [⟨R3, none, (gs1 1), 2, .agg #[.bool false, .slice none 0 0, .slice none 0 0], some (4, 6, 3), []⟩]) ⟨fun _ => ⟨f2, b2⟩, trivial⟩) (DisOld.all (bx := [⟨R3, none, (gs1 1), 2, .agg #[.bool false, .slice none 0 0, .slice none 0 0], some (4, 6, 3), []⟩]) ⟨fun _ => trivial, trivial⟩) ?_ ?_
    · exact ⟨.norm 3 rfl rfl rfl (fun a_ w_ hn_ hBt hr hR hD hO hS => op_loadv W2ok ((hR 1 rfl).trans f1) (b1.keep hBt ⟨fun _ => ne1_2.symm, trivial⟩)),
        .norm 4 rfl rfl rfl (fun a_ w_ hn_ hBt hr hR hD hO hS => op_wtrim (isw_eq (show a_.eval (.tmp 3) = .agg #[.bool nx, .slice ax mx cx] from hD 0 rfl) (Ax.rl hr) Lx) (by omega)),
        .norm 5 rfl rfl rfl (fun a_ w_ hn_ hBt hr hR hD hO hS => op_small (by omega) (by omega)),
        .norm 6 rfl rfl rfl (fun a_ w_ hn_ hBt hr hR hD hO hS => op_bRo ((show OutW (zx) (Bx) (a_.eval (.tmp 4)) w_ from hD 1 rfl).to rfl (by omega)) ((show OutL (1) (2) (a_.eval (.tmp 5)) w_ from hD 2 rfl).to (by omega))),
        .store 0 _ _ _ rfl rfl rfl rfl rfl rfl rfl (fun ia h => by cases h) rfl rfl rfl OutR.cs,
        trivial⟩
    · intro a2 w2 gs2 hn2 hd2 hBt hr hR hP hX hU
      replace hn := hn2; replace hd := hd2.trans hd
      obtain ⟨n_3, a_3, c_3, r_3, b_3, d_3, s_3, e6, G3, K3, l3, k3⟩ : OutR (zx) (1) ((Bx) + (2)) (a2.eval (.tmp 6)) w2 := hP 3 (by decide)
      have A3 := G3.ag; have S3 := K3.sl; have V3 := K3.val
      have b2 : BoxV R3 w2 ((gs1 1)) (.agg #[.bool n_3, .slice a_3 r_3.length c_3, .slice b_3 s_3.length d_3]) := boxv_old ((hX 0 _ rfl).2.1 rfl) (hX 0 _ rfl).2.2.2 e6
      replace f2 : a2.eval (.tmp 2) = _ := (hR 2 rfl).trans f2
      replace Ax := Ax.rl hr
      replace Tx := Tx.rl hr
      replace HB := HB.trans (hBt.below HB.size (UpOld.all (bx := [⟨R3, none, (gs1 1), 2, .agg #[.bool false, .slice none 0 0, .slice none 0 0], some (4, 6, 3), []⟩]) ⟨fun _ => u2, trivial⟩))
      clear hBt hr hR hP hX hU
      refine wp_ret ?_
      repeat (first | refine then_ret ?_ | refine scope_ret ?_ | refine block_ret ?_)
      exact bodyPost_ret (v := .agg #[.bool n_3, .slice a_3 r_3.length c_3, .slice b_3 s_3.length d_3]) (res_c rfl f2 (lv_R3 b2)) hd ⟨_, rfl, OutR.to (outr_eq rfl G3 K3 l3 k3) rfl rfl (by omega), HB⟩
theorem has_from : Has Tryd.prog 58 := by unfold Has; kernel_rfl
theorem op_from {dst : Option Tmp} {ty : TypeId} {pos : String} {after : Array Edge} {guard : Option (Nat × Bool)} {a : Act} {w : World} {ats : Array TypeId} {i : Nat} {Bx : Nat} {zx : Int} (Hx : IsW zx Bx (a.eval (.tmp i)) w) (hL : Bx ≤ 100000) :
    Does Tryd.prog { dst, op := .call { callee := .value (.func 58), args := #[.tmp i], argTypes := ats }, type := ty, pos, after, guard } a.eval w fun v w' => Below w.heap.size w w' ∧ (OutR zx 1 (Bx + 2)) v w' := by
  obtain ⟨nx, ax, mx, cx, xs, ex, Ax, Lx⟩ := Hx
  refine does_call has_from _ (by simp only [List.map_toArray, List.map_cons, List.map_nil, ex]) ((from_z w Bx _ _ _ _ _ _ Ax Lx hL).mono ?_)
  rintro e w' ⟨v, rfl, h1, hb⟩
  exact ⟨_, rfl, hb, h1⟩
set_option maxRecDepth 20000 in
set_option maxHeartbeats 2000000 in
theorem rtrim_z (w : World) (Br : Nat) (nr : Bool) (ar : Option Addr) (mr cr : Nat) (rs : List Int) (pr : Int) (Ar : Ag w nr ar mr cr rs pr) (Lr : rs.length ≤ Br) (br : Option Addr) (kr dr : Nat) (rt : List Int) (qr : Int) (Sr : Sl w (.slice br kr dr) rt) (Vr : val rt = qr) (Mr : rt.length ≤ Br) (hL : 2 * (Br + 2) ≤ 100000) :
    Calls Tryd.prog 31 #[.agg #[.bool nr, .slice ar mr cr, .slice br kr dr]] w fun e w' => ∃ v, e = .returned v ∧ (OutR (nm (tp pr qr) (tq qr)) (dn (tp pr qr) (tq qr)) (2 * (Br + 2))) v w' ∧ Below w.heap.size w w' := by
  go_enter Tryd.func31, Tryd.ntmps31
  generalize hA : (Act.mk _ _) = aa
  have hn : aa.tmps.size = 8 := by rw [← hA]; rfl
  have hd : aa.defers = [] := by rw [← hA]
  have f0 : aa.eval (.tmp 0) = .agg #[.bool nr, .slice ar mr cr, .slice br kr dr] := by rw [← hA]; rfl
  clear hA
  have HB : Below w.heap.size w w := Below.refl _ _
  have Dr : Ag w false br kr dr rt qr := ⟨Sr, Vr⟩
  refine wp_seq ?_
  refine region4 [some 1, some 2] [(fun _ _ => True), (fun _ _ => True)] [⟨R3, some 0, 0, 1, .agg #[.bool nr, .slice ar mr cr, .slice br kr dr], none, []⟩, ⟨R3, some 1, 0, 2, .agg #[.bool false, .slice none 0 0, .slice none 0 0], none, []⟩] [] (by kernel_rfl) hn rfl (by kernel_rfl) (by kernel_rfl) (by kernel_rfl) (by kernel_rfl) (by kernel_rfl) (by kernel_rfl) ⟨True.mono4, True.mono4, trivial⟩ (ok_cons R3ok (ok_cons R3ok ok_nil)) (IsOld.all (bx := [⟨R3, some 0, 0, 1, .agg #[.bool nr, .slice ar mr cr, .slice br kr dr], none, []⟩, ⟨R3, some 1, 0, 2, .agg #[.bool false, .slice none 0 0, .slice none 0 0], none, []⟩]) ⟨someNe, someNe, trivial⟩) (DisOld.all (bx := [⟨R3, some 0, 0, 1, .agg #[.bool nr, .slice ar mr cr, .slice br kr dr], none, []⟩, ⟨R3, some 1, 0, 2, .agg #[.bool false, .slice none 0 0, .slice none 0 0], none, []⟩]) ⟨someNe, someNe, trivial⟩) ?_ ?_
  · exact ⟨.alloc 0 _ rfl rfl (.inr ⟨_, rfl, r3_cs, fun a_ hR => (hR 0 rfl).trans f0⟩) rfl rfl rfl rfl rfl,
      .alloc 1 _ rfl rfl (.inl ⟨rfl, rfl⟩) rfl rfl rfl rfl rfl,
      trivial⟩
  · intro a1 w1 gs1 hn1 hd1 hBt hr hR hP hX hU
    replace hn := hn1; replace hd := hd1.trans hd
    have ne1_2 : gs1 0 ≠ gs1 1 := hU 0 1 (by simp) (by simp) (by decide)
    have b1 : BoxV R3 w1 (gs1 0) (.agg #[.bool nr, .slice ar mr cr, .slice br kr dr]) := (hX 0 _ rfl).2.2.2
    have f1 := (hX 0 _ rfl).1
    have u1 : w.heap.size ≤ gs1 0 := Nat.le_trans HB.size ((hX 0 _ rfl).2.2.1 (by simp))
    have b2 : BoxV R3 w1 (gs1 1) (.agg #[.bool false, .slice none 0 0, .slice none 0 0]) := (hX 1 _ rfl).2.2.2
    have f2 := (hX 1 _ rfl).1
    have u2 : w.heap.size ≤ gs1 1 := Nat.le_trans HB.size ((hX 1 _ rfl).2.2.1 (by simp))
    replace Ar := Ar.rl hr
    replace Sr := Sr.rl hr
    replace Dr := Dr.rl hr
    replace HB := HB.trans (hBt.below HB.size (UpOld.all (bx := [⟨R3, some 0, 0, 1, .agg #[.bool nr, .slice ar mr cr, .slice br kr dr], none, []⟩, ⟨R3, some 1, 0, 2, .agg #[.bool false, .slice none 0 0, .slice none 0 0], none, []⟩]) ⟨someNe, someNe, trivial⟩))
    clear hBt hr hR hP hX hU
    refine wp_seq ?_
    refine region4 [some 3, some 4, some 5, some 6, some 7, none] [Eqs (.agg #[.bool nr, .slice ar mr cr, .slice br kr dr]), Tup2 (IsW ((tp pr qr)) ((Br) + 2)) (IsW ((tq qr)) ((Br) + 2)), IsW ((tp pr qr)) ((Br) + 2), IsW ((tq qr)) ((Br) + 2), OutR ((nm (tp pr qr) (tq qr))) ((dn (tp pr qr) (tq qr))) (((Br) + 2) + ((Br) + 2)), (fun _ _ => True)] [⟨R3, none, (gs1 1), 2, .agg #[.bool false, .slice none 0 0, .slice none 0 0], some (5, 7, 4), []⟩] [] (by kernel_rfl) hn rfl (by kernel_rfl) (by kernel_rfl) (by kernel_rfl) (by kernel_rfl) (by kernel_rfl) (by kernel_rfl) ⟨Eqs.mono4 _, Tup2.mono4 (IsW.mono4 _ _) (IsW.mono4 _ _), IsW.mono4 _ _, IsW.mono4 _ _, OutR.mono4 _ _ _, True.mono4, trivial⟩ (ok_cons R3ok ok_nil) (IsOld.all (bx := [⟨R3, none, (gs1 1), 2, .agg #[.bool false, .slice none 0 0, .slice none 0 0], some (5, 7, 4), []⟩]) ⟨fun _ => ⟨f2, b2⟩, trivial⟩) (DisOld.all (bx := [⟨R3, none, (gs1 1), 2, .agg #[.bool false, .slice none 0 0, .slice none 0 0], some (5, 7, 4), []⟩]) ⟨fun _ => trivial, trivial⟩) ?_ ?_
    · exact ⟨.norm 3 rfl rfl rfl (fun a_ w_ hn_ hBt hr hR hD hO hS => op_loadv R3ok ((hR 1 rfl).trans f1) (b1.keep hBt ⟨fun _ => ne1_2.symm, trivial⟩)),
        .norm 4 rfl rfl rfl (fun a_ w_ hn_ hBt hr hR hD hO hS => op_terms (isr_eq (show a_.eval (.tmp 3) = .agg #[.bool nr, .slice ar mr cr, .slice br kr dr] from hD 0 rfl) (Ar.rl hr) (Sr.rl hr) Vr Lr Mr) (by omega)),
        .norm 5 rfl rfl rfl (fun a_ w_ hn_ hBt hr hR hD hO hS => op_ex20 (show Tup2 (IsW ((tp pr qr)) ((Br) + 2)) (IsW ((tq qr)) ((Br) + 2)) (a_.eval (.tmp 4)) w_ from hD 1 rfl)),
        .norm 6 rfl rfl rfl (fun a_ w_ hn_ hBt hr hR hD hO hS => op_ex21 (show Tup2 (IsW ((tp pr qr)) ((Br) + 2)) (IsW ((tq qr)) ((Br) + 2)) (a_.eval (.tmp 4)) w_ from hD 1 rfl)),
        .norm 7 rfl rfl rfl (fun a_ w_ hn_ hBt hr hR hD hO hS => op_lowest (show IsW ((tp pr qr)) ((Br) + 2) (a_.eval (.tmp 5)) w_ from hD 2 rfl) (show IsW ((tq qr)) ((Br) + 2) (a_.eval (.tmp 6)) w_ from hD 3 rfl) (by omega) (tq_ne _)),
        .store 0 _ _ _ rfl rfl rfl rfl rfl rfl rfl (fun ia h => by cases h) rfl rfl rfl OutR.cs,
        trivial⟩
    · intro a2 w2 gs2 hn2 hd2 hBt hr hR hP hX hU
      replace hn := hn2; replace hd := hd2.trans hd
      obtain ⟨n_3, a_3, c_3, r_3, b_3, d_3, s_3, e7, G3, K3, l3, k3⟩ : OutR ((nm (tp pr qr) (tq qr))) ((dn (tp pr qr) (tq qr))) (((Br) + 2) + ((Br) + 2)) (a2.eval (.tmp 7)) w2 := hP 4 (by decide)
      have A3 := G3.ag; have S3 := K3.sl; have V3 := K3.val
      have b2 : BoxV R3 w2 ((gs1 1)) (.agg #[.bool n_3, .slice a_3 r_3.length c_3, .slice b_3 s_3.length d_3]) := boxv_old ((hX 0 _ rfl).2.1 rfl) (hX 0 _ rfl).2.2.2 e7
      replace f2 : a2.eval (.tmp 2) = _ := (hR 2 rfl).trans f2
      replace Ar := Ar.rl hr
      replace Sr := Sr.rl hr
      replace Dr := Dr.rl hr
      replace HB := HB.trans (hBt.below HB.size (UpOld.all (bx := [⟨R3, none, (gs1 1), 2, .agg #[.bool false, .slice none 0 0, .slice none 0 0], some (5, 7, 4), []⟩]) ⟨fun _ => u2, trivial⟩))
      clear hBt hr hR hP hX hU
      refine wp_ret ?_
      repeat (first | refine then_ret ?_ | refine scope_ret ?_ | refine block_ret ?_)
      exact bodyPost_ret (v := .agg #[.bool n_3, .slice a_3 r_3.length c_3, .slice b_3 s_3.length d_3]) (res_c rfl f2 (lv_R3 b2)) hd ⟨_, rfl, OutR.to (outr_eq rfl G3 K3 l3 k3) rfl rfl (by omega), HB⟩
theorem has_rtrim : Has Tryd.prog 31 := by unfold Has; kernel_rfl
theorem op_rtrim {dst : Option Tmp} {ty : TypeId} {pos : String} {after : Array Edge} {guard : Option (Nat × Bool)} {a : Act} {w : World} {ats : Array TypeId} {i : Nat} {Br : Nat} {pr qr : Int} (Hr : IsR pr qr Br (a.eval (.tmp i)) w) (hL : 2 * (Br + 2) ≤ 100000) :
    Does Tryd.prog { dst, op := .call { callee := .value (.func 31), args := #[.tmp i], argTypes := ats }, type := ty, pos, after, guard } a.eval w fun v w' => Below w.heap.size w w' ∧ (OutR (nm (tp pr qr) (tq qr)) (dn (tp pr qr) (tq qr)) (2 * (Br + 2))) v w' := by
  obtain ⟨nr, ar, mr, cr, rs, br, kr, dr, rt, er, Ar, Sr, Vr, Lr, Mr⟩ := Hr
  refine does_call has_rtrim _ (by simp only [List.map_toArray, List.map_cons, List.map_nil, er]) ((rtrim_z w Br _ _ _ _ _ _ Ar Lr _ _ _ _ _ Sr Vr Mr hL).mono ?_)
  rintro e w' ⟨v, rfl, h1, hb⟩
  exact ⟨_, rfl, hb, h1⟩
set_option maxRecDepth 20000 in
set_option maxHeartbeats 2000000 in
theorem rof_z (w : World) (Bx : Nat) (nx : Bool) (ax : Option Addr) (mx cx : Nat) (xs : List Int) (zx : Int) (Ax : Ag w nx ax mx cx xs zx) (Lx : xs.length ≤ Bx) (By : Nat) (ny : Bool) (ay : Option Addr) (my cy : Nat) (ys : List Int) (zy : Int) (Ay : Ag w ny ay my cy ys zy) (Ly : ys.length ≤ By) (hL : Bx + By ≤ 100000) (hy : zy ≠ 0) :
    Calls Tryd.prog 56 #[.agg #[.bool nx, .slice ax mx cx], .agg #[.bool ny, .slice ay my cy]] w fun e w' => ∃ v, e = .returned v ∧ (Tup2 (OutR (nm zx zy) (dn zx zy) (Bx + By)) (Eqs (.int .i64 0))) v w' ∧ Below w.heap.size w w' := by
  go_enter Tryd.func56, Tryd.ntmps56
  generalize hA : (Act.mk _ _) = aa
  have hn : aa.tmps.size = 13 := by rw [← hA]; rfl
  have hd : aa.defers = [] := by rw [← hA]
  have f0 : aa.eval (.tmp 0) = .agg #[.bool nx, .slice ax mx cx] := by rw [← hA]; rfl
  have f1 : aa.eval (.tmp 1) = .agg #[.bool ny, .slice ay my cy] := by rw [← hA]; rfl
  clear hA
  have HB : Below w.heap.size w w := Below.refl _ _
  have Tx := Ax.sl
  have Ty := Ay.sl
  refine wp_seq ?_
  refine region4 [some 2, some 3, some 4, some 5] [(fun _ _ => True), (fun _ _ => True), (fun _ _ => True), Eqs ((.int .i64 0))] [⟨W2, some 0, 0, 2, .agg #[.bool nx, .slice ax mx cx], none, []⟩, ⟨W2, some 1, 0, 3, .agg #[.bool ny, .slice ay my cy], none, []⟩, ⟨R3, some 2, 0, 4, .agg #[.bool false, .slice none 0 0, .slice none 0 0], none, []⟩] [] (by kernel_rfl) hn rfl (by kernel_rfl) (by kernel_rfl) (by kernel_rfl) (by kernel_rfl) (by kernel_rfl) (by kernel_rfl) ⟨True.mono4, True.mono4, True.mono4, Eqs.mono4 _, trivial⟩ (ok_cons W2ok (ok_cons W2ok (ok_cons R3ok ok_nil))) (IsOld.all (bx := [⟨W2, some 0, 0, 2, .agg #[.bool nx, .slice ax mx cx], none, []⟩, ⟨W2, some 1, 0, 3, .agg #[.bool ny, .slice ay my cy], none, []⟩, ⟨R3, some 2, 0, 4, .agg #[.bool false, .slice none 0 0, .slice none 0 0], none, []⟩]) ⟨someNe, someNe, someNe, trivial⟩) (DisOld.all (bx := [⟨W2, some 0, 0, 2, .agg #[.bool nx, .slice ax mx cx], none, []⟩, ⟨W2, some 1, 0, 3, .agg #[.bool ny, .slice ay my cy], none, []⟩, ⟨R3, some 2, 0, 4, .agg #[.bool false, .slice none 0 0, .slice none 0 0], none, []⟩]) ⟨someNe, someNe, someNe, trivial⟩) ?_ ?_
  · exact ⟨.alloc 0 _ rfl rfl (.inr ⟨_, rfl, w2_cs, fun a_ hR => (hR 0 rfl).trans f0⟩) rfl rfl rfl rfl rfl,
      .alloc 1 _ rfl rfl (.inr ⟨_, rfl, w2_cs, fun a_ hR => (hR 1 rfl).trans f1⟩) rfl rfl rfl rfl rfl,
      .alloc 2 _ rfl rfl (.inl ⟨rfl, rfl⟩) rfl rfl rfl rfl rfl,
      .norm 5 rfl rfl rfl (fun a_ w_ hn_ hBt hr hR hD hO hS => op_assign rfl),
      trivial⟩
  · intro a1 w1 gs1 hn1 hd1 hBt hr hR hP hX hU
    replace hn := hn1; replace hd := hd1.trans hd
    have ne2_4 : gs1 0 ≠ gs1 2 := hU 0 2 (by simp) (by simp) (by decide)
    have ne3_4 : gs1 1 ≠ gs1 2 := hU 1 2 (by simp) (by simp) (by decide)
    have b2 : BoxV W2 w1 (gs1 0) (.agg #[.bool nx, .slice ax mx cx]) := (hX 0 _ rfl).2.2.2
    have f2 := (hX 0 _ rfl).1
    have u2 : w.heap.size ≤ gs1 0 := Nat.le_trans HB.size ((hX 0 _ rfl).2.2.1 (by simp))
    have b3 : BoxV W2 w1 (gs1 1) (.agg #[.bool ny, .slice ay my cy]) := (hX 1 _ rfl).2.2.2
    have f3 := (hX 1 _ rfl).1
    have u3 : w.heap.size ≤ gs1 1 := Nat.le_trans HB.size ((hX 1 _ rfl).2.2.1 (by simp))
    have b4 : BoxV R3 w1 (gs1 2) (.agg #[.bool false, .slice none 0 0, .slice none 0 0]) := (hX 2 _ rfl).2.2.2
    have f4 := (hX 2 _ rfl).1
    have u4 : w.heap.size ≤ gs1 2 := Nat.le_trans HB.size ((hX 2 _ rfl).2.2.1 (by simp))
    have e5 : a1.eval (.tmp 5) = (.int .i64 0) := hP 3 (by decide)
    have f5 := e5
    replace Ax := Ax.rl hr
    replace Tx := Tx.rl hr
    replace Ay := Ay.rl hr
    replace Ty := Ty.rl hr
    replace HB := HB.trans (hBt.below HB.size (UpOld.all (bx := [⟨W2, some 0, 0, 2, .agg #[.bool nx, .slice ax mx cx], none, []⟩, ⟨W2, some 1, 0, 3, .agg #[.bool ny, .slice ay my cy], none, []⟩, ⟨R3, some 2, 0, 4, .agg #[.bool false, .slice none 0 0, .slice none 0 0], none, []⟩]) ⟨someNe, someNe, someNe, trivial⟩))
    clear hBt hr hR hP hX hU
    refine wp_seq ?_
    refine wp_seq ?_
    refine region4 [some 6, some 7, some 8] [Eqs (.agg #[.bool ny, .slice ay my cy]), Eqs (.int .i64 (Int.sign zy)), Eqs (.bool (decide ((Int.sign zy) = 0)))] [] [] (by kernel_rfl) hn rfl (by kernel_rfl) (by kernel_rfl) (by kernel_rfl) (by kernel_rfl) (by kernel_rfl) (by kernel_rfl) ⟨Eqs.mono4 _, Eqs.mono4 _, Eqs.mono4 _, trivial⟩ ok_nil (IsOld.all (bx := []) trivial) (DisOld.all (bx := []) trivial) ?_ ?_
    · exact ⟨.norm 6 rfl rfl rfl (fun a_ w_ hn_ hBt hr hR hD hO hS => op_loadv W2ok ((hR 3 rfl).trans f3) (b3.keep hBt trivial)),
        .norm 7 rfl rfl rfl (fun a_ w_ hn_ hBt hr hR hD hO hS => op_sign (isw_eq (show a_.eval (.tmp 6) = .agg #[.bool ny, .slice ay my cy] from hD 0 rfl) (Ay.rl hr) Ly) (by omega)),
        .norm 8 rfl rfl rfl (fun a_ w_ hn_ hBt hr hR hD hO hS => op_eqlk (show a_.eval (.tmp 7) = .int .i64 (Int.sign zy) from hD 1 rfl)),
        trivial⟩
    · intro a2 w2 gs2 hn2 hd2 hBt hr hR hP hX hU
      replace hn := hn2; replace hd := hd2.trans hd
      replace b2 := b2.keep hBt trivial
      replace b3 := b3.keep hBt trivial
      replace b4 := b4.keep hBt trivial
      replace f2 := (hR 2 rfl).trans f2
      replace f3 := (hR 3 rfl).trans f3
      replace f4 := (hR 4 rfl).trans f4
      replace f5 := (hR 5 rfl).trans f5
      have e8 : a2.eval (.tmp 8) = .bool (decide ((Int.sign zy) = 0)) := hP 2 (by decide)
      have f8 := e8
      replace Ax := Ax.rl hr
      replace Tx := Tx.rl hr
      replace Ay := Ay.rl hr
      replace Ty := Ty.rl hr
      replace HB := HB.trans (hBt.below HB.size (UpOld.all (bx := []) trivial))
      clear hBt hr hR hP hX hU
      refine wp_cond_split f8 (fun hc8 => ?_) (fun hc8 => ?_)
      · skip
        exact absurd (sign_zero_iff.1 (of_decide_eq_true hc8)) hy
      · skip
        refine wp_skip ?_
        refine wp_seq ?_
        refine region4 [some 10, some 11, some 12, none, some 5] [Eqs (.agg #[.bool nx, .slice ax mx cx]), Eqs (.agg #[.bool ny, .slice ay my cy]), OutR ((nm zx zy)) ((dn zx zy)) ((Bx) + (By)), (fun _ _ => True), Eqs ((.int .i64 0))] [⟨R3, none, (gs1 2), 4, .agg #[.bool false, .slice none 0 0, .slice none 0 0], some (3, 12, 2), []⟩] [] (by kernel_rfl) hn rfl (by kernel_rfl) (by kernel_rfl) (by kernel_rfl) (by kernel_rfl) (by kernel_rfl) (by kernel_rfl) ⟨Eqs.mono4 _, Eqs.mono4 _, OutR.mono4 _ _ _, True.mono4, Eqs.mono4 _, trivial⟩ (ok_cons R3ok ok_nil) (IsOld.all (bx := [⟨R3, none, (gs1 2), 4, .agg #[.bool false, .slice none 0 0, .slice none 0 0], some (3, 12, 2), []⟩]) ⟨fun _ => ⟨f4, b4⟩, trivial⟩) (DisOld.all (bx := [⟨R3, none, (gs1 2), 4, .agg #[.bool false, .slice none 0 0, .slice none 0 0], some (3, 12, 2), []⟩]) ⟨fun _ => trivial, trivial⟩) ?_ ?_
        · exact ⟨.norm 10 rfl rfl rfl (fun a_ w_ hn_ hBt hr hR hD hO hS => op_loadv W2ok ((hR 2 rfl).trans f2) (b2.keep hBt ⟨fun _ => ne2_4.symm, trivial⟩)),
            .norm 11 rfl rfl rfl (fun a_ w_ hn_ hBt hr hR hD hO hS => op_loadv W2ok ((hR 3 rfl).trans f3) (b3.keep hBt ⟨fun _ => ne3_4.symm, trivial⟩)),
            .norm 12 rfl rfl rfl (fun a_ w_ hn_ hBt hr hR hD hO hS => op_lowest (isw_eq (show a_.eval (.tmp 10) = .agg #[.bool nx, .slice ax mx cx] from hD 0 rfl) (Ax.rl hr) Lx) (isw_eq (show a_.eval (.tmp 11) = .agg #[.bool ny, .slice ay my cy] from hD 1 rfl) (Ay.rl hr) Ly) (by omega) hy),
            .store 0 _ _ _ rfl rfl rfl rfl rfl rfl rfl (fun ia h => by cases h) rfl rfl rfl OutR.cs,
            .norm 5 rfl rfl rfl (fun a_ w_ hn_ hBt hr hR hD hO hS => op_assign rfl),
            trivial⟩
        · intro a3 w3 gs3 hn3 hd3 hBt hr hR hP hX hU
          replace hn := hn3; replace hd := hd3.trans hd
          obtain ⟨n_4, a_4, c_4, r_4, b_4, d_4, s_4, e12, G4, K4, l4, k4⟩ : OutR ((nm zx zy)) ((dn zx zy)) ((Bx) + (By)) (a3.eval (.tmp 12)) w3 := hP 2 (by decide)
          have A4 := G4.ag; have S4 := K4.sl; have V4 := K4.val
          have b4 : BoxV R3 w3 ((gs1 2)) (.agg #[.bool n_4, .slice a_4 r_4.length c_4, .slice b_4 s_4.length d_4]) := boxv_old ((hX 0 _ rfl).2.1 rfl) (hX 0 _ rfl).2.2.2 e12
          replace f4 : a3.eval (.tmp 4) = _ := (hR 4 rfl).trans f4
          have e5 : a3.eval (.tmp 5) = (.int .i64 0) := hP 4 (by decide)
          have f5 := e5
          replace Ax := Ax.rl hr
          replace Tx := Tx.rl hr
          replace Ay := Ay.rl hr
          replace Ty := Ty.rl hr
          replace HB := HB.trans (hBt.below HB.size (UpOld.all (bx := [⟨R3, none, (gs1 2), 4, .agg #[.bool false, .slice none 0 0, .slice none 0 0], some (3, 12, 2), []⟩]) ⟨fun _ => u4, trivial⟩))
          clear hBt hr hR hP hX hU
          refine wp_ret ?_
          repeat (first | refine then_ret ?_ | refine scope_ret ?_ | refine block_ret ?_)
          exact bodyPost_ret (v := .tuple #[.agg #[.bool n_4, .slice a_4 r_4.length c_4, .slice b_4 s_4.length d_4], (.int .i64 0)]) (res_ct rfl f4 (lv_R3 b4) f5) hd ⟨_, rfl, ⟨_, _, rfl, OutR.to (outr_eq rfl G4 K4 l4 k4) rfl rfl (by omega), rfl⟩, HB⟩
theorem has_rof : Has Tryd.prog 56 := by unfold Has; kernel_rfl
theorem op_rof {dst : Option Tmp} {ty : TypeId} {pos : String} {after : Array Edge} {guard : Option (Nat × Bool)} {a : Act} {w : World} {ats : Array TypeId} {i j : Nat} {Bx : Nat} {zx : Int} (Hx : IsW zx Bx (a.eval (.tmp i)) w) {By : Nat} {zy : Int} (Hy : IsW zy By (a.eval (.tmp j)) w) (hL : Bx + By ≤ 100000) (hy : zy ≠ 0) :
    Does Tryd.prog { dst, op := .call { callee := .value (.func 56), args := #[.tmp i, .tmp j], argTypes := ats }, type := ty, pos, after, guard } a.eval w fun v w' => Below w.heap.size w w' ∧ (Tup2 (OutR (nm zx zy) (dn zx zy) (Bx + By)) (Eqs (.int .i64 0))) v w' := by
  obtain ⟨nx, ax, mx, cx, xs, ex, Ax, Lx⟩ := Hx
  obtain ⟨ny, ay, my, cy, ys, ey, Ay, Ly⟩ := Hy
  refine does_call has_rof _ (by simp only [List.map_toArray, List.map_cons, List.map_nil, ex, ey]) ((rof_z w Bx _ _ _ _ _ _ Ax Lx By _ _ _ _ _ _ Ay Ly hL hy).mono ?_)
  rintro e w' ⟨v, rfl, h1, hb⟩
  exact ⟨_, rfl, hb, h1⟩
set_option maxRecDepth 20000 in
set_option maxHeartbeats 2000000 in
theorem rof0_z (w : World) (Bx : Nat) (nx : Bool) (ax : Option Addr) (mx cx : Nat) (xs : List Int) (zx : Int) (Ax : Ag w nx ax mx cx xs zx) (Lx : xs.length ≤ Bx) (By : Nat) (ny : Bool) (ay : Option Addr) (my cy : Nat) (ys : List Int) (zy : Int) (Ay : Ag w ny ay my cy ys zy) (Ly : ys.length ≤ By) (hL : Bx + By ≤ 100000) (hy : zy = 0) :
    Calls Tryd.prog 56 #[.agg #[.bool nx, .slice ax mx cx], .agg #[.bool ny, .slice ay my cy]] w fun e w' => ∃ v, e = .returned v ∧ (Tup2 (Eqs (.agg #[.bool false, .slice none 0 0, .slice none 0 0])) (Eqs (.int .i64 20))) v w' ∧ Below w.heap.size w w' := by
  go_enter Tryd.func56, Tryd.ntmps56
  generalize hA : (Act.mk _ _) = aa
  have hn : aa.tmps.size = 13 := by rw [← hA]; rfl
  have hd : aa.defers = [] := by rw [← hA]
  have f0 : aa.eval (.tmp 0) = .agg #[.bool nx, .slice ax mx cx] := by rw [← hA]; rfl
  have f1 : aa.eval (.tmp 1) = .agg #[.bool ny, .slice ay my cy] := by rw [← hA]; rfl
  clear hA
  have HB : Below w.heap.size w w := Below.refl _ _
  have Tx := Ax.sl
  have Ty := Ay.sl
  refine wp_seq ?_
  refine region4 [some 2, some 3, some 4, some 5] [(fun _ _ => True), (fun _ _ => True), (fun _ _ => True), Eqs ((.int .i64 0))] [⟨W2, some 0, 0, 2, .agg #[.bool nx, .slice ax mx cx], none, []⟩, ⟨W2, some 1, 0, 3, .agg #[.bool ny, .slice ay my cy], none, []⟩, ⟨R3, some 2, 0, 4, .agg #[.bool false, .slice none 0 0, .slice none 0 0], none, []⟩] [] (by kernel_rfl) hn rfl (by kernel_rfl) (by kernel_rfl) (by kernel_rfl) (by kernel_rfl) (by kernel_rfl) (by kernel_rfl) ⟨True.mono4, True.mono4, True.mono4, Eqs.mono4 _, trivial⟩ (ok_cons W2ok (ok_cons W2ok (ok_cons R3ok ok_nil))) (IsOld.all (bx := [⟨W2, some 0, 0, 2, .agg #[.bool nx, .slice ax mx cx], none, []⟩, ⟨W2, some 1, 0, 3, .agg #[.bool ny, .slice ay my cy], none, []⟩, ⟨R3, some 2, 0, 4, .agg #[.bool false, .slice none 0 0, .slice none 0 0], none, []⟩]) ⟨someNe, someNe, someNe, trivial⟩) (DisOld.all (bx := [⟨W2, some 0, 0, 2, .agg #[.bool nx, .slice ax mx cx], none, []⟩, ⟨W2, some 1, 0, 3, .agg #[.bool ny, .slice ay my cy], none, []⟩, ⟨R3, some 2, 0, 4, .agg #[.bool false, .slice none 0 0, .slice none 0 0], none, []⟩]) ⟨someNe, someNe, someNe, trivial⟩) ?_ ?_
  · exact ⟨.alloc 0 _ rfl rfl (.inr ⟨_, rfl, w2_cs, fun a_ hR => (hR 0 rfl).trans f0⟩) rfl rfl rfl rfl rfl,
      .alloc 1 _ rfl rfl (.inr ⟨_, rfl, w2_cs, fun a_ hR => (hR 1 rfl).trans f1⟩) rfl rfl rfl rfl rfl,
      .alloc 2 _ rfl rfl (.inl ⟨rfl, rfl⟩) rfl rfl rfl rfl rfl,
      .norm 5 rfl rfl rfl (fun a_ w_ hn_ hBt hr hR hD hO hS => op_assign rfl),
      trivial⟩
  · intro a1 w1 gs1 hn1 hd1 hBt hr hR hP hX hU
    replace hn := hn1; replace hd := hd1.trans hd
    have ne2_4 : gs1 0 ≠ gs1 2 := hU 0 2 (by simp) (by simp) (by decide)
    have ne3_4 : gs1 1 ≠ gs1 2 := hU 1 2 (by simp) (by simp) (by decide)
    have b2 : BoxV W2 w1 (gs1 0) (.agg #[.bool nx, .slice ax mx cx]) := (hX 0 _ rfl).2.2.2
    have f2 := (hX 0 _ rfl).1
    have u2 : w.heap.size ≤ gs1 0 := Nat.le_trans HB.size ((hX 0 _ rfl).2.2.1 (by simp))
    have b3 : BoxV W2 w1 (gs1 1) (.agg #[.bool ny, .slice ay my cy]) := (hX 1 _ rfl).2.2.2
    have f3 := (hX 1 _ rfl).1
    have u3 : w.heap.size ≤ gs1 1 := Nat.le_trans HB.size ((hX 1 _ rfl).2.2.1 (by simp))
    have b4 : BoxV R3 w1 (gs1 2) (.agg #[.bool false, .slice none 0 0, .slice none 0 0]) := (hX 2 _ rfl).2.2.2
    have f4 := (hX 2 _ rfl).1
    have u4 : w.heap.size ≤ gs1 2 := Nat.le_trans HB.size ((hX 2 _ rfl).2.2.1 (by simp))
    have e5 : a1.eval (.tmp 5) = (.int .i64 0) := hP 3 (by decide)
    have f5 := e5
    replace Ax := Ax.rl hr
    replace Tx := Tx.rl hr
    replace Ay := Ay.rl hr
    replace Ty := Ty.rl hr
    replace HB := HB.trans (hBt.below HB.size (UpOld.all (bx := [⟨W2, some 0, 0, 2, .agg #[.bool nx, .slice ax mx cx], none, []⟩, ⟨W2, some 1, 0, 3, .agg #[.bool ny, .slice ay my cy], none, []⟩, ⟨R3, some 2, 0, 4, .agg #[.bool false, .slice none 0 0, .slice none 0 0], none, []⟩]) ⟨someNe, someNe, someNe, trivial⟩))
    clear hBt hr hR hP hX hU
    refine wp_seq ?_
    refine wp_seq ?_
    refine region4 [some 6, some 7, some 8] [Eqs (.agg #[.bool ny, .slice ay my cy]), Eqs (.int .i64 (Int.sign zy)), Eqs (.bool (decide ((Int.sign zy) = 0)))] [] [] (by kernel_rfl) hn rfl (by kernel_rfl) (by kernel_rfl) (by kernel_rfl) (by kernel_rfl) (by kernel_rfl) (by kernel_rfl) ⟨Eqs.mono4 _, Eqs.mono4 _, Eqs.mono4 _, trivial⟩ ok_nil (IsOld.all (bx := []) trivial) (DisOld.all (bx := []) trivial) ?_ ?_
    · exact ⟨.norm 6 rfl rfl rfl (fun a_ w_ hn_ hBt hr hR hD hO hS => op_loadv W2ok ((hR 3 rfl).trans f3) (b3.keep hBt trivial)),
        .norm 7 rfl rfl rfl (fun a_ w_ hn_ hBt hr hR hD hO hS => op_sign (isw_eq (show a_.eval (.tmp 6) = .agg #[.bool ny, .slice ay my cy] from hD 0 rfl) (Ay.rl hr) Ly) (by omega)),
        .norm 8 rfl rfl rfl (fun a_ w_ hn_ hBt hr hR hD hO hS => op_eqlk (show a_.eval (.tmp 7) = .int .i64 (Int.sign zy) from hD 1 rfl)),
        trivial⟩
    · intro a2 w2 gs2 hn2 hd2 hBt hr hR hP hX hU
      replace hn := hn2; replace hd := hd2.trans hd
      replace b2 := b2.keep hBt trivial
      replace b3 := b3.keep hBt trivial
      replace b4 := b4.keep hBt trivial
      replace f2 := (hR 2 rfl).trans f2
      replace f3 := (hR 3 rfl).trans f3
      replace f4 := (hR 4 rfl).trans f4
      replace f5 := (hR 5 rfl).trans f5
      have e8 : a2.eval (.tmp 8) = .bool (decide ((Int.sign zy) = 0)) := hP 2 (by decide)
      have f8 := e8
      replace Ax := Ax.rl hr
      replace Tx := Tx.rl hr
      replace Ay := Ay.rl hr
      replace Ty := Ty.rl hr
      replace HB := HB.trans (hBt.below HB.size (UpOld.all (bx := []) trivial))
      clear hBt hr hR hP hX hU
      refine wp_cond_split f8 (fun hc8 => ?_) (fun hc8 => ?_)
      · skip
        refine wp_seq ?_
        refine region4 [some 9, none, some 5] [Eqs (.agg #[.bool false, .slice none 0 0, .slice none 0 0]), (fun _ _ => True), Eqs ((.int .i64 20))] [⟨R3, none, (gs1 2), 4, .agg #[.bool false, .slice none 0 0, .slice none 0 0], some (1, 9, 0), []⟩] [] (by kernel_rfl) hn rfl (by kernel_rfl) (by kernel_rfl) (by kernel_rfl) (by kernel_rfl) (by kernel_rfl) (by kernel_rfl) ⟨Eqs.mono4 _, True.mono4, Eqs.mono4 _, trivial⟩ (ok_cons R3ok ok_nil) (IsOld.all (bx := [⟨R3, none, (gs1 2), 4, .agg #[.bool false, .slice none 0 0, .slice none 0 0], some (1, 9, 0), []⟩]) ⟨fun _ => ⟨f4, b4⟩, trivial⟩) (DisOld.all (bx := [⟨R3, none, (gs1 2), 4, .agg #[.bool false, .slice none 0 0, .slice none 0 0], some (1, 9, 0), []⟩]) ⟨fun _ => trivial, trivial⟩) ?_ ?_
        · exact ⟨.norm 9 rfl rfl rfl (fun a_ w_ hn_ hBt hr hR hD hO hS => op_bR0),
            .store 0 _ _ _ rfl rfl rfl rfl rfl rfl rfl (fun ia h => by cases h) rfl rfl rfl (eqs_cs r3_cs),
            .norm 5 rfl rfl rfl (fun a_ w_ hn_ hBt hr hR hD hO hS => op_assign rfl),
            trivial⟩
        · intro a3 w3 gs3 hn3 hd3 hBt hr hR hP hX hU
          replace hn := hn3; replace hd := hd3.trans hd
          replace b2 := b2.keep hBt ⟨fun _ => ne2_4.symm, trivial⟩
          replace b3 := b3.keep hBt ⟨fun _ => ne3_4.symm, trivial⟩
          have e9 : a3.eval (.tmp 9) = .agg #[.bool false, .slice none 0 0, .slice none 0 0] := hP 0 (by decide)
          have b4 : BoxV R3 w3 ((gs1 2)) (.agg #[.bool false, .slice none 0 0, .slice none 0 0]) := boxv_old ((hX 0 _ rfl).2.1 rfl) (hX 0 _ rfl).2.2.2 e9
          replace f4 : a3.eval (.tmp 4) = _ := (hR 4 rfl).trans f4
          replace f2 := (hR 2 rfl).trans f2
          replace f3 := (hR 3 rfl).trans f3
          have e5 : a3.eval (.tmp 5) = (.int .i64 20) := hP 2 (by decide)
          have f5 := e5
          replace Ax := Ax.rl hr
          replace Tx := Tx.rl hr
          replace Ay := Ay.rl hr
          replace Ty := Ty.rl hr
          replace HB := HB.trans (hBt.below HB.size (UpOld.all (bx := [⟨R3, none, (gs1 2), 4, .agg #[.bool false, .slice none 0 0, .slice none 0 0], some (1, 9, 0), []⟩]) ⟨fun _ => u4, trivial⟩))
          clear hBt hr hR hP hX hU
          refine wp_ret ?_
          repeat (first | refine then_ret ?_ | refine scope_ret ?_ | refine block_ret ?_)
          exact bodyPost_ret (v := .tuple #[.agg #[.bool false, .slice none 0 0, .slice none 0 0], (.int .i64 20)]) (res_ct rfl f4 (lv_R3 b4) f5) hd ⟨_, rfl, ⟨_, _, rfl, rfl, rfl⟩, HB⟩
      · skip
        exact absurd (sign_zero_iff.2 hy) (of_decide_eq_false hc8)
theorem has_rof0 : Has Tryd.prog 56 := by unfold Has; kernel_rfl
theorem op_rof0 {dst : Option Tmp} {ty : TypeId} {pos : String} {after : Array Edge} {guard : Option (Nat × Bool)} {a : Act} {w : World} {ats : Array TypeId} {i j : Nat} {Bx : Nat} {zx : Int} (Hx : IsW zx Bx (a.eval (.tmp i)) w) {By : Nat} {zy : Int} (Hy : IsW zy By (a.eval (.tmp j)) w) (hL : Bx + By ≤ 100000) (hy : zy = 0) :
    Does Tryd.prog { dst, op := .call { callee := .value (.func 56), args := #[.tmp i, .tmp j], argTypes := ats }, type := ty, pos, after, guard } a.eval w fun v w' => Below w.heap.size w w' ∧ (Tup2 (Eqs (.agg #[.bool false, .slice none 0 0, .slice none 0 0])) (Eqs (.int .i64 20))) v w' := by
  obtain ⟨nx, ax, mx, cx, xs, ex, Ax, Lx⟩ := Hx
  obtain ⟨ny, ay, my, cy, ys, ey, Ay, Ly⟩ := Hy
  refine does_call has_rof0 _ (by simp only [List.map_toArray, List.map_cons, List.map_nil, ex, ey]) ((rof0_z w Bx _ _ _ _ _ _ Ax Lx By _ _ _ _ _ _ Ay Ly hL hy).mono ?_)
  rintro e w' ⟨v, rfl, h1, hb⟩
  exact ⟨_, rfl, hb, h1⟩
end Lm
end Go.Proofs.YtdiiankcjgoecaaDoor

namespace Go.Proofs.YtdiiankcjgoecaaDoor
namespace Lm
open Go Go.RowKit
section
variable {dst : Option Tmp} {ty : TypeId} {pos : String} {after : Array Edge} {guard : Option (Nat × Bool)} {a : Act} {w : World} {ats : Array TypeId} {i j : Nat} {x y : Int} {L L1 L2 : Nat}
theorem has_lenw : Has Tryd.prog 10 := by unfold Has; kernel_rfl
theorem op_lenw {ng : Bool} {ao : Option Addr} {n c : Nat} (h : a.eval (.tmp i) = .agg #[.bool ng, .slice ao n c]) (hn : n ≤ 35184372088832) :
    Does Tryd.prog { dst, op := .call { callee := .value (.func 10), args := #[.tmp i], argTypes := ats }, type := ty, pos, after, guard } a.eval w fun v w' => Below w.heap.size w w' ∧ Eqs (.int .i64 (1 + (n : Int))) v w' := by
  refine does_call has_lenw _ (by simp only [List.map_toArray, List.map_cons, List.map_nil, h]) ((wlen_any w ng ao n c hn).mono ?_)
  rintro e w' ⟨rfl, hb⟩
  exact ⟨_, rfl, hb, rfl⟩
theorem op_samef (hx : OutW x L1 (a.eval (.tmp i)) w) (hy : OutW y L2 (a.eval (.tmp j)) w) (h : x ≠ y) :
    Does Tryd.prog { dst, op := .call { callee := .value (.func 17), args := #[.tmp i, .tmp j], argTypes := ats }, type := ty, pos, after, guard } a.eval w fun v w' => Below w.heap.size w w' ∧ Eqs (.bool false) v w' := by
  obtain ⟨n1, a1, c1, xs, e1, A1, l1⟩ := hx
  obtain ⟨n2, a2, c2, ys, e2, A2, l2⟩ := hy
  refine does_call has_same _ (by simp only [List.map_toArray, List.map_cons, List.map_nil, e1, e2]) ((same_z _ _ _ _ _ _ _ _ _ _ _ A1 A2 false (decide_eq_false h)).mono ?_)
  rintro e w' ⟨rfl, hb⟩
  exact ⟨_, rfl, hb, rfl⟩
theorem has_samel : Has Tryd.prog 51 := by unfold Has; kernel_rfl
theorem op_samel (hx : OutL x L1 (a.eval (.tmp i)) w) (hy : OutL y L2 (a.eval (.tmp j)) w) :
    Does Tryd.prog { dst, op := .call { callee := .value (.func 51), args := #[.tmp i, .tmp j], argTypes := ats }, type := ty, pos, after, guard } a.eval w fun v w' => Below w.heap.size w w' ∧ Eqs (.bool (decide (x = y))) v w' := by
  obtain ⟨a1, c1, xs, e1, G1, l1⟩ := hx
  obtain ⟨a2, c2, ys, e2, G2, l2⟩ := hy
  refine does_call has_samel _ (by simp only [List.map_toArray, List.map_cons, List.map_nil, e1, e2]) ((same_any w _ _ _ _ _ _ xs ys G1.sl G2.sl).mono ?_)
  rintro e w' ⟨rfl, hb⟩
  refine ⟨_, rfl, hb, ?_⟩
  have v1 := G1.val
  have v2 := G2.val
  show Value.bool (sameB xs ys) = Value.bool (decide (x = y))
  by_cases h : x = y
  · rw [sameB_of (canon_one G1.canon G2.canon (by rw [v1, v2, h])), decide_eq_true h]
  · have : xs ≠ ys := fun e => h (by rw [← v1, ← v2, e])
    simp [sameB, h, this]
theorem dec3 : IsDec [51] 3 := by
  refine ⟨?_, by decide, .inr ⟨51, _, rfl, by decide⟩⟩
  intro c hc
  simp at hc
  omega
theorem dec2 : IsDec [50] 2 := by
  refine ⟨?_, by decide, .inr ⟨50, _, rfl, by decide⟩⟩
  intro c hc
  simp at hc
  omega
theorem has_wtext : Has Tryd.prog 13 := by unfold Has; kernel_rfl
theorem op_text3 (hx : OutW x L (a.eval (.tmp i)) w) (h : x = -3) (hl : L ≤ 100000) :
    Does Tryd.prog { dst, op := .call { callee := .value (.func 13), args := #[.tmp i], argTypes := ats }, type := ty, pos, after, guard } a.eval w fun v w' => Below w.heap.size w w' ∧ Eqs (.string ⟨#[45, 51]⟩) v w' := by
  subst h
  obtain ⟨n1, a1, c1, xs, e1, A1, l1⟩ := hx
  refine does_call has_wtext _ (by simp only [List.map_toArray, List.map_cons, List.map_nil, e1]) ((wtext_neg w n1 a1 _ c1 xs A1.sl (by omega) (by rw [A1.worth]; decide)).mono ?_)
  rintro e w' ⟨ds, rfl, hd, hb⟩
  have e2 := isDec_one hd (show IsDec [51] (val xs) by rw [A1.1.val]; exact dec3)
  subst e2
  exact ⟨_, rfl, hb, rfl⟩
theorem has_ltext : Has Tryd.prog 47 := by unfold Has; kernel_rfl
theorem op_text2 (hx : IsL x L (a.eval (.tmp i)) w) (h : x = 2) (hl : L ≤ 100000) :
    Does Tryd.prog { dst, op := .call { callee := .value (.func 47), args := #[.tmp i], argTypes := ats }, type := ty, pos, after, guard } a.eval w fun v w' => Below w.heap.size w w' ∧ Eqs (.string ⟨#[50]⟩) v w' := by
  subst h
  obtain ⟨a1, n1, c1, xs, e1, S1, V1, l1⟩ := hx
  refine does_call has_ltext _ (by simp only [List.map_toArray, List.map_cons, List.map_nil, e1]) ((text_any w a1 n1 c1 xs S1 (by omega)).mono ?_)
  rintro e w' ⟨ds, rfl, hd, hb⟩
  have e2 := isDec_one hd (show IsDec [50] (val xs) by rw [V1]; exact dec2)
  subst e2
  exact ⟨_, rfl, hb, rfl⟩
theorem op_cat {x y : Operand} {s t r : ByteArray} (h1 : a.eval x = .string s) (h2 : a.eval y = .string t) (hs : s.size + t.size ≤ 9223372036854775807) (h : s ++ t = r) :
    Does Tryd.prog { dst, op := .binOp .add 9 x y 9, type := ty, pos, after, guard } a.eval w fun v w' => Below w.heap.size w w' ∧ Eqs (.string r) v w' := by
  subst h
  refine does_bin (v := .string (s ++ t)) ?_ ?_ ⟨Below.refl _ _, rfl⟩
  · rw [h1, h2]; simp [go_sem]
  · rw [h1, h2]; simp [go_sem]; exact hs
theorem op_eqls {s t : ByteArray} (h1 : a.eval (.tmp i) = .string s) (h : s = t) :
    Does Tryd.prog { dst, op := .binOp .eql 9 (.tmp i) (.const (.string t)) 9, type := ty, pos, after, guard } a.eval w fun v w' => Below w.heap.size w w' ∧ Eqs (.bool true) v w' := by
  subst h
  refine does_bin (v := .bool true) ?_ ?_ ⟨Below.refl _ _, rfl⟩
  · rw [h1]; simp [go_sem, Act.eval]
  · rw [h1]; simp [go_sem, Act.eval]
theorem op_bits1 (h : BitsOf x (a.eval (.tmp i)) w) (hx : 0 < x) :
    Does Tryd.prog { dst, op := .binOp .eql 3 (.tmp i) (.const (.int .i64 1)) 3, type := ty, pos, after, guard } a.eval w fun v w' => Below w.heap.size w w' ∧ Eqs (.bool (decide (x = 1))) v w' := by
  obtain ⟨k, e, hb⟩ := h
  refine (op_eqlk e).mono (fun v w' ⟨h1, h2⟩ => ⟨h1, ?_⟩)
  show v = _
  rw [show v = _ from h2]
  congr 1
  exact decide_eq_decide.2 (bits_is_one hb hx)
theorem op_eqle {u : Int} (h1 : a.eval (.tmp i) = .int .i64 u) :
    Does Tryd.prog { dst, op := .binOp .eql 27 (.tmp i) (.const (.int .i64 u)) 27, type := ty, pos, after, guard } a.eval w fun v w' => Below w.heap.size w w' ∧ Eqs (.bool true) v w' := by
  refine does_bin (v := .bool true) ?_ ?_ ⟨Below.refl _ _, rfl⟩
  · rw [h1]; simp [go_sem, Act.eval]
  · rw [h1]; simp [go_sem, Act.eval]
theorem has_lsmall : Has Tryd.prog 41 := by unfold Has; kernel_rfl
theorem op_lsmall {v : Int} (h1 : -9223372036854775808 ≤ v) (h2 : v ≤ 9223372036854775807) :
    Does Tryd.prog { dst, op := .call { callee := .value (.func 41), args := #[.const (.int .i64 v)], argTypes := ats }, type := ty, pos, after, guard } a.eval w fun v' w' => Below w.heap.size w w' ∧ OutW v 2 v' w' := by
  refine does_call has_lsmall _ (by simp only [List.map_toArray, List.map_cons, List.map_nil, Act.eval]) ((lsmall_g _ v h1 h2).mono ?_)
  rintro e w' ⟨ng, ao, cap, rs, rfl, G, l, hb⟩
  exact ⟨_, rfl, hb, _, _, _, _, rfl, G, by omega⟩
end
set_option maxRecDepth 20000 in
set_option maxHeartbeats 1000000 in
theorem rlen_z (w : World) (nr : Bool) (ar : Option Addr) (mr cr : Nat) (br : Option Addr) (kr dr : Nat) (hm : mr ≤ 35184372088832) (hk : kr ≤ 35184372088832) :
    Calls Tryd.prog 23 #[.agg #[.bool nr, .slice ar mr cr, .slice br kr dr]] w fun e w' => ∃ v, e = .returned v ∧ (Eqs (.int .i64 (1 + (mr : Int) + (kr : Int)))) v w' ∧ Below w.heap.size w w' := by
  go_enter Tryd.func23, Tryd.ntmps23
  generalize hA : (Act.mk _ _) = aa
  have hn : aa.tmps.size = 10 := by rw [← hA]; rfl
  have hd : aa.defers = [] := by rw [← hA]
  have f0 : aa.eval (.tmp 0) = .agg #[.bool nr, .slice ar mr cr, .slice br kr dr] := by rw [← hA]; rfl
  clear hA
  have HB : Below w.heap.size w w := Below.refl _ _
  refine wp_seq ?_
  refine region4 [some 1, some 2] [(fun _ _ => True), Eqs ((.int .i64 0))] [⟨R3, some 0, 0, 1, .agg #[.bool nr, .slice ar mr cr, .slice br kr dr], none, []⟩] [] (by kernel_rfl) hn rfl (by kernel_rfl) (by kernel_rfl) (by kernel_rfl) (by kernel_rfl) (by kernel_rfl) (by kernel_rfl) ⟨True.mono4, Eqs.mono4 _, trivial⟩ (ok_cons R3ok ok_nil) (IsOld.all (bx := [⟨R3, some 0, 0, 1, .agg #[.bool nr, .slice ar mr cr, .slice br kr dr], none, []⟩]) ⟨someNe, trivial⟩) (DisOld.all (bx := [⟨R3, some 0, 0, 1, .agg #[.bool nr, .slice ar mr cr, .slice br kr dr], none, []⟩]) ⟨someNe, trivial⟩) ?_ ?_
  · exact ⟨.alloc 0 _ rfl rfl (.inr ⟨_, rfl, r3_cs, fun a_ hR => (hR 0 rfl).trans f0⟩) rfl rfl rfl rfl rfl,
      .norm 2 rfl rfl rfl (fun a_ w_ hn_ hBt hr hR hD hO hS => op_assign rfl),
      trivial⟩
  · intro a1 w1 gs1 hn1 hd1 hBt hr hR hP hX hU
    replace hn := hn1; replace hd := hd1.trans hd
    have b1 : BoxV R3 w1 (gs1 0) (.agg #[.bool nr, .slice ar mr cr, .slice br kr dr]) := (hX 0 _ rfl).2.2.2
    have f1 := (hX 0 _ rfl).1
    have u1 : w.heap.size ≤ gs1 0 := Nat.le_trans HB.size ((hX 0 _ rfl).2.2.1 (by simp))
    have e2 : a1.eval (.tmp 2) = (.int .i64 0) := hP 1 (by decide)
    have f2 := e2
    replace HB := HB.trans (hBt.below HB.size (UpOld.all (bx := [⟨R3, some 0, 0, 1, .agg #[.bool nr, .slice ar mr cr, .slice br kr dr], none, []⟩]) ⟨someNe, trivial⟩))
    clear hBt hr hR hP hX hU
    refine wp_seq ?_
    refine region4 [some 3, some 4, some 5, some 6, some 7, some 8, some 9, some 2] [Eqs (.pointer (some ⟨gs1 0, 0, none⟩)), Eqs (.agg #[.bool nr, .slice ar mr cr]), Eqs (.int .i64 (1 + (mr : Int))), Eqs (.pointer (some ⟨gs1 0, 2, none⟩)), Eqs (.slice br kr dr), Eqs (.int .i64 (kr : Int)), Eqs (.int .i64 ((1 + (mr : Int)) + (kr : Int))), Eqs (.int .i64 ((1 + (mr : Int)) + (kr : Int)))] [] [] (by kernel_rfl) hn rfl (by kernel_rfl) (by kernel_rfl) (by kernel_rfl) (by kernel_rfl) (by kernel_rfl) (by kernel_rfl) ⟨Eqs.mono4 _, Eqs.mono4 _, Eqs.mono4 _, Eqs.mono4 _, Eqs.mono4 _, Eqs.mono4 _, Eqs.mono4 _, Eqs.mono4 _, trivial⟩ ok_nil (IsOld.all (bx := []) trivial) (DisOld.all (bx := []) trivial) ?_ ?_
    · exact ⟨.norm 3 rfl rfl rfl (fun a_ w_ hn_ hBt hr hR hD hO hS => op_faR fa_num ((hR 1 rfl).trans f1)),
        .norm 4 rfl rfl rfl (fun a_ w_ hn_ hBt hr hR hD hO hS => op_ldnum (show a_.eval (.tmp 3) = .pointer (some ⟨gs1 0, 0, none⟩) from hD 0 rfl) (b1.keep hBt trivial)),
        .norm 5 rfl rfl rfl (fun a_ w_ hn_ hBt hr hR hD hO hS => op_lenw (show a_.eval (.tmp 4) = .agg #[.bool nr, .slice ar mr cr] from hD 1 rfl) (by omega)),
        .norm 6 rfl rfl rfl (fun a_ w_ hn_ hBt hr hR hD hO hS => op_faR fa_den ((hR 1 rfl).trans f1)),
        .norm 7 rfl rfl rfl (fun a_ w_ hn_ hBt hr hR hD hO hS => op_ldden (show a_.eval (.tmp 6) = .pointer (some ⟨gs1 0, 2, none⟩) from hD 3 rfl) (b1.keep hBt trivial)),
        .norm 8 rfl rfl rfl (fun a_ w_ hn_ hBt hr hR hD hO hS => op_len (show a_.eval (.tmp 7) = .slice br kr dr from hD 4 rfl)),
        .norm 9 rfl rfl rfl (fun a_ w_ hn_ hBt hr hR hD hO hS => op_plus (show a_.eval (.tmp 5) = .int .i64 (1 + (mr : Int)) from hD 2 rfl) (show a_.eval (.tmp 8) = .int .i64 (kr : Int) from hD 5 rfl) (by omega)),
        .norm 2 rfl rfl rfl (fun a_ w_ hn_ hBt hr hR hD hO hS => op_assign (show a_.eval (.tmp 9) = .int .i64 ((1 + (mr : Int)) + (kr : Int)) from hD 6 rfl)),
        trivial⟩
    · intro a2 w2 gs2 hn2 hd2 hBt hr hR hP hX hU
      replace hn := hn2; replace hd := hd2.trans hd
      have e2 : a2.eval (.tmp 2) = .int .i64 ((1 + (mr : Int)) + (kr : Int)) := hP 7 (by decide)
      have f2 := e2
      replace HB := HB.trans (hBt.below HB.size (UpOld.all (bx := []) trivial))
      clear hBt hr hR hP hX hU
      refine wp_ret ?_
      repeat (first | refine then_ret ?_ | refine scope_ret ?_ | refine block_ret ?_)
      exact bodyPost_ret (v := .int .i64 ((1 + (mr : Int)) + (kr : Int))) (res_t rfl f2) hd ⟨_, rfl, rfl, HB⟩
theorem has_rlen : Has Tryd.prog 23 := by unfold Has; kernel_rfl
theorem op_rlen {dst : Option Tmp} {ty : TypeId} {pos : String} {after : Array Edge} {guard : Option (Nat × Bool)} {a : Act} {w : World} {ats : Array TypeId} {i : Nat} {nr : Bool} {ar br : Option Addr} {mr cr kr dr : Nat} (h : a.eval (.tmp i) = .agg #[.bool nr, .slice ar mr cr, .slice br kr dr]) (hm : mr ≤ 35184372088832) (hk : kr ≤ 35184372088832) :
    Does Tryd.prog { dst, op := .call { callee := .value (.func 23), args := #[.tmp i], argTypes := ats }, type := ty, pos, after, guard } a.eval w fun v w' => Below w.heap.size w w' ∧ Eqs (.int .i64 (1 + (mr : Int) + (kr : Int))) v w' := by
  refine does_call has_rlen _ (by simp only [List.map_toArray, List.map_cons, List.map_nil, h]) ((rlen_z w nr ar mr cr br kr dr hm hk).mono ?_)
  rintro e w' ⟨v, rfl, h1, hb⟩
  exact ⟨_, rfl, hb, h1⟩
set_option maxRecDepth 20000 in
set_option maxHeartbeats 1000000 in
theorem samer_z (w : World) (nr : Bool) (ar : Option Addr) (cr : Nat) (rs : List Int) (pr : Int) (Gr : Wh w nr ar cr rs pr) (br : Option Addr) (dr : Nat) (rt : List Int) (qr : Int) (Kr : Got w br dr rt qr) (nu : Bool) (au : Option Addr) (cu : Nat) (us : List Int) (pu : Int) (Gu : Wh w nu au cu us pu) (bu : Option Addr) (du : Nat) (ut : List Int) (qu : Int) (Ku : Got w bu du ut qu) (hp : pr = pu) :
    Calls Tryd.prog 29 #[.agg #[.bool nr, .slice ar rs.length cr, .slice br rt.length dr], .agg #[.bool nu, .slice au us.length cu, .slice bu ut.length du]] w fun e w' => ∃ v, e = .returned v ∧ (Eqs (.bool (decide (qr = qu)))) v w' ∧ Below w.heap.size w w' := by
  go_enter Tryd.func29, Tryd.ntmps29
  generalize hA : (Act.mk _ _) = aa
  have hn : aa.tmps.size = 17 := by rw [← hA]; rfl
  have hd : aa.defers = [] := by rw [← hA]
  have f0 : aa.eval (.tmp 0) = .agg #[.bool nr, .slice ar rs.length cr, .slice br rt.length dr] := by rw [← hA]; rfl
  have f1 : aa.eval (.tmp 1) = .agg #[.bool nu, .slice au us.length cu, .slice bu ut.length du] := by rw [← hA]; rfl
  clear hA
  have HB : Below w.heap.size w w := Below.refl _ _
  refine wp_seq ?_
  refine region4 [some 2, some 3, some 4] [(fun _ _ => True), (fun _ _ => True), Eqs ((.bool false))] [⟨R3, some 0, 0, 2, .agg #[.bool nr, .slice ar rs.length cr, .slice br rt.length dr], none, []⟩, ⟨R3, some 1, 0, 3, .agg #[.bool nu, .slice au us.length cu, .slice bu ut.length du], none, []⟩] [] (by kernel_rfl) hn rfl (by kernel_rfl) (by kernel_rfl) (by kernel_rfl) (by kernel_rfl) (by kernel_rfl) (by kernel_rfl) ⟨True.mono4, True.mono4, Eqs.mono4 _, trivial⟩ (ok_cons R3ok (ok_cons R3ok ok_nil)) (IsOld.all (bx := [⟨R3, some 0, 0, 2, .agg #[.bool nr, .slice ar rs.length cr, .slice br rt.length dr], none, []⟩, ⟨R3, some 1, 0, 3, .agg #[.bool nu, .slice au us.length cu, .slice bu ut.length du], none, []⟩]) ⟨someNe, someNe, trivial⟩) (DisOld.all (bx := [⟨R3, some 0, 0, 2, .agg #[.bool nr, .slice ar rs.length cr, .slice br rt.length dr], none, []⟩, ⟨R3, some 1, 0, 3, .agg #[.bool nu, .slice au us.length cu, .slice bu ut.length du], none, []⟩]) ⟨someNe, someNe, trivial⟩) ?_ ?_
  · exact ⟨.alloc 0 _ rfl rfl (.inr ⟨_, rfl, r3_cs, fun a_ hR => (hR 0 rfl).trans f0⟩) rfl rfl rfl rfl rfl,
      .alloc 1 _ rfl rfl (.inr ⟨_, rfl, r3_cs, fun a_ hR => (hR 1 rfl).trans f1⟩) rfl rfl rfl rfl rfl,
      .norm 4 rfl rfl rfl (fun a_ w_ hn_ hBt hr hR hD hO hS => op_assign rfl),
      trivial⟩
  · intro a1 w1 gs1 hn1 hd1 hBt hr hR hP hX hU
    replace hn := hn1; replace hd := hd1.trans hd
    have b2 : BoxV R3 w1 (gs1 0) (.agg #[.bool nr, .slice ar rs.length cr, .slice br rt.length dr]) := (hX 0 _ rfl).2.2.2
    have f2 := (hX 0 _ rfl).1
    have u2 : w.heap.size ≤ gs1 0 := Nat.le_trans HB.size ((hX 0 _ rfl).2.2.1 (by simp))
    have b3 : BoxV R3 w1 (gs1 1) (.agg #[.bool nu, .slice au us.length cu, .slice bu ut.length du]) := (hX 1 _ rfl).2.2.2
    have f3 := (hX 1 _ rfl).1
    have u3 : w.heap.size ≤ gs1 1 := Nat.le_trans HB.size ((hX 1 _ rfl).2.2.1 (by simp))
    have e4 : a1.eval (.tmp 4) = (.bool false) := hP 2 (by decide)
    have f4 := e4
    replace Gr := Gr.rl hr
    replace Kr := Kr.rl hr
    replace Gu := Gu.rl hr
    replace Ku := Ku.rl hr
    replace HB := HB.trans (hBt.below HB.size (UpOld.all (bx := [⟨R3, some 0, 0, 2, .agg #[.bool nr, .slice ar rs.length cr, .slice br rt.length dr], none, []⟩, ⟨R3, some 1, 0, 3, .agg #[.bool nu, .slice au us.length cu, .slice bu ut.length du], none, []⟩]) ⟨someNe, someNe, trivial⟩))
    clear hBt hr hR hP hX hU
    refine wp_seq ?_
    refine region4 [some 5, some 6, some 7, some 8, some 9, some 10, some 11, some 12, some 13, some 14, some 15, some 16, some 4] [Eqs (.pointer (some ⟨gs1 0, 0, none⟩)), Eqs (.agg #[.bool nr, .slice ar rs.length cr]), Eqs (.pointer (some ⟨gs1 1, 0, none⟩)), Eqs (.agg #[.bool nu, .slice au us.length cu]), Eqs (.bool true), Eqs (.bool true), Eqs (.pointer (some ⟨gs1 0, 2, none⟩)), Eqs (.slice br rt.length dr), Eqs (.pointer (some ⟨gs1 1, 2, none⟩)), Eqs (.slice bu ut.length du), Eqs (.bool (decide (qr = qu))), Eqs (.bool (decide (qr = qu))), Eqs (.bool (decide (qr = qu)))] [] [] (by kernel_rfl) hn rfl (by kernel_rfl) (by kernel_rfl) (by kernel_rfl) (by kernel_rfl) (by kernel_rfl) (by kernel_rfl) ⟨Eqs.mono4 _, Eqs.mono4 _, Eqs.mono4 _, Eqs.mono4 _, Eqs.mono4 _, Eqs.mono4 _, Eqs.mono4 _, Eqs.mono4 _, Eqs.mono4 _, Eqs.mono4 _, Eqs.mono4 _, Eqs.mono4 _, Eqs.mono4 _, trivial⟩ ok_nil (IsOld.all (bx := []) trivial) (DisOld.all (bx := []) trivial) ?_ ?_
    · exact ⟨.norm 5 rfl rfl rfl (fun a_ w_ hn_ hBt hr hR hD hO hS => op_faR fa_num ((hR 2 rfl).trans f2)),
        .norm 6 rfl rfl rfl (fun a_ w_ hn_ hBt hr hR hD hO hS => op_ldnum (show a_.eval (.tmp 5) = .pointer (some ⟨gs1 0, 0, none⟩) from hD 0 rfl) (b2.keep hBt trivial)),
        .norm 7 rfl rfl rfl (fun a_ w_ hn_ hBt hr hR hD hO hS => op_faR fa_num ((hR 3 rfl).trans f3)),
        .norm 8 rfl rfl rfl (fun a_ w_ hn_ hBt hr hR hD hO hS => op_ldnum (show a_.eval (.tmp 7) = .pointer (some ⟨gs1 1, 0, none⟩) from hD 2 rfl) (b3.keep hBt trivial)),
        .norm 9 rfl rfl rfl (fun a_ w_ hn_ hBt hr hR hD hO hS => op_same (outw_eq (show a_.eval (.tmp 6) = .agg #[.bool nr, .slice ar rs.length cr] from hD 1 rfl) (Gr.rl hr) (Nat.le_refl _)) (outw_eq (show a_.eval (.tmp 8) = .agg #[.bool nu, .slice au us.length cu] from hD 3 rfl) (Gu.rl hr) (Nat.le_refl _)) hp),
        .norm 10 rfl rfl rfl (fun a_ w_ hn_ hBt hr hR hD hO hS => op_mv (show a_.eval (.tmp 9) = .bool true from hD 4 rfl)),
        .norm 11 rfl rfl rfl (fun a_ w_ hn_ hBt hr hR hD hO hS => ⟨⟨_, rfl⟩, fun _ => op_faR fa_den ((hR 2 rfl).trans f2), fun hne => absurd (hD 5 rfl) hne⟩),
        .norm 12 rfl rfl rfl (fun a_ w_ hn_ hBt hr hR hD hO hS => ⟨⟨_, rfl⟩, fun _ => op_ldden (show a_.eval (.tmp 11) = .pointer (some ⟨gs1 0, 2, none⟩) from hD 6 rfl) (b2.keep hBt trivial), fun hne => absurd (hD 5 rfl) hne⟩),
        .norm 13 rfl rfl rfl (fun a_ w_ hn_ hBt hr hR hD hO hS => ⟨⟨_, rfl⟩, fun _ => op_faR fa_den ((hR 3 rfl).trans f3), fun hne => absurd (hD 5 rfl) hne⟩),
        .norm 14 rfl rfl rfl (fun a_ w_ hn_ hBt hr hR hD hO hS => ⟨⟨_, rfl⟩, fun _ => op_ldden (show a_.eval (.tmp 13) = .pointer (some ⟨gs1 1, 2, none⟩) from hD 8 rfl) (b3.keep hBt trivial), fun hne => absurd (hD 5 rfl) hne⟩),
        .norm 15 rfl rfl rfl (fun a_ w_ hn_ hBt hr hR hD hO hS => ⟨⟨_, rfl⟩, fun _ => op_samel (outl_eq (show a_.eval (.tmp 12) = .slice br rt.length dr from hD 7 rfl) (Kr.rl hr) (Nat.le_refl _)) (outl_eq (show a_.eval (.tmp 14) = .slice bu ut.length du from hD 9 rfl) (Ku.rl hr) (Nat.le_refl _)), fun hne => absurd (hD 5 rfl) hne⟩),
        .norm 16 rfl rfl rfl (fun a_ w_ hn_ hBt hr hR hD hO hS => op_pickb (show a_.eval (.tmp 10) = .bool true from hD 5 rfl) (show a_.eval (.tmp 15) = .bool (decide (qr = qu)) from hD 10 rfl)),
        .norm 4 rfl rfl rfl (fun a_ w_ hn_ hBt hr hR hD hO hS => op_assign (show a_.eval (.tmp 16) = .bool (decide (qr = qu)) from hD 11 rfl)),
        trivial⟩
    · intro a2 w2 gs2 hn2 hd2 hBt hr hR hP hX hU
      replace hn := hn2; replace hd := hd2.trans hd
      have e4 : a2.eval (.tmp 4) = .bool (decide (qr = qu)) := hP 12 (by decide)
      have f4 := e4
      replace Gr := Gr.rl hr
      replace Kr := Kr.rl hr
      replace Gu := Gu.rl hr
      replace Ku := Ku.rl hr
      replace HB := HB.trans (hBt.below HB.size (UpOld.all (bx := []) trivial))
      clear hBt hr hR hP hX hU
      refine wp_ret ?_
      repeat (first | refine then_ret ?_ | refine scope_ret ?_ | refine block_ret ?_)
      exact bodyPost_ret (v := .bool (decide (qr = qu))) (res_t rfl f4) hd ⟨_, rfl, rfl, HB⟩
set_option maxRecDepth 20000 in
set_option maxHeartbeats 1000000 in
theorem samerf_z (w : World) (nr : Bool) (ar : Option Addr) (cr : Nat) (rs : List Int) (pr : Int) (Gr : Wh w nr ar cr rs pr) (br : Option Addr) (dr : Nat) (rt : List Int) (qr : Int) (Kr : Got w br dr rt qr) (nu : Bool) (au : Option Addr) (cu : Nat) (us : List Int) (pu : Int) (Gu : Wh w nu au cu us pu) (bu : Option Addr) (du : Nat) (ut : List Int) (qu : Int) (Ku : Got w bu du ut qu) (hp : pr ≠ pu) :
    Calls Tryd.prog 29 #[.agg #[.bool nr, .slice ar rs.length cr, .slice br rt.length dr], .agg #[.bool nu, .slice au us.length cu, .slice bu ut.length du]] w fun e w' => ∃ v, e = .returned v ∧ (Eqs (.bool false)) v w' ∧ Below w.heap.size w w' := by
  go_enter Tryd.func29, Tryd.ntmps29
  generalize hA : (Act.mk _ _) = aa
  have hn : aa.tmps.size = 17 := by rw [← hA]; rfl
  have hd : aa.defers = [] := by rw [← hA]
  have f0 : aa.eval (.tmp 0) = .agg #[.bool nr, .slice ar rs.length cr, .slice br rt.length dr] := by rw [← hA]; rfl
  have f1 : aa.eval (.tmp 1) = .agg #[.bool nu, .slice au us.length cu, .slice bu ut.length du] := by rw [← hA]; rfl
  clear hA
  have HB : Below w.heap.size w w := Below.refl _ _
  refine wp_seq ?_
  refine region4 [some 2, some 3, some 4] [(fun _ _ => True), (fun _ _ => True), Eqs ((.bool false))] [⟨R3, some 0, 0, 2, .agg #[.bool nr, .slice ar rs.length cr, .slice br rt.length dr], none, []⟩, ⟨R3, some 1, 0, 3, .agg #[.bool nu, .slice au us.length cu, .slice bu ut.length du], none, []⟩] [] (by kernel_rfl) hn rfl (by kernel_rfl) (by kernel_rfl) (by kernel_rfl) (by kernel_rfl) (by kernel_rfl) (by kernel_rfl) ⟨True.mono4, True.mono4, Eqs.mono4 _, trivial⟩ (ok_cons R3ok (ok_cons R3ok ok_nil)) (IsOld.all (bx := [⟨R3, some 0, 0, 2, .agg #[.bool nr, .slice ar rs.length cr, .slice br rt.length dr], none, []⟩, ⟨R3, some 1, 0, 3, .agg #[.bool nu, .slice au us.length cu, .slice bu ut.length du], none, []⟩]) ⟨someNe, someNe, trivial⟩) (DisOld.all (bx := [⟨R3, some 0, 0, 2, .agg #[.bool nr, .slice ar rs.length cr, .slice br rt.length dr], none, []⟩, ⟨R3, some 1, 0, 3, .agg #[.bool nu, .slice au us.length cu, .slice bu ut.length du], none, []⟩]) ⟨someNe, someNe, trivial⟩) ?_ ?_
  · exact ⟨.alloc 0 _ rfl rfl (.inr ⟨_, rfl, r3_cs, fun a_ hR => (hR 0 rfl).trans f0⟩) rfl rfl rfl rfl rfl,
      .alloc 1 _ rfl rfl (.inr ⟨_, rfl, r3_cs, fun a_ hR => (hR 1 rfl).trans f1⟩) rfl rfl rfl rfl rfl,
      .norm 4 rfl rfl rfl (fun a_ w_ hn_ hBt hr hR hD hO hS => op_assign rfl),
      trivial⟩
  · intro a1 w1 gs1 hn1 hd1 hBt hr hR hP hX hU
    replace hn := hn1; replace hd := hd1.trans hd
    have b2 : BoxV R3 w1 (gs1 0) (.agg #[.bool nr, .slice ar rs.length cr, .slice br rt.length dr]) := (hX 0 _ rfl).2.2.2
    have f2 := (hX 0 _ rfl).1
    have u2 : w.heap.size ≤ gs1 0 := Nat.le_trans HB.size ((hX 0 _ rfl).2.2.1 (by simp))
    have b3 : BoxV R3 w1 (gs1 1) (.agg #[.bool nu, .slice au us.length cu, .slice bu ut.length du]) := (hX 1 _ rfl).2.2.2
    have f3 := (hX 1 _ rfl).1
    have u3 : w.heap.size ≤ gs1 1 := Nat.le_trans HB.size ((hX 1 _ rfl).2.2.1 (by simp))
    have e4 : a1.eval (.tmp 4) = (.bool false) := hP 2 (by decide)
    have f4 := e4
    replace Gr := Gr.rl hr
    replace Kr := Kr.rl hr
    replace Gu := Gu.rl hr
    replace Ku := Ku.rl hr
    replace HB := HB.trans (hBt.below HB.size (UpOld.all (bx := [⟨R3, some 0, 0, 2, .agg #[.bool nr, .slice ar rs.length cr, .slice br rt.length dr], none, []⟩, ⟨R3, some 1, 0, 3, .agg #[.bool nu, .slice au us.length cu, .slice bu ut.length du], none, []⟩]) ⟨someNe, someNe, trivial⟩))
    clear hBt hr hR hP hX hU
    refine wp_seq ?_
    refine region4 [some 5, some 6, some 7, some 8, some 9, some 10, some 11, some 12, some 13, some 14, some 15, some 16, some 4] [Eqs (.pointer (some ⟨gs1 0, 0, none⟩)), Eqs (.agg #[.bool nr, .slice ar rs.length cr]), Eqs (.pointer (some ⟨gs1 1, 0, none⟩)), Eqs (.agg #[.bool nu, .slice au us.length cu]), Eqs (.bool false), Eqs (.bool false), (fun _ _ => True), (fun _ _ => True), (fun _ _ => True), (fun _ _ => True), (fun _ _ => True), Eqs (.bool false), Eqs (.bool false)] [] [] (by kernel_rfl) hn rfl (by kernel_rfl) (by kernel_rfl) (by kernel_rfl) (by kernel_rfl) (by kernel_rfl) (by kernel_rfl) ⟨Eqs.mono4 _, Eqs.mono4 _, Eqs.mono4 _, Eqs.mono4 _, Eqs.mono4 _, Eqs.mono4 _, True.mono4, True.mono4, True.mono4, True.mono4, True.mono4, Eqs.mono4 _, Eqs.mono4 _, trivial⟩ ok_nil (IsOld.all (bx := []) trivial) (DisOld.all (bx := []) trivial) ?_ ?_
    · exact ⟨.norm 5 rfl rfl rfl (fun a_ w_ hn_ hBt hr hR hD hO hS => op_faR fa_num ((hR 2 rfl).trans f2)),
        .norm 6 rfl rfl rfl (fun a_ w_ hn_ hBt hr hR hD hO hS => op_ldnum (show a_.eval (.tmp 5) = .pointer (some ⟨gs1 0, 0, none⟩) from hD 0 rfl) (b2.keep hBt trivial)),
        .norm 7 rfl rfl rfl (fun a_ w_ hn_ hBt hr hR hD hO hS => op_faR fa_num ((hR 3 rfl).trans f3)),
        .norm 8 rfl rfl rfl (fun a_ w_ hn_ hBt hr hR hD hO hS => op_ldnum (show a_.eval (.tmp 7) = .pointer (some ⟨gs1 1, 0, none⟩) from hD 2 rfl) (b3.keep hBt trivial)),
        .norm 9 rfl rfl rfl (fun a_ w_ hn_ hBt hr hR hD hO hS => op_samef (outw_eq (show a_.eval (.tmp 6) = .agg #[.bool nr, .slice ar rs.length cr] from hD 1 rfl) (Gr.rl hr) (Nat.le_refl _)) (outw_eq (show a_.eval (.tmp 8) = .agg #[.bool nu, .slice au us.length cu] from hD 3 rfl) (Gu.rl hr) (Nat.le_refl _)) hp),
        .norm 10 rfl rfl rfl (fun a_ w_ hn_ hBt hr hR hD hO hS => op_mv (show a_.eval (.tmp 9) = .bool false from hD 4 rfl)),
        .norm 11 rfl rfl rfl (fun a_ w_ hn_ hBt hr hR hD hO hS => ⟨⟨_, rfl⟩, fun h => absurd ((show _ = Value.bool false from hD 5 rfl).symm.trans h) (by simp), fun _ => trivial⟩),
        .norm 12 rfl rfl rfl (fun a_ w_ hn_ hBt hr hR hD hO hS => ⟨⟨_, rfl⟩, fun h => absurd ((show _ = Value.bool false from hD 5 rfl).symm.trans h) (by simp), fun _ => trivial⟩),
        .norm 13 rfl rfl rfl (fun a_ w_ hn_ hBt hr hR hD hO hS => ⟨⟨_, rfl⟩, fun h => absurd ((show _ = Value.bool false from hD 5 rfl).symm.trans h) (by simp), fun _ => trivial⟩),
        .norm 14 rfl rfl rfl (fun a_ w_ hn_ hBt hr hR hD hO hS => ⟨⟨_, rfl⟩, fun h => absurd ((show _ = Value.bool false from hD 5 rfl).symm.trans h) (by simp), fun _ => trivial⟩),
        .norm 15 rfl rfl rfl (fun a_ w_ hn_ hBt hr hR hD hO hS => ⟨⟨_, rfl⟩, fun h => absurd ((show _ = Value.bool false from hD 5 rfl).symm.trans h) (by simp), fun _ => trivial⟩),
        .norm 16 rfl rfl rfl (fun a_ w_ hn_ hBt hr hR hD hO hS => op_pickb (show a_.eval (.tmp 10) = .bool false from hD 5 rfl) rfl),
        .norm 4 rfl rfl rfl (fun a_ w_ hn_ hBt hr hR hD hO hS => op_assign (show a_.eval (.tmp 16) = .bool false from hD 11 rfl)),
        trivial⟩
    · intro a2 w2 gs2 hn2 hd2 hBt hr hR hP hX hU
      replace hn := hn2; replace hd := hd2.trans hd
      have e4 : a2.eval (.tmp 4) = .bool false := hP 12 (by decide)
      have f4 := e4
      replace Gr := Gr.rl hr
      replace Kr := Kr.rl hr
      replace Gu := Gu.rl hr
      replace Ku := Ku.rl hr
      replace HB := HB.trans (hBt.below HB.size (UpOld.all (bx := []) trivial))
      clear hBt hr hR hP hX hU
      refine wp_ret ?_
      repeat (first | refine then_ret ?_ | refine scope_ret ?_ | refine block_ret ?_)
      exact bodyPost_ret (v := .bool false) (res_t rfl f4) hd ⟨_, rfl, rfl, HB⟩
theorem has_samer : Has Tryd.prog 29 := by unfold Has; kernel_rfl
theorem op_samerb {dst : Option Tmp} {ty : TypeId} {pos : String} {after : Array Edge} {guard : Option (Nat × Bool)} {a : Act} {w : World} {ats : Array TypeId} {i j : Nat} {pr qr pu qu : Int} {Lr Lu : Nat} (h1 : OutR pr qr Lr (a.eval (.tmp i)) w) (h2 : OutR pu qu Lu (a.eval (.tmp j)) w) :
    Does Tryd.prog { dst, op := .call { callee := .value (.func 29), args := #[.tmp i, .tmp j], argTypes := ats }, type := ty, pos, after, guard } a.eval w fun v w' => Below w.heap.size w w' ∧ Eqs (.bool (decide (pr = pu ∧ qr = qu))) v w' := by
  obtain ⟨ng, ao, cap, rs, bo, dap, ss, e1, G1, K1, _, _⟩ := h1
  obtain ⟨ng2, ao2, cap2, rs2, bo2, dap2, ss2, e2, G2, K2, _, _⟩ := h2
  by_cases hp : pr = pu
  · refine does_call has_samer _ (by simp only [List.map_toArray, List.map_cons, List.map_nil, e1, e2]) ((samer_z w _ _ _ _ _ G1 _ _ _ _ K1 _ _ _ _ _ G2 _ _ _ _ K2 hp).mono ?_)
    rintro e w' ⟨v, rfl, h1, hb⟩
    exact ⟨_, rfl, hb, by simpa [hp] using h1⟩
  · refine does_call has_samer _ (by simp only [List.map_toArray, List.map_cons, List.map_nil, e1, e2]) ((samerf_z w _ _ _ _ _ G1 _ _ _ _ K1 _ _ _ _ _ G2 _ _ _ _ K2 hp).mono ?_)
    rintro e w' ⟨v, rfl, h1, hb⟩
    exact ⟨_, rfl, hb, by simpa [hp] using h1⟩
theorem op_samer {dst : Option Tmp} {ty : TypeId} {pos : String} {after : Array Edge} {guard : Option (Nat × Bool)} {a : Act} {w : World} {ats : Array TypeId} {i j : Nat} {pr qr pu qu : Int} {Lr Lu : Nat} (h1 : OutR pr qr Lr (a.eval (.tmp i)) w) (h2 : OutR pu qu Lu (a.eval (.tmp j)) w) (h : pr = pu ∧ qr = qu) :
    Does Tryd.prog { dst, op := .call { callee := .value (.func 29), args := #[.tmp i, .tmp j], argTypes := ats }, type := ty, pos, after, guard } a.eval w fun v w' => Below w.heap.size w w' ∧ Eqs (.bool true) v w' :=
  (op_samerb h1 h2).mono (fun v w' ⟨hb, e⟩ => ⟨hb, by rw [Eqs, e, decide_eq_true h]⟩)
set_option maxRecDepth 20000 in
set_option maxHeartbeats 2000000 in
theorem rtext32_z (w : World) (Br : Nat) (nr : Bool) (ar : Option Addr) (mr cr : Nat) (rs : List Int) (pr : Int) (Ar : Ag w nr ar mr cr rs pr) (Lr : rs.length ≤ Br) (br : Option Addr) (kr dr : Nat) (rt : List Int) (qr : Int) (Sr : Sl w (.slice br kr dr) rt) (Vr : val rt = qr) (Mr : rt.length ≤ Br) (hL : Br ≤ 1000) (hp : nm (tp pr qr) (tq qr) = -3) (hq : dn (tp pr qr) (tq qr) = 2) :
    Calls Tryd.prog 26 #[.agg #[.bool nr, .slice ar mr cr, .slice br kr dr]] w fun e w' => ∃ v, e = .returned v ∧ (Eqs (.string ⟨#[45, 51, 47, 50]⟩)) v w' ∧ Below w.heap.size w w' := by
  go_enter Tryd.func26, Tryd.ntmps26
  generalize hA : (Act.mk _ _) = aa
  have hn : aa.tmps.size = 21 := by rw [← hA]; rfl
  have hd : aa.defers = [] := by rw [← hA]
  have f0 : aa.eval (.tmp 0) = .agg #[.bool nr, .slice ar mr cr, .slice br kr dr] := by rw [← hA]; rfl
  clear hA
  have HB : Below w.heap.size w w := Below.refl _ _
  have Dr : Ag w false br kr dr rt qr := ⟨Sr, Vr⟩
  refine wp_seq ?_
  refine region4 [some 1, some 2] [(fun _ _ => True), Eqs ((.string ⟨#[]⟩))] [⟨R3, some 0, 0, 1, .agg #[.bool nr, .slice ar mr cr, .slice br kr dr], none, []⟩] [] (by kernel_rfl) hn rfl (by kernel_rfl) (by kernel_rfl) (by kernel_rfl) (by kernel_rfl) (by kernel_rfl) (by kernel_rfl) ⟨True.mono4, Eqs.mono4 _, trivial⟩ (ok_cons R3ok ok_nil) (IsOld.all (bx := [⟨R3, some 0, 0, 1, .agg #[.bool nr, .slice ar mr cr, .slice br kr dr], none, []⟩]) ⟨someNe, trivial⟩) (DisOld.all (bx := [⟨R3, some 0, 0, 1, .agg #[.bool nr, .slice ar mr cr, .slice br kr dr], none, []⟩]) ⟨someNe, trivial⟩) ?_ ?_
  · exact ⟨.alloc 0 _ rfl rfl (.inr ⟨_, rfl, r3_cs, fun a_ hR => (hR 0 rfl).trans f0⟩) rfl rfl rfl rfl rfl,
      .norm 2 rfl rfl rfl (fun a_ w_ hn_ hBt hr hR hD hO hS => op_assign rfl),
      trivial⟩
  · intro a1 w1 gs1 hn1 hd1 hBt hr hR hP hX hU
    replace hn := hn1; replace hd := hd1.trans hd
    have b1 : BoxV R3 w1 (gs1 0) (.agg #[.bool nr, .slice ar mr cr, .slice br kr dr]) := (hX 0 _ rfl).2.2.2
    have f1 := (hX 0 _ rfl).1
    have u1 : w.heap.size ≤ gs1 0 := Nat.le_trans HB.size ((hX 0 _ rfl).2.2.1 (by simp))
    have e2 : a1.eval (.tmp 2) = (.string ⟨#[]⟩) := hP 1 (by decide)
    have f2 := e2
    replace Ar := Ar.rl hr
    replace Sr := Sr.rl hr
    replace Dr := Dr.rl hr
    replace HB := HB.trans (hBt.below HB.size (UpOld.all (bx := [⟨R3, some 0, 0, 1, .agg #[.bool nr, .slice ar mr cr, .slice br kr dr], none, []⟩]) ⟨someNe, trivial⟩))
    clear hBt hr hR hP hX hU
    refine wp_seq ?_
    refine region4 [some 5, some 6, some 3, none] [Eqs (.agg #[.bool nr, .slice ar mr cr, .slice br kr dr]), OutR ((nm (tp pr qr) (tq qr))) ((dn (tp pr qr) (tq qr))) (2 * ((Br) + 2)), (fun _ _ => True), (fun _ _ => True)] [⟨R3, some 2, 0, 3, .agg #[.bool false, .slice none 0 0, .slice none 0 0], some (3, 6, 1), []⟩] [] (by kernel_rfl) hn rfl (by kernel_rfl) (by kernel_rfl) (by kernel_rfl) (by kernel_rfl) (by kernel_rfl) (by kernel_rfl) ⟨Eqs.mono4 _, OutR.mono4 _ _ _, True.mono4, True.mono4, trivial⟩ (ok_cons R3ok ok_nil) (IsOld.all (bx := [⟨R3, some 2, 0, 3, .agg #[.bool false, .slice none 0 0, .slice none 0 0], some (3, 6, 1), []⟩]) ⟨someNe, trivial⟩) (DisOld.all (bx := [⟨R3, some 2, 0, 3, .agg #[.bool false, .slice none 0 0, .slice none 0 0], some (3, 6, 1), []⟩]) ⟨someNe, trivial⟩) ?_ ?_
    · exact ⟨.norm 5 rfl rfl rfl (fun a_ w_ hn_ hBt hr hR hD hO hS => op_loadv R3ok ((hR 1 rfl).trans f1) (b1.keep hBt ⟨someNe, trivial⟩)),
        .norm 6 rfl rfl rfl (fun a_ w_ hn_ hBt hr hR hD hO hS => op_rtrim (isr_eq (show a_.eval (.tmp 5) = .agg #[.bool nr, .slice ar mr cr, .slice br kr dr] from hD 0 rfl) (Ar.rl hr) (Sr.rl hr) Vr Lr Mr) (by omega)),
        .alloc 0 _ rfl rfl (.inl ⟨rfl, rfl⟩) rfl rfl rfl rfl rfl,
        .store 0 _ _ _ rfl rfl rfl rfl rfl rfl rfl (fun ia h => by cases h; rfl) rfl rfl rfl OutR.cs,
        trivial⟩
    · intro a2 w2 gs2 hn2 hd2 hBt hr hR hP hX hU
      replace hn := hn2; replace hd := hd2.trans hd
      obtain ⟨n_3, a_3, c_3, r_3, b_3, d_3, s_3, e6, G3, K3, l3, k3⟩ : OutR ((nm (tp pr qr) (tq qr))) ((dn (tp pr qr) (tq qr))) (2 * ((Br) + 2)) (a2.eval (.tmp 6)) w2 := hP 1 (by decide)
      have A3 := G3.ag; have S3 := K3.sl; have V3 := K3.val
      have b3 : BoxV R3 w2 (gs2 0) (.agg #[.bool n_3, .slice a_3 r_3.length c_3, .slice b_3 s_3.length d_3]) := boxv_of (hX 0 _ rfl).2.2.2 e6
      have f3 := (hX 0 _ rfl).1
      have u3 : w.heap.size ≤ gs2 0 := Nat.le_trans HB.size ((hX 0 _ rfl).2.2.1 (by simp))
      replace f2 := (hR 2 rfl).trans f2
      replace Ar := Ar.rl hr
      replace Sr := Sr.rl hr
      replace Dr := Dr.rl hr
      replace HB := HB.trans (hBt.below HB.size (UpOld.all (bx := [⟨R3, some 2, 0, 3, .agg #[.bool false, .slice none 0 0, .slice none 0 0], some (3, 6, 1), []⟩]) ⟨someNe, trivial⟩))
      clear hBt hr hR hP hX hU
      refine wp_seq ?_
      refine region4 [some 7, some 8, some 9, some 4] [Eqs (.pointer (some ⟨gs2 0, 0, none⟩)), Eqs (.agg #[.bool n_3, .slice a_3 r_3.length c_3]), Eqs (.string ⟨#[45, 51]⟩), Eqs (.string ⟨#[45, 51]⟩)] [] [] (by kernel_rfl) hn rfl (by kernel_rfl) (by kernel_rfl) (by kernel_rfl) (by kernel_rfl) (by kernel_rfl) (by kernel_rfl) ⟨Eqs.mono4 _, Eqs.mono4 _, Eqs.mono4 _, Eqs.mono4 _, trivial⟩ ok_nil (IsOld.all (bx := []) trivial) (DisOld.all (bx := []) trivial) ?_ ?_
      · exact ⟨.norm 7 rfl rfl rfl (fun a_ w_ hn_ hBt hr hR hD hO hS => op_faR fa_num ((hR 3 rfl).trans f3)),
          .norm 8 rfl rfl rfl (fun a_ w_ hn_ hBt hr hR hD hO hS => op_ldnum (show a_.eval (.tmp 7) = .pointer (some ⟨gs2 0, 0, none⟩) from hD 0 rfl) (b3.keep hBt trivial)),
          .norm 9 rfl rfl rfl (fun a_ w_ hn_ hBt hr hR hD hO hS => op_text3 (outw_eq (show a_.eval (.tmp 8) = .agg #[.bool n_3, .slice a_3 r_3.length c_3] from hD 1 rfl) (G3.rl hr) l3) hp (by omega)),
          .norm 4 rfl rfl rfl (fun a_ w_ hn_ hBt hr hR hD hO hS => op_assign (show a_.eval (.tmp 9) = .string ⟨#[45, 51]⟩ from hD 2 rfl)),
          trivial⟩
      · intro a4 w4 gs4 hn4 hd4 hBt hr hR hP hX hU
        replace hn := hn4; replace hd := hd4.trans hd
        replace b3 := b3.keep hBt trivial
        replace f2 := (hR 2 rfl).trans f2
        replace f3 := (hR 3 rfl).trans f3
        have e4 : a4.eval (.tmp 4) = .string ⟨#[45, 51]⟩ := hP 3 (by decide)
        have f4 := e4
        replace Ar := Ar.rl hr
        replace Sr := Sr.rl hr
        replace Dr := Dr.rl hr
        replace G3 := G3.rl hr
        replace A3 := A3.rl hr
        replace K3 := K3.rl hr
        replace S3 := S3.rl hr
        replace HB := HB.trans (hBt.below HB.size (UpOld.all (bx := []) trivial))
        clear hBt hr hR hP hX hU
        refine wp_seq ?_
        refine wp_seq ?_
        refine region4 [some 10, some 11, some 12, some 13] [Eqs (.pointer (some ⟨gs2 0, 2, none⟩)), Eqs (.slice b_3 s_3.length d_3), BitsOf ((dn (tp pr qr) (tq qr))), Eqs (.bool (decide ((dn (tp pr qr) (tq qr)) = 1)))] [] [] (by kernel_rfl) hn rfl (by kernel_rfl) (by kernel_rfl) (by kernel_rfl) (by kernel_rfl) (by kernel_rfl) (by kernel_rfl) ⟨Eqs.mono4 _, Eqs.mono4 _, BitsOf.mono4 _, Eqs.mono4 _, trivial⟩ ok_nil (IsOld.all (bx := []) trivial) (DisOld.all (bx := []) trivial) ?_ ?_
        · exact ⟨.norm 10 rfl rfl rfl (fun a_ w_ hn_ hBt hr hR hD hO hS => op_faR fa_den ((hR 3 rfl).trans f3)),
            .norm 11 rfl rfl rfl (fun a_ w_ hn_ hBt hr hR hD hO hS => op_ldden (show a_.eval (.tmp 10) = .pointer (some ⟨gs2 0, 2, none⟩) from hD 0 rfl) (b3.keep hBt trivial)),
            .norm 12 rfl rfl rfl (fun a_ w_ hn_ hBt hr hR hD hO hS => op_lbits (isl_eq (show a_.eval (.tmp 11) = .slice b_3 s_3.length d_3 from hD 1 rfl) (S3.rl hr) V3 k3) (by omega)),
            .norm 13 rfl rfl rfl (fun a_ w_ hn_ hBt hr hR hD hO hS => op_bits1 (show BitsOf ((dn (tp pr qr) (tq qr))) (a_.eval (.tmp 12)) w_ from hD 2 rfl) (by rw [hq]; omega)),
            trivial⟩
        · intro a5 w5 gs5 hn5 hd5 hBt hr hR hP hX hU
          replace hn := hn5; replace hd := hd5.trans hd
          replace b3 := b3.keep hBt trivial
          replace f2 := (hR 2 rfl).trans f2
          replace f3 := (hR 3 rfl).trans f3
          replace f4 := (hR 4 rfl).trans f4
          have e13 : a5.eval (.tmp 13) = .bool (decide ((dn (tp pr qr) (tq qr)) = 1)) := hP 3 (by decide)
          have f13 := e13
          replace Ar := Ar.rl hr
          replace Sr := Sr.rl hr
          replace Dr := Dr.rl hr
          replace G3 := G3.rl hr
          replace A3 := A3.rl hr
          replace K3 := K3.rl hr
          replace S3 := S3.rl hr
          replace HB := HB.trans (hBt.below HB.size (UpOld.all (bx := []) trivial))
          clear hBt hr hR hP hX hU
          refine wp_cond_split f13 (fun hc13 => ?_) (fun hc13 => ?_)
          · skip
            exact absurd (of_decide_eq_true hc13) (by rw [hq]; omega)
          · skip
            refine wp_skip ?_
            refine wp_seq ?_
            refine region4 [some 15, some 16, some 17, some 18, some 19, some 20, some 2] [Eqs (.string ⟨#[45, 51]⟩), Eqs (.string ⟨#[45, 51, 47]⟩), Eqs (.pointer (some ⟨gs2 0, 2, none⟩)), Eqs (.slice b_3 s_3.length d_3), Eqs (.string ⟨#[50]⟩), Eqs (.string ⟨#[45, 51, 47, 50]⟩), Eqs (.string ⟨#[45, 51, 47, 50]⟩)] [] [] (by kernel_rfl) hn rfl (by kernel_rfl) (by kernel_rfl) (by kernel_rfl) (by kernel_rfl) (by kernel_rfl) (by kernel_rfl) ⟨Eqs.mono4 _, Eqs.mono4 _, Eqs.mono4 _, Eqs.mono4 _, Eqs.mono4 _, Eqs.mono4 _, Eqs.mono4 _, trivial⟩ ok_nil (IsOld.all (bx := []) trivial) (DisOld.all (bx := []) trivial) ?_ ?_
            · exact ⟨.norm 15 rfl rfl rfl (fun a_ w_ hn_ hBt hr hR hD hO hS => op_mv ((hR 4 rfl).trans f4)),
                .norm 16 rfl rfl rfl (fun a_ w_ hn_ hBt hr hR hD hO hS => op_cat (show a_.eval (.tmp 15) = .string ⟨#[45, 51]⟩ from hD 0 rfl) rfl (by decide) rfl),
                .norm 17 rfl rfl rfl (fun a_ w_ hn_ hBt hr hR hD hO hS => op_faR fa_den ((hR 3 rfl).trans f3)),
                .norm 18 rfl rfl rfl (fun a_ w_ hn_ hBt hr hR hD hO hS => op_ldden (show a_.eval (.tmp 17) = .pointer (some ⟨gs2 0, 2, none⟩) from hD 2 rfl) (b3.keep hBt trivial)),
                .norm 19 rfl rfl rfl (fun a_ w_ hn_ hBt hr hR hD hO hS => op_text2 (isl_eq (show a_.eval (.tmp 18) = .slice b_3 s_3.length d_3 from hD 3 rfl) (S3.rl hr) V3 k3) hq (by omega)),
                .norm 20 rfl rfl rfl (fun a_ w_ hn_ hBt hr hR hD hO hS => op_cat (show a_.eval (.tmp 16) = .string ⟨#[45, 51, 47]⟩ from hD 1 rfl) (show a_.eval (.tmp 19) = .string ⟨#[50]⟩ from hD 4 rfl) (by decide) rfl),
                .norm 2 rfl rfl rfl (fun a_ w_ hn_ hBt hr hR hD hO hS => op_assign (show a_.eval (.tmp 20) = .string ⟨#[45, 51, 47, 50]⟩ from hD 5 rfl)),
                trivial⟩
            · intro a6 w6 gs6 hn6 hd6 hBt hr hR hP hX hU
              replace hn := hn6; replace hd := hd6.trans hd
              have e2 : a6.eval (.tmp 2) = .string ⟨#[45, 51, 47, 50]⟩ := hP 6 (by decide)
              have f2 := e2
              replace Ar := Ar.rl hr
              replace Sr := Sr.rl hr
              replace Dr := Dr.rl hr
              replace G3 := G3.rl hr
              replace A3 := A3.rl hr
              replace K3 := K3.rl hr
              replace S3 := S3.rl hr
              replace HB := HB.trans (hBt.below HB.size (UpOld.all (bx := []) trivial))
              clear hBt hr hR hP hX hU
              refine wp_ret ?_
              repeat (first | refine then_ret ?_ | refine scope_ret ?_ | refine block_ret ?_)
              exact bodyPost_ret (v := .string ⟨#[45, 51, 47, 50]⟩) (res_t rfl f2) hd ⟨_, rfl, rfl, HB⟩
theorem has_rtext32 : Has Tryd.prog 26 := by unfold Has; kernel_rfl
theorem op_rtext32 {dst : Option Tmp} {ty : TypeId} {pos : String} {after : Array Edge} {guard : Option (Nat × Bool)} {a : Act} {w : World} {ats : Array TypeId} {i : Nat} {Br : Nat} {pr qr : Int} (Hr : IsR pr qr Br (a.eval (.tmp i)) w) (hL : Br ≤ 1000) (hp : nm (tp pr qr) (tq qr) = -3) (hq : dn (tp pr qr) (tq qr) = 2) :
    Does Tryd.prog { dst, op := .call { callee := .value (.func 26), args := #[.tmp i], argTypes := ats }, type := ty, pos, after, guard } a.eval w fun v w' => Below w.heap.size w w' ∧ (Eqs (.string ⟨#[45, 51, 47, 50]⟩)) v w' := by
  obtain ⟨nr, ar, mr, cr, rs, br, kr, dr, rt, er, Ar, Sr, Vr, Lr, Mr⟩ := Hr
  refine does_call has_rtext32 _ (by simp only [List.map_toArray, List.map_cons, List.map_nil, er]) ((rtext32_z w Br _ _ _ _ _ _ Ar Lr _ _ _ _ _ Sr Vr Mr hL hp hq).mono ?_)
  rintro e w' ⟨v, rfl, h1, hb⟩
  exact ⟨_, rfl, hb, h1⟩
set_option maxRecDepth 20000 in
set_option maxHeartbeats 1000000 in
theorem rawake_z (w : World) : Calls Tryd.prog 22 #[] w fun e w' => ∃ v, e = .returned v ∧ (Eqs (.bool true)) v w' ∧ Below w.heap.size w w' := by
  go_enter Tryd.func22, Tryd.ntmps22
  generalize hA : (Act.mk _ _) = aa
  have hn : aa.tmps.size = 16 := by rw [← hA]; rfl
  have hd : aa.defers = [] := by rw [← hA]
  clear hA
  have HB : Below w.heap.size w w := Below.refl _ _
  refine wp_seq ?_
  refine region4 [some 0] [Eqs ((.bool false))] [] [] (by kernel_rfl) hn rfl (by kernel_rfl) (by kernel_rfl) (by kernel_rfl) (by kernel_rfl) (by kernel_rfl) (by kernel_rfl) ⟨Eqs.mono4 _, trivial⟩ ok_nil (IsOld.all (bx := []) trivial) (DisOld.all (bx := []) trivial) ?_ ?_
  · exact ⟨.norm 0 rfl rfl rfl (fun a_ w_ hn_ hBt hr hR hD hO hS => op_assign rfl),
      trivial⟩
  · intro a1 w1 gs1 hn1 hd1 hBt hr hR hP hX hU
    replace hn := hn1; replace hd := hd1.trans hd
    have e0 : a1.eval (.tmp 0) = (.bool false) := hP 0 (by decide)
    have f0 := e0
    replace HB := HB.trans (hBt.below HB.size (UpOld.all (bx := []) trivial))
    clear hBt hr hR hP hX hU
    refine wp_seq ?_
    refine region4 [some 4, some 5, some 6, some 3, some 7, some 8, some 1, none, some 2] [OutW (6) (2), OutW ((-4)) (2), Tup2 (OutR ((nm 6 (-4))) ((dn 6 (-4))) ((2) + (2))) (Eqs (.int .i64 0)), Tup2 (OutR ((nm 6 (-4))) ((dn 6 (-4))) ((2) + (2))) (Eqs (.int .i64 0)), OutR ((nm 6 (-4))) ((dn 6 (-4))) ((2) + (2)), Eqs (.int .i64 0), (fun _ _ => True), (fun _ _ => True), Eqs (.int .i64 0)] [⟨R3, some 6, 0, 1, .agg #[.bool false, .slice none 0 0, .slice none 0 0], some (7, 7, 4), []⟩] [] (by kernel_rfl) hn rfl (by kernel_rfl) (by kernel_rfl) (by kernel_rfl) (by kernel_rfl) (by kernel_rfl) (by kernel_rfl) ⟨OutW.mono4 _ _, OutW.mono4 _ _, Tup2.mono4 (OutR.mono4 _ _ _) (Eqs.mono4 _), Tup2.mono4 (OutR.mono4 _ _ _) (Eqs.mono4 _), OutR.mono4 _ _ _, Eqs.mono4 _, True.mono4, True.mono4, Eqs.mono4 _, trivial⟩ (ok_cons R3ok ok_nil) (IsOld.all (bx := [⟨R3, some 6, 0, 1, .agg #[.bool false, .slice none 0 0, .slice none 0 0], some (7, 7, 4), []⟩]) ⟨someNe, trivial⟩) (DisOld.all (bx := [⟨R3, some 6, 0, 1, .agg #[.bool false, .slice none 0 0, .slice none 0 0], some (7, 7, 4), []⟩]) ⟨someNe, trivial⟩) ?_ ?_
    · exact ⟨.norm 4 rfl rfl rfl (fun a_ w_ hn_ hBt hr hR hD hO hS => op_lsmall (by omega) (by omega)),
        .norm 5 rfl rfl rfl (fun a_ w_ hn_ hBt hr hR hD hO hS => op_lsmall (by omega) (by omega)),
        .norm 6 rfl rfl rfl (fun a_ w_ hn_ hBt hr hR hD hO hS => op_rof (show OutW (6) (2) (a_.eval (.tmp 4)) w_ from hD 0 rfl).is (show OutW ((-4)) (2) (a_.eval (.tmp 5)) w_ from hD 1 rfl).is (by omega) (by omega)),
        .norm 3 rfl rfl rfl (fun a_ w_ hn_ hBt hr hR hD hO hS => op_mvp (p := Tup2 (OutR ((nm 6 (-4))) ((dn 6 (-4))) ((2) + (2))) (Eqs (.int .i64 0))) (show Tup2 (OutR ((nm 6 (-4))) ((dn 6 (-4))) ((2) + (2))) (Eqs (.int .i64 0)) (a_.eval (.tmp 6)) w_ from hD 2 rfl)),
        .norm 7 rfl rfl rfl (fun a_ w_ hn_ hBt hr hR hD hO hS => op_ex20 (show Tup2 (OutR ((nm 6 (-4))) ((dn 6 (-4))) ((2) + (2))) (Eqs (.int .i64 0)) (a_.eval (.tmp 3)) w_ from hD 3 rfl)),
        .norm 8 rfl rfl rfl (fun a_ w_ hn_ hBt hr hR hD hO hS => op_ex21 (show Tup2 (OutR ((nm 6 (-4))) ((dn 6 (-4))) ((2) + (2))) (Eqs (.int .i64 0)) (a_.eval (.tmp 3)) w_ from hD 3 rfl)),
        .alloc 0 _ rfl rfl (.inl ⟨rfl, rfl⟩) rfl rfl rfl rfl rfl,
        .store 0 _ _ _ rfl rfl rfl rfl rfl rfl rfl (fun ia h => by cases h; rfl) rfl rfl rfl OutR.cs,
        .norm 2 rfl rfl rfl (fun a_ w_ hn_ hBt hr hR hD hO hS => op_assign (show a_.eval (.tmp 8) = .int .i64 0 from hD 5 rfl)),
        trivial⟩
    · intro a2 w2 gs2 hn2 hd2 hBt hr hR hP hX hU
      replace hn := hn2; replace hd := hd2.trans hd
      obtain ⟨n_3, a_3, c_3, r_3, b_3, d_3, s_3, e7, G3, K3, l3, k3⟩ : OutR ((nm 6 (-4))) ((dn 6 (-4))) ((2) + (2)) (a2.eval (.tmp 7)) w2 := hP 4 (by decide)
      have A3 := G3.ag; have S3 := K3.sl; have V3 := K3.val
      have b1 : BoxV R3 w2 (gs2 0) (.agg #[.bool n_3, .slice a_3 r_3.length c_3, .slice b_3 s_3.length d_3]) := boxv_of (hX 0 _ rfl).2.2.2 e7
      have f1 := (hX 0 _ rfl).1
      have u1 : w.heap.size ≤ gs2 0 := Nat.le_trans HB.size ((hX 0 _ rfl).2.2.1 (by simp))
      replace f0 := (hR 0 rfl).trans f0
      have e2 : a2.eval (.tmp 2) = .int .i64 0 := hP 8 (by decide)
      have f2 := e2
      replace HB := HB.trans (hBt.below HB.size (UpOld.all (bx := [⟨R3, some 6, 0, 1, .agg #[.bool false, .slice none 0 0, .slice none 0 0], some (7, 7, 4), []⟩]) ⟨someNe, trivial⟩))
      clear hBt hr hR hP hX hU
      refine wp_seq ?_
      refine region4 [some 9, some 10, some 11, some 12, some 13, some 14, some 15, some 0] [Eqs (.int .i64 0), Eqs (.bool true), Eqs (.bool true), Eqs (.agg #[.bool n_3, .slice a_3 r_3.length c_3, .slice b_3 s_3.length d_3]), Eqs (.string ⟨#[45, 51, 47, 50]⟩), Eqs (.bool true), Eqs (.bool true), Eqs (.bool true)] [] [] (by kernel_rfl) hn rfl (by kernel_rfl) (by kernel_rfl) (by kernel_rfl) (by kernel_rfl) (by kernel_rfl) (by kernel_rfl) ⟨Eqs.mono4 _, Eqs.mono4 _, Eqs.mono4 _, Eqs.mono4 _, Eqs.mono4 _, Eqs.mono4 _, Eqs.mono4 _, Eqs.mono4 _, trivial⟩ ok_nil (IsOld.all (bx := []) trivial) (DisOld.all (bx := []) trivial) ?_ ?_
      · exact ⟨.norm 9 rfl rfl rfl (fun a_ w_ hn_ hBt hr hR hD hO hS => op_mv ((hR 2 rfl).trans f2)),
          .norm 10 rfl rfl rfl (fun a_ w_ hn_ hBt hr hR hD hO hS => op_eqle (show a_.eval (.tmp 9) = .int .i64 0 from hD 0 rfl)),
          .norm 11 rfl rfl rfl (fun a_ w_ hn_ hBt hr hR hD hO hS => op_mv (show a_.eval (.tmp 10) = .bool true from hD 1 rfl)),
          .norm 12 rfl rfl rfl (fun a_ w_ hn_ hBt hr hR hD hO hS => ⟨⟨_, rfl⟩, fun _ => op_loadv R3ok ((hR 1 rfl).trans f1) (b1.keep hBt trivial), fun hne => absurd (hD 2 rfl) hne⟩),
          .norm 13 rfl rfl rfl (fun a_ w_ hn_ hBt hr hR hD hO hS => ⟨⟨_, rfl⟩, fun _ => op_rtext32 (isr_eq (show a_.eval (.tmp 12) = .agg #[.bool n_3, .slice a_3 r_3.length c_3, .slice b_3 s_3.length d_3] from hD 3 rfl) (A3.rl hr) (S3.rl hr) V3 l3 k3) (by omega) (by decide) (by decide), fun hne => absurd (hD 2 rfl) hne⟩),
          .norm 14 rfl rfl rfl (fun a_ w_ hn_ hBt hr hR hD hO hS => ⟨⟨_, rfl⟩, fun _ => op_eqls (show a_.eval (.tmp 13) = .string ⟨#[45, 51, 47, 50]⟩ from hD 4 rfl) rfl, fun hne => absurd (hD 2 rfl) hne⟩),
          .norm 15 rfl rfl rfl (fun a_ w_ hn_ hBt hr hR hD hO hS => op_pickb (show a_.eval (.tmp 11) = .bool true from hD 2 rfl) (show a_.eval (.tmp 14) = .bool true from hD 5 rfl)),
          .norm 0 rfl rfl rfl (fun a_ w_ hn_ hBt hr hR hD hO hS => op_assign (show a_.eval (.tmp 15) = .bool true from hD 6 rfl)),
          trivial⟩
      · intro a4 w4 gs4 hn4 hd4 hBt hr hR hP hX hU
        replace hn := hn4; replace hd := hd4.trans hd
        have e0 : a4.eval (.tmp 0) = .bool true := hP 7 (by decide)
        have f0 := e0
        replace G3 := G3.rl hr
        replace A3 := A3.rl hr
        replace K3 := K3.rl hr
        replace S3 := S3.rl hr
        replace HB := HB.trans (hBt.below HB.size (UpOld.all (bx := []) trivial))
        clear hBt hr hR hP hX hU
        refine wp_ret ?_
        repeat (first | refine then_ret ?_ | refine scope_ret ?_ | refine block_ret ?_)
        exact bodyPost_ret (v := .bool true) (res_t rfl f0) hd ⟨_, rfl, rfl, HB⟩
theorem has_rawake : Has Tryd.prog 22 := by unfold Has; kernel_rfl
theorem op_rawake {dst : Option Tmp} {ty : TypeId} {pos : String} {after : Array Edge} {guard : Option (Nat × Bool)} {a : Act} {w : World} {ats : Array TypeId} : Does Tryd.prog { dst, op := .call { callee := .value (.func 22), args := #[], argTypes := ats }, type := ty, pos, after, guard } a.eval w fun v w' => Below w.heap.size w w' ∧ Eqs (.bool true) v w' := by
  refine does_call has_rawake _ (by simp only [List.map_toArray, List.map_nil]) ((rawake_z w).mono ?_)
  rintro e w' ⟨v, rfl, h1, hb⟩
  exact ⟨_, rfl, hb, h1⟩
end Lm
end Go.Proofs.YtdiiankcjgoecaaDoor

namespace Go.Proofs.YtdiiankcjgoecaaDoor
namespace Dm
open Go.RowKit
open Lm (hide lt_of_cell lt_of_heap div_of info32 cmpI cmpI_lt cmpI_gt cmpI_eq ret_i64)
theorem getD_take (zs : List Int) (i k : Nat) (h : i < k) : (zs.take k).getD i 0 = zs.getD i 0 := by
  rw [List.getD_eq_getElem?_getD, List.getD_eq_getElem?_getD, List.getElem?_take, if_pos h]
theorem cmp_len {xs ys : List Int} (hx : Canon xs) (hy : Canon ys) (h : xs.length ≠ ys.length) : cmpI (val xs) (val ys) = if xs.length < ys.length then -1 else 1 := by
  by_cases h' : xs.length < ys.length
  · rw [if_pos h', cmpI_lt (canon_lt hx hy h')]
  · rw [if_neg h', cmpI_gt (canon_lt hy hx (by omega))]
theorem cmp_low {xs ys : List Int} {k : Nat} (hx : Limb xs) (hy : Limb ys) (hl : xs.length = ys.length) (hk : k < xs.length) (hd : xs.drop (k + 1) = ys.drop (k + 1)) (h : xs.getD k 0 < ys.getD k 0) : cmpI (val xs) (val ys) = -1 := cmpI_lt (val_lt_at hx hy hl hk hd h)
theorem cmp_high {xs ys : List Int} {k : Nat} (hx : Limb xs) (hy : Limb ys) (hl : xs.length = ys.length) (hk : k < xs.length) (hd : xs.drop (k + 1) = ys.drop (k + 1)) (h : ys.getD k 0 < xs.getD k 0) : cmpI (val xs) (val ys) = 1 := cmpI_gt (val_lt_at hy hx hl.symm (by omega) hd.symm h)
theorem drop_down {xs ys : List Int} {k : Nat} (hl : xs.length = ys.length) (hk : k < xs.length) (hd : xs.drop (k + 1) = ys.drop (k + 1)) (h : xs.getD k 0 = ys.getD k 0) : xs.drop k = ys.drop k := by
  rw [drop_getD xs k hk, drop_getD ys k (by omega), hd, h]
set_option maxRecDepth 20000 in
set_option maxHeartbeats 1000000 in
theorem size_any (w : World) (g1 g2 : Bool) (a1 a2 : Option Addr) (c1 c2 : Nat) (xs ys : List Int) (x y : Int) (hx : Got w a1 c1 xs x) (hy : Got w a2 c2 ys y) :
    Calls Tryd.prog 99 #[.agg #[.bool g1, .slice a1 xs.length c1], .agg #[.bool g2, .slice a2 ys.length c2]] w fun e w' => e = .returned (.int .i64 (cmpI x y)) ∧ Below w.heap.size w w' := by
  have e1 : (w.alloc (.cells #[.bool g1, .slice a1 xs.length c1] 77)).heap.size = w.heap.size + 1 := by simp
  have hb1 : Below w.heap.size w (w.alloc (.cells #[.bool g1, .slice a1 xs.length c1] 77)) := (Below.refl _ _).alloc (Nat.le_refl _) _
  have hb2 := ((Below.refl (w.heap.size + 1) (w.alloc (.cells #[.bool g1, .slice a1 xs.length c1] 77))).alloc (by simp) (.cells #[.bool g2, .slice a2 ys.length c2] 77))
  have k1 : ((w.alloc (.cells #[.bool g1, .slice a1 xs.length c1] 77)).alloc (.cells #[.bool g2, .slice a2 ys.length c2] 77)).cell? ⟨w.heap.size, 1, none⟩ = some (.slice a1 xs.length c1) := by
    rw [hb2.cell (p := ⟨w.heap.size, 1, none⟩) (by simp), cell_of_row _ _ _ _ _ (0, 0) (heap_alloc_new w _)]; rfl
  have k2 : ((w.alloc (.cells #[.bool g1, .slice a1 xs.length c1] 77)).alloc (.cells #[.bool g2, .slice a2 ys.length c2] 77)).cell? ⟨w.heap.size + 1, 1, none⟩ = some (.slice a2 ys.length c2) := by
    rw [← e1, cell_of_row _ _ _ _ _ (0, 0) (heap_alloc_new _ _)]; rfl
  have hbw := hb1.trans (hb2.mono (by omega))
  have K := hide (And.intro k1 (And.intro k2 (And.intro hbw (show w.heap.size + 1 < ((w.alloc (.cells #[.bool g1, .slice a1 xs.length c1] 77)).alloc (.cells #[.bool g2, .slice a2 ys.length c2] 77)).heap.size by simp))))
  obtain ⟨_, p1, p2, p3⟩ := hx.sl.parts
  obtain ⟨_, s1, s2, s3⟩ := hy.sl.parts
  have VX := hide hx.val
  have VY := hide hy.val
  have CX := hide hx.canon
  have CY := hide hy.canon
  have hsx := hide hx.sl
  have hsy := hide hy.sl
  clear e1 hb1 hb2 k1 k2 hbw hx hy p3 s3
  by_cases hl : xs.length = ys.length
  · have hne : (((xs.length : Nat) : Int) != ((ys.length : Nat) : Int)) = false := by simp [hl]
    have HL := hide hl
    have l1 : xs.length ≤ ys.length := by omega
    have l2 : ys.length ≤ xs.length := by omega
    clear hl
    go_enter Tryd.func99, Tryd.ntmps99
    go_wp2
    generalize (w.alloc (.cells #[.bool g1, .slice a1 xs.length c1] 77)).alloc (.cells #[.bool g2, .slice a2 ys.length c2] 77) = w0 at K ⊢
    go_loopw [5] (fun i wr => ∃ k : Nat, k ≤ xs.length ∧ xs.drop k = ys.drop k ∧ i = .int .i64 ((k : Int) - 1) ∧ Below w0.heap.size w0 wr) (fun i _ => (intOf i + 1).toNat)
    case atStart => exact ⟨xs.length, Nat.le_refl _, by rw [List.drop_of_length_le (by omega), List.drop_of_length_le (by omega)], rfl, Below.refl _ _⟩
    case round =>
      obtain ⟨k, hk, hd, rfl, hbel⟩ := hrel
      have HD := hide hd
      clear hd
      have hbw : Below w.heap.size w wr := K.out.2.2.1.trans (hbel.mono K.out.2.2.1.size)
      cases k with
      | zero =>
        have HE : Hid (cmpI x y = 0) := by
          show _ = _
          have := HD.out
          rw [List.drop_zero, List.drop_zero] at this
          rw [← VX.out, ← VY.out, this]
          exact cmpI_eq rfl
        go_wp2
        go_ret
        exact ⟨by rw [HE.out]; rfl, hbw⟩
      | succ k =>
        have sx := (hsx.out.below K.out.2.2.1).below hbel
        have sy := (hsy.out.below K.out.2.2.1).below hbel
        obtain ⟨b, off, rfl, hc⟩ := sx.cells (by omega)
        obtain ⟨b', off', rfl, hc'⟩ := sy.cells (by omega)
        have f1 := hc k (by omega)
        have f2 := hc' k (by omega)
        have m1 := (hbel.cell (p := ⟨w.heap.size, 1, none⟩) (by have := K.out.2.2.2; simp; omega)).trans K.out.1
        have m2 := (hbel.cell (p := ⟨w.heap.size + 1, 1, none⟩) K.out.2.2.2).trans K.out.2.1
        have d1 : (k : Int) < ((xs.length : Nat) : Int) := by omega
        have d2 : (k : Int) < ((ys.length : Nat) : Int) := by omega
        have ND := hide (drop_down HL.out (by omega) HD.out)
        have NL := hide (cmp_low CX.out.1 CY.out.1 HL.out (by omega) HD.out)
        have NH := hide (cmp_high CX.out.1 CY.out.1 HL.out (by omega) HD.out)
        generalize xs.getD k 0 = z at f1 ND NL NH
        generalize ys.getD k 0 = z' at f2 ND NL NH
        clear sx sy hc hc'
        rcases Int.lt_trichotomy z z' with h | h | h
        · have HE : Hid (cmpI x y = -1) := by show _ = _; rw [← VX.out, ← VY.out]; exact NL.out h
          go_wp2
          go_quiet (fail)
          go_wp2
          go_ret
          exact ⟨by rw [HE.out]; rfl, below_drewN hbw _⟩
        · subst h
          have n1 : ¬ z < z := by omega
          go_wp2
          go_quiet (fail)
          go_wp2
          replace f1 : (wr.drewN nq).cell? ⟨b, off + k, none⟩ = some (.int .i64 z) := f1
          replace f2 : (wr.drewN nq).cell? ⟨b', off' + k, none⟩ = some (.int .i64 z) := f2
          replace m1 : (wr.drewN nq).cell? ⟨w.heap.size, 1, none⟩ = _ := m1
          replace m2 : (wr.drewN nq).cell? ⟨w.heap.size + 1, 1, none⟩ = _ := m2
          replace hbel := below_drewN hbel nq
          generalize wr.drewN nq = wr2 at f1 f2 m1 m2 hbel ⊢
          go_quiet (fail)
          go_wp2
          go_roundw
          case rel => exact ⟨k, by omega, ND.out (by first | rfl | trivial), by go_num, below_drewN hbel _⟩
          case measure => simp [intOf]
        · have HE : Hid (cmpI x y = 1) := by show _ = _; rw [← VX.out, ← VY.out]; exact NH.out h
          have n1 : ¬ z < z' := by omega
          go_wp2
          go_quiet (fail)
          go_wp2
          replace f1 : (wr.drewN nq).cell? ⟨b, off + k, none⟩ = some (.int .i64 z) := f1
          replace f2 : (wr.drewN nq).cell? ⟨b', off' + k, none⟩ = some (.int .i64 z') := f2
          replace m1 : (wr.drewN nq).cell? ⟨w.heap.size, 1, none⟩ = _ := m1
          replace m2 : (wr.drewN nq).cell? ⟨w.heap.size + 1, 1, none⟩ = _ := m2
          replace hbw := below_drewN hbw nq
          generalize wr.drewN nq = wr2 at f1 f2 m1 m2 hbw ⊢
          go_quiet (fail)
          go_wp2
          go_ret
          exact ⟨by rw [HE.out]; rfl, below_drewN hbw _⟩
  · have hne : (((xs.length : Nat) : Int) != ((ys.length : Nat) : Int)) = true := by rw [bne_iff_ne]; omega
    have HE := hide (cmp_len CX.out CY.out hl)
    rw [VX.out, VY.out] at HE
    by_cases h : xs.length < ys.length
    · rw [if_pos h] at HE
      have h' : ((xs.length : Nat) : Int) < ((ys.length : Nat) : Int) := by omega
      clear hl
      go_enter Tryd.func99, Tryd.ntmps99
      go_wp2
      go_ret
      exact ⟨by rw [HE.out]; rfl, K.out.2.2.1⟩
    · rw [if_neg h] at HE
      have h' : ¬ ((xs.length : Nat) : Int) < ((ys.length : Nat) : Int) := by omega
      clear hl
      go_enter Tryd.func99, Tryd.ntmps99
      go_wp2
      go_ret
      exact ⟨by rw [HE.out]; rfl, K.out.2.2.1⟩
def sgn (n : Nat) : Int := if n = 0 then 0 else 1
set_option maxRecDepth 20000 in
set_option maxHeartbeats 400000 in
theorem sign_any (w : World) (ao : Option Addr) (n cap : Nat) :
    Calls Tryd.prog 62 #[.agg #[.bool false, .slice ao n cap]] w fun e w' => e = .returned (.int .i64 (sgn n)) ∧ w' = w.alloc (.cells #[.bool false, .slice ao n cap] 77) := by
  by_cases h : n = 0
  · subst h
    go_enter Tryd.func62, Tryd.ntmps62
    go_wp2
    go_ret
    exact ⟨rfl, rfl⟩
  · have hne : (((n : Nat) : Int) == 0) = false := by simp; omega
    have H : Hid (sgn n = 1) := by simp [Hid, sgn, h]
    clear h
    go_enter Tryd.func62, Tryd.ntmps62
    go_wp2
    go_ret
    exact ⟨by rw [H.out]; rfl, rfl⟩
theorem got_zero {w : World} {ao : Option Addr} {cap : Nat} {xs : List Int} {x : Int} (h : Got w ao cap xs x) (h0 : xs.length = 0) : x = 0 := by
  have e : xs = [] := List.eq_nil_of_length_eq_zero h0
  rw [← h.val, e]; rfl
end Dm
end Go.Proofs.YtdiiankcjgoecaaDoor

namespace Go.Proofs.YtdiiankcjgoecaaDoor
namespace Dm
open Go.RowKit
open Lm (hide)
def Dl (B : Nat) (w : World) (v : Value) (x : Int) (n : Nat) : Prop := ∃ ds, Ow B w v ds ∧ val ds = x ∧ ds.length ≤ n
theorem plus_val {A B ds : List Int} {k : Nat} {a b c s : Int} (hk : ds.length = k) (ha : A.getD k 0 = a) (hb : B.getD k 0 = b) (hs : s = c + a + b) (h : val ds + pw k * c = vf A k + vf B k) :
    val (ds ++ [s % 10000]) + pw (k + 1) * (s / 10000) = vf A (k + 1) + vf B (k + 1) := by
  rw [val_snoc, vf, vf, ha, hb, hk, pw]
  have e : s = s % 10000 + 10000 * (s / 10000) := by omega
  have e2 : pw k * (s % 10000) + 10000 * pw k * (s / 10000) = pw k * s := by
    rw [Int.mul_comm 10000 (pw k), Int.mul_assoc, ← Int.mul_add, ← e]
  rw [Int.add_assoc, e2, hs, Int.mul_add, Int.mul_add]
  omega
theorem getD_past (A : List Int) (k : Nat) (h : ¬ k < A.length) : A.getD k 0 = 0 := by
  rw [List.getD_eq_getElem?_getD, List.getElem?_eq_none (by omega)]; rfl
set_option maxRecDepth 20000 in
set_option maxHeartbeats 1000000 in
theorem plus_any (w : World) (a1 : Option Addr) (n1 c1 : Nat) (A : List Int) (hA : Sl w (.slice a1 n1 c1) A) (a2 : Option Addr) (n2 c2 : Nat) (B : List Int) (hB : Sl w (.slice a2 n2 c2) B) (hl1 : A.length ≤ 1000000) (hl2 : B.length ≤ 1000000) :
    Calls Tryd.prog 145 #[.slice a1 n1 c1, .slice a2 n2 c2] w fun e w' => ∃ v, e = .returned v ∧ Dl w.heap.size w' v (val A + val B) (A.length + B.length + 1) ∧ Below w.heap.size w w' := by
  obtain ⟨rfl, p1, p2, p3⟩ := hA.parts
  obtain ⟨rfl, q1, q2, q3⟩ := hB.parts
  obtain ⟨i0, hi, hz0, hz1, hz2⟩ := info_parts info64
  have P3 := hide p3
  have Q3 := hide q3
  clear p3 q3
  go_enter Tryd.func145, Tryd.ntmps145
  go_wp2
  go_loopw [5, 6, 7] (fun dv cv iv wr => ∃ (k : Nat) (c : Int) (ds : List Int), cv = .int .i64 c ∧ iv = .int .i64 k ∧ (0 ≤ c ∧ c ≤ 1) ∧ (k : Int) + c ≤ (A.length : Int) + B.length + 1 ∧ ds.length = k ∧ Limb ds ∧ val ds + pw k * c = vf A k + vf B k ∧ wr.ownsRow w.heap.size 3 1 dv k (ds.map (Value.int .i64)) ∧ Below w.heap.size w wr) (fun _ cv iv _ => (A.length - (intOf iv).toNat) * 2 + (B.length - (intOf iv).toNat) * 2 + (intOf cv).toNat)
  case atStart => exact ⟨0, 0, [], rfl, rfl, by omega, by omega, rfl, limb_nil, by simp [val, vf, pw], World.ownsRow_nil _ _ _ _, Below.refl _ _⟩
  case round =>
    obtain ⟨k, c, ds, rfl, rfl, hc, hkc, hdl, hd, hval, hown, hbel⟩ := hrel
    have HD := hide hd
    have HDL := hide hdl
    have HV := hide hval
    clear hd hdl hval
    have hsz := hbel.size
    by_cases hltA : k < A.length
    · by_cases hltB : k < B.length
      · have sA := hA.below hbel
        obtain ⟨b1, off1, rfl, hca⟩ := sA.cells (by omega)
        have ca := hca k hltA
        have ba := limb_getD P3.out k
        obtain ⟨a, hak⟩ : ∃ a, A.getD k 0 = a := ⟨_, rfl⟩
        rw [hak] at ca ba
        clear sA hca
        have sB := hB.below hbel
        obtain ⟨b2, off2, rfl, hcb⟩ := sB.cells (by omega)
        have cb := hcb k hltB
        have bb := limb_getD Q3.out k
        obtain ⟨b, hbk⟩ : ∃ b, B.getD k 0 = b := ⟨_, rfl⟩
        rw [hbk] at cb bb
        clear sB hcb
        have dA : (k : Int) < (A.length : Int) := by omega
        have dB : (k : Int) < (B.length : Int) := by omega
        have HV' := hide (plus_val (s := c + a + b) HDL.out hak hbk (by omega) HV.out)
        clear hak hbk
        go_wp2_with (at_builtin; refine wpList_append_own _ rfl (.tmp 44) (.tmp 47) 75 rfl w.heap.size 3 i0 (.int .i64 0) 1 8 Tryd.underlying75 hi hz0 hz1 hz2 rfl (by decide) _ _ _ rfl (hown.alloc _) ⟨wr.heap.size, 0, none⟩ 1 1 [.int .i64 ((c + a + b) % 10000)] rfl rfl (cell_one_new _ _ _) ?c211 ?c311 ?c411 ?c511 ?_)
        case c211 => first | rfl | (intro u hu; simp at hu; subst hu; rfl)
        case c311 => unfold maxLen; omega
        case c411 => omega
        case c511 => first | omega | (simp; omega)
        intro v' w1 hown' hgrow _
        have R := step_own hown' hgrow hbel (hown.lt)
        clear hown' hgrow hown
        go_wp2
        go_roundw
        case rel => exact ⟨k + 1, (c + a + b) / 10000, ds ++ [(c + a + b) % 10000], rfl, by go_num, by omega, by omega, by have := HDL.out; simp; omega, limb_append.2 ⟨HD.out, limb_cons.2 ⟨by omega, limb_nil⟩⟩, HV'.out, R.1, R.2⟩
        case measure => simp [intOf]; omega
      · have hbk := getD_past B k hltB
        have sA := hA.below hbel
        obtain ⟨b1, off1, rfl, hca⟩ := sA.cells (by omega)
        have ca := hca k hltA
        have ba := limb_getD P3.out k
        obtain ⟨a, hak⟩ : ∃ a, A.getD k 0 = a := ⟨_, rfl⟩
        rw [hak] at ca ba
        clear sA hca
        have dA : (k : Int) < (A.length : Int) := by omega
        have dB : ¬ (k : Int) < (B.length : Int) := by omega
        have HV' := hide (plus_val (s := c + a) HDL.out hak hbk (by omega) HV.out)
        clear hak hbk
        go_wp2_with (at_builtin; refine wpList_append_own _ rfl (.tmp 44) (.tmp 47) 75 rfl w.heap.size 3 i0 (.int .i64 0) 1 8 Tryd.underlying75 hi hz0 hz1 hz2 rfl (by decide) _ _ _ rfl (hown.alloc _) ⟨wr.heap.size, 0, none⟩ 1 1 [.int .i64 ((c + a) % 10000)] rfl rfl (cell_one_new _ _ _) ?c210 ?c310 ?c410 ?c510 ?_)
        case c210 => first | rfl | (intro u hu; simp at hu; subst hu; rfl)
        case c310 => unfold maxLen; omega
        case c410 => omega
        case c510 => first | omega | (simp; omega)
        intro v' w1 hown' hgrow _
        have R := step_own hown' hgrow hbel (hown.lt)
        clear hown' hgrow hown
        go_wp2
        go_roundw
        case rel => exact ⟨k + 1, (c + a) / 10000, ds ++ [(c + a) % 10000], rfl, by go_num, by omega, by omega, by have := HDL.out; simp; omega, limb_append.2 ⟨HD.out, limb_cons.2 ⟨by omega, limb_nil⟩⟩, HV'.out, R.1, R.2⟩
        case measure => simp [intOf]; omega
    · have hak := getD_past A k hltA
      by_cases hltB : k < B.length
      · have sB := hB.below hbel
        obtain ⟨b2, off2, rfl, hcb⟩ := sB.cells (by omega)
        have cb := hcb k hltB
        have bb := limb_getD Q3.out k
        obtain ⟨b, hbk⟩ : ∃ b, B.getD k 0 = b := ⟨_, rfl⟩
        rw [hbk] at cb bb
        clear sB hcb
        have dA : ¬ (k : Int) < (A.length : Int) := by omega
        have dB : (k : Int) < (B.length : Int) := by omega
        have HV' := hide (plus_val (s := c + b) HDL.out hak hbk (by omega) HV.out)
        clear hak hbk
        go_wp2_with (at_builtin; refine wpList_append_own _ rfl (.tmp 44) (.tmp 47) 75 rfl w.heap.size 3 i0 (.int .i64 0) 1 8 Tryd.underlying75 hi hz0 hz1 hz2 rfl (by decide) _ _ _ rfl (hown.alloc _) ⟨wr.heap.size, 0, none⟩ 1 1 [.int .i64 ((c + b) % 10000)] rfl rfl (cell_one_new _ _ _) ?c201 ?c301 ?c401 ?c501 ?_)
        case c201 => first | rfl | (intro u hu; simp at hu; subst hu; rfl)
        case c301 => unfold maxLen; omega
        case c401 => omega
        case c501 => first | omega | (simp; omega)
        intro v' w1 hown' hgrow _
        have R := step_own hown' hgrow hbel (hown.lt)
        clear hown' hgrow hown
        go_wp2
        go_roundw
        case rel => exact ⟨k + 1, (c + b) / 10000, ds ++ [(c + b) % 10000], rfl, by go_num, by omega, by omega, by have := HDL.out; simp; omega, limb_append.2 ⟨HD.out, limb_cons.2 ⟨by omega, limb_nil⟩⟩, HV'.out, R.1, R.2⟩
        case measure => simp [intOf]; omega
      · have hbk := getD_past B k hltB
        by_cases hc0 : 0 < c
        · have dA : ¬ (k : Int) < (A.length : Int) := by omega
          have dB : ¬ (k : Int) < (B.length : Int) := by omega
          have HV' := hide (plus_val (s := c) HDL.out hak hbk (by omega) HV.out)
          clear hak hbk
          go_wp2_with (at_builtin; refine wpList_append_own _ rfl (.tmp 44) (.tmp 47) 75 rfl w.heap.size 3 i0 (.int .i64 0) 1 8 Tryd.underlying75 hi hz0 hz1 hz2 rfl (by decide) _ _ _ rfl (hown.alloc _) ⟨wr.heap.size, 0, none⟩ 1 1 [.int .i64 ((c) % 10000)] rfl rfl (cell_one_new _ _ _) ?c200 ?c300 ?c400 ?c500 ?_)
          case c200 => first | rfl | (intro u hu; simp at hu; subst hu; rfl)
          case c300 => unfold maxLen; omega
          case c400 => omega
          case c500 => first | omega | (simp; omega)
          intro v' w1 hown' hgrow _
          have R := step_own hown' hgrow hbel (hown.lt)
          clear hown' hgrow hown
          go_wp2
          go_roundw
          case rel => exact ⟨k + 1, (c) / 10000, ds ++ [(c) % 10000], rfl, by go_num, by omega, by omega, by have := HDL.out; simp; omega, limb_append.2 ⟨HD.out, limb_cons.2 ⟨by omega, limb_nil⟩⟩, HV'.out, R.1, R.2⟩
          case measure => simp [intOf]; omega
        · have hc1 : c = 0 := by omega
          subst hc1
          have dA : ¬ (k : Int) < (A.length : Int) := by omega
          have dB : ¬ (k : Int) < (B.length : Int) := by omega
          have how := ow_of_row hown HD.out
          have hvv : val ds = val A + val B := by
            have := HV.out
            rw [Int.mul_zero, Int.add_zero, vf_all A _ (by omega), vf_all B _ (by omega)] at this
            exact this
          have hdl := HDL.out
          have HVV := hide hvv
          have HDL' : Hid (ds.length ≤ A.length + B.length + 1) := by show _ ≤ _; omega
          clear hvv hak hbk hown hdl
          go_wp2
          go_ret
          exact ⟨_, rfl, ⟨ds, how, HVV.out, HDL'.out⟩, hbel⟩
end Dm
end Go.Proofs.YtdiiankcjgoecaaDoor

namespace Go.Proofs.YtdiiankcjgoecaaDoor
namespace Dm
open Go.RowKit
open Lm (hide lt_of_cell lt_of_heap)
theorem Sl.copy {w : World} {b off n cap : Nat} {D : List Int} (h : Sl w (.slice (some ⟨b, off, none⟩) n cap) D) : ∀ j u, (D.map (Value.int .i64))[j]? = some u → w.cell? ((⟨b, off, none⟩ : Addr).add j) = some u := by
  intro j u hu
  rw [List.getElem?_map] at hu
  have hj : j < D.length := by
    apply Classical.byContradiction
    intro hn
    rw [List.getElem?_eq_none (by omega)] at hu
    cases hu
  rw [List.getElem?_eq_getElem hj] at hu
  obtain ⟨b', off', e, hc⟩ := h.cells (by omega)
  obtain ⟨rfl, rfl⟩ : b = b' ∧ off = off' := by simpa using e
  have hcj := hc j hj
  rw [List.getD_eq_getElem?_getD, List.getElem?_eq_getElem hj] at hcj
  rw [show ((⟨b, off, none⟩ : Addr).add j) = ⟨b, off + j, none⟩ from by simp [Addr.add], hcj]
  exact hu
theorem one_cells (D : List Int) : ∀ u ∈ D.map (Value.int .i64), u.oneCell' = true := by
  intro u hu
  obtain ⟨z, _, rfl⟩ := List.mem_map.1 hu
  rfl
def dec (t : Int) : List Int → List Int
  | [] => []
  | x :: xs => (x - t) :: xs
theorem dec_zero (xs : List Int) : dec 0 xs = xs := by cases xs <;> simp [dec]
theorem less_val {A B lo : List Int} {k : Nat} {a b t t' s : Int} (hk : lo.length = k) (ha : A.getD k 0 = a) (hb : B.getD k 0 = b) (hs : s = a - t - b + 10000 * t') (h : val lo + vf B k = vf A k + pw k * t) :
    val (lo ++ [s]) + vf B (k + 1) = vf A (k + 1) + pw (k + 1) * t' := by
  rw [val_snoc, vf, vf, ha, hb, hk, pw, hs]
  have e : 10000 * pw k * t' = pw k * (10000 * t') := by rw [Int.mul_comm 10000 (pw k), Int.mul_assoc]
  rw [e, Int.mul_add, Int.mul_sub, Int.mul_sub]
  omega
theorem set_mid (lo r : List Int) (x y : Int) (k : Nat) (hk : lo.length = k) : (lo ++ x :: r).set k y = lo ++ y :: r := by
  subst hk
  induction lo with
  | nil => rfl
  | cons z zs ih => simp
theorem getD_mid (lo r : List Int) (x : Int) (k : Nat) (hk : lo.length = k) : (lo ++ x :: r).getD k 0 = x := by
  subst hk
  simp [List.getD_eq_getElem?_getD]
theorem dec_drop (A : List Int) (k : Nat) (t : Int) (h : k < A.length) : dec t (A.drop k) = (A.getD k 0 - t) :: A.drop (k + 1) := by
  rw [drop_getD A k h]; rfl
theorem less_top {A B lo : List Int} {k : Nat} {a b t s : Int} (hk : lo.length = k) (hA : A.length = k + 1) (hB : B.length ≤ A.length) (hle : val B ≤ val A) (hlo : Limb lo) (ha : A.getD k 0 = a) (hb : B.getD k 0 = b) (hs : s = a - t - b) (h : val lo + vf B k = vf A k + pw k * t) : 0 ≤ s := by
  have h1 := less_val (t' := 0) (s := s) hk ha hb (by omega) h
  rw [vf_all A _ (by omega), vf_all B _ (by omega), Int.mul_zero, Int.add_zero, val_snoc, hk] at h1
  have h2 := (val_bounds hlo).2
  rw [hk] at h2
  apply Classical.byContradiction
  intro hn
  have h3 : pw k * s ≤ pw k * (-1) := Int.mul_le_mul_of_nonneg_left (by omega) (by have := pw_pos k; omega)
  omega
set_option maxRecDepth 20000 in
set_option maxHeartbeats 1000000 in
theorem less_any (w : World) (a1 : Option Addr) (n1 c1 : Nat) (A : List Int) (hA : Sl w (.slice a1 n1 c1) A) (a2 : Option Addr) (n2 c2 : Nat) (B : List Int) (hB : Sl w (.slice a2 n2 c2) B) (hl1 : A.length ≤ 1000000) (hBA : B.length ≤ A.length) (hle : val B ≤ val A) (h0 : 0 < A.length) :
    Calls Tryd.prog 146 #[.slice a1 n1 c1, .slice a2 n2 c2] w fun e w' => ∃ v, e = .returned v ∧ Dl w.heap.size w' v (val A - val B) A.length ∧ Below w.heap.size w w' := by
  obtain ⟨rfl, p1, p2, p3⟩ := hA.parts
  obtain ⟨rfl, q1, q2, q3⟩ := hB.parts
  obtain ⟨i0, hi, hz0, hz1, hz2⟩ := info_parts info64
  obtain ⟨b1, off1, rfl, _⟩ := hA.cells h0
  have hcells := hA.copy
  have hone := one_cells A
  have P3 := hide p3
  have Q3 := hide q3
  have HLE := hide hle
  clear p3 q3 hle
  go_enter Tryd.func146, Tryd.ntmps146
  go_wp2_with (at_builtin; refine wpList_append_own _ rfl (.const (.slice none 0 0)) (.tmp 7) 75 rfl w.heap.size 3 i0 (.int .i64 0) 1 8 Tryd.underlying75 hi hz0 hz1 hz2 rfl (by decide) _ _ _ rfl (World.ownsRow_nil _ _ _ _) ⟨b1, off1, none⟩ A.length c1 (A.map (Value.int .i64)) rfl (by simp) hcells hone (by unfold maxLen; omega) (by omega) (by simp) ?_)
  intro v' w1 hown hgrow _
  have hb1 : Below w.heap.size w w1 := (Below.refl w.heap.size w).grown hgrow (by simp) (by intro k hk; simp [Value.ownBlock] at hk)
  obtain ⟨ao, cap, rfl, o1, o2, _, o4⟩ := ow_of_row hown P3.out
  rcases o4 with o4 | ⟨g, off, cur, rfl, hg, hh, hsz, hat⟩
  · omega
  have o2' : cap ≤ 9223372036854775807 := o2
  have HH := hide hh
  have HA := hide hat
  have HSZ := hide hsz
  clear hown hgrow hcells hone hh hat o2 hsz
  go_wp2
  go_loopw [6] (fun iv wr => ∃ (k : Nat) (t : Int) (lo : List Int) (cur' : Array Value), k ≤ A.length ∧ iv = .int .i64 k ∧ (0 ≤ t ∧ t ≤ 1) ∧ (k = A.length → t = 0) ∧ lo.length = k ∧ Limb lo ∧ val lo + vf B k = vf A k + pw k * t ∧ Wr w1 wr g cur' 3 ∧ cur'.size = cur.size ∧ At cur' .i64 off (lo ++ dec t (A.drop k))) (fun iv _ => A.length - (intOf iv).toNat)
  case atStart => exact ⟨0, 0, [], cur, Nat.zero_le _, rfl, by omega, fun _ => rfl, rfl, limb_nil, by simp [val, vf, pw], Wr.refl HH.out, rfl, by simpa [dec_zero] using HA.out⟩
  case round =>
    obtain ⟨k, t, lo, cur', hk, rfl, ht, hkt, hlol, hlo, hval, hwr, hcs, hat⟩ := hrel
    have HLO := hide hlo
    have HLL := hide hlol
    have HV := hide hval
    have HC := hide hcs
    have hww : Wr w1 wr g cur' 3 := hwr
    by_cases hlt : k < A.length
    · rw [dec_drop A k t hlt] at hat
      have ba := limb_getD P3.out k
      obtain ⟨a, hak⟩ : ∃ a, A.getD k 0 = a := ⟨_, rfl⟩
      rw [hak] at hat ba
      have dA : (k : Int) < (A.length : Int) := by omega
      have dC : (k : Int) < (cap : Int) := by omega
      by_cases hltB : k < B.length
      · have sB := hwr.sl hg hb1 rfl hB
        obtain ⟨b2, off2, rfl, hcb⟩ := sB.cells (by omega)
        have cb := hcb k hltB
        have bb := limb_getD Q3.out k
        obtain ⟨b, hbk⟩ : ∃ b, B.getD k 0 = b := ⟨_, rfl⟩
        rw [hbk] at cb bb
        have dB : (k : Int) < (B.length : Int) := by omega
        have cd := hat.cell hwr.here k (by simp; omega)
        rw [getD_mid _ _ _ _ HLL.out] at cd
        have fd := hwr.free (off + k)
        have hat2 := hat.set k (a - t - b)
        rw [set_mid _ _ _ _ _ HLL.out] at hat2
        have hw2 := (hwr.set (off + k) (.int .i64 (a - t - b))).drew
        have HC2 : Hid ((cur'.setIfInBounds (off + k) (.int .i64 (a - t - b))).size = cur.size) := by show _ = _; rw [Array.size_setIfInBounds]; exact HC.out
        generalize hcur2 : cur'.setIfInBounds (off + k) (.int .i64 (a - t - b)) = cur2 at hat2 hw2 HC2
        have X2 := hide hat2
        have W2 := hide hw2
        have KB := hide hbk
        have KA := hide hak
        clear sB hcb hcur2 hat hwr hww hat2 hw2 hbk hak hlol hlo hval hcs
        go_wp2
        go_region
        generalize (wr.setCell ⟨g, off + k, none⟩ (.int .i64 (a - t - b))).drew = W at W2 ⊢
        have hat2 := X2.out
        have hw2 := W2.out
        have hak := KA.out
        have hbk := KB.out
        clear X2 W2 KA KB cd fd
        have hsv : Hid (val (lo ++ [a - t - b]) + vf B (k + 1) = vf A (k + 1) + pw (k + 1) * 0) := less_val (t' := 0) HLL.out hak hbk (by omega) HV.out
        have hsv1 : Hid (val (lo ++ [a - t - b + 10000]) + vf B (k + 1) = vf A (k + 1) + pw (k + 1) * 1) := less_val (t' := 1) HLL.out hak hbk (by omega) HV.out
        have htop : Hid (A.length = k + 1 → 0 ≤ a - t - b) := fun h => less_top HLL.out h hBA HLE.out HLO.out hak hbk (by omega) HV.out
        have cs := hat2.cell hw2.here k (by have := HLL.out; simp; omega)
        rw [getD_mid _ _ _ _ HLL.out] at cs
        have fs := hw2.free (off + k)
        by_cases hneg : a - t - b < 0
        · have hk1 : k + 1 < A.length := by
            apply Classical.byContradiction
            intro hn
            have := htop.out (by omega)
            omega
          have hat3 := hat2.set k (a - t - b + 10000)
          rw [set_mid _ _ _ _ _ HLL.out] at hat3
          have hw3 := (hw2.set (off + k) (.int .i64 (a - t - b + 10000)))
          have dB1 : (k : Int) + 1 < (A.length : Int) := by omega
          have e3 : lo ++ (a - t - b + 10000) :: A.drop (k + 1) = (lo ++ [a - t - b + 10000]) ++ A.getD (k + 1) 0 :: A.drop (k + 1 + 1) := by rw [drop_getD A (k + 1) hk1]; simp
          have HLL3 : (lo ++ [a - t - b + 10000]).length = k + 1 := by simp; exact HLL.out
          rw [e3] at hat3
          obtain ⟨a', hak'⟩ : ∃ a', A.getD (k + 1) 0 = a' := ⟨_, rfl⟩
          have ba' := limb_getD P3.out (k + 1)
          rw [hak'] at hat3 ba'
          have e2 : lo ++ (a - t - b) :: A.drop (k + 1) = (lo ++ [a - t - b]) ++ A.getD (k + 1) 0 :: A.drop (k + 1 + 1) := by rw [drop_getD A (k + 1) hk1]; simp
          have cs3 := hat2.cell hw2.here (k + 1) (by have := HLL.out; simp; omega)
          rw [e2, getD_mid _ _ _ _ (by simp; exact HLL.out), hak'] at cs3
          have fs3 := hw2.free (off + (k + 1))
          have fs4 := hw3.free (off + (k + 1))
          have hat4 := hat3.set (k + 1) (a' - 1)
          rw [set_mid _ _ _ _ _ HLL3] at hat4
          have hw4 := hw3.set (off + (k + 1)) (.int .i64 (a' - 1))
          rw [show (lo ++ [a - t - b + 10000]) ++ (a' - 1) :: A.drop (k + 1 + 1) = (lo ++ [a - t - b + 10000]) ++ dec 1 (A.drop (k + 1)) from by rw [dec_drop A (k + 1) 1 hk1, hak']] at hat4
          have HF := hide hat4
          have HW4 := hide hw4
          clear hat2 hat3 hat4 e3 e2 hw2 hw3 hw4 HLL3 hak hak' hbk hsv htop
          go_wp2
          go_roundw
          case rel => exact ⟨k + 1, 1, lo ++ [a - t - b + 10000], _, by omega, by go_num, by omega, fun h => by omega, by simp; exact HLL.out, limb_append.2 ⟨HLO.out, limb_cons.2 ⟨by omega, limb_nil⟩⟩, hsv1.out, HW4.out, by rw [Array.size_setIfInBounds, Array.size_setIfInBounds]; exact HC2.out, HF.out⟩
          case measure => simp [intOf]; omega
        · have HF : Hid (At cur2 .i64 off ((lo ++ [a - t - b]) ++ dec 0 (A.drop (k + 1)))) := by rw [dec_zero, List.append_assoc]; exact hat2
          have HW2 := hide hw2
          have HK := hide (show k + 1 ≤ A.length by omega)
          have HD := hide hsv.out
          clear hat2 hw2 hak hbk hsv hsv1 htop
          go_wp2
          go_roundw
          case rel => exact ⟨k + 1, 0, lo ++ [a - t - b], cur2, HK.out, by go_num, by omega, fun _ => rfl, by simp; exact HLL.out, limb_append.2 ⟨HLO.out, limb_cons.2 ⟨by omega, limb_nil⟩⟩, HD.out, HW2.out, HC2.out, HF.out⟩
          case measure => simp [intOf]; omega
      · have hbk := getD_past B k hltB
        have dB : ¬ (k : Int) < (B.length : Int) := by omega
        have hat2 : At cur' .i64 off (lo ++ (a - t) :: A.drop (k + 1)) := hat
        have hw2 := hwr
        have HC2 := HC
        generalize cur' = cur2 at hat2 hw2 HC2
        clear hat hww hcs hval hlo hlol
        have hsv : Hid (val (lo ++ [a - t]) + vf B (k + 1) = vf A (k + 1) + pw (k + 1) * 0) := less_val (t' := 0) HLL.out hak hbk (by omega) HV.out
        have hsv1 : Hid (val (lo ++ [a - t + 10000]) + vf B (k + 1) = vf A (k + 1) + pw (k + 1) * 1) := less_val (t' := 1) HLL.out hak hbk (by omega) HV.out
        have htop : Hid (A.length = k + 1 → 0 ≤ a - t) := fun h => less_top HLL.out h hBA HLE.out HLO.out hak hbk (by omega) HV.out
        have cs := hat2.cell hw2.here k (by have := HLL.out; simp; omega)
        rw [getD_mid _ _ _ _ HLL.out] at cs
        have fs := hw2.free (off + k)
        by_cases hneg : a - t < 0
        · have hk1 : k + 1 < A.length := by
            apply Classical.byContradiction
            intro hn
            have := htop.out (by omega)
            omega
          have hat3 := hat2.set k (a - t + 10000)
          rw [set_mid _ _ _ _ _ HLL.out] at hat3
          have hw3 := (hw2.set (off + k) (.int .i64 (a - t + 10000)))
          have dB1 : (k : Int) + 1 < (A.length : Int) := by omega
          have e3 : lo ++ (a - t + 10000) :: A.drop (k + 1) = (lo ++ [a - t + 10000]) ++ A.getD (k + 1) 0 :: A.drop (k + 1 + 1) := by rw [drop_getD A (k + 1) hk1]; simp
          have HLL3 : (lo ++ [a - t + 10000]).length = k + 1 := by simp; exact HLL.out
          rw [e3] at hat3
          obtain ⟨a', hak'⟩ : ∃ a', A.getD (k + 1) 0 = a' := ⟨_, rfl⟩
          have ba' := limb_getD P3.out (k + 1)
          rw [hak'] at hat3 ba'
          have e2 : lo ++ (a - t) :: A.drop (k + 1) = (lo ++ [a - t]) ++ A.getD (k + 1) 0 :: A.drop (k + 1 + 1) := by rw [drop_getD A (k + 1) hk1]; simp
          have cs3 := hat2.cell hw2.here (k + 1) (by have := HLL.out; simp; omega)
          rw [e2, getD_mid _ _ _ _ (by simp; exact HLL.out), hak'] at cs3
          have fs3 := hw2.free (off + (k + 1))
          have fs4 := hw3.free (off + (k + 1))
          have hat4 := hat3.set (k + 1) (a' - 1)
          rw [set_mid _ _ _ _ _ HLL3] at hat4
          have hw4 := hw3.set (off + (k + 1)) (.int .i64 (a' - 1))
          rw [show (lo ++ [a - t + 10000]) ++ (a' - 1) :: A.drop (k + 1 + 1) = (lo ++ [a - t + 10000]) ++ dec 1 (A.drop (k + 1)) from by rw [dec_drop A (k + 1) 1 hk1, hak']] at hat4
          have HF := hide hat4
          have HW4 := hide hw4
          clear hat2 hat3 hat4 e3 e2 hw2 hw3 hw4 HLL3 hak hak' hbk hsv htop
          go_wp2
          go_roundw
          case rel => exact ⟨k + 1, 1, lo ++ [a - t + 10000], _, by omega, by go_num, by omega, fun h => by omega, by simp; exact HLL.out, limb_append.2 ⟨HLO.out, limb_cons.2 ⟨by omega, limb_nil⟩⟩, hsv1.out, HW4.out, by rw [Array.size_setIfInBounds, Array.size_setIfInBounds]; exact HC2.out, HF.out⟩
          case measure => simp [intOf]; omega
        · have HF : Hid (At cur2 .i64 off ((lo ++ [a - t]) ++ dec 0 (A.drop (k + 1)))) := by rw [dec_zero, List.append_assoc]; exact hat2
          have HW2 := hide hw2
          have HK := hide (show k + 1 ≤ A.length by omega)
          have HD := hide hsv.out
          clear hat2 hw2 hak hbk hsv hsv1 htop
          go_wp2
          go_roundw
          case rel => exact ⟨k + 1, 0, lo ++ [a - t], cur2, HK.out, by go_num, by omega, fun _ => rfl, by simp; exact HLL.out, limb_append.2 ⟨HLO.out, limb_cons.2 ⟨by omega, limb_nil⟩⟩, HD.out, HW2.out, HC2.out, HF.out⟩
          case measure => simp [intOf]; omega
    · have hkn : k = A.length := by omega
      have ht0 := hkt hkn
      have hvv : val lo = val A - val B := by
        have h9 := HV.out
        rw [ht0, Int.mul_zero, Int.add_zero, vf_all A _ (by omega), vf_all B _ (by omega)] at h9
        omega
      have how : Ow w.heap.size wr (.slice (some ⟨g, off, none⟩) A.length cap) lo := by
        rw [List.drop_of_length_le (by omega)] at hat
        simp only [dec, List.append_nil] at hat
        exact ⟨_, cap, by rw [hlol, hkn], by omega, o2', hlo, .inr ⟨g, off, cur', rfl, hg, hwr.here, by rw [hcs]; exact HSZ.out, hat⟩⟩
      have D : Hid (Dl w.heap.size wr (.slice (some ⟨g, off, none⟩) A.length cap) (val A - val B) A.length) := ⟨lo, how, hvv, by omega⟩
      have hbel : Below w.heap.size w wr := hb1.trans (hwr.below hg)
      have dA : ¬ (k : Int) < (A.length : Int) := by omega
      clear hvv how hat hwr hww hcs hval hlo hlol ht0 hkt hkn
      go_wp2
      go_ret
      exact ⟨_, rfl, D.out, hbel⟩
end Dm
end Go.Proofs.YtdiiankcjgoecaaDoor

namespace Go.Proofs.YtdiiankcjgoecaaDoor
namespace Dm
open Go.RowKit
open Lm (hide lt_of_cell lt_of_heap)
def sg (ng : Bool) (x : Int) : Int := if ng then -x else x
def Wh (w : World) (ng : Bool) (ao : Option Addr) (cap : Nat) (rs : List Int) (z : Int) : Prop := Got w ao cap rs (z.natAbs : Int) ∧ ng = decide (z < 0)
theorem Wh.sl {w : World} {ng : Bool} {ao : Option Addr} {cap : Nat} {rs : List Int} {z : Int} (h : Wh w ng ao cap rs z) : Sl w (.slice ao rs.length cap) rs := h.1.sl
theorem Wh.below {w w' : World} {ng : Bool} {ao : Option Addr} {cap : Nat} {rs : List Int} {z : Int} (h : Wh w ng ao cap rs z) (hb : Below w.heap.size w w') : Wh w' ng ao cap rs z := ⟨h.1.below hb, h.2⟩
theorem Wh.worth {w : World} {ng : Bool} {ao : Option Addr} {cap : Nat} {rs : List Int} {z : Int} (h : Wh w ng ao cap rs z) : sg ng (Dm.val rs) = z := by
  rw [h.1.val, h.2, sg]
  by_cases hz : z < 0
  · simp [hz]; omega
  · simp [hz]; omega
theorem Wh.of {w : World} {ao : Option Addr} {cap : Nat} {rs : List Int} {x : Int} (ng : Bool) (h : Got w ao cap rs x) : Wh w (ng && decide (0 < rs.length)) ao cap rs (sg ng x) := by
  have h0 : 0 ≤ x := by rw [← h.val]; exact (val_bounds h.canon.1).1
  have hz := canon_zero h.canon
  rw [h.val] at hz
  have hl : rs = [] ↔ rs.length = 0 := List.length_eq_zero_iff.symm
  cases ng with
  | false =>
    refine ⟨?_, ?_⟩
    · have e : ((sg false x).natAbs : Int) = x := by simp [sg]; omega
      rw [e]; exact h
    · simp [sg]; omega
  | true =>
    refine ⟨?_, ?_⟩
    · have e : ((sg true x).natAbs : Int) = x := by simp [sg]; omega
      rw [e]; exact h
    · have e3 : (0 < rs.length) ↔ (sg true x < 0) := by
        simp only [sg, if_true]
        constructor
        · intro h1
          have : x ≠ 0 := fun h2 => by have := hl.1 (hz.1 h2); omega
          omega
        · intro h1
          have : rs.length ≠ 0 := fun h2 => by have := hz.2 (hl.2 h2); omega
          omega
      rw [Bool.true_and]
      exact decide_eq_decide.2 e3
def Box (w : World) (g : Nat) (ng : Bool) (v : Value) : Prop := w.heap[g]? = some (.cells #[.bool ng, v] 77 (0, 0))
theorem Box.below {w w' : World} {g : Nat} {ng : Bool} {v : Value} (h : Box w g ng v) (hb : Below w.heap.size w w') : Box w' g ng v := (hb.block g (lt_of_heap h)).trans h
theorem Box.facts {w : World} {g : Nat} {ng : Bool} {v : Value} (h : Box w g ng v) : w.cell? ⟨g, 0, none⟩ = some (.bool ng) ∧ w.cell? ⟨g, 1, none⟩ = some v ∧ w.frozen? ⟨g, 0, none⟩ = false ∧ w.frozen? ⟨g, 1, none⟩ = false :=
  ⟨by rw [cell_of_row _ _ _ _ _ (0, 0) h]; rfl, by rw [cell_of_row _ _ _ _ _ (0, 0) h]; rfl, frozen_of_row _ _ _ _ _ h, frozen_of_row _ _ _ _ _ h⟩
theorem Box.set {w : World} {g : Nat} {ng : Bool} {v : Value} (h : Box w g ng v) (b : Bool) (u : Value) : Box ((w.setCell ⟨g, 0, none⟩ (.bool b)).setCell ⟨g, 1, none⟩ u) g b u := by
  have h1 := heap_setCell_same w g 0 _ _ (.bool b) h
  have h2 := heap_setCell_same _ g 1 _ _ u h1
  exact h2
theorem Box.sl {w : World} {g : Nat} {ng : Bool} {ao : Option Addr} {n cap : Nat} (h : Box w g ng (.slice ao n cap)) (b : Bool) (u : Value) {v : Value} {zs : List Int} (hs : Sl w v zs) : Sl ((w.setCell ⟨g, 0, none⟩ (.bool b)).setCell ⟨g, 1, none⟩ u) v zs := by
  refine (hs.setCell h.facts.1 (fun z => by simp) _).setCell (u0 := .slice ao n cap) ?_ (fun z => by simp) _
  rw [World.cell?_setCell_other _ _ _ _ (by simp)]
  exact h.facts.2.1
theorem Box.wh {w : World} {g : Nat} {ng : Bool} {ao : Option Addr} {n cap : Nat} (h : Box w g ng (.slice ao n cap)) (b : Bool) (u : Value) {nz : Bool} {az : Option Addr} {cz : Nat} {rs : List Int} {z : Int} (hs : Wh w nz az cz rs z) : Wh ((w.setCell ⟨g, 0, none⟩ (.bool b)).setCell ⟨g, 1, none⟩ u) nz az cz rs z :=
  ⟨⟨h.sl b u hs.1.1, hs.1.2⟩, hs.2⟩
theorem below_set2 {B : Nat} {w w1 : World} {g : Nat} (hb : Below B w w1) (hg : B ≤ g) (b u : Value) : Below B w ((w1.setCell ⟨g, 0, none⟩ b).setCell ⟨g, 1, none⟩ u) := (hb.setCell hg _).setCell hg _
theorem boxed (w : World) (ng : Bool) (v : Value) : Box (w.alloc (.cells #[.bool ng, v] 77)) w.heap.size ng v ∧ Below w.heap.size w (w.alloc (.cells #[.bool ng, v] 77)) ∧ (w.alloc (.cells #[.bool ng, v] 77)).heap.size = w.heap.size + 1 :=
  ⟨heap_alloc_new w _, (Below.refl _ _).alloc (Nat.le_refl _) _, by simp⟩
theorem boxed1 (w : World) (ng : Bool) (v : Value) : ∃ w0 : World, (w.alloc (.cells #[.bool ng, v] 77)).alloc (.cells #[.bool false, .slice none 0 0] 77) = w0 ∧ Box w0 w.heap.size ng v ∧ Box w0 (w.heap.size + 1) false (.slice none 0 0) ∧ Below w.heap.size w w0 ∧ w0.heap.size = w.heap.size + 2 := by
  have h1 := boxed w ng v
  have h2 := boxed (w.alloc (.cells #[.bool ng, v] 77)) false (.slice none 0 0)
  rw [h1.2.2] at h2
  refine ⟨_, rfl, h1.1.below (by rw [h1.2.2]; exact h2.2.1), h2.1, h1.2.1.trans (h2.2.1.mono (by omega)), h2.2.2⟩
theorem sg_neg (ng : Bool) (x : Int) : sg (!ng) x = - sg ng x := by cases ng <;> simp [sg]
theorem boxed0 (w : World) (ng : Bool) (v : Value) : ∃ w0 : World, w.alloc (.cells #[.bool ng, v] 77) = w0 ∧ Box w0 w.heap.size ng v ∧ Below w.heap.size w w0 ∧ w0.heap.size = w.heap.size + 1 :=
  ⟨_, rfl, (boxed w ng v).1, (boxed w ng v).2.1, (boxed w ng v).2.2⟩
theorem boxed2 (w : World) (nx : Bool) (vx : Value) (ny : Bool) (vy : Value) : ∃ w0 : World, (w.alloc (.cells #[.bool nx, vx] 77)).alloc (.cells #[.bool ny, vy] 77) = w0 ∧ Box w0 w.heap.size nx vx ∧ Box w0 (w.heap.size + 1) ny vy ∧ Below w.heap.size w w0 ∧ w0.heap.size = w.heap.size + 2 := by
  have h1 := boxed w nx vx
  have h2 := boxed (w.alloc (.cells #[.bool nx, vx] 77)) ny vy
  rw [h1.2.2] at h2
  refine ⟨_, rfl, h1.1.below (by rw [h1.2.2]; exact h2.2.1), h2.1, h1.2.1.trans (h2.2.1.mono (by omega)), h2.2.2⟩
theorem boxed3 (w : World) (nx : Bool) (vx : Value) (ny : Bool) (vy : Value) : ∃ w0 : World, ((w.alloc (.cells #[.bool nx, vx] 77)).alloc (.cells #[.bool ny, vy] 77)).alloc (.cells #[.bool false, .slice none 0 0] 77) = w0 ∧ Box w0 w.heap.size nx vx ∧ Box w0 (w.heap.size + 1) ny vy ∧ Box w0 (w.heap.size + 1 + 1) false (.slice none 0 0) ∧ Below w.heap.size w w0 ∧ w0.heap.size = w.heap.size + 3 := by
  obtain ⟨w2, e2, b1, b2, hb, hs⟩ := boxed2 w nx vx ny vy
  have h2 := boxed w2 false (.slice none 0 0)
  rw [e2]
  refine ⟨_, rfl, b1.below h2.2.1, b2.below h2.2.1, ?_, hb.trans (h2.2.1.mono (by omega)), by rw [h2.2.2, hs]⟩
  have h3 := h2.1
  rw [hs] at h3
  exact h3
theorem sg_add (ng : Bool) (x y : Int) : sg ng (x + y) = sg ng x + sg ng y := by cases ng <;> simp [sg] <;> omega
theorem Dl.open {B : Nat} {w : World} {v : Value} {x : Int} {n : Nat} (h : Dl B w v x n) : ∃ ao cap ds, v = .slice ao ds.length cap ∧ Sl w (.slice ao ds.length cap) ds ∧ Dm.val ds = x ∧ ds.length ≤ n := by
  obtain ⟨ds, ho, hv, hn⟩ := h
  obtain ⟨ao, cap, rfl, hs, _, _⟩ := ho.open
  exact ⟨ao, cap, ds, rfl, hs, hv, hn⟩
theorem made_w (w : World) (ng : Bool) (ao : Option Addr) (cap : Nat) (ds : List Int) (x : Int) (h : Sl w (.slice ao ds.length cap) ds) (hv : Dm.val ds = x) :
    Calls Tryd.prog 94 #[.bool ng, .slice ao ds.length cap] w fun e w' => ∃ ng' rs, e = .returned (.agg #[.bool ng', .slice ao rs.length cap]) ∧ Wh w' ng' ao cap rs (sg ng x) ∧ rs.length ≤ ds.length ∧ Below w.heap.size w w' := by
  refine (made_any w ng ao ds.length cap ds h).mono ?_
  rintro e w' ⟨rfl, hb⟩
  have hl := h.parts.2.2.2
  have ht := tl_le ds
  have e1 : (ds.take (tl ds)).length = tl ds := by rw [List.length_take]; omega
  have g : Got w' ao cap (ds.take (tl ds)) x := ⟨by rw [e1]; exact (h.take ht).below hb, canon_trim hl, by rw [val_take_tl, hv]⟩
  have g2 := Wh.of ng g
  rw [e1] at g2
  exact ⟨_, ds.take (tl ds), by rw [e1], g2, by omega, hb⟩
theorem Wh.zero {w : World} {ng : Bool} {ao : Option Addr} {cap : Nat} {rs : List Int} {z : Int} (h : Wh w ng ao cap rs z) : z = 0 ↔ rs = [] := by
  have := canon_zero h.1.canon
  rw [h.1.val] at this
  rw [← this]
  omega
theorem Wh.len {w : World} {ng : Bool} {ao : Option Addr} {cap : Nat} {rs : List Int} {z : Int} (h : Wh w ng ao cap rs z) {m : Nat} (hz : (z.natAbs : Int) < pw m) : rs.length ≤ m := canon_len h.1.canon (by rw [h.1.val]; exact hz)
end Dm
end Go.Proofs.YtdiiankcjgoecaaDoor

namespace Go.Proofs.YtdiiankcjgoecaaDoor
namespace Dm
open Go.RowKit
open Lm (hide lt_of_cell lt_of_heap cmpI cmpI_lt cmpI_gt)
set_option maxRecDepth 20000 in
set_option maxHeartbeats 1000000 in
theorem nadd_same (w : World) (n1 : Bool) (a1 : Option Addr) (c1 : Nat) (xs : List Int) (x : Int) (hx : Got w a1 c1 xs x) (a2 : Option Addr) (c2 : Nat) (ys : List Int) (y : Int) (hy : Got w a2 c2 ys y) (m1 : xs.length ≤ 400000) (m2 : ys.length ≤ 400000) :
    Calls Tryd.prog 142 #[.agg #[.bool n1, .slice a1 xs.length c1], .agg #[.bool n1, .slice a2 ys.length c2]] w fun e w' => ∃ ng' ao cap rs, e = .returned (.agg #[.bool ng', .slice ao rs.length cap]) ∧ Wh w' ng' ao cap rs (sg n1 x + sg n1 y) ∧ rs.length ≤ xs.length + ys.length + 1 ∧ Below w.heap.size w w' := by
  obtain ⟨w0, e0, bx, by', br, hb0, hs0⟩ := boxed3 w n1 (.slice a1 xs.length c1) (n1) (.slice a2 ys.length c2)
  have E0 := hide e0
  have hx0 := hx.below hb0
  have hy0 := hy.below hb0
  have HB := hb0
  have ne1 : ¬ (w.heap.size = w.heap.size + 1 + 1) := by omega
  have ne2 : ¬ (w.heap.size + 1 + 1 = w.heap.size) := by omega
  clear e0 hs0
  cases n1 with
  | false =>
    go_enter Tryd.func142, Tryd.ntmps142
    go_wp2_with fail
    rw [E0.out]
    obtain ⟨bx1, bx2, bx3, bx4⟩ := bx.facts
    obtain ⟨by1, by2, by3, by4⟩ := by'.facts
    obtain ⟨br1, br2, br3, br4⟩ := br.facts
    go_region_held3 (fun w' => w'.cell? ⟨w.heap.size, 0, none⟩ = some (.bool false) ∧ w'.cell? ⟨w.heap.size, 1, none⟩ = some (.slice a1 xs.length c1) ∧ w'.cell? ⟨w.heap.size + 1, 0, none⟩ = some (.bool false) ∧ w'.cell? ⟨w.heap.size + 1, 1, none⟩ = some (.slice a2 ys.length c2)) (go_keep) (first
        | (go_at_call 94; have _hq := hb1'; refine (made_w _ _ p1 q1 d1 _ (s1.below (by repeat (first | exact Below.refl _ _ | refine Below.drew ?_))) e1).mono ?_; rintro e w2 ⟨ng2, r2, rfl, G2, l2, hb2⟩; have hb2' : Below w1.heap.size w1 w2 := (show Below w1.heap.size w1 _ by repeat (first | exact Below.refl _ _ | refine Below.drew ?_)).trans hb2; have HB := HB.trans (hb2'.mono HB.size); replace bx := bx.below hb2'; clear bx1 bx2 bx3 bx4; obtain ⟨bx1, bx2, bx3, bx4⟩ := bx.facts; replace by' := by'.below hb2'; clear by1 by2 by3 by4; obtain ⟨by1, by2, by3, by4⟩ := by'.facts; replace br := br.below hb2'; clear br1 br2 br3 br4; obtain ⟨br1, br2, br3, br4⟩ := br.facts)
        | (go_at_call 145; refine (plus_any _ _ _ _ xs (hx0.sl.below (by repeat (first | exact Below.refl _ _ | refine Below.drew ?_))) _ _ _ ys (hy0.sl.below (by repeat (first | exact Below.refl _ _ | refine Below.drew ?_))) (by omega) (by omega)).mono ?_; rintro e w1 ⟨v1, rfl, D1, hb1⟩; obtain ⟨p1, q1, d1, rfl, s1, e1, l1⟩ := D1.open; clear D1; have hb1' : Below w0.heap.size w0 w1 := (show Below w0.heap.size w0 _ by repeat (first | exact Below.refl _ _ | refine Below.drew ?_)).trans hb1; have HB := HB.trans (hb1'.mono HB.size); replace bx := bx.below hb1'; clear bx1 bx2 bx3 bx4; obtain ⟨bx1, bx2, bx3, bx4⟩ := bx.facts; replace by' := by'.below hb1'; clear by1 by2 by3 by4; obtain ⟨by1, by2, by3, by4⟩ := by'.facts; replace br := br.below hb1'; clear br1 br2 br3 br4; obtain ⟨br1, br2, br3, br4⟩ := br.facts))
    all_goals
      have X := hide (br.set ng2 (.slice p1 r2.length q1)).facts
      have Y := hide (br.wh ng2 (.slice p1 r2.length q1) G2)
      have Z := hide (below_set2 HB (show w.heap.size ≤ w.heap.size + 1 + 1 by omega) (.bool ng2) (.slice p1 r2.length q1))
      clear bx1 bx2 bx3 bx4 by1 by2 by3 by4
      go_wp2
      refine bodyPost_ret (v := .agg #[.bool ng2, .slice p1 r2.length q1]) ?_ rfl ⟨ng2, p1, q1, r2, rfl, by rw [← sg_add, ← hx.val, ← hy.val]; exact Y.out, by omega, Z.out⟩
      simp [results, Tryd.results142, go_sem, X.out.1, X.out.2.1]
  | true =>
    go_enter Tryd.func142, Tryd.ntmps142
    go_wp2_with fail
    rw [E0.out]
    obtain ⟨bx1, bx2, bx3, bx4⟩ := bx.facts
    obtain ⟨by1, by2, by3, by4⟩ := by'.facts
    obtain ⟨br1, br2, br3, br4⟩ := br.facts
    go_region_held3 (fun w' => w'.cell? ⟨w.heap.size, 0, none⟩ = some (.bool true) ∧ w'.cell? ⟨w.heap.size, 1, none⟩ = some (.slice a1 xs.length c1) ∧ w'.cell? ⟨w.heap.size + 1, 0, none⟩ = some (.bool true) ∧ w'.cell? ⟨w.heap.size + 1, 1, none⟩ = some (.slice a2 ys.length c2)) (go_keep) (first
        | (go_at_call 94; have _hq := hb1'; refine (made_w _ _ p1 q1 d1 _ (s1.below (by repeat (first | exact Below.refl _ _ | refine Below.drew ?_))) e1).mono ?_; rintro e w2 ⟨ng2, r2, rfl, G2, l2, hb2⟩; have hb2' : Below w1.heap.size w1 w2 := (show Below w1.heap.size w1 _ by repeat (first | exact Below.refl _ _ | refine Below.drew ?_)).trans hb2; have HB := HB.trans (hb2'.mono HB.size); replace bx := bx.below hb2'; clear bx1 bx2 bx3 bx4; obtain ⟨bx1, bx2, bx3, bx4⟩ := bx.facts; replace by' := by'.below hb2'; clear by1 by2 by3 by4; obtain ⟨by1, by2, by3, by4⟩ := by'.facts; replace br := br.below hb2'; clear br1 br2 br3 br4; obtain ⟨br1, br2, br3, br4⟩ := br.facts)
        | (go_at_call 145; refine (plus_any _ _ _ _ xs (hx0.sl.below (by repeat (first | exact Below.refl _ _ | refine Below.drew ?_))) _ _ _ ys (hy0.sl.below (by repeat (first | exact Below.refl _ _ | refine Below.drew ?_))) (by omega) (by omega)).mono ?_; rintro e w1 ⟨v1, rfl, D1, hb1⟩; obtain ⟨p1, q1, d1, rfl, s1, e1, l1⟩ := D1.open; clear D1; have hb1' : Below w0.heap.size w0 w1 := (show Below w0.heap.size w0 _ by repeat (first | exact Below.refl _ _ | refine Below.drew ?_)).trans hb1; have HB := HB.trans (hb1'.mono HB.size); replace bx := bx.below hb1'; clear bx1 bx2 bx3 bx4; obtain ⟨bx1, bx2, bx3, bx4⟩ := bx.facts; replace by' := by'.below hb1'; clear by1 by2 by3 by4; obtain ⟨by1, by2, by3, by4⟩ := by'.facts; replace br := br.below hb1'; clear br1 br2 br3 br4; obtain ⟨br1, br2, br3, br4⟩ := br.facts))
    all_goals
      have X := hide (br.set ng2 (.slice p1 r2.length q1)).facts
      have Y := hide (br.wh ng2 (.slice p1 r2.length q1) G2)
      have Z := hide (below_set2 HB (show w.heap.size ≤ w.heap.size + 1 + 1 by omega) (.bool ng2) (.slice p1 r2.length q1))
      clear bx1 bx2 bx3 bx4 by1 by2 by3 by4
      go_wp2
      refine bodyPost_ret (v := .agg #[.bool ng2, .slice p1 r2.length q1]) ?_ rfl ⟨ng2, p1, q1, r2, rfl, by rw [← sg_add, ← hx.val, ← hy.val]; exact Y.out, by omega, Z.out⟩
      simp [results, Tryd.results142, go_sem, X.out.1, X.out.2.1]
set_option maxRecDepth 20000 in
set_option maxHeartbeats 1000000 in
theorem nadd_ge (w : World) (n1 : Bool) (a1 : Option Addr) (c1 : Nat) (xs : List Int) (x : Int) (hx : Got w a1 c1 xs x) (a2 : Option Addr) (c2 : Nat) (ys : List Int) (y : Int) (hy : Got w a2 c2 ys y) (m1 : xs.length ≤ 400000) (m2 : ys.length ≤ 400000) (hle : y ≤ x) (h0 : 0 < x) :
    Calls Tryd.prog 142 #[.agg #[.bool n1, .slice a1 xs.length c1], .agg #[.bool (!n1), .slice a2 ys.length c2]] w fun e w' => ∃ ng' ao cap rs, e = .returned (.agg #[.bool ng', .slice ao rs.length cap]) ∧ Wh w' ng' ao cap rs (sg n1 x + sg (!n1) y) ∧ rs.length ≤ xs.length + ys.length + 1 ∧ Below w.heap.size w w' := by
  obtain ⟨w0, e0, bx, by', br, hb0, hs0⟩ := boxed3 w n1 (.slice a1 xs.length c1) (!n1) (.slice a2 ys.length c2)
  have E0 := hide e0
  have hx0 := hx.below hb0
  have hy0 := hy.below hb0
  have HB := hb0
  have ne1 : ¬ (w.heap.size = w.heap.size + 1 + 1) := by omega
  have ne2 : ¬ (w.heap.size + 1 + 1 = w.heap.size) := by omega
  clear e0 hs0
  have K := hide (fun w hx hy => size_any w n1 (!n1) a1 a2 c1 c2 xs ys x y hx hy)
  have hc : 0 ≤ cmpI x y := by
    rcases Int.lt_trichotomy x y with h | h | h
    · omega
    · rw [Lm.cmpI_eq h]; omega
    · rw [cmpI_gt h]; omega
  have hpos : 0 < xs.length := by
    apply Classical.byContradiction
    intro hn
    have := got_zero hx (by omega)
    omega
  have hlen : ys.length ≤ xs.length := by
    apply Classical.byContradiction
    intro hn
    have := canon_lt hx.canon hy.canon (by omega)
    rw [hx.val, hy.val] at this
    omega
  generalize cmpI x y = cv at K hc
  cases n1 with
  | false =>
    simp only [Bool.not_false] at E0 by' K ⊢
    go_enter Tryd.func142, Tryd.ntmps142
    go_wp2_with fail
    rw [E0.out]
    obtain ⟨bx1, bx2, bx3, bx4⟩ := bx.facts
    obtain ⟨by1, by2, by3, by4⟩ := by'.facts
    obtain ⟨br1, br2, br3, br4⟩ := br.facts
    refine (K.out _ hx0 hy0).mono ?_
    rintro e w9 ⟨rfl, hb9⟩
    replace HB := HB.trans (hb9.mono HB.size)
    replace hx0 := hx0.below hb9
    replace hy0 := hy0.below hb9
    replace bx := bx.below hb9
    replace by' := by'.below hb9
    replace br := br.below hb9
    clear bx1 bx2 bx3 bx4 by1 by2 by3 by4 br1 br2 br3 br4
    obtain ⟨bx1, bx2, bx3, bx4⟩ := bx.facts
    obtain ⟨by1, by2, by3, by4⟩ := by'.facts
    obtain ⟨br1, br2, br3, br4⟩ := br.facts
    go_wp2_with fail
    go_region_held3 (fun w' => w'.cell? ⟨w.heap.size, 0, none⟩ = some (.bool false) ∧ w'.cell? ⟨w.heap.size, 1, none⟩ = some (.slice a1 xs.length c1) ∧ w'.cell? ⟨w.heap.size + 1, 0, none⟩ = some (.bool true) ∧ w'.cell? ⟨w.heap.size + 1, 1, none⟩ = some (.slice a2 ys.length c2)) (go_keep) (first
        | (go_at_call 94; have _hq := hb1'; refine (made_w _ _ p1 q1 d1 _ (s1.below (by repeat (first | exact Below.refl _ _ | refine Below.drew ?_))) e1).mono ?_; rintro e w2 ⟨ng2, r2, rfl, G2, l2, hb2⟩; have hb2' : Below w1.heap.size w1 w2 := (show Below w1.heap.size w1 _ by repeat (first | exact Below.refl _ _ | refine Below.drew ?_)).trans hb2; have HB := HB.trans (hb2'.mono HB.size); replace bx := bx.below hb2'; clear bx1 bx2 bx3 bx4; obtain ⟨bx1, bx2, bx3, bx4⟩ := bx.facts; replace by' := by'.below hb2'; clear by1 by2 by3 by4; obtain ⟨by1, by2, by3, by4⟩ := by'.facts; replace br := br.below hb2'; clear br1 br2 br3 br4; obtain ⟨br1, br2, br3, br4⟩ := br.facts)
        | (go_at_call 146; refine (less_any _ _ _ _ xs (hx0.sl.below (by repeat (first | exact Below.refl _ _ | refine Below.drew ?_))) _ _ _ ys (hy0.sl.below (by repeat (first | exact Below.refl _ _ | refine Below.drew ?_))) (by omega) hlen (by rw [hx.val, hy.val]; exact hle) hpos).mono ?_; rintro e w1 ⟨v1, rfl, D1, hb1⟩; obtain ⟨p1, q1, d1, rfl, s1, e1, l1⟩ := D1.open; clear D1; have hb1' : Below w9.heap.size w9 w1 := (show Below w9.heap.size w9 _ by repeat (first | exact Below.refl _ _ | refine Below.drew ?_)).trans hb1; have HB := HB.trans (hb1'.mono HB.size); replace bx := bx.below hb1'; clear bx1 bx2 bx3 bx4; obtain ⟨bx1, bx2, bx3, bx4⟩ := bx.facts; replace by' := by'.below hb1'; clear by1 by2 by3 by4; obtain ⟨by1, by2, by3, by4⟩ := by'.facts; replace br := br.below hb1'; clear br1 br2 br3 br4; obtain ⟨br1, br2, br3, br4⟩ := br.facts))
    all_goals
      have X := hide (br.set ng2 (.slice p1 r2.length q1)).facts
      have Y := hide (br.wh ng2 (.slice p1 r2.length q1) G2)
      have Z := hide (below_set2 HB (show w.heap.size ≤ w.heap.size + 1 + 1 by omega) (.bool ng2) (.slice p1 r2.length q1))
      clear bx1 bx2 bx3 bx4 by1 by2 by3 by4
      go_wp2
      refine bodyPost_ret (v := .agg #[.bool ng2, .slice p1 r2.length q1]) ?_ rfl ⟨ng2, p1, q1, r2, rfl, by rw [show sg false x + sg true y = sg false (Dm.val xs - Dm.val ys) by rw [hx.val, hy.val]; simp [sg]; omega]; exact Y.out, by omega, Z.out⟩
      simp [results, Tryd.results142, go_sem, X.out.1, X.out.2.1]
  | true =>
    simp only [Bool.not_true] at E0 by' K ⊢
    go_enter Tryd.func142, Tryd.ntmps142
    go_wp2_with fail
    rw [E0.out]
    obtain ⟨bx1, bx2, bx3, bx4⟩ := bx.facts
    obtain ⟨by1, by2, by3, by4⟩ := by'.facts
    obtain ⟨br1, br2, br3, br4⟩ := br.facts
    refine (K.out _ hx0 hy0).mono ?_
    rintro e w9 ⟨rfl, hb9⟩
    replace HB := HB.trans (hb9.mono HB.size)
    replace hx0 := hx0.below hb9
    replace hy0 := hy0.below hb9
    replace bx := bx.below hb9
    replace by' := by'.below hb9
    replace br := br.below hb9
    clear bx1 bx2 bx3 bx4 by1 by2 by3 by4 br1 br2 br3 br4
    obtain ⟨bx1, bx2, bx3, bx4⟩ := bx.facts
    obtain ⟨by1, by2, by3, by4⟩ := by'.facts
    obtain ⟨br1, br2, br3, br4⟩ := br.facts
    go_wp2_with fail
    go_region_held3 (fun w' => w'.cell? ⟨w.heap.size, 0, none⟩ = some (.bool true) ∧ w'.cell? ⟨w.heap.size, 1, none⟩ = some (.slice a1 xs.length c1) ∧ w'.cell? ⟨w.heap.size + 1, 0, none⟩ = some (.bool false) ∧ w'.cell? ⟨w.heap.size + 1, 1, none⟩ = some (.slice a2 ys.length c2)) (go_keep) (first
        | (go_at_call 94; have _hq := hb1'; refine (made_w _ _ p1 q1 d1 _ (s1.below (by repeat (first | exact Below.refl _ _ | refine Below.drew ?_))) e1).mono ?_; rintro e w2 ⟨ng2, r2, rfl, G2, l2, hb2⟩; have hb2' : Below w1.heap.size w1 w2 := (show Below w1.heap.size w1 _ by repeat (first | exact Below.refl _ _ | refine Below.drew ?_)).trans hb2; have HB := HB.trans (hb2'.mono HB.size); replace bx := bx.below hb2'; clear bx1 bx2 bx3 bx4; obtain ⟨bx1, bx2, bx3, bx4⟩ := bx.facts; replace by' := by'.below hb2'; clear by1 by2 by3 by4; obtain ⟨by1, by2, by3, by4⟩ := by'.facts; replace br := br.below hb2'; clear br1 br2 br3 br4; obtain ⟨br1, br2, br3, br4⟩ := br.facts)
        | (go_at_call 146; refine (less_any _ _ _ _ xs (hx0.sl.below (by repeat (first | exact Below.refl _ _ | refine Below.drew ?_))) _ _ _ ys (hy0.sl.below (by repeat (first | exact Below.refl _ _ | refine Below.drew ?_))) (by omega) hlen (by rw [hx.val, hy.val]; exact hle) hpos).mono ?_; rintro e w1 ⟨v1, rfl, D1, hb1⟩; obtain ⟨p1, q1, d1, rfl, s1, e1, l1⟩ := D1.open; clear D1; have hb1' : Below w9.heap.size w9 w1 := (show Below w9.heap.size w9 _ by repeat (first | exact Below.refl _ _ | refine Below.drew ?_)).trans hb1; have HB := HB.trans (hb1'.mono HB.size); replace bx := bx.below hb1'; clear bx1 bx2 bx3 bx4; obtain ⟨bx1, bx2, bx3, bx4⟩ := bx.facts; replace by' := by'.below hb1'; clear by1 by2 by3 by4; obtain ⟨by1, by2, by3, by4⟩ := by'.facts; replace br := br.below hb1'; clear br1 br2 br3 br4; obtain ⟨br1, br2, br3, br4⟩ := br.facts))
    all_goals
      have X := hide (br.set ng2 (.slice p1 r2.length q1)).facts
      have Y := hide (br.wh ng2 (.slice p1 r2.length q1) G2)
      have Z := hide (below_set2 HB (show w.heap.size ≤ w.heap.size + 1 + 1 by omega) (.bool ng2) (.slice p1 r2.length q1))
      clear bx1 bx2 bx3 bx4 by1 by2 by3 by4
      go_wp2
      refine bodyPost_ret (v := .agg #[.bool ng2, .slice p1 r2.length q1]) ?_ rfl ⟨ng2, p1, q1, r2, rfl, by rw [show sg true x + sg false y = sg true (Dm.val xs - Dm.val ys) by rw [hx.val, hy.val]; simp [sg]; omega]; exact Y.out, by omega, Z.out⟩
      simp [results, Tryd.results142, go_sem, X.out.1, X.out.2.1]
set_option maxRecDepth 20000 in
set_option maxHeartbeats 1000000 in
theorem nadd_lt (w : World) (n1 : Bool) (a1 : Option Addr) (c1 : Nat) (xs : List Int) (x : Int) (hx : Got w a1 c1 xs x) (a2 : Option Addr) (c2 : Nat) (ys : List Int) (y : Int) (hy : Got w a2 c2 ys y) (m1 : xs.length ≤ 400000) (m2 : ys.length ≤ 400000) (hle : x < y) :
    Calls Tryd.prog 142 #[.agg #[.bool n1, .slice a1 xs.length c1], .agg #[.bool (!n1), .slice a2 ys.length c2]] w fun e w' => ∃ ng' ao cap rs, e = .returned (.agg #[.bool ng', .slice ao rs.length cap]) ∧ Wh w' ng' ao cap rs (sg n1 x + sg (!n1) y) ∧ rs.length ≤ xs.length + ys.length + 1 ∧ Below w.heap.size w w' := by
  obtain ⟨w0, e0, bx, by', br, hb0, hs0⟩ := boxed3 w n1 (.slice a1 xs.length c1) (!n1) (.slice a2 ys.length c2)
  have E0 := hide e0
  have hx0 := hx.below hb0
  have hy0 := hy.below hb0
  have HB := hb0
  have ne1 : ¬ (w.heap.size = w.heap.size + 1 + 1) := by omega
  have ne2 : ¬ (w.heap.size + 1 + 1 = w.heap.size) := by omega
  clear e0 hs0
  have K := hide (fun w hx hy => size_any w n1 (!n1) a1 a2 c1 c2 xs ys x y hx hy)
  have hc : ¬ 0 ≤ cmpI x y := by rw [cmpI_lt hle]; omega
  have hpos : 0 < ys.length := by
    apply Classical.byContradiction
    intro hn
    have h1 := got_zero hy (by omega)
    have h2 := (val_bounds hx.canon.1).1
    rw [hx.val] at h2
    omega
  have hlen : xs.length ≤ ys.length := by
    apply Classical.byContradiction
    intro hn
    have := canon_lt hy.canon hx.canon (by omega)
    rw [hx.val, hy.val] at this
    omega
  generalize cmpI x y = cv at K hc
  cases n1 with
  | false =>
    simp only [Bool.not_false] at E0 by' K ⊢
    go_enter Tryd.func142, Tryd.ntmps142
    go_wp2_with fail
    rw [E0.out]
    obtain ⟨bx1, bx2, bx3, bx4⟩ := bx.facts
    obtain ⟨by1, by2, by3, by4⟩ := by'.facts
    obtain ⟨br1, br2, br3, br4⟩ := br.facts
    refine (K.out _ hx0 hy0).mono ?_
    rintro e w9 ⟨rfl, hb9⟩
    replace HB := HB.trans (hb9.mono HB.size)
    replace hx0 := hx0.below hb9
    replace hy0 := hy0.below hb9
    replace bx := bx.below hb9
    replace by' := by'.below hb9
    replace br := br.below hb9
    clear bx1 bx2 bx3 bx4 by1 by2 by3 by4 br1 br2 br3 br4
    obtain ⟨bx1, bx2, bx3, bx4⟩ := bx.facts
    obtain ⟨by1, by2, by3, by4⟩ := by'.facts
    obtain ⟨br1, br2, br3, br4⟩ := br.facts
    go_wp2_with fail
    go_region_held3 (fun w' => w'.cell? ⟨w.heap.size, 0, none⟩ = some (.bool false) ∧ w'.cell? ⟨w.heap.size, 1, none⟩ = some (.slice a1 xs.length c1) ∧ w'.cell? ⟨w.heap.size + 1, 0, none⟩ = some (.bool true) ∧ w'.cell? ⟨w.heap.size + 1, 1, none⟩ = some (.slice a2 ys.length c2)) (go_keep) (first
        | (go_at_call 94; have _hq := hb1'; refine (made_w _ _ p1 q1 d1 _ (s1.below (by repeat (first | exact Below.refl _ _ | refine Below.drew ?_))) e1).mono ?_; rintro e w2 ⟨ng2, r2, rfl, G2, l2, hb2⟩; have hb2' : Below w1.heap.size w1 w2 := (show Below w1.heap.size w1 _ by repeat (first | exact Below.refl _ _ | refine Below.drew ?_)).trans hb2; have HB := HB.trans (hb2'.mono HB.size); replace bx := bx.below hb2'; clear bx1 bx2 bx3 bx4; obtain ⟨bx1, bx2, bx3, bx4⟩ := bx.facts; replace by' := by'.below hb2'; clear by1 by2 by3 by4; obtain ⟨by1, by2, by3, by4⟩ := by'.facts; replace br := br.below hb2'; clear br1 br2 br3 br4; obtain ⟨br1, br2, br3, br4⟩ := br.facts)
        | (go_at_call 146; refine (less_any _ _ _ _ ys (hy0.sl.below (by repeat (first | exact Below.refl _ _ | refine Below.drew ?_))) _ _ _ xs (hx0.sl.below (by repeat (first | exact Below.refl _ _ | refine Below.drew ?_))) (by omega) hlen (by rw [hx.val, hy.val]; omega) hpos).mono ?_; rintro e w1 ⟨v1, rfl, D1, hb1⟩; obtain ⟨p1, q1, d1, rfl, s1, e1, l1⟩ := D1.open; clear D1; have hb1' : Below w9.heap.size w9 w1 := (show Below w9.heap.size w9 _ by repeat (first | exact Below.refl _ _ | refine Below.drew ?_)).trans hb1; have HB := HB.trans (hb1'.mono HB.size); replace bx := bx.below hb1'; clear bx1 bx2 bx3 bx4; obtain ⟨bx1, bx2, bx3, bx4⟩ := bx.facts; replace by' := by'.below hb1'; clear by1 by2 by3 by4; obtain ⟨by1, by2, by3, by4⟩ := by'.facts; replace br := br.below hb1'; clear br1 br2 br3 br4; obtain ⟨br1, br2, br3, br4⟩ := br.facts))
    all_goals
      have X := hide (br.set ng2 (.slice p1 r2.length q1)).facts
      have Y := hide (br.wh ng2 (.slice p1 r2.length q1) G2)
      have Z := hide (below_set2 HB (show w.heap.size ≤ w.heap.size + 1 + 1 by omega) (.bool ng2) (.slice p1 r2.length q1))
      clear bx1 bx2 bx3 bx4 by1 by2 by3 by4
      go_wp2
      refine bodyPost_ret (v := .agg #[.bool ng2, .slice p1 r2.length q1]) ?_ rfl ⟨ng2, p1, q1, r2, rfl, by rw [show sg false x + sg true y = sg true (Dm.val ys - Dm.val xs) by rw [hx.val, hy.val]; simp [sg]; omega]; exact Y.out, by omega, Z.out⟩
      simp [results, Tryd.results142, go_sem, X.out.1, X.out.2.1]
  | true =>
    simp only [Bool.not_true] at E0 by' K ⊢
    go_enter Tryd.func142, Tryd.ntmps142
    go_wp2_with fail
    rw [E0.out]
    obtain ⟨bx1, bx2, bx3, bx4⟩ := bx.facts
    obtain ⟨by1, by2, by3, by4⟩ := by'.facts
    obtain ⟨br1, br2, br3, br4⟩ := br.facts
    refine (K.out _ hx0 hy0).mono ?_
    rintro e w9 ⟨rfl, hb9⟩
    replace HB := HB.trans (hb9.mono HB.size)
    replace hx0 := hx0.below hb9
    replace hy0 := hy0.below hb9
    replace bx := bx.below hb9
    replace by' := by'.below hb9
    replace br := br.below hb9
    clear bx1 bx2 bx3 bx4 by1 by2 by3 by4 br1 br2 br3 br4
    obtain ⟨bx1, bx2, bx3, bx4⟩ := bx.facts
    obtain ⟨by1, by2, by3, by4⟩ := by'.facts
    obtain ⟨br1, br2, br3, br4⟩ := br.facts
    go_wp2_with fail
    go_region_held3 (fun w' => w'.cell? ⟨w.heap.size, 0, none⟩ = some (.bool true) ∧ w'.cell? ⟨w.heap.size, 1, none⟩ = some (.slice a1 xs.length c1) ∧ w'.cell? ⟨w.heap.size + 1, 0, none⟩ = some (.bool false) ∧ w'.cell? ⟨w.heap.size + 1, 1, none⟩ = some (.slice a2 ys.length c2)) (go_keep) (first
        | (go_at_call 94; have _hq := hb1'; refine (made_w _ _ p1 q1 d1 _ (s1.below (by repeat (first | exact Below.refl _ _ | refine Below.drew ?_))) e1).mono ?_; rintro e w2 ⟨ng2, r2, rfl, G2, l2, hb2⟩; have hb2' : Below w1.heap.size w1 w2 := (show Below w1.heap.size w1 _ by repeat (first | exact Below.refl _ _ | refine Below.drew ?_)).trans hb2; have HB := HB.trans (hb2'.mono HB.size); replace bx := bx.below hb2'; clear bx1 bx2 bx3 bx4; obtain ⟨bx1, bx2, bx3, bx4⟩ := bx.facts; replace by' := by'.below hb2'; clear by1 by2 by3 by4; obtain ⟨by1, by2, by3, by4⟩ := by'.facts; replace br := br.below hb2'; clear br1 br2 br3 br4; obtain ⟨br1, br2, br3, br4⟩ := br.facts)
        | (go_at_call 146; refine (less_any _ _ _ _ ys (hy0.sl.below (by repeat (first | exact Below.refl _ _ | refine Below.drew ?_))) _ _ _ xs (hx0.sl.below (by repeat (first | exact Below.refl _ _ | refine Below.drew ?_))) (by omega) hlen (by rw [hx.val, hy.val]; omega) hpos).mono ?_; rintro e w1 ⟨v1, rfl, D1, hb1⟩; obtain ⟨p1, q1, d1, rfl, s1, e1, l1⟩ := D1.open; clear D1; have hb1' : Below w9.heap.size w9 w1 := (show Below w9.heap.size w9 _ by repeat (first | exact Below.refl _ _ | refine Below.drew ?_)).trans hb1; have HB := HB.trans (hb1'.mono HB.size); replace bx := bx.below hb1'; clear bx1 bx2 bx3 bx4; obtain ⟨bx1, bx2, bx3, bx4⟩ := bx.facts; replace by' := by'.below hb1'; clear by1 by2 by3 by4; obtain ⟨by1, by2, by3, by4⟩ := by'.facts; replace br := br.below hb1'; clear br1 br2 br3 br4; obtain ⟨br1, br2, br3, br4⟩ := br.facts))
    all_goals
      have X := hide (br.set ng2 (.slice p1 r2.length q1)).facts
      have Y := hide (br.wh ng2 (.slice p1 r2.length q1) G2)
      have Z := hide (below_set2 HB (show w.heap.size ≤ w.heap.size + 1 + 1 by omega) (.bool ng2) (.slice p1 r2.length q1))
      clear bx1 bx2 bx3 bx4 by1 by2 by3 by4
      go_wp2
      refine bodyPost_ret (v := .agg #[.bool ng2, .slice p1 r2.length q1]) ?_ rfl ⟨ng2, p1, q1, r2, rfl, by rw [show sg true x + sg false y = sg false (Dm.val ys - Dm.val xs) by rw [hx.val, hy.val]; simp [sg]; omega]; exact Y.out, by omega, Z.out⟩
      simp [results, Tryd.results142, go_sem, X.out.1, X.out.2.1]
theorem nadd_g (w : World) (n1 : Bool) (a1 : Option Addr) (c1 : Nat) (xs : List Int) (x : Int) (hx : Wh w n1 a1 c1 xs x) (n2 : Bool) (a2 : Option Addr) (c2 : Nat) (ys : List Int) (y : Int) (hy : Wh w n2 a2 c2 ys y) (m1 : xs.length ≤ 400000) (m2 : ys.length ≤ 400000) :
    Calls Tryd.prog 142 #[.agg #[.bool n1, .slice a1 xs.length c1], .agg #[.bool n2, .slice a2 ys.length c2]] w fun e w' => ∃ ng' ao cap rs, e = .returned (.agg #[.bool ng', .slice ao rs.length cap]) ∧ Wh w' ng' ao cap rs (x + y) ∧ rs.length ≤ xs.length + ys.length + 1 ∧ Below w.heap.size w w' := by
  have wx := hx.worth
  have wy := hy.worth
  rw [hx.1.val] at wx
  rw [hy.1.val] at wy
  rw [show x + y = sg n1 (x.natAbs : Int) + sg n2 (y.natAbs : Int) by rw [wx, wy]]
  by_cases hn : n1 = n2
  · subst hn
    exact nadd_same w n1 a1 c1 xs _ hx.1 a2 c2 ys _ hy.1 m1 m2
  · have hn2 : n2 = !n1 := by cases n1 <;> cases n2 <;> simp_all
    have s1 := hx.2
    have s2 := hy.2
    subst hn2
    by_cases hle : (y.natAbs : Int) ≤ (x.natAbs : Int)
    · refine nadd_ge w n1 a1 c1 xs _ hx.1 a2 c2 ys _ hy.1 m1 m2 hle ?_
      cases n1
      · have : y < 0 := by simpa using s2.symm
        omega
      · have : x < 0 := by simpa using s1.symm
        omega
    · exact nadd_lt w n1 a1 c1 xs _ hx.1 a2 c2 ys _ hy.1 m1 m2 (by omega)
end Dm
end Go.Proofs.YtdiiankcjgoecaaDoor

namespace Go.Proofs.YtdiiankcjgoecaaDoor
namespace Dm
open Go.RowKit
open Lm (hide lt_of_cell lt_of_heap cmpI cmpI_lt cmpI_gt)
theorem copied {w : World} {B g n cap : Nat} {zs : List Int} (h : w.ownsRow B 3 1 (.slice (some ⟨g, 0, none⟩) n cap) n ([] ++ zs.map (Value.int .i64))) (hz : Limb zs) : Sl w (.slice (some ⟨g, 0, none⟩) zs.length cap) zs := by
  have hn : zs.length = n := by simpa using h.1
  subst hn
  rw [List.nil_append] at h
  exact (ow_of_row h hz).sl
set_option maxRecDepth 20000 in
set_option maxHeartbeats 1000000 in
theorem minus_some (w : World) (ng : Bool) (a1 : Option Addr) (c1 : Nat) (xs : List Int) (x : Int) (hx : Got w a1 c1 xs x) (m1 : xs.length ≤ 1000000) (h0 : 0 < xs.length) :
    Calls Tryd.prog 85 #[.agg #[.bool ng, .slice a1 xs.length c1]] w fun e w' => ∃ ng' ao cap rs, e = .returned (.agg #[.bool ng', .slice ao rs.length cap]) ∧ Wh w' ng' ao cap rs (sg (!ng) x) ∧ rs.length ≤ xs.length ∧ Below w.heap.size w w' := by
  obtain ⟨b, off, rfl, _⟩ := hx.sl.cells h0
  obtain ⟨w0, e0, bx, br, hb0, hs0⟩ := boxed1 w ng (.slice (some ⟨b, off, none⟩) xs.length c1)
  have E0 := hide e0
  obtain ⟨i0, hi, hz0, hz1, hz2⟩ := info_parts info64
  obtain ⟨_, p1, p2, p3⟩ := hx.sl.parts
  have P3 := hide p3
  have hx0 := hx.below hb0
  have HB := hb0
  clear e0 hs0 p3
  go_enter Tryd.func85, Tryd.ntmps85
  go_wp2_with fail
  rw [E0.out]
  obtain ⟨bx1, bx2, bx3, bx4⟩ := bx.facts
  obtain ⟨br1, br2, br3, br4⟩ := br.facts
  go_region_held3 (fun w' => w'.cell? ⟨w.heap.size, 0, none⟩ = some (.bool ng) ∧ w'.cell? ⟨w.heap.size, 1, none⟩ = some (.slice (some ⟨b, off, none⟩) xs.length c1)) (go_keep) (first
    | (go_at_call 94; refine (made_w _ _ _ _ xs _ (s1.below (by repeat (first | exact Below.refl _ _ | refine Below.drew ?_))) hx.val).mono ?_; rintro e w2 ⟨ng2, r2, rfl, G2, l2, hb2⟩; have hb2' : Below w1.heap.size w1 w2 := (show Below w1.heap.size w1 _ by repeat (first | exact Below.refl _ _ | refine Below.drew ?_)).trans hb2; have HB := HB.trans (hb2'.mono HB.size); replace bx := bx.below hb2'; clear bx1 bx2 bx3 bx4; obtain ⟨bx1, bx2, bx3, bx4⟩ := bx.facts; replace br := br.below hb2'; clear br1 br2 br3 br4; obtain ⟨br1, br2, br3, br4⟩ := br.facts)
    | ((refine step_append_lies _ (by rfl) _ _ _ (by rfl) w0.heap.size 3 i0 _ 1 8 Tryd.underlying75 hi hz0 hz1 hz2 rfl (by omega) (.slice none 0 0) 0 [] (by rfl) (World.ownsRow_nil _ _ _ _) ⟨b, off, none⟩ xs.length c1 (xs.map (Value.int .i64)) (by rfl) (by simp) (Sl.copy (hx0.sl.below (by repeat (first | exact Below.refl _ _ | refine Below.drew ?_)))) (one_cells xs) (by omega) (by unfold maxLen; omega) (by omega) (by simp) w0.heap.size (by simp) ?_; intro g1 q1 w1 hown hgrow hat hlt; have hb1' : Below w0.heap.size w0 w1 := (show Below w0.heap.size w0 _ by repeat (first | exact Below.refl _ _ | refine Below.drew ?_)).grown hgrow (by simp) (by intro k hk; simp [Value.ownBlock] at hk); have HB := HB.trans (hb1'.mono HB.size); have s1 := copied hown P3.out; replace bx := bx.below hb1'; clear bx1 bx2 bx3 bx4; obtain ⟨bx1, bx2, bx3, bx4⟩ := bx.facts; replace br := br.below hb1'; clear br1 br2 br3 br4; obtain ⟨br1, br2, br3, br4⟩ := br.facts)))
  all_goals
    have X := hide (br.set ng2 (.slice (some ⟨g1, 0, none⟩) r2.length q1)).facts
    have Y := hide (br.wh ng2 (.slice (some ⟨g1, 0, none⟩) r2.length q1) G2)
    have Z := hide (below_set2 HB (show w.heap.size ≤ w.heap.size + 1 by omega) (.bool ng2) (.slice (some ⟨g1, 0, none⟩) r2.length q1))
    clear bx1 bx2 bx3 bx4
    go_wp2
    refine bodyPost_ret (v := .agg #[.bool ng2, .slice (some ⟨g1, 0, none⟩) r2.length q1]) ?_ rfl ⟨ng2, (some ⟨g1, 0, none⟩), q1, r2, rfl, Y.out, by omega, Z.out⟩
    simp [results, Tryd.results85, go_sem, X.out.1, X.out.2.1]
set_option maxRecDepth 20000 in
set_option maxHeartbeats 1000000 in
theorem abs_some (w : World) (ng : Bool) (a1 : Option Addr) (c1 : Nat) (xs : List Int) (x : Int) (hx : Got w a1 c1 xs x) (m1 : xs.length ≤ 1000000) (h0 : 0 < xs.length) :
    Calls Tryd.prog 113 #[.agg #[.bool ng, .slice a1 xs.length c1]] w fun e w' => ∃ ng' ao cap rs, e = .returned (.agg #[.bool ng', .slice ao rs.length cap]) ∧ Wh w' ng' ao cap rs (sg false x) ∧ rs.length ≤ xs.length ∧ Below w.heap.size w w' := by
  obtain ⟨b, off, rfl, _⟩ := hx.sl.cells h0
  obtain ⟨w0, rfl, bx, br, hb0, hs0⟩ := boxed1 w ng (.slice (some ⟨b, off, none⟩) xs.length c1)
  obtain ⟨i0, hi, hz0, hz1, hz2⟩ := info_parts info64
  obtain ⟨_, p1, p2, p3⟩ := hx.sl.parts
  have P3 := hide p3
  have hx0 := hx.below hb0
  have HB := hb0
  clear p3
  go_enter Tryd.func113, Tryd.ntmps113
  go_wp2_with (at_builtin; refine wpList_append_lies _ rfl _ _ _ rfl w.heap.size 3 i0 _ 1 8 Tryd.underlying75 hi hz0 hz1 hz2 rfl (by omega) (.slice none 0 0) 0 [] rfl (World.ownsRow_nil _ _ _ _) ⟨b, off, none⟩ xs.length c1 (xs.map (Value.int .i64)) rfl (by simp) (Sl.copy hx0.sl) (one_cells xs) (by omega) (by unfold maxLen; omega) (by omega) (by simp; omega) (w.heap.size + 2) (by simp) ?_)
  intro g1 q1 w1 hown hgrow hat hlt
  have hb1 := Below.grown (Below.refl _ _) hgrow (Nat.le_refl _) (by intro k hk; simp [Value.ownBlock] at hk)
  have HB := HB.trans (hb1.mono HB.size)
  have s1 := copied hown P3.out
  replace bx := bx.below hb1
  replace br := br.below hb1
  clear hown hgrow hat hx0
  go_wp2_with fail
  try rw [Nat.zero_add]
  refine (made_w _ _ _ _ xs _ s1 hx.val).mono ?_
  rintro e w2 ⟨ng2, r2, rfl, G2, l2, hb2⟩
  replace HB := HB.trans (hb2.mono HB.size)
  replace bx := bx.below hb2
  replace br := br.below hb2
  obtain ⟨bx1, bx2, bx3, bx4⟩ := bx.facts
  obtain ⟨br1, br2, br3, br4⟩ := br.facts
  all_goals
    have X := hide (br.set ng2 (.slice (some ⟨g1, 0, none⟩) r2.length q1)).facts
    have Y := hide (br.wh ng2 (.slice (some ⟨g1, 0, none⟩) r2.length q1) G2)
    have Z := hide (below_set2 HB (show w.heap.size ≤ w.heap.size + 1 by omega) (.bool ng2) (.slice (some ⟨g1, 0, none⟩) r2.length q1))
    clear bx1 bx2 bx3 bx4
    go_wp2
    refine bodyPost_ret (v := .agg #[.bool ng2, .slice (some ⟨g1, 0, none⟩) r2.length q1]) ?_ rfl ⟨ng2, (some ⟨g1, 0, none⟩), q1, r2, rfl, Y.out, by omega, Z.out⟩
    simp [results, Tryd.results113, go_sem, X.out.1, X.out.2.1]
theorem sl_nil (w : World) : Sl w (.slice none ([] : List Int).length 0) [] := ⟨none, 0, rfl, Nat.le_refl _, by simp [maxLen], limb_nil, .inl rfl⟩
set_option maxRecDepth 20000 in
set_option maxHeartbeats 1000000 in
theorem minus_nonea (w : World) (ng : Bool) (c1 : Nat) (_hc : c1 ≤ 9223372036854775807) :
    Calls Tryd.prog 85 #[.agg #[.bool ng, .slice none 0 c1]] w fun e w' => ∃ ng' ao cap rs, e = .returned (.agg #[.bool ng', .slice ao rs.length cap]) ∧ Wh w' ng' ao cap rs (sg (!ng) 0) ∧ rs.length ≤ 0 ∧ Below w.heap.size w w' := by
  obtain ⟨w0, e0, bx, br, hb0, hs0⟩ := boxed1 w ng (.slice none 0 c1)
  have E0 := hide e0
  have HB := hb0
  clear e0 hs0
  go_enter Tryd.func85, Tryd.ntmps85
  go_wp2_with fail
  rw [E0.out]
  obtain ⟨bx1, bx2, bx3, bx4⟩ := bx.facts
  obtain ⟨br1, br2, br3, br4⟩ := br.facts
  go_region_held3 (fun w' => w'.cell? ⟨w.heap.size, 0, none⟩ = some (.bool ng) ∧ w'.cell? ⟨w.heap.size, 1, none⟩ = some (.slice none 0 c1)) (go_keep) (first
    | (go_at_call 94; refine (made_w _ _ none 0 [] 0 (sl_nil _) rfl).mono ?_; rintro e w2 ⟨ng2, r2, rfl, G2, l2, hb2⟩; have hb2' : Below w0.heap.size w0 w2 := (show Below w0.heap.size w0 _ by repeat (first | exact Below.refl _ _ | refine Below.drew ?_)).trans hb2; have HB := HB.trans (hb2'.mono HB.size); replace bx := bx.below hb2'; clear bx1 bx2 bx3 bx4; obtain ⟨bx1, bx2, bx3, bx4⟩ := bx.facts; replace br := br.below hb2'; clear br1 br2 br3 br4; obtain ⟨br1, br2, br3, br4⟩ := br.facts))
  all_goals
    have X := hide (br.set ng2 (.slice none r2.length 0)).facts
    have Y := hide (br.wh ng2 (.slice none r2.length 0) G2)
    have Z := hide (below_set2 HB (show w.heap.size ≤ w.heap.size + 1 by omega) (.bool ng2) (.slice none r2.length 0))
    clear bx1 bx2 bx3 bx4
    go_wp2
    refine bodyPost_ret (v := .agg #[.bool ng2, .slice none r2.length 0]) ?_ rfl ⟨ng2, none, 0, r2, rfl, Y.out, by simpa using l2, Z.out⟩
    simp [results, Tryd.results85, go_sem, X.out.1, X.out.2.1]
set_option maxRecDepth 20000 in
set_option maxHeartbeats 1000000 in
theorem minus_noneb (w : World) (ng : Bool) (ad : Addr) (c1 : Nat) (_hc : c1 ≤ 9223372036854775807) :
    Calls Tryd.prog 85 #[.agg #[.bool ng, .slice (some ad) 0 c1]] w fun e w' => ∃ ng' ao cap rs, e = .returned (.agg #[.bool ng', .slice ao rs.length cap]) ∧ Wh w' ng' ao cap rs (sg (!ng) 0) ∧ rs.length ≤ 0 ∧ Below w.heap.size w w' := by
  obtain ⟨w0, e0, bx, br, hb0, hs0⟩ := boxed1 w ng (.slice (some ad) 0 c1)
  have E0 := hide e0
  have HB := hb0
  clear e0 hs0
  go_enter Tryd.func85, Tryd.ntmps85
  go_wp2_with fail
  rw [E0.out]
  obtain ⟨bx1, bx2, bx3, bx4⟩ := bx.facts
  obtain ⟨br1, br2, br3, br4⟩ := br.facts
  go_region_held3 (fun w' => w'.cell? ⟨w.heap.size, 0, none⟩ = some (.bool ng) ∧ w'.cell? ⟨w.heap.size, 1, none⟩ = some (.slice (some ad) 0 c1)) (go_keep) (first
    | (go_at_call 94; refine (made_w _ _ none 0 [] 0 (sl_nil _) rfl).mono ?_; rintro e w2 ⟨ng2, r2, rfl, G2, l2, hb2⟩; have hb2' : Below w0.heap.size w0 w2 := (show Below w0.heap.size w0 _ by repeat (first | exact Below.refl _ _ | refine Below.drew ?_)).trans hb2; have HB := HB.trans (hb2'.mono HB.size); replace bx := bx.below hb2'; clear bx1 bx2 bx3 bx4; obtain ⟨bx1, bx2, bx3, bx4⟩ := bx.facts; replace br := br.below hb2'; clear br1 br2 br3 br4; obtain ⟨br1, br2, br3, br4⟩ := br.facts))
  all_goals
    have X := hide (br.set ng2 (.slice none r2.length 0)).facts
    have Y := hide (br.wh ng2 (.slice none r2.length 0) G2)
    have Z := hide (below_set2 HB (show w.heap.size ≤ w.heap.size + 1 by omega) (.bool ng2) (.slice none r2.length 0))
    clear bx1 bx2 bx3 bx4
    go_wp2
    refine bodyPost_ret (v := .agg #[.bool ng2, .slice none r2.length 0]) ?_ rfl ⟨ng2, none, 0, r2, rfl, Y.out, by simpa using l2, Z.out⟩
    simp [results, Tryd.results85, go_sem, X.out.1, X.out.2.1]
set_option maxRecDepth 20000 in
set_option maxHeartbeats 1000000 in
theorem abs_nonea (w : World) (ng : Bool) (c1 : Nat) (_hc : c1 ≤ 9223372036854775807) :
    Calls Tryd.prog 113 #[.agg #[.bool ng, .slice none 0 c1]] w fun e w' => ∃ ng' ao cap rs, e = .returned (.agg #[.bool ng', .slice ao rs.length cap]) ∧ Wh w' ng' ao cap rs (sg false 0) ∧ rs.length ≤ 0 ∧ Below w.heap.size w w' := by
  obtain ⟨w0, e0, bx, br, hb0, hs0⟩ := boxed1 w ng (.slice none 0 c1)
  have E0 := hide e0
  have HB := hb0
  clear e0 hs0
  go_enter Tryd.func113, Tryd.ntmps113
  go_wp2_with fail
  rw [E0.out]
  obtain ⟨bx1, bx2, bx3, bx4⟩ := bx.facts
  obtain ⟨br1, br2, br3, br4⟩ := br.facts
  refine (made_w _ _ none 0 [] 0 (sl_nil _) rfl).mono ?_
  rintro e w2 ⟨ng2, r2, rfl, G2, l2, hb2⟩
  replace HB := HB.trans (hb2.mono HB.size)
  replace bx := bx.below hb2
  replace br := br.below hb2
  clear bx1 bx2 bx3 bx4 br1 br2 br3 br4
  obtain ⟨bx1, bx2, bx3, bx4⟩ := bx.facts
  obtain ⟨br1, br2, br3, br4⟩ := br.facts
  all_goals
    have X := hide (br.set ng2 (.slice none r2.length 0)).facts
    have Y := hide (br.wh ng2 (.slice none r2.length 0) G2)
    have Z := hide (below_set2 HB (show w.heap.size ≤ w.heap.size + 1 by omega) (.bool ng2) (.slice none r2.length 0))
    clear bx1 bx2 bx3 bx4
    go_wp2
    refine bodyPost_ret (v := .agg #[.bool ng2, .slice none r2.length 0]) ?_ rfl ⟨ng2, none, 0, r2, rfl, Y.out, by simpa using l2, Z.out⟩
    simp [results, Tryd.results113, go_sem, X.out.1, X.out.2.1]
set_option maxRecDepth 20000 in
set_option maxHeartbeats 1000000 in
theorem abs_noneb (w : World) (ng : Bool) (ad : Addr) (c1 : Nat) (_hc : c1 ≤ 9223372036854775807) :
    Calls Tryd.prog 113 #[.agg #[.bool ng, .slice (some ad) 0 c1]] w fun e w' => ∃ ng' ao cap rs, e = .returned (.agg #[.bool ng', .slice ao rs.length cap]) ∧ Wh w' ng' ao cap rs (sg false 0) ∧ rs.length ≤ 0 ∧ Below w.heap.size w w' := by
  obtain ⟨w0, e0, bx, br, hb0, hs0⟩ := boxed1 w ng (.slice (some ad) 0 c1)
  have E0 := hide e0
  have HB := hb0
  clear e0 hs0
  go_enter Tryd.func113, Tryd.ntmps113
  go_wp2_with fail
  rw [E0.out]
  obtain ⟨bx1, bx2, bx3, bx4⟩ := bx.facts
  obtain ⟨br1, br2, br3, br4⟩ := br.facts
  refine (made_w _ _ none 0 [] 0 (sl_nil _) rfl).mono ?_
  rintro e w2 ⟨ng2, r2, rfl, G2, l2, hb2⟩
  replace HB := HB.trans (hb2.mono HB.size)
  replace bx := bx.below hb2
  replace br := br.below hb2
  clear bx1 bx2 bx3 bx4 br1 br2 br3 br4
  obtain ⟨bx1, bx2, bx3, bx4⟩ := bx.facts
  obtain ⟨br1, br2, br3, br4⟩ := br.facts
  all_goals
    have X := hide (br.set ng2 (.slice none r2.length 0)).facts
    have Y := hide (br.wh ng2 (.slice none r2.length 0) G2)
    have Z := hide (below_set2 HB (show w.heap.size ≤ w.heap.size + 1 by omega) (.bool ng2) (.slice none r2.length 0))
    clear bx1 bx2 bx3 bx4
    go_wp2
    refine bodyPost_ret (v := .agg #[.bool ng2, .slice none r2.length 0]) ?_ rfl ⟨ng2, none, 0, r2, rfl, Y.out, by simpa using l2, Z.out⟩
    simp [results, Tryd.results113, go_sem, X.out.1, X.out.2.1]
theorem minus_got (w : World) (ng : Bool) (a1 : Option Addr) (c1 : Nat) (xs : List Int) (x : Int) (hx : Got w a1 c1 xs x) (m1 : xs.length ≤ 1000000) :
    Calls Tryd.prog 85 #[.agg #[.bool ng, .slice a1 xs.length c1]] w fun e w' => ∃ ng' ao cap rs, e = .returned (.agg #[.bool ng', .slice ao rs.length cap]) ∧ Wh w' ng' ao cap rs (sg (!ng) x) ∧ rs.length ≤ xs.length ∧ Below w.heap.size w w' := by
  by_cases h0 : 0 < xs.length
  · exact minus_some w ng a1 c1 xs x hx m1 h0
  · have e : xs = [] := List.eq_nil_of_length_eq_zero (by omega)
    have hx0 : x = 0 := by rw [← hx.val, e]; rfl
    have hc := hx.sl.parts.2.2.1
    rw [hx0, e]
    cases a1 with
    | none => exact minus_nonea w ng c1 hc
    | some ad => exact minus_noneb w ng ad c1 hc
theorem abs_got (w : World) (ng : Bool) (a1 : Option Addr) (c1 : Nat) (xs : List Int) (x : Int) (hx : Got w a1 c1 xs x) (m1 : xs.length ≤ 1000000) :
    Calls Tryd.prog 113 #[.agg #[.bool ng, .slice a1 xs.length c1]] w fun e w' => ∃ ng' ao cap rs, e = .returned (.agg #[.bool ng', .slice ao rs.length cap]) ∧ Wh w' ng' ao cap rs (sg false x) ∧ rs.length ≤ xs.length ∧ Below w.heap.size w w' := by
  by_cases h0 : 0 < xs.length
  · exact abs_some w ng a1 c1 xs x hx m1 h0
  · have e : xs = [] := List.eq_nil_of_length_eq_zero (by omega)
    have hx0 : x = 0 := by rw [← hx.val, e]; rfl
    have hc := hx.sl.parts.2.2.1
    rw [hx0, e]
    cases a1 with
    | none => exact abs_nonea w ng c1 hc
    | some ad => exact abs_noneb w ng ad c1 hc
theorem minus_g (w : World) (n1 : Bool) (a1 : Option Addr) (c1 : Nat) (xs : List Int) (x : Int) (hx : Wh w n1 a1 c1 xs x) (m1 : xs.length ≤ 1000000) :
    Calls Tryd.prog 85 #[.agg #[.bool n1, .slice a1 xs.length c1]] w fun e w' => ∃ ng' ao cap rs, e = .returned (.agg #[.bool ng', .slice ao rs.length cap]) ∧ Wh w' ng' ao cap rs (-x) ∧ rs.length ≤ xs.length ∧ Below w.heap.size w w' := by
  have wx := hx.worth
  rw [hx.1.val] at wx
  rw [show -x = sg (!n1) (x.natAbs : Int) by rw [sg_neg, wx]]
  exact minus_got w n1 a1 c1 xs _ hx.1 m1
end Dm
end Go.Proofs.YtdiiankcjgoecaaDoor

namespace Go.Proofs.YtdiiankcjgoecaaDoor
namespace Lm
open Go.RowKit
structure Fr (B T : Nat) (w : World) (ao : Option Addr) (cap : Nat) (rs : List Int) (x : Int) : Prop where
  ow : Ow B w (.slice ao rs.length cap) rs
  canon : Canon rs
  val : val rs = x
  lies : 0 < cap → ∀ g off, ao = some ⟨g, off, none⟩ → B ≤ g ∧ g < T
theorem Is.fr {B : Nat} {w : World} {v : Value} {x : Int} (h : Is B w v x) : ∃ ao cap rs, v = .slice ao rs.length cap ∧ Fr B w.heap.size w ao cap rs x := by
  obtain ⟨rs, ho, hc, hv⟩ := h
  obtain ⟨ao, cap, rfl, h1, h2, h3, h4⟩ := ho
  refine ⟨ao, cap, rs, rfl, ⟨ao, cap, rfl, h1, h2, h3, h4⟩, hc, hv, ?_⟩
  intro h0 g off e
  rcases h4 with h4 | ⟨g', off', cur, e', hB, hh, _⟩
  · omega
  · rw [e'] at e
    simp only [Option.some.injEq, Addr.mk.injEq, and_true] at e
    have := lt_of_heap hh
    omega
theorem Fr.got {B T : Nat} {w : World} {ao : Option Addr} {cap : Nat} {rs : List Int} {x : Int} (h : Fr B T w ao cap rs x) : Got w ao cap rs x := ⟨h.ow.sl, h.canon, h.val⟩
theorem Fr.kept {B T : Nat} {w w' : World} {ao : Option Addr} {cap : Nat} {rs : List Int} {x : Int} (h : Fr B T w ao cap rs x) (hk : ∀ g, g < w.heap.size → B ≤ g → g < T → w'.heap[g]? = w.heap[g]?) : Fr B T w' ao cap rs x := by
  obtain ⟨ho, hc, hv, hl⟩ := h
  refine ⟨?_, hc, hv, hl⟩
  obtain ⟨ao', cap', hv', h1, h2, h3, h4⟩ := ho
  obtain ⟨rfl, _, rfl⟩ := (Value.slice.injEq .. ▸ hv')
  refine ⟨ao, cap, rfl, h1, h2, h3, ?_⟩
  rcases h4 with h4 | ⟨g, off, cur, rfl, hB, hh, r⟩
  · exact .inl h4
  · by_cases h0 : 0 < cap
    · have := hl h0 g off rfl
      exact .inr ⟨g, off, cur, rfl, hB, (hk g (lt_of_heap hh) this.1 this.2).trans hh, r⟩
    · exact .inl (by omega)
end Lm
end Go.Proofs.YtdiiankcjgoecaaDoor

namespace Go.Proofs.YtdiiankcjgoecaaDoor
namespace Dm
open Go.RowKit
open Lm (hide lt_of_cell lt_of_heap)
theorem sg_eq (ng : Bool) (x : Int) : sg ng x = Lm.sg ng x := by cases ng <;> simp [sg, Lm.sg]
theorem Wh.nats {w : World} {ao : Option Addr} {cap : Nat} {rs : List Int} {x : Int} (h : Got w ao cap rs x) : Wh w false ao cap rs x := by
  have := Wh.of false h
  simpa [sg] using this
set_option maxRecDepth 20000 in
set_option maxHeartbeats 1000000 in
theorem nof_g (w : World) (ng : Bool) (a1 : Option Addr) (n1 c1 : Nat) (xs : List Int) (hx : Lm.Sl w (.slice a1 n1 c1) xs) (m1 : xs.length ≤ 100000) :
    Calls Tryd.prog 50 #[.agg #[.bool ng, .slice a1 n1 c1]] w fun e w' => ∃ ng' ao cap rs, e = .returned (.agg #[.bool ng', .slice ao rs.length cap]) ∧ Wh w' ng' ao cap rs (Lm.sg ng (Lm.val xs)) ∧ rs.length ≤ 3 * xs.length ∧ Below w.heap.size w w' := by
  obtain ⟨w1, e1, bx, hb1, hs1⟩ := Lm.boxed0 w ng (.slice a1 n1 c1)
  obtain ⟨w2, e2, br, hb2, hs2⟩ := boxed0 w1 false (.slice none 0 0)
  have E1 := hide e1
  have E2 := hide e2
  have HB := hb1.trans (hb2.mono hb1.size)
  replace bx := bx.below hb2
  rw [hs1] at br
  have hx2 := hx.below HB
  have HS : w2.heap.size = w.heap.size + 2 := by omega
  rw [← sg_eq]
  clear e1 e2 hb1 hb2 hs1 hs2
  cases ng with
  | false =>
    go_enter Tryd.func50, Tryd.ntmps50
    go_upto_region 1 with fail
    rw [E1.out, E2.out]
    obtain ⟨bx1, bx2, bx3, bx4⟩ := bx.facts
    go_wp2_with fail
    refine (fromLimbs_any _ _ _ _ xs hx2 (by omega)).mono ?_
    rintro e w3 ⟨p3, q3, D3, rfl, G3, d3, hb3⟩
    obtain ⟨w4, e4, bn, hb4, hs4⟩ := boxed0 w3 false (.slice p3 D3.length q3)
    have E4 := hide e4
    have z3 := hb3.size
    replace HB := (HB.trans (hb3.mono HB.size)).trans (hb4.mono (Nat.le_trans HB.size z3))
    replace bx := (bx.below hb3).below hb4
    replace br := (br.below hb3).below hb4
    replace G3 := G3.below hb4
    clear e4 hb3 hb4 bx1 bx2 bx3 bx4
    go_upto_region 2 with fail
    rw [E4.out]
    obtain ⟨bx1, bx2, bx3, bx4⟩ := bx.facts
    obtain ⟨br1, br2, br3, br4⟩ := br.facts
    obtain ⟨bn1, bn2, bn3, bn4⟩ := bn.facts
    have F := hide (br.set false (.slice p3 D3.length q3)).facts
    have Y := hide (br.wh false (.slice p3 D3.length q3) (Wh.nats G3))
    have Z := hide (below_set2 HB (show w.heap.size ≤ w.heap.size + 1 by omega) (.bool false) (.slice p3 D3.length q3))
    go_wp2
    refine bodyPost_ret (v := .agg #[.bool false, .slice p3 D3.length q3]) ?_ rfl ⟨false, p3, q3, D3, rfl, Y.out, by omega, Z.out⟩
    simp [results, Tryd.results50, go_sem, F.out.1, F.out.2.1]
  | true =>
    go_enter Tryd.func50, Tryd.ntmps50
    go_upto_region 1 with fail
    rw [E1.out, E2.out]
    obtain ⟨bx1, bx2, bx3, bx4⟩ := bx.facts
    go_wp2_with fail
    refine (fromLimbs_any _ _ _ _ xs hx2 (by omega)).mono ?_
    rintro e w3 ⟨p3, q3, D3, rfl, G3, d3, hb3⟩
    obtain ⟨w4, e4, bn, hb4, hs4⟩ := boxed0 w3 false (.slice p3 D3.length q3)
    have E4 := hide e4
    have z3 := hb3.size
    replace HB := (HB.trans (hb3.mono HB.size)).trans (hb4.mono (Nat.le_trans HB.size z3))
    replace bx := (bx.below hb3).below hb4
    replace br := (br.below hb3).below hb4
    replace G3 := G3.below hb4
    clear e4 hb3 hb4 bx1 bx2 bx3 bx4
    go_upto_region 2 with fail
    rw [E4.out]
    obtain ⟨bx1, bx2, bx3, bx4⟩ := bx.facts
    obtain ⟨bn1, bn2, bn3, bn4⟩ := bn.facts
    go_wp2_with fail
    refine (minus_got _ _ _ _ D3 _ G3 (by omega)).mono ?_
    rintro e w5 ⟨n5, p5, q5, D5, rfl, G5, d5, hb5⟩
    replace HB := HB.trans (hb5.mono HB.size)
    replace br := br.below hb5
    clear bx1 bx2 bx3 bx4 bn1 bn2 bn3 bn4 hb5
    obtain ⟨br1, br2, br3, br4⟩ := br.facts
    have F := hide (br.set n5 (.slice p5 D5.length q5)).facts
    have Y := hide (br.wh n5 (.slice p5 D5.length q5) G5)
    have Z := hide (below_set2 HB (show w.heap.size ≤ w.heap.size + 1 by omega) (.bool n5) (.slice p5 D5.length q5))
    go_wp2
    refine bodyPost_ret (v := .agg #[.bool n5, .slice p5 D5.length q5]) ?_ rfl ⟨n5, p5, q5, D5, rfl, Y.out, by omega, Z.out⟩
    simp [results, Tryd.results50, go_sem, F.out.1, F.out.2.1]
theorem nof_z (w : World) (ng : Bool) (a1 : Option Addr) (n1 c1 : Nat) (xs : List Int) (x : Int) (hx : Lm.Ag w ng a1 n1 c1 xs x) (m1 : xs.length ≤ 100000) :
    Calls Tryd.prog 50 #[.agg #[.bool ng, .slice a1 n1 c1]] w fun e w' => ∃ ng' ao cap rs, e = .returned (.agg #[.bool ng', .slice ao rs.length cap]) ∧ Wh w' ng' ao cap rs x ∧ rs.length ≤ 3 * xs.length ∧ Below w.heap.size w w' := by
  have h := nof_g w ng a1 n1 c1 xs hx.sl m1
  rw [hx.worth] at h
  exact h
structure WFr (B T : Nat) (w : World) (ng : Bool) (ao : Option Addr) (cap : Nat) (rs : List Int) (z : Int) : Prop where
  fr : Lm.Fr B T w ao cap rs (z.natAbs : Int)
  sgn : ng = decide (z < 0)
theorem WFr.wh {B T : Nat} {w : World} {ng : Bool} {ao : Option Addr} {cap : Nat} {rs : List Int} {z : Int} (h : WFr B T w ng ao cap rs z) : Lm.Wh w ng ao cap rs z := ⟨h.fr.got, h.sgn⟩
theorem WFr.kept {B T : Nat} {w w' : World} {ng : Bool} {ao : Option Addr} {cap : Nat} {rs : List Int} {z : Int} (h : WFr B T w ng ao cap rs z) (hk : ∀ g, g < w.heap.size → B ≤ g → g < T → w'.heap[g]? = w.heap[g]?) : WFr B T w' ng ao cap rs z := ⟨h.fr.kept hk, h.sgn⟩
theorem WFr.wide {B B' T T' : Nat} {w : World} {ng : Bool} {ao : Option Addr} {cap : Nat} {rs : List Int} {z : Int} (h : WFr B T w ng ao cap rs z) (hB : B' ≤ B) (hT : T ≤ T') : WFr B' T' w ng ao cap rs z :=
  ⟨⟨h.fr.ow.mono hB, h.fr.canon, h.fr.val, fun h0 g off e => by have := h.fr.lies h0 g off e; omega⟩, h.sgn⟩
theorem set2_kept {w : World} {k : Nat} (b u : Value) {g : Nat} (h : g ≠ k) : ((w.setCell ⟨k, 0, none⟩ b).setCell ⟨k, 1, none⟩ u).heap[g]? = w.heap[g]? := by
  rw [heap_setCell_other _ ⟨k, 1, none⟩ g _ h, heap_setCell_other _ ⟨k, 0, none⟩ g _ h]
set_option maxRecDepth 20000 in
set_option maxHeartbeats 1000000 in
theorem told_g (w : World) (ng : Bool) (ao : Option Addr) (cap : Nat) (rs : List Int) (z : Int) (h : Wh w ng ao cap rs z) (M : Nat) (hz : (z.natAbs : Int) < Lm.pw M) (hM : M ≤ 1000000) (hl : rs.length ≤ 1000000) :
    Calls Tryd.prog 46 #[.agg #[.bool ng, .slice ao rs.length cap]] w fun e w' => ∃ bo dap ls, e = .returned (.agg #[.bool ng, .slice bo ls.length dap]) ∧ WFr w.heap.size w'.heap.size w' ng bo dap ls z ∧ ls.length ≤ M ∧ Below w.heap.size w w' := by
  obtain ⟨w1, e1, bx, hb1, hs1⟩ := boxed0 w ng (.slice ao rs.length cap)
  obtain ⟨w2, e2, br, hb2, hs2⟩ := Lm.boxed0 w1 false (.slice none 0 0)
  have E1 := hide e1
  have E2 := hide e2
  have HB := hb1.trans (hb2.mono hb1.size)
  replace bx := bx.below hb2
  rw [hs1] at br
  have h2 := h.below HB
  have HS : w2.heap.size = w.heap.size + 2 := by omega
  have HSG := hide h.2
  have HZ := hide hz
  have ne1 : ¬ (w.heap.size = w.heap.size + 1) := by omega
  have ne2 : ¬ (w.heap.size + 1 = w.heap.size) := by omega
  clear e1 e2 hb1 hb2 hs1 hs2 hz
  go_enter Tryd.func46, Tryd.ntmps46
  go_upto_region 1 with fail
  rw [E1.out, E2.out]
  obtain ⟨bx1, bx2, bx3, bx4⟩ := bx.facts
  obtain ⟨br1, br2, br3, br4⟩ := br.facts
  go_region_held3 (fun w' => w'.cell? ⟨w.heap.size, 0, none⟩ = some (.bool ng) ∧ w'.cell? ⟨w.heap.size, 1, none⟩ = some (.slice ao rs.length cap)) (go_keep) (first
    | (go_at_call 86; refine (limbs_any _ _ _ _ rs _ (h2.1.below (by repeat (first | exact Below.refl _ _ | refine Below.drew ?_))) M HZ.out hM hl).mono ?_; rintro e w1' ⟨v1, rfl, I1, hb1⟩; have hb1' : Below w2.heap.size w2 w1' := (show Below w2.heap.size w2 _ by repeat (first | exact Below.refl _ _ | refine Below.drew ?_)).trans hb1; obtain ⟨p1, q1, r1, rfl, F1⟩ := I1.fr; clear I1; replace bx := bx.below hb1'; clear bx1 bx2 bx3 bx4; obtain ⟨bx1, bx2, bx3, bx4⟩ := bx.facts; replace br := br.below hb1'; clear br1 br2 br3 br4; obtain ⟨br1, br2, br3, br4⟩ := br.facts))
  all_goals
    have HB2 := HB.trans (hb1'.mono HB.size)
    have F := hide (br.set ng (.slice p1 r1.length q1)).facts
    have hkk := lt_of_heap br
    have Y := hide (show WFr w2.heap.size w1'.heap.size _ ng p1 q1 r1 z from (WFr.kept (w := w1') ⟨F1, HSG.out⟩ (fun g _ hg _ => set2_kept (.bool ng) (.slice p1 r1.length q1) (show g ≠ w.heap.size + 1 by omega))))
    have Z := hide (below_set2 HB2 (show w.heap.size ≤ w.heap.size + 1 by omega) (.bool ng) (.slice p1 r1.length q1))
    have LL := hide (Lm.canon_len F1.canon (m := M) (by rw [F1.val]; exact HZ.out))
    clear bx1 bx2 bx3 bx4
    go_wp2
    refine bodyPost_ret (v := .agg #[.bool ng, .slice p1 r1.length q1]) ?_ rfl ⟨p1, q1, r1, rfl, Y.out.wide (by omega) (by simp [World.setCell]), LL.out, Z.out⟩
    simp [results, Tryd.results46, go_sem, F.out.1, F.out.2.1]
end Dm
end Go.Proofs.YtdiiankcjgoecaaDoor

namespace Go.Proofs.YtdiiankcjgoecaaDoor
namespace Dm
open Go.RowKit
open Lm (hide lt_of_cell lt_of_heap)
theorem i_step {ds : List Int} {k : Nat} {u x : Int} (hk : ds.length = k) (h : val ds + pw k * u = x) : val (ds ++ [u % 10000]) + pw (k + 1) * (u / 10000) = x := by
  rw [val_snoc, hk, pw]
  have e : u = u % 10000 + 10000 * (u / 10000) := by omega
  have e2 : pw k * (u % 10000) + 10000 * pw k * (u / 10000) = pw k * u := by
    rw [Int.mul_comm 10000 (pw k), Int.mul_assoc, ← Int.mul_add, ← e]
  omega
theorem i_room {ds : List Int} {k : Nat} {u : Int} (_hk : ds.length = k) (hl : Limb ds) (hu : 0 < u) (h : val ds + pw k * u < 18446744073709551616) : k ≤ 4 := by
  apply Classical.byContradiction
  intro hn
  have h1 := pw_mono (m := 5) (n := k) (by omega)
  rw [show pw 5 = 100000000000000000000 from by decide] at h1
  have h2 : pw k * 1 ≤ pw k * u := Int.mul_le_mul_of_nonneg_left (by omega) (by omega)
  have h3 := (val_bounds hl).1
  omega
set_option maxRecDepth 20000 in
set_option maxHeartbeats 1000000 in
theorem nint_neg (w : World) (v : Int) (h1 : -9223372036854775808 ≤ v) (h2 : v ≤ 9223372036854775807) (h0 : v < 0) :
    Calls Tryd.prog 60 #[.int .i64 v] w fun e w' => ∃ ng' ao cap rs, e = .returned (.agg #[.bool ng', .slice ao rs.length cap]) ∧ Wh w' ng' ao cap rs v ∧ rs.length ≤ 5 ∧ Below w.heap.size w w' := by
  obtain ⟨i0, hi, hz0, hz1, hz2⟩ := info_parts info64
  obtain ⟨w0, e0, br, hb0, hs0⟩ := boxed0 w false (.slice none 0 0)
  have E0 := hide e0
  clear e0 hs0
  have hw : IntKind.u64.wrap (-IntKind.u64.wrap v) = -v := by rw [IntKind.wrap_u64, IntKind.wrap_u64]; omega
  go_enter Tryd.func60, Tryd.ntmps60
  go_wp2
  rw [E0.out]
  clear hw
  go_loopw [3, 4] (fun mv uv wr => ∃ (k : Nat) (u : Int) (ds : List Int), uv = .int .u64 u ∧ 0 ≤ u ∧ u < 18446744073709551616 ∧ ds.length = k ∧ k ≤ 5 ∧ Limb ds ∧ val ds + pw k * u = -v ∧ wr.ownsRow w0.heap.size 3 1 mv k (ds.map (Value.int .i64)) ∧ Below w0.heap.size w0 wr) (fun _ uv _ => (intOf uv).toNat)
  case atStart => exact ⟨0, -v, [], rfl, by omega, by omega, rfl, by omega, limb_nil, by simp [val, pw], World.ownsRow_nil _ _ _ _, Below.refl _ _⟩
  case round =>
    obtain ⟨k, u, ds, rfl, hu0, hu1, hdl, hk5, hds, hv, hown, hbel⟩ := hrel
    have HD := hide hds
    have HDL := hide hdl
    have HV := hide hv
    have hsz := hbel.size
    clear hds hdl hv
    by_cases hu : 0 < u
    · have hroom := i_room HDL.out HD.out hu (by rw [HV.out]; omega)
      have HV' := hide (i_step HDL.out HV.out)
      go_wp2_with (at_builtin; refine wpList_append_own _ rfl (.tmp 13) (.tmp 17) 75 rfl w0.heap.size 3 i0 (.int .i64 0) 1 8 Tryd.underlying75 hi hz0 hz1 hz2 rfl (by decide) _ _ _ rfl (hown.alloc _) ⟨wr.heap.size, 0, none⟩ 1 1 [.int .i64 (u % 10000)] rfl rfl (cell_one_new _ _ _) ?c2 ?c3 ?c4 ?c5 ?_)
      case c2 => first | rfl | (intro x hx; simp at hx; subst hx; rfl)
      case c3 => unfold maxLen; omega
      case c4 => omega
      case c5 => first | omega | (simp; omega)
      intro v4 w4 hown4 hgrow4 _
      have R := step_own hown4 hgrow4 hbel (hown.lt)
      clear hown4 hgrow4 hown
      go_wp2
      go_roundw
      case rel => exact ⟨k + 1, u / 10000, ds ++ [u % 10000], rfl, by omega, by omega, by have := HDL.out; simp; omega, by omega, limb_append.2 ⟨HD.out, limb_cons.2 ⟨by omega, limb_nil⟩⟩, HV'.out, R.1, R.2⟩
      case measure => simp [intOf]; omega
    · have hu' : u = 0 := by omega
      subst hu'
      have hval : Hid (val ds = -v) := by have := HV.out; rw [Int.mul_zero, Int.add_zero] at this; exact this
      obtain ⟨ao1, cap1, hv1, s1, _, _⟩ := (ow_of_row hown HD.out).open
      subst hv1
      replace br := br.below hbel
      have HB := hb0.trans (hbel.mono hb0.size)
      have hd : decide (v < 0) = true := by simp; omega
      have hsg : Hid (sg true (-v) = v) := by simp [Hid, sg]
      clear hown hbel
      go_wp2_with fail
      try rw [hd]
      refine (made_w _ _ _ _ ds _ s1 hval.out).mono ?_
      rintro e w2 ⟨ng2, r2, rfl, G2, l2, hb2⟩
      rw [hsg.out] at G2
      replace br := br.below hb2
      replace HB := HB.trans (hb2.mono HB.size)
      have hdl := HDL.out
      clear hb2 hval s1
      obtain ⟨ka, kb, kc, kd⟩ := br.facts
      have X := hide (br.set ng2 (.slice ao1 r2.length cap1)).facts
      have Y := hide (br.wh ng2 (.slice ao1 r2.length cap1) G2)
      have Z := hide (below_set2 HB (Nat.le_refl _) (.bool ng2) (.slice ao1 r2.length cap1))
      go_wp2
      refine bodyPost_ret (v := .agg #[.bool ng2, .slice ao1 r2.length cap1]) ?_ rfl ⟨ng2, ao1, cap1, r2, rfl, Y.out, by omega, Z.out⟩
      simp [results, Tryd.results60, go_sem, X.out.1, X.out.2.1]
set_option maxRecDepth 20000 in
set_option maxHeartbeats 1000000 in
theorem nint_pos (w : World) (v : Int) (h1 : -9223372036854775808 ≤ v) (h2 : v ≤ 9223372036854775807) (h0 : ¬ v < 0) :
    Calls Tryd.prog 60 #[.int .i64 v] w fun e w' => ∃ ng' ao cap rs, e = .returned (.agg #[.bool ng', .slice ao rs.length cap]) ∧ Wh w' ng' ao cap rs v ∧ rs.length ≤ 5 ∧ Below w.heap.size w w' := by
  obtain ⟨i0, hi, hz0, hz1, hz2⟩ := info_parts info64
  obtain ⟨w0, e0, br, hb0, hs0⟩ := boxed0 w false (.slice none 0 0)
  have E0 := hide e0
  clear e0 hs0
  have hw : True := trivial
  go_enter Tryd.func60, Tryd.ntmps60
  go_wp2
  rw [E0.out]
  clear hw
  go_loopw [3, 4] (fun mv uv wr => ∃ (k : Nat) (u : Int) (ds : List Int), uv = .int .u64 u ∧ 0 ≤ u ∧ u < 18446744073709551616 ∧ ds.length = k ∧ k ≤ 5 ∧ Limb ds ∧ val ds + pw k * u = v ∧ wr.ownsRow w0.heap.size 3 1 mv k (ds.map (Value.int .i64)) ∧ Below w0.heap.size w0 wr) (fun _ uv _ => (intOf uv).toNat)
  case atStart => exact ⟨0, v, [], rfl, by omega, by omega, rfl, by omega, limb_nil, by simp [val, pw], World.ownsRow_nil _ _ _ _, Below.refl _ _⟩
  case round =>
    obtain ⟨k, u, ds, rfl, hu0, hu1, hdl, hk5, hds, hv, hown, hbel⟩ := hrel
    have HD := hide hds
    have HDL := hide hdl
    have HV := hide hv
    have hsz := hbel.size
    clear hds hdl hv
    by_cases hu : 0 < u
    · have hroom := i_room HDL.out HD.out hu (by rw [HV.out]; omega)
      have HV' := hide (i_step HDL.out HV.out)
      go_wp2_with (at_builtin; refine wpList_append_own _ rfl (.tmp 13) (.tmp 17) 75 rfl w0.heap.size 3 i0 (.int .i64 0) 1 8 Tryd.underlying75 hi hz0 hz1 hz2 rfl (by decide) _ _ _ rfl (hown.alloc _) ⟨wr.heap.size, 0, none⟩ 1 1 [.int .i64 (u % 10000)] rfl rfl (cell_one_new _ _ _) ?c2 ?c3 ?c4 ?c5 ?_)
      case c2 => first | rfl | (intro x hx; simp at hx; subst hx; rfl)
      case c3 => unfold maxLen; omega
      case c4 => omega
      case c5 => first | omega | (simp; omega)
      intro v4 w4 hown4 hgrow4 _
      have R := step_own hown4 hgrow4 hbel (hown.lt)
      clear hown4 hgrow4 hown
      go_wp2
      go_roundw
      case rel => exact ⟨k + 1, u / 10000, ds ++ [u % 10000], rfl, by omega, by omega, by have := HDL.out; simp; omega, by omega, limb_append.2 ⟨HD.out, limb_cons.2 ⟨by omega, limb_nil⟩⟩, HV'.out, R.1, R.2⟩
      case measure => simp [intOf]; omega
    · have hu' : u = 0 := by omega
      subst hu'
      have hval : Hid (val ds = v) := by have := HV.out; rw [Int.mul_zero, Int.add_zero] at this; exact this
      obtain ⟨ao1, cap1, hv1, s1, _, _⟩ := (ow_of_row hown HD.out).open
      subst hv1
      replace br := br.below hbel
      have HB := hb0.trans (hbel.mono hb0.size)
      have hd : decide (v < 0) = false := by simp; omega
      have hsg : Hid (sg false (v) = v) := by simp [Hid, sg]
      clear hown hbel
      go_wp2_with fail
      try rw [hd]
      refine (made_w _ _ _ _ ds _ s1 hval.out).mono ?_
      rintro e w2 ⟨ng2, r2, rfl, G2, l2, hb2⟩
      rw [hsg.out] at G2
      replace br := br.below hb2
      replace HB := HB.trans (hb2.mono HB.size)
      have hdl := HDL.out
      clear hb2 hval s1
      obtain ⟨ka, kb, kc, kd⟩ := br.facts
      have X := hide (br.set ng2 (.slice ao1 r2.length cap1)).facts
      have Y := hide (br.wh ng2 (.slice ao1 r2.length cap1) G2)
      have Z := hide (below_set2 HB (Nat.le_refl _) (.bool ng2) (.slice ao1 r2.length cap1))
      go_wp2
      refine bodyPost_ret (v := .agg #[.bool ng2, .slice ao1 r2.length cap1]) ?_ rfl ⟨ng2, ao1, cap1, r2, rfl, Y.out, by omega, Z.out⟩
      simp [results, Tryd.results60, go_sem, X.out.1, X.out.2.1]
theorem nint_any (w : World) (v : Int) (h1 : -9223372036854775808 ≤ v) (h2 : v ≤ 9223372036854775807) :
    Calls Tryd.prog 60 #[.int .i64 v] w fun e w' => ∃ ng' ao cap rs, e = .returned (.agg #[.bool ng', .slice ao rs.length cap]) ∧ Wh w' ng' ao cap rs v ∧ rs.length ≤ 5 ∧ Below w.heap.size w w' := by
  by_cases h0 : v < 0
  · exact nint_neg w v h1 h2 h0
  · exact nint_pos w v h1 h2 h0
end Dm
end Go.Proofs.YtdiiankcjgoecaaDoor

namespace Go.Proofs.YtdiiankcjgoecaaDoor
namespace Dm
open Go.RowKit
open Lm (hide lt_of_cell lt_of_heap cmpI cmpI_lt cmpI_gt)
theorem Wh.via {w0 w1 w2 : World} {ng : Bool} {ao : Option Addr} {cap : Nat} {rs : List Int} {z : Int} (h : Wh w0 ng ao cap rs z) (h1 : Below w0.heap.size w0 w1) (h2 : Below w1.heap.size w1 w2) : Wh w2 ng ao cap rs z := (h.below h1).below h2
set_option maxRecDepth 20000 in
set_option maxHeartbeats 1000000 in
theorem nsub_g (w : World) (n1 : Bool) (a1 : Option Addr) (c1 : Nat) (xs : List Int) (x : Int) (hx : Wh w n1 a1 c1 xs x) (n2 : Bool) (a2 : Option Addr) (c2 : Nat) (ys : List Int) (y : Int) (hy : Wh w n2 a2 c2 ys y) (m1 : xs.length ≤ 400000) (m2 : ys.length ≤ 400000) :
    Calls Tryd.prog 132 #[.agg #[.bool n1, .slice a1 xs.length c1], .agg #[.bool n2, .slice a2 ys.length c2]] w fun e w' => ∃ ng' ao cap rs, e = .returned (.agg #[.bool ng', .slice ao rs.length cap]) ∧ Wh w' ng' ao cap rs (x - y) ∧ rs.length ≤ xs.length + ys.length + 1 ∧ Below w.heap.size w w' := by
  obtain ⟨w0, e0, bx, by', br, hb0, hs0⟩ := boxed3 w n1 (.slice a1 xs.length c1) n2 (.slice a2 ys.length c2)
  have E0 := hide e0
  have hx0 := hx.below hb0
  have hy0 := hy.below hb0
  have HB := hb0
  have ne1 : ¬ (w.heap.size = w.heap.size + 1 + 1) := by omega
  have ne2 : ¬ (w.heap.size + 1 + 1 = w.heap.size) := by omega
  clear e0 hs0
  go_enter Tryd.func132, Tryd.ntmps132
  go_wp2_with fail
  rw [E0.out]
  obtain ⟨bx1, bx2, bx3, bx4⟩ := bx.facts
  obtain ⟨by1, by2, by3, by4⟩ := by'.facts
  obtain ⟨br1, br2, br3, br4⟩ := br.facts
  go_region_held3 (fun w' => w'.cell? ⟨w.heap.size, 0, none⟩ = some (.bool n1) ∧ w'.cell? ⟨w.heap.size, 1, none⟩ = some (.slice a1 xs.length c1) ∧ w'.cell? ⟨w.heap.size + 1, 0, none⟩ = some (.bool n2) ∧ w'.cell? ⟨w.heap.size + 1, 1, none⟩ = some (.slice a2 ys.length c2)) (go_keep) (first
    | (go_at_call 142; have _hq := hb1'; refine (nadd_g _ _ _ _ xs _ (hx0.via hb1' (by repeat (first | exact Below.refl _ _ | refine Below.drew ?_))) _ _ _ r1 _ (G1.below (by repeat (first | exact Below.refl _ _ | refine Below.drew ?_))) (by omega) (by omega)).mono ?_; rintro e w2 ⟨ng2, p2, q2, r2, rfl, G2, l2, hb2⟩; have hb2' : Below w1.heap.size w1 w2 := (show Below w1.heap.size w1 _ by repeat (first | exact Below.refl _ _ | refine Below.drew ?_)).trans hb2; have HB := HB.trans (hb2'.mono HB.size); replace bx := bx.below hb2'; clear bx1 bx2 bx3 bx4; obtain ⟨bx1, bx2, bx3, bx4⟩ := bx.facts; replace by' := by'.below hb2'; clear by1 by2 by3 by4; obtain ⟨by1, by2, by3, by4⟩ := by'.facts; replace br := br.below hb2'; clear br1 br2 br3 br4; obtain ⟨br1, br2, br3, br4⟩ := br.facts)
    | (go_at_call 85; refine (minus_g _ _ _ _ ys _ (hy0.below (by repeat (first | exact Below.refl _ _ | refine Below.drew ?_))) (by omega)).mono ?_; rintro e w1 ⟨ng1, p1, q1, r1, rfl, G1, l1, hb1⟩; have hb1' : Below w0.heap.size w0 w1 := (show Below w0.heap.size w0 _ by repeat (first | exact Below.refl _ _ | refine Below.drew ?_)).trans hb1; have HB := HB.trans (hb1'.mono HB.size); replace bx := bx.below hb1'; clear bx1 bx2 bx3 bx4; obtain ⟨bx1, bx2, bx3, bx4⟩ := bx.facts; replace by' := by'.below hb1'; clear by1 by2 by3 by4; obtain ⟨by1, by2, by3, by4⟩ := by'.facts; replace br := br.below hb1'; clear br1 br2 br3 br4; obtain ⟨br1, br2, br3, br4⟩ := br.facts))
  all_goals
    have X := hide (br.set ng2 (.slice p2 r2.length q2)).facts
    have Y := hide (br.wh ng2 (.slice p2 r2.length q2) G2)
    have Z := hide (below_set2 HB (show w.heap.size ≤ w.heap.size + 1 + 1 by omega) (.bool ng2) (.slice p2 r2.length q2))
    clear bx1 bx2 bx3 bx4 by1 by2 by3 by4
    go_wp2
    refine bodyPost_ret (v := .agg #[.bool ng2, .slice p2 r2.length q2]) ?_ rfl ⟨ng2, p2, q2, r2, rfl, by rw [show x - y = x + -y by omega]; exact Y.out, by omega, Z.out⟩
    simp [results, Tryd.results132, go_sem, X.out.1, X.out.2.1]
end Dm
end Go.Proofs.YtdiiankcjgoecaaDoor

namespace Go.Proofs.YtdiiankcjgoecaaDoor
namespace Dm
open Go.RowKit
open Lm (hide lt_of_cell lt_of_heap)
theorem limb_set {L : List Int} (h : Limb L) (i : Nat) (x : Int) (hx : 0 ≤ x ∧ x < 10000) : Limb (L.set i x) := by
  intro z hz
  rcases List.mem_or_eq_of_mem_set hz with h1 | h1
  · exact h z h1
  · rw [h1]; exact hx
end Dm
end Go.Proofs.YtdiiankcjgoecaaDoor

namespace Go.Proofs.YtdiiankcjgoecaaDoor
namespace Dm
open Go.RowKit
open Lm (hide lt_of_cell lt_of_heap cmpI cmpI_lt cmpI_gt)
set_option maxRecDepth 20000 in
set_option maxHeartbeats 1000000 in
theorem abs_far (w : World) (ng : Bool) (a1 : Option Addr) (c1 : Nat) (xs : List Int) (x : Int) (hx : Got w a1 c1 xs x) (m1 : xs.length ≤ 1000000) (h0 : 0 < xs.length) :
    Calls Tryd.prog 113 #[.agg #[.bool ng, .slice a1 xs.length c1]] w fun e w' => ∃ ng' ao cap rs, e = .returned (.agg #[.bool ng', .slice ao rs.length cap]) ∧ Wh w' ng' ao cap rs (sg false x) ∧ rs.length ≤ xs.length ∧ (∀ b off, ao = some ⟨b, off, none⟩ → w.heap.size ≤ b) ∧ Below w.heap.size w w' := by
  obtain ⟨b, off, rfl, _⟩ := hx.sl.cells h0
  obtain ⟨w0, rfl, bx, br, hb0, hs0⟩ := boxed1 w ng (.slice (some ⟨b, off, none⟩) xs.length c1)
  obtain ⟨i0, hi, hz0, hz1, hz2⟩ := info_parts info64
  obtain ⟨_, p1, p2, p3⟩ := hx.sl.parts
  have P3 := hide p3
  have hx0 := hx.below hb0
  have HB := hb0
  clear p3
  go_enter Tryd.func113, Tryd.ntmps113
  go_wp2_with (at_builtin; refine wpList_append_lies _ rfl _ _ _ rfl w.heap.size 3 i0 _ 1 8 Tryd.underlying75 hi hz0 hz1 hz2 rfl (by omega) (.slice none 0 0) 0 [] rfl (World.ownsRow_nil _ _ _ _) ⟨b, off, none⟩ xs.length c1 (xs.map (Value.int .i64)) rfl (by simp) (Sl.copy hx0.sl) (one_cells xs) (by omega) (by unfold maxLen; omega) (by omega) (by simp; omega) (w.heap.size + 2) (by simp) ?_)
  intro g1 q1 w1 hown hgrow hat hlt
  have hb1 := Below.grown (Below.refl _ _) hgrow (Nat.le_refl _) (by intro k hk; simp [Value.ownBlock] at hk)
  have HB := HB.trans (hb1.mono HB.size)
  have s1 := copied hown P3.out
  replace bx := bx.below hb1
  replace br := br.below hb1
  have FAR : Hid (w.heap.size ≤ g1) := by rcases hat with e | e; (simp [Value.ownBlock] at e); (show w.heap.size ≤ g1; omega)
  clear hown hgrow hat hx0
  go_wp2_with fail
  try rw [Nat.zero_add]
  refine (made_w _ _ _ _ xs _ s1 hx.val).mono ?_
  rintro e w2 ⟨ng2, r2, rfl, G2, l2, hb2⟩
  replace HB := HB.trans (hb2.mono HB.size)
  replace bx := bx.below hb2
  replace br := br.below hb2
  obtain ⟨bx1, bx2, bx3, bx4⟩ := bx.facts
  obtain ⟨br1, br2, br3, br4⟩ := br.facts
  all_goals
    have X := hide (br.set ng2 (.slice (some ⟨g1, 0, none⟩) r2.length q1)).facts
    have Y := hide (br.wh ng2 (.slice (some ⟨g1, 0, none⟩) r2.length q1) G2)
    have Z := hide (below_set2 HB (show w.heap.size ≤ w.heap.size + 1 by omega) (.bool ng2) (.slice (some ⟨g1, 0, none⟩) r2.length q1))
    clear bx1 bx2 bx3 bx4
    go_wp2
    refine bodyPost_ret (v := .agg #[.bool ng2, .slice (some ⟨g1, 0, none⟩) r2.length q1]) ?_ rfl ⟨ng2, (some ⟨g1, 0, none⟩), q1, r2, rfl, Y.out, by omega, (fun b off e => by simp only [Option.some.injEq, Addr.mk.injEq] at e; have := FAR.out; omega), Z.out⟩
    simp [results, Tryd.results113, go_sem, X.out.1, X.out.2.1]
theorem Is.far {B : Nat} {w : World} {v : Value} {x : Int} (h : Is B w v x) : ∃ ao cap rs, v = .slice ao rs.length cap ∧ Got w ao cap rs x ∧ (0 < rs.length → ∀ b off, ao = some ⟨b, off, none⟩ → B ≤ b) := by
  obtain ⟨rs, ho, hc, hv⟩ := h
  have hs := ho.sl
  obtain ⟨ao, cap, rfl, h1, h2, h3, h4⟩ := ho
  refine ⟨ao, cap, rs, rfl, ⟨hs, hc, hv⟩, ?_⟩
  intro h0 b off e
  rcases h4 with h4 | ⟨g', off', cur, e', hB, hh, _⟩
  · omega
  · rw [e'] at e
    simp only [Option.some.injEq, Addr.mk.injEq, and_true] at e
    omega
theorem Wh.natu {w : World} {ao : Option Addr} {cap : Nat} {rs : List Int} {x : Int} (h : Got w ao cap rs x) : Wh w false ao cap rs x := by
  have := Wh.of false h
  simpa [sg] using this
theorem cmpI_le0 {x y : Int} : cmpI x y ≤ 0 ↔ x ≤ y := by
  rcases Int.lt_trichotomy x y with h | h | h
  · rw [cmpI_lt h]; omega
  · subst h; simp [Lm.cmpI]
  · rw [cmpI_gt h]; omega
def Cl (w : World) (b i : Nat) (v : Value) : Prop := w.cell? ⟨b, i, none⟩ = some v
theorem Cl.below {w w' : World} {b i : Nat} {v : Value} (h : Cl w b i v) (hb : Below w.heap.size w w') : Cl w' b i v := (hb.cell (p := ⟨b, i, none⟩) (lt_of_cell h)).trans h
theorem Cl.facts {w : World} {b i : Nat} {v : Value} (h : Cl w b i v) : w.cell? ⟨b, i, none⟩ = some v ∧ True ∧ True ∧ True := ⟨h, trivial, trivial, trivial⟩
theorem Sl.other {w w' : World} {g n c : Nat} {a : Option Addr} {zs : List Int} (h : Sl w (.slice a n c) zs) (hne : 0 < zs.length → ∀ b off, a = some ⟨b, off, none⟩ → b ≠ g) (ho : ∀ k, k ≠ g → w'.heap[k]? = w.heap[k]?) : Sl w' (.slice a n c) zs := by
  obtain ⟨ao', cap', hv, h1, h2, h3, h4⟩ := h
  obtain ⟨rfl, rfl, rfl⟩ := (Value.slice.injEq .. ▸ hv)
  refine ⟨_, _, rfl, h1, h2, h3, ?_⟩
  rcases h4 with h4 | ⟨b, off, rfl, hc⟩
  · exact .inl h4
  · by_cases h0 : 0 < zs.length
    · refine .inr ⟨b, off, rfl, fun i hi => ?_⟩
      rw [World.cell?_of_block (w := w) (ho b (hne h0 b off rfl))]
      exact hc i hi
    · exact .inl (List.eq_nil_of_length_eq_zero (by omega))
structure Dv (w wr : World) (na : Bool) (va : Value) (g gy gr n : Nat) (Dl : List Int) (pY : Option Addr) (qY : Nat) (Y : List Int) (y : Int) (nR : Bool) (pR : Option Addr) (qR : Nat) (R : List Int) (r : Int) : Prop where
  hb : Below w.heap.size w wr
  ba : Box wr w.heap.size na va
  b4 : Box wr (w.heap.size + 1 + 1) false (.slice none 0 0)
  b5 : Box wr (w.heap.size + 1 + 1 + 1) false (.slice none 0 0)
  bY : Box wr gy false (.slice pY Y.length qY)
  bR : Box wr gr nR (.slice pR R.length qR)
  d : ∃ cur, wr.heap[g]? = some (.cells cur 3 (0, 0)) ∧ cur.size = n ∧ At cur .i64 0 Dl
  dl : Dl.length = n ∧ Limb Dl
  hY : Wh wr false pY qY Y y
  hR : Wh wr nR pR qR R r
  lt : w.heap.size + 4 ≤ g ∧ g < gy ∧ gy < gr
  farY : ∀ b off, pY = some ⟨b, off, none⟩ → g < b
section
variable {w wr wr' : World} {na : Bool} {va : Value} {g gy gr n : Nat} {Dl : List Int} {pY : Option Addr} {qY : Nat} {Y : List Int} {y : Int} {nR : Bool} {pR : Option Addr} {qR : Nat} {R : List Int} {r : Int}
theorem Dv.below (h : Dv w wr na va g gy gr n Dl pY qY Y y nR pR qR R r) (hb : Below wr.heap.size wr wr') : Dv w wr' na va g gy gr n Dl pY qY Y y nR pR qR R r := by
  obtain ⟨cur, hh, r1⟩ := h.d
  exact ⟨h.hb.trans (hb.mono h.hb.size), h.ba.below hb, h.b4.below hb, h.b5.below hb, h.bY.below hb, h.bR.below hb, ⟨cur, (hb.block g (lt_of_heap hh)).trans hh, r1⟩, h.dl, h.hY.below hb, h.hR.below hb, h.lt, h.farY⟩
theorem box_other {w : World} {g k : Nat} {ng : Bool} {v : Value} (h : Box w k ng v) (hne : k ≠ g) (b u : Value) : Box ((w.setCell ⟨g, 0, none⟩ b).setCell ⟨g, 1, none⟩ u) k ng v := by
  unfold Box
  rw [heap_setCell_other _ ⟨g, 1, none⟩ k _ hne, heap_setCell_other _ ⟨g, 0, none⟩ k _ hne]
  exact h
theorem Dv.setR (h : Dv w wr na va g gy gr n Dl pY qY Y y nR pR qR R r) {n2 : Bool} {p2 : Option Addr} {q2 : Nat} {R2 : List Int} {r2 : Int} (h2 : Wh wr n2 p2 q2 R2 r2) :
    Dv w ((wr.setCell ⟨gr, 0, none⟩ (.bool n2)).setCell ⟨gr, 1, none⟩ (.slice p2 R2.length q2)) na va g gy gr n Dl pY qY Y y n2 p2 q2 R2 r2 := by
  obtain ⟨cur, hh, r1⟩ := h.d
  have l := h.lt
  refine ⟨below_set2 h.hb (by omega) _ _, box_other h.ba (by omega) _ _, box_other h.b4 (by omega) _ _, box_other h.b5 (by omega) _ _, box_other h.bY (by omega) _ _, h.bR.set _ _, ⟨cur, ?_, r1⟩, h.dl, h.bR.wh _ _ h.hY, h.bR.wh _ _ h2, h.lt, h.farY⟩
  rw [heap_setCell_other _ ⟨gr, 1, none⟩ g _ (by simp; omega), heap_setCell_other _ ⟨gr, 0, none⟩ g _ (by simp; omega)]
  exact hh
theorem Dv.setD (h : Dv w wr na va g gy gr n Dl pY qY Y y nR pR qR R r) (i : Nat) (q : Int) (hq : 0 ≤ q ∧ q < 10000) (hfar : 0 < R.length → ∀ b off, pR = some ⟨b, off, none⟩ → b ≠ g) :
    Dv w (wr.setCell ⟨g, i, none⟩ (.int .i64 q)) na va g gy gr n (Dl.set i q) pY qY Y y nR pR qR R r := by
  obtain ⟨cur, hh, hs, ha⟩ := h.d
  have l := h.lt
  have ho : ∀ k, k ≠ g → (wr.setCell ⟨g, i, none⟩ (.int .i64 q)).heap[k]? = wr.heap[k]? := fun k hk => heap_setCell_other wr ⟨g, i, none⟩ k _ hk
  have hset := ha.set i q
  rw [Nat.zero_add] at hset
  refine ⟨h.hb.setCell (show w.heap.size ≤ g by omega) _, (ho _ (by omega)).trans h.ba, (ho _ (by omega)).trans h.b4, (ho _ (by omega)).trans h.b5, (ho _ (by omega)).trans h.bY, (ho _ (by omega)).trans h.bR, ⟨_, heap_setCell_same wr g i cur _ _ hh, by rw [Array.size_setIfInBounds]; exact hs, hset⟩, ⟨by rw [List.length_set]; exact h.dl.1, limb_set h.dl.2 _ _ hq⟩, ?_, ?_, h.lt, h.farY⟩
  · exact ⟨⟨h.hY.1.1.other (fun _ b off e => by have := h.farY b off e; omega) ho, h.hY.1.2⟩, h.hY.2⟩
  · exact ⟨⟨h.hR.1.1.other hfar ho, h.hR.1.2⟩, h.hR.2⟩
theorem Dv.cell (h : Dv w wr na va g gy gr n Dl pY qY Y y nR pR qR R r) (i : Nat) (hi : i < n) : wr.cell? ⟨g, i, none⟩ = some (.int .i64 (Dl.getD i 0)) ∧ wr.frozen? ⟨g, i, none⟩ = false := by
  obtain ⟨cur, hh, hs, ha⟩ := h.d
  have := ha.cell hh i (by rw [h.dl.1]; exact hi)
  rw [Nat.zero_add] at this
  exact ⟨this, frozen_of_row wr g i cur _ hh⟩
theorem Dv.sl (h : Dv w wr na va g gy gr n Dl pY qY Y y nR pR qR R r) (hn : n ≤ 1000000) : Sl wr (.slice (some ⟨g, 0, none⟩) n n) Dl := by
  obtain ⟨cur, hh, hs, ha⟩ := h.d
  exact (show Ow g wr _ Dl from ⟨_, n, by rw [h.dl.1], by rw [h.dl.1]; omega, by unfold maxLen; omega, h.dl.2, .inr ⟨g, 0, cur, rfl, Nat.le_refl _, hh, by omega, ha⟩⟩).sl
end
theorem div_round {A Dl : List Int} {k : Nat} {y r a q : Int} (hk : k < A.length) (hd : k < Dl.length) (ha : A.getD k 0 = a) (h : val (A.drop (k + 1)) = y * val (Dl.drop (k + 1)) + r) : val (A.drop k) = y * val ((Dl.set k q).drop k) + (r * 10000 + a - (y * q + 0)) := by
  rw [drop_getD A k hk, ha, val, h]
  have e : (Dl.set k q).drop k = q :: Dl.drop (k + 1) := by
    rw [drop_getD _ k (by rw [List.length_set]; exact hd), List.drop_set_of_lt (by omega)]
    congr 1
    rw [List.getD_eq_getElem?_getD, List.getElem?_set_self hd]
    rfl
  rw [e, val, Int.mul_add, Int.mul_add, ← Int.mul_assoc, ← Int.mul_assoc, Int.mul_comm 10000 y]
  omega
theorem div_start {A : List Int} (hA : Limb A) {m : Nat} {y : Int} (hy : pw m ≤ y) {sk : Nat} (hs : A.length - sk ≤ m) : 0 ≤ val (A.drop sk) ∧ val (A.drop sk) < y := by
  have h1 := val_bounds (limb_drop hA sk)
  have h2 := pw_mono (m := (A.drop sk).length) (n := m) (by rw [List.length_drop]; exact hs)
  omega
theorem div_end {x y q r : Int} (h : x = y * q + r) (h0 : 0 ≤ r) (h1 : r < y) : q = x / y ∧ r = x % y := by
  have e : (r + y * q) / y = r / y + q := Int.add_mul_ediv_left _ _ (by omega)
  have e2 : (r + y * q) % y = r % y := Int.add_mul_emod_self_left _ _ _
  rw [Int.add_comm] at h
  rw [h, e, e2, Int.ediv_eq_zero_of_lt h0 h1, Int.emod_eq_of_lt h0 h1]
  omega
end Dm
end Go.Proofs.YtdiiankcjgoecaaDoor

namespace Go.Proofs.YtdiiankcjgoecaaDoor
namespace Dm
open Go.RowKit
open Lm (hide lt_of_cell lt_of_heap cmpI cmpI_lt cmpI_gt)
theorem Sl.drop {w : World} {b off n c : Nat} {zs : List Int} (h : Sl w (.slice (some ⟨b, off, none⟩) n c) zs) (k : Nat) (hk : k ≤ zs.length) : Sl w (.slice (some ⟨b, off + k, none⟩) (zs.length - k) (c - k)) (zs.drop k) := by
  obtain ⟨ao', cap', hv, h1, h2, h3, h4⟩ := h
  obtain ⟨rfl, rfl, rfl⟩ := (Value.slice.injEq .. ▸ hv)
  refine ⟨_, _, by rw [List.length_drop], by rw [List.length_drop]; omega, Nat.le_trans (Nat.sub_le _ _) h2, limb_drop h3 k, ?_⟩
  rcases h4 with rfl | ⟨b', off', e, hc⟩
  · exact .inl (by simp)
  · simp only [Option.some.injEq, Addr.mk.injEq, and_true] at e
    obtain ⟨rfl, rfl⟩ := e
    refine .inr ⟨b, off + k, rfl, fun i hi => ?_⟩
    rw [List.length_drop] at hi
    have := hc (k + i) (by omega)
    rw [List.getD_eq_getElem?_getD, List.getElem?_drop, ← List.getD_eq_getElem?_getD, Nat.add_assoc]
    exact this
theorem made_n (w : World) (ng : Bool) (ao : Option Addr) (n cap : Nat) (ds : List Int) (x : Int) (h : Sl w (.slice ao n cap) ds) (hv : Dm.val ds = x) :
    Calls Tryd.prog 94 #[.bool ng, .slice ao n cap] w fun e w' => ∃ ng' rs, e = .returned (.agg #[.bool ng', .slice ao rs.length cap]) ∧ Wh w' ng' ao cap rs (sg ng x) ∧ rs.length ≤ ds.length ∧ Below w.heap.size w w' := by
  obtain ⟨rfl, _⟩ := h.parts
  exact made_w w ng ao cap ds x h hv
set_option maxRecDepth 20000 in
set_option maxHeartbeats 8000000 in
theorem divided_g (w : World) (n1 : Bool) (a1 : Option Addr) (c1 : Nat) (A : List Int) (x : Int) (hx : Got w a1 c1 A x) (n2 : Bool) (a2 : Option Addr) (c2 : Nat) (B : List Int) (y : Int) (hy : Got w a2 c2 B y) (m1 : A.length ≤ 300000) (m2 : B.length ≤ 300000) (y0 : 0 < B.length) :
    Calls Tryd.prog 114 #[.agg #[.bool n1, .slice a1 A.length c1], .agg #[.bool n2, .slice a2 B.length c2]] w fun e w' => ∃ nq pq qq Q nr pr qr R, e = .returned (.tuple #[.agg #[.bool nq, .slice pq Q.length qq], .agg #[.bool nr, .slice pr R.length qr]]) ∧ Wh w' nq pq qq Q (x / y) ∧ Wh w' nr pr qr R (x % y) ∧ Q.length ≤ A.length ∧ R.length ≤ B.length ∧ Below w.heap.size w w' := by
  obtain ⟨w0, e0, bx, by', br, hb0, hs0⟩ := boxed3 w n1 (.slice a1 A.length c1) n2 (.slice a2 B.length c2)
  obtain ⟨bs5, hb5, hs5⟩ := boxed w0 false (.slice none 0 0)
  obtain ⟨i0, hi, hz0, hz1, hz2⟩ := info_parts info64
  have E0 := hide e0
  rw [hs0] at bs5 hs5
  replace bx := bx.below hb5
  replace by' := by'.below hb5
  replace br := br.below hb5
  have HB0 := hb0.trans (hb5.mono hb0.size)
  have hx0 := hx.below HB0
  have hy0 := hy.below HB0
  obtain ⟨_, p1, p2, p3⟩ := hx.sl.parts
  obtain ⟨_, q1, q2, q3⟩ := hy.sl.parts
  have P3 := hide p3
  have Q3 := hide q3
  generalize hw0 : w0.alloc (.cells #[.bool false, .slice none 0 0] 77) = w5 at *
  have E5 := hide hw0
  have HS := hide hs5
  clear p3 q3 e0 hs0 hb5 hw0 hs5
  go_enter Tryd.func114, Tryd.ntmps114
  obtain ⟨bx1, bx2, bx3, bx4⟩ := bx.facts
  go_wp2_with (refine wpList_make_full _ rfl (.tmp 16) (.tmp 16) 75 rfl w5.heap.size 3 i0 (.int .i64 0) 1 Tryd.underlying75 hi hz0 hz1 .i64 .i64 _ _ A.length rfl rfl (by omega) (by omega) (by rw [hz2]; omega) (by unfold maxLen; omega) (by rw [E0.out, E5.out]; exact Nat.le_refl _) ?hK)
  case hK =>
    intro w1 hown hgrow
    rw [E0.out, E5.out] at hgrow
    have hsz5 := HS.out
    obtain ⟨hgB, cur, hh, hcs, hat⟩ := block_of_made hown
    have hb1 : Below w5.heap.size w5 w1 := (Below.refl _ _).grown hgrow (Nat.le_refl _) (by simp)
    have HB1 := HB0.trans (hb1.mono HB0.size)
    have hs1 := lt_of_heap hh
    replace bx := bx.below hb1
    replace by' := by'.below hb1
    replace br := br.below hb1
    replace bs5 := bs5.below hb1
    have hx1 := hx0.below hb1
    have hy1 := hy0.below hb1
    have HH := hide (And.intro hh (And.intro hcs hat))
    clear hown hgrow hh hcs hat hgB hx0 hy0 bx1 bx2 bx3 bx4 E0 E5 hb1 HB0 HS
    generalize hgg : w.heap.size + 1 + 1 + 1 + 1 = g at HH hs1 ⊢
    obtain ⟨bx1, bx2, bx3, bx4⟩ := bx.facts
    obtain ⟨by1, by2, by3, by4⟩ := by'.facts
    go_wp2_with fail
    refine (abs_far _ _ _ _ B _ hy1 (by omega) y0).mono ?_
    rintro e w2 ⟨nY, pY, qY, Y, rfl, GY, lY, farY, hb2⟩
    have HB2 := HB1.trans (hb2.mono HB1.size)
    have z2 := hb2.size
    replace bx := bx.below hb2
    replace by' := by'.below hb2
    replace br := br.below hb2
    replace bs5 := bs5.below hb2
    replace hx1 := hx1.below hb2
    have hh2 := (hb2.block g hs1).trans HH.out.1
    obtain rfl : nY = false := by
      rw [GY.2]
      have := (val_bounds Q3.out).1
      rw [hy.val] at this
      simp [sg]
      omega
    simp only [sg, Bool.false_eq_true, if_false] at GY
    obtain ⟨w3, e3, bY, hb3, hs3⟩ := boxed0 w2 false (.slice pY Y.length qY)
    have HB3 := HB2.trans (hb3.mono HB2.size)
    replace bx := bx.below hb3
    replace by' := by'.below hb3
    replace br := br.below hb3
    replace bs5 := bs5.below hb3
    replace hx1 := hx1.below hb3
    replace GY := GY.below hb3
    have hh3 := (hb3.block g (by omega)).trans hh2
    have HH3 := hide (And.intro hh3 HH.out.2)
    have E3 := hide e3
    clear hb2 hb3 hy1 HH hh2 hh3 e3 bx1 bx2 bx3 bx4 by1 by2 by3 by4
    go_upto_region 3 with fail
    rw [E3.out]
    clear E3
    obtain ⟨bx1, bx2, bx3, bx4⟩ := bx.facts
    obtain ⟨by1, by2, by3, by4⟩ := by'.facts
    generalize hgy : w2.heap.size = gy at *
    go_upto_if 29 with fail
    have hsk : ∃ sk : Nat, sk = A.length + 1 - B.length := ⟨_, rfl⟩
    obtain ⟨sk, hsk⟩ := hsk
    go_cut [8] (fun v wx => v = .int .i64 (sk : Int) ∧ wx = w3)
    case first =>
      by_cases hneg : (A.length : Int) - B.length + 1 < 0
      · go_wp2
        go_meet
        case rel => exact ⟨by simp; omega, rfl⟩
      · go_wp2
        go_meet
        case rel => exact ⟨by simp; omega, rfl⟩
    case rest =>
      obtain ⟨rfl, rfl⟩ := hcut
      have HSK := hide hsk
      have hskA : sk ≤ A.length := by omega
      clear hsk
      have DV0 : Hid (∀ (wx : World) (gr : Nat) (nR : Bool) (pR : Option Addr) (qR : Nat) (R : List Int) (r : Int), Below wc.heap.size wc wx → Box wx gr nR (.slice pR R.length qR) → Wh wx nR pR qR R r → gy < gr → Dv w wx n1 (.slice a1 A.length c1) g gy gr A.length (List.replicate A.length 0) pY qY Y y nR pR qR R r) := by
        intro wx gr nR pR qR R r hbx bRx hRx hgr
        have hd := HH3.out.1
        exact ⟨HB3.trans (hbx.mono HB3.size), bx.below hbx, br.below hbx, bs5.below hbx, bY.below hbx, bRx, ⟨cur, (hbx.block g (lt_of_heap hd)).trans hd, HH3.out.2⟩, ⟨by simp, limb_zeros _⟩, GY.below hbx, hRx, ⟨by omega, by omega, hgr⟩, fun b off e => by have := farY b off e; omega⟩
      go_upto_region 6 with fail
      go_cut [9] (fun v wx => ∃ gr nR pR qR R, v = .pointer (some ⟨gr, 0, none⟩) ∧ Dv w wx n1 (.slice a1 A.length c1) g gy gr A.length (List.replicate A.length 0) pY qY Y y nR pR qR R (val (A.drop sk)))
      case first =>
        by_cases hne : sk < A.length
        · obtain ⟨b, off, rfl, _⟩ := hx1.sl.cells (by omega)
          have sd := hx1.sl.drop sk (by omega)
          have dI : (sk : Int) ≤ (A.length : Int) := by omega
          have sd2 := sd
          rw [← List.length_drop] at sd2
          have hlen : (A.drop sk).length = A.length - sk := List.length_drop
          go_wp2_with (at_builtin; refine wpList_append_lies _ rfl _ _ _ rfl wc.heap.size 3 i0 _ 1 8 Tryd.underlying75 hi hz0 hz1 hz2 rfl (by omega) (.slice none 0 0) 0 [] rfl (World.ownsRow_nil _ _ _ _) ⟨b, off + sk, none⟩ (A.length - sk) (c1 - sk) ((A.drop sk).map (Value.int .i64)) rfl (by simp) (Sl.copy sd) (one_cells _) (by omega) (by unfold maxLen; omega) (by omega) (Nat.le_refl _) wc.heap.size rfl ?_)
          intro g1 q1 w4 hown hgrow hat hlt
          have hb4 := Below.grown (Below.refl wc.heap.size wc) hgrow (Nat.le_refl _) (by intro k hk; simp [Value.ownBlock] at hk)
          have s4 := copied (zs := A.drop sk) (by rw [List.nil_append, List.map_drop]; exact hown) (limb_drop P3.out sk)
          clear hown hgrow hat
          go_wp2_with fail
          refine (made_n _ _ _ (A.length - sk) _ (A.drop sk) _ (by rw [hlen] at s4; exact s4) rfl).mono ?_
          rintro e w5 ⟨nR, R, rfl, GR, lR, hb5⟩
          have hb45 : Below wc.heap.size wc w5 := hb4.trans (hb5.mono hb4.size)
          obtain ⟨w6, e6, bR, hb6, hs6⟩ := boxed0 w5 nR (.slice (some ⟨g1, 0, none⟩) R.length q1)
          have E6 := hide e6
          have z5 := hb45.size
          have FIN := hide (DV0.out w6 w5.heap.size nR (some ⟨g1, 0, none⟩) q1 R _ (hb45.trans (hb6.mono hb45.size)) bR (GR.below hb6) (by omega))
          clear e6 bx1 bx2 bx3 bx4 by1 by2 by3 by4
          go_wp2
          rw [E6.out]
          go_meet
          case rel => exact ⟨w5.heap.size, nR, (some ⟨g1, 0, none⟩), q1, R, rfl, FIN.out⟩
        · have hsk2 : sk = A.length := by omega
          subst hsk2
          cases a1 with
          | none =>
            go_wp2_with fail
            refine (made_w _ _ none 0 [] 0 (sl_nil _) rfl).mono ?_
            rintro e w5 ⟨nR, R, rfl, GR, lR, hb5⟩
            have hb45 : Below wc.heap.size wc w5 := hb5
            obtain ⟨w6, e6, bR, hb6, hs6⟩ := boxed0 w5 nR (.slice none R.length 0)
            have E6 := hide e6
            have z5 := hb45.size
            have FIN := hide (DV0.out w6 w5.heap.size nR none 0 R _ (hb45.trans (hb6.mono hb45.size)) bR (GR.below hb6) (by omega))
            clear e6 bx1 bx2 bx3 bx4 by1 by2 by3 by4
            go_wp2
            rw [E6.out]
            go_meet
            case rel => exact ⟨w5.heap.size, nR, none, 0, R, rfl, by rw [List.drop_length]; exact FIN.out⟩
          | some ad =>
            rcases Nat.eq_or_lt_of_le p1 with hc | hc
            · subst hc
              go_wp2_with fail
              refine (made_w _ _ none 0 [] 0 (sl_nil _) rfl).mono ?_
              rintro e w5 ⟨nR, R, rfl, GR, lR, hb5⟩
              have hb45 : Below wc.heap.size wc w5 := hb5
              obtain ⟨w6, e6, bR, hb6, hs6⟩ := boxed0 w5 nR (.slice none R.length 0)
              have E6 := hide e6
              have z5 := hb45.size
              have FIN := hide (DV0.out w6 w5.heap.size nR none 0 R _ (hb45.trans (hb6.mono hb45.size)) bR (GR.below hb6) (by omega))
              clear e6 bx1 bx2 bx3 bx4 by1 by2 by3 by4
              go_wp2
              rw [E6.out]
              go_meet
              case rel => exact ⟨w5.heap.size, nR, none, 0, R, rfl, by rw [List.drop_length]; exact FIN.out⟩
            · have hc1 : ¬ c1 = A.length := by omega
              have hc2 : ¬ A.length = c1 := by omega
              go_wp2_with fail
              refine (made_w _ _ none 0 [] 0 (sl_nil _) rfl).mono ?_
              rintro e w5 ⟨nR, R, rfl, GR, lR, hb5⟩
              have hb45 : Below wc.heap.size wc w5 := hb5
              obtain ⟨w6, e6, bR, hb6, hs6⟩ := boxed0 w5 nR (.slice none R.length 0)
              have E6 := hide e6
              have z5 := hb45.size
              have FIN := hide (DV0.out w6 w5.heap.size nR none 0 R _ (hb45.trans (hb6.mono hb45.size)) bR (GR.below hb6) (by omega))
              clear e6 bx1 bx2 bx3 bx4 by1 by2 by3 by4
              go_wp2
              rw [E6.out]
              go_meet
              case rel => exact ⟨w5.heap.size, nR, none, 0, R, rfl, by rw [List.drop_length]; exact FIN.out⟩
      case rest =>
        obtain ⟨gr, nR, pR, qR, R, rfl, DV⟩ := hcut
        have hyv : 0 < y := by rw [← hy.val]; have := canon_low hy.canon (by intro e; rw [e] at y0; simp at y0); have := pw_pos (B.length - 1); omega
        have hyp : y < pw B.length := by rw [← hy.val]; exact (val_bounds Q3.out).2
        have HST := hide (div_start P3.out (m := B.length - 1) (y := y) (sk := sk) (by rw [← hy.val]; exact canon_low hy.canon (by intro e; rw [e] at y0; simp at y0)) (by have := HSK.out; omega))
        have HYP := hide hyp
        clear DV0 bx1 bx2 bx3 bx4 by1 by2 by3 by4 bx by' br bs5 bY hx1 GY HH3 farY hyp
        go_wp2
        go_loopw [10] (fun iv wr => ∃ (k : Nat) (Dl : List Int) (nR : Bool) (pR : Option Addr) (qR : Nat) (R : List Int) (r : Int), k ≤ sk ∧ iv = .int .i64 ((k : Int) - 1) ∧ Dv w wr n1 (.slice a1 A.length c1) g gy gr A.length Dl pY qY Y y nR pR qR R r ∧ val (A.drop k) = y * val (Dl.drop k) + r ∧ 0 ≤ r ∧ r < y) (fun iv _ => (intOf iv + 1).toNat)
        case atStart => exact ⟨sk, _, _, _, _, _, _, Nat.le_refl _, rfl, DV, by rw [List.drop_replicate, val_zeros]; omega, HST.out.1, HST.out.2⟩
        case round =>
          clear DV HST
          obtain ⟨k, Dl, nR, pR, qR, R, r, hk, rfl, DV, hv, hr0, hr1⟩ := hrel
          have lR := DV.hR.len (m := B.length) (by have := HYP.out; omega)
          have HV := hide hv
          clear hv
          cases k with
          | zero =>
            have hv := HV.out
            rw [List.drop_zero, List.drop_zero, hx.val] at hv
            have QE := hide (div_end hv hr0 hr1)
            have bR := DV.bR
            have b4 := DV.b4
            have b5 := DV.b5
            have HL9 := DV.lt
            have ne1 : ¬ (w.heap.size + 1 + 1 = gr) := by omega
            have ne2 : ¬ (w.heap.size + 1 + 1 + 1 = gr) := by omega
            have ne3 : ¬ (gr = w.heap.size + 1 + 1) := by omega
            have ne4 : ¬ (gr = w.heap.size + 1 + 1 + 1) := by omega
            obtain ⟨bR1, bR2, bR3, bR4⟩ := bR.facts
            obtain ⟨b41, b42, b43, b44⟩ := b4.facts
            obtain ⟨b51, b52, b53, b54⟩ := b5.facts
            clear hv
            go_wp2_with fail
            go_region_held3 (fun w' => w'.cell? ⟨gr, 0, none⟩ = some (.bool nR) ∧ w'.cell? ⟨gr, 1, none⟩ = some (.slice pR R.length qR)) (go_keep) (first
              | (go_at_call 94; refine (made_n _ _ _ _ _ Dl _ ((DV.sl (by omega)).below (by repeat (first | exact Below.refl _ _ | refine Below.drew ?_))) rfl).mono ?_; rintro e w1 ⟨n2q, Q, rfl, GQ, lQ, hb1⟩; have hb1' : Below wr.heap.size wr w1 := (show Below wr.heap.size wr _ by repeat (first | exact Below.refl _ _ | refine Below.drew ?_)).trans hb1; replace DV := DV.below hb1'; replace bR := bR.below hb1'; clear bR1 bR2 bR3 bR4; obtain ⟨bR1, bR2, bR3, bR4⟩ := bR.facts; replace b4 := b4.below hb1'; clear b41 b42 b43 b44; obtain ⟨b41, b42, b43, b44⟩ := b4.facts; replace b5 := b5.below hb1'; clear b51 b52 b53 b54; obtain ⟨b51, b52, b53, b54⟩ := b5.facts))
            all_goals
              have F1 := hide (box_other (b4.set n2q (.slice (some ⟨g, 0, none⟩) Q.length A.length)) (show w.heap.size + 1 + 1 ≠ w.heap.size + 1 + 1 + 1 by omega) (.bool nR) (.slice pR R.length qR)).facts
              have b5' := box_other b5 (show w.heap.size + 1 + 1 + 1 ≠ w.heap.size + 1 + 1 by omega) (.bool n2q) (.slice (some ⟨g, 0, none⟩) Q.length A.length)
              have F2 := hide (b5'.set nR (.slice pR R.length qR)).facts
              have Y1 := hide (b5'.wh nR (.slice pR R.length qR) (b4.wh n2q (.slice (some ⟨g, 0, none⟩) Q.length A.length) GQ))
              have Y2 := hide (b5'.wh nR (.slice pR R.length qR) (b4.wh n2q (.slice (some ⟨g, 0, none⟩) Q.length A.length) DV.hR))
              have Z2 := hide (below_set2 (below_set2 DV.hb (show w.heap.size ≤ w.heap.size + 1 + 1 by omega) (.bool n2q) (.slice (some ⟨g, 0, none⟩) Q.length A.length)) (show w.heap.size ≤ w.heap.size + 1 + 1 + 1 by omega) (.bool nR) (.slice pR R.length qR))
              have lD := DV.dl.1
              clear bR1 bR2 bR3 bR4 DV
              go_wp2
              refine bodyPost_ret (v := .tuple #[.agg #[.bool n2q, .slice (some ⟨g, 0, none⟩) Q.length A.length], .agg #[.bool nR, .slice pR R.length qR]]) ?_ rfl ⟨n2q, some ⟨g, 0, none⟩, A.length, Q, nR, pR, qR, R, rfl, by rw [← QE.out.1]; exact Y1.out, by rw [← QE.out.2]; exact Y2.out, by omega, by omega, Z2.out⟩
              simp [results, Tryd.results114, go_sem, F1.out.1, F1.out.2.1, F2.out.1, F2.out.2.1]
          | succ k =>
            obtain ⟨b, off, rfl, hca⟩ := hx.sl.cells (by omega)
            have cc : Cl wr b (off + k) (.int .i64 (A.getD k 0)) := (DV.hb.cell (p := ⟨b, off + k, none⟩) (lt_of_cell (hca k (by omega)))).trans (hca k (by omega))
            have ba9 := limb_getD P3.out k
            obtain ⟨a, hak⟩ : ∃ a, A.getD k 0 = a := ⟨_, rfl⟩
            rw [hak] at cc ba9
            have HAK := hide hak
            have ba := DV.ba
            have bR := DV.bR
            have vR : val R = r := by rw [DV.hR.1.val]; omega
            have dK : (k : Int) < (A.length : Int) := by omega
            have dK0 : (0 : Int) ≤ (k : Int) := by omega
            have HL9 := DV.lt
            have hz9 := lt_of_heap DV.bR
            clear hca hak
            have ek : (((k + 1 : Nat) : Int) - 1) = (k : Int) := by omega
            rw [ek]
            clear ek
            go_upto_region 10 with fail
            go_cut [] (fun wx => ∃ pR qR R, Dv w wx n1 (.slice (some ⟨b, off, none⟩) A.length c1) g gy gr A.length Dl pY qY Y y false pR qR R (r * 10000 + a) ∧ (0 < R.length → ∀ b off, pR = some ⟨b, off, none⟩ → b ≠ g))
            case first =>
              obtain ⟨cc1, cc2, cc3, cc4⟩ := cc.facts
              obtain ⟨ba1, ba2, ba3, ba4⟩ := ba.facts
              obtain ⟨bR1, bR2, bR3, bR4⟩ := bR.facts
              go_region_with (first
                | (go_at_call 94; have _hq := hb1'; refine (made_g _ p1 q1 r1 _ (G1.below (by repeat (first | exact Below.refl _ _ | refine Below.drew ?_)))).mono ?_; rintro e w2 ⟨rfl, hb2⟩; have hb2' : Below w1.heap.size w1 w2 := (show Below w1.heap.size w1 _ by repeat (first | exact Below.refl _ _ | refine Below.drew ?_)).trans hb2; replace G1 := G1.below hb2'; replace DV := DV.below hb2'; replace ba := ba.below hb2'; clear ba1 ba2 ba3 ba4; obtain ⟨ba1, ba2, ba3, ba4⟩ := ba.facts; replace bR := bR.below hb2'; clear bR1 bR2 bR3 bR4; obtain ⟨bR1, bR2, bR3, bR4⟩ := bR.facts; replace cc := cc.below hb2'; clear cc1 cc2 cc3 cc4; obtain ⟨cc1, cc2, cc3, cc4⟩ := cc.facts)
                | (go_at_call 110; refine (small_any _ _ _ _ R (DV.hR.sl.below (by repeat (first | exact Below.refl _ _ | refine Below.drew ?_))) 10000 a (by omega) (by omega) (by omega)).mono ?_; rintro e w1 ⟨v1, rfl, I1, hb1⟩; have hb1' : Below wr.heap.size wr w1 := (show Below wr.heap.size wr _ by repeat (first | exact Below.refl _ _ | refine Below.drew ?_)).trans hb1; obtain ⟨p1, q1, r1, rfl, G1, far1⟩ := I1.far; clear I1; replace DV := DV.below hb1'; replace ba := ba.below hb1'; clear ba1 ba2 ba3 ba4; obtain ⟨ba1, ba2, ba3, ba4⟩ := ba.facts; replace bR := bR.below hb1'; clear bR1 bR2 bR3 bR4; obtain ⟨bR1, bR2, bR3, bR4⟩ := bR.facts; replace cc := cc.below hb1'; clear cc1 cc2 cc3 cc4; obtain ⟨cc1, cc2, cc3, cc4⟩ := cc.facts))
              all_goals
                rw [vR] at G1
                have FIN := hide (DV.setR (Wh.natu G1))
                have FAR : Hid (0 < r1.length → ∀ b off, p1 = some ⟨b, off, none⟩ → b ≠ g) := fun h0 b off e => by have := far1 h0 b off e; simp at this; omega
                clear ba1 ba2 ba3 ba4 cc1 cc2 cc3 cc4 DV
                go_wp2
                go_meet
                case rel => exact ⟨p1, q1, r1, FIN.out, FAR.out⟩
            case rest =>
              obtain ⟨pR, qR, R, DV, farR⟩ := hcut
              have HFR := hide farR
              clear farR vR ba bR cc
              have lR2 := DV.hR.len (m := B.length + 1) (by rw [pw]; have := HYP.out; omega)
              go_wp2
              obtain ⟨r9, hr9⟩ : ∃ r9, r * 10000 + a = r9 := ⟨_, rfl⟩
              rw [hr9] at DV
              have hy9 : y * 9999 + y = y * (9999 + 1) := by rw [Int.mul_add]; omega
              go_loopw [11, 12] (fun lo hi wx => ∃ l h : Int, lo = .int .i64 l ∧ hi = .int .i64 h ∧ 0 ≤ l ∧ l ≤ h ∧ h ≤ 9999 ∧ y * l ≤ r9 ∧ r9 < y * (h + 1) ∧ Below wc.heap.size wc wx) (fun lo hi _ => (intOf hi - intOf lo).toNat)
              case atStart => exact ⟨0, 9999, rfl, rfl, by omega, by omega, by omega, by omega, by omega, Below.refl _ _⟩
              case round =>
                obtain ⟨l, h, rfl, rfl, l0, lh, h9, lo1, hi1, hbx⟩ := hrel
                replace DV := DV.below hbx
                have LO := hide lo1
                have HI := hide hi1
                have HBW := hide hbx
                clear lo1 hi1 hbx
                by_cases hlt : l < h
                · obtain ⟨m, hm⟩ : ∃ m, (l + h + 1) / 2 = m := ⟨_, rfl⟩
                  have hm1 : l < m ∧ m ≤ h := by omega
                  have bY := DV.bY
                  have bR := DV.bR
                  have vY : val Y = y := by rw [DV.hY.1.val]; omega
                  have hg9 : 0 ≤ r9 := by omega
                  go_upto_region 15 with fail
                  rw [hm]
                  go_cut [66] (fun v wx => v = .bool (decide (y * m ≤ r9)) ∧ Below wr.heap.size wr wx)
                  case first =>
                    obtain ⟨bY1, bY2, bY3, bY4⟩ := bY.facts
                    obtain ⟨bR1, bR2, bR3, bR4⟩ := bR.facts
                    have K := hide (fun w g1 g2 a1 a2 c1 c2 xs ys x y hx hy => size_any w g1 g2 a1 a2 c1 c2 xs ys x y hx hy)
                    go_region_held3 (fun w' => w'.cell? ⟨gy, 0, none⟩ = some (.bool false) ∧ w'.cell? ⟨gy, 1, none⟩ = some (.slice pY Y.length qY) ∧ w'.cell? ⟨gr, 0, none⟩ = some (.bool false) ∧ w'.cell? ⟨gr, 1, none⟩ = some (.slice pR R.length qR)) (go_keep) (first
                      | (go_at_call 99; have _hq := hb2'; refine (size_any _ _ _ p1 _ q1 _ r1 R _ _ (G1.below (by repeat (first | exact Below.refl _ _ | refine Below.drew ?_))) (DV.hR.1.below (by repeat (first | exact Below.refl _ _ | refine Below.drew ?_)))).mono ?_; rintro e w3 ⟨rfl, hb3⟩; have hb3' : Below w2.heap.size w2 w3 := (show Below w2.heap.size w2 _ by repeat (first | exact Below.refl _ _ | refine Below.drew ?_)).trans hb3; replace DV := DV.below hb3'; replace bY := bY.below hb3'; clear bY1 bY2 bY3 bY4; obtain ⟨bY1, bY2, bY3, bY4⟩ := bY.facts; replace bR := bR.below hb3'; clear bR1 bR2 bR3 bR4; obtain ⟨bR1, bR2, bR3, bR4⟩ := bR.facts)
                      | (go_at_call 94; have _hq := hb1'; refine (made_g _ p1 q1 r1 _ (G1.below (by repeat (first | exact Below.refl _ _ | refine Below.drew ?_)))).mono ?_; rintro e w2 ⟨rfl, hb2⟩; have hb2' : Below w1.heap.size w1 w2 := (show Below w1.heap.size w1 _ by repeat (first | exact Below.refl _ _ | refine Below.drew ?_)).trans hb2; replace G1 := G1.below hb2'; replace DV := DV.below hb2'; replace bY := bY.below hb2'; clear bY1 bY2 bY3 bY4; obtain ⟨bY1, bY2, bY3, bY4⟩ := bY.facts; replace bR := bR.below hb2'; clear bR1 bR2 bR3 bR4; obtain ⟨bR1, bR2, bR3, bR4⟩ := bR.facts)
                      | (go_at_call 110; refine (small_any _ _ _ _ Y (DV.hY.sl.below (by repeat (first | exact Below.refl _ _ | refine Below.drew ?_))) m 0 (by omega) (by omega) (by omega)).mono ?_; rintro e w1 ⟨v1, rfl, I1, hb1⟩; have hb1' : Below wr.heap.size wr w1 := (show Below wr.heap.size wr _ by repeat (first | exact Below.refl _ _ | refine Below.drew ?_)).trans hb1; obtain ⟨p1, q1, r1, rfl, G1, far1⟩ := I1.far; clear I1 far1; replace DV := DV.below hb1'; replace bY := bY.below hb1'; clear bY1 bY2 bY3 bY4; obtain ⟨bY1, bY2, bY3, bY4⟩ := bY.facts; replace bR := bR.below hb1'; clear bR1 bR2 bR3 bR4; obtain ⟨bR1, bR2, bR3, bR4⟩ := bR.facts))
                    all_goals
                      clear DV bY1 bY2 bY3 bY4 bR1 bR2 bR3 bR4
                      have HBX := hide ((hb1'.trans (hb2'.mono hb1'.size)).trans (hb3'.mono (Nat.le_trans hb1'.size hb2'.size)))
                      have e9 : (cmpI (y * m) (r9.natAbs : Int) ≤ 0) ↔ (y * m ≤ r9) := by
                        rw [show ((r9.natAbs : Nat) : Int) = r9 by omega]
                        exact cmpI_le0
                      have e10 : decide (cmpI (y * m) (r9.natAbs : Int) ≤ 0) = decide (y * m ≤ r9) := decide_eq_decide.2 e9
                      have E9 := hide e10
                      clear e9 e10
                      go_wp2
                      go_meet
                      case rel => exact ⟨by rw [← E9.out], HBX.out⟩
                  case rest =>
                    obtain ⟨rfl, hbx⟩ := hcut
                    by_cases hle : y * m ≤ r9
                    · have hd : decide (y * m ≤ r9) = true := decide_eq_true hle
                      rw [hd]
                      have HLE := hide hle
                      clear hle hd
                      go_wp2
                      go_roundw
                      case rel => exact ⟨m, h, by first | rfl | rw [hm], rfl, by omega, by omega, by omega, HLE.out, HI.out, HBW.out.trans (hbx.mono HBW.out.size)⟩
                      case measure => simp [intOf]; omega
                    · have hd : decide (y * m ≤ r9) = false := decide_eq_false hle
                      rw [hd]
                      have HLE := hide hle
                      clear hle hd
                      go_wp2
                      go_roundw
                      case rel => exact ⟨l, m - 1, rfl, by first | rfl | rw [hm], by omega, by omega, by omega, LO.out, by have := HLE.out; rw [show m - 1 + 1 = m by omega]; omega, HBW.out.trans (hbx.mono HBW.out.size)⟩
                      case measure => simp [intOf]; omega
                · obtain rfl : h = l := by omega
                  have vY : val Y = y := by rw [DV.hY.1.val]; omega
                  have hg9 : 0 ≤ r9 := by omega
                  obtain ⟨cd, fd⟩ := DV.cell k (by omega)
                  have DV2 := DV.setD k h (by omega) HFR.out
                  have HDV := hide DV2
                  have hp9 : r9 < pw (B.length + 1) := by rw [pw]; have := HYP.out; omega
                  have hp8 : val Y * h + 0 < pw (B.length + 1) := by rw [vY]; have := LO.out; omega
                  have HP8 := hide hp8
                  have vv : ∃ dv, Dl.getD k 0 = dv := ⟨_, rfl⟩
                  obtain ⟨dv, hdv⟩ := vv
                  rw [hdv] at cd
                  clear hp9 hp8 DV DV2 hdv
                  go_upto_region 19 with fail
                  generalize wr.setCell ⟨g, k, none⟩ (.int .i64 h) = ws at HDV ⊢
                  have DV := HDV.out
                  have bY := DV.bY
                  have bR := DV.bR
                  clear HDV cd fd
                  have e1 : y * (h + 1) = y * h + y := by rw [Int.mul_add]; omega
                  have E1 := hide e1
                  clear e1
                  obtain ⟨bY1, bY2, bY3, bY4⟩ := bY.facts
                  obtain ⟨bR1, bR2, bR3, bR4⟩ := bR.facts
                  go_region_with (first
                      | (go_at_call 132; have _hq := hb2'; refine (nsub_g _ _ _ _ R _ (DV.hR.below (by repeat (first | exact Below.refl _ _ | refine Below.drew ?_))) _ p1 q1 r1 _ (Wh.natu (G1.below (by repeat (first | exact Below.refl _ _ | refine Below.drew ?_)))) (by omega) (by have := canon_len G1.canon (m := B.length + 1) (by rw [G1.val]; exact HP8.out); omega)).mono ?_; rintro e w3 ⟨n3, p3, q3, r3, rfl, G3, l3, hb3⟩; have hb3' : Below w2.heap.size w2 w3 := (show Below w2.heap.size w2 _ by repeat (first | exact Below.refl _ _ | refine Below.drew ?_)).trans hb3; replace DV := DV.below hb3'; replace bY := bY.below hb3'; clear bY1 bY2 bY3 bY4; obtain ⟨bY1, bY2, bY3, bY4⟩ := bY.facts; replace bR := bR.below hb3'; clear bR1 bR2 bR3 bR4; obtain ⟨bR1, bR2, bR3, bR4⟩ := bR.facts)
                      | (go_at_call 94; have _hq := hb1'; refine (made_g _ p1 q1 r1 _ (G1.below (by repeat (first | exact Below.refl _ _ | refine Below.drew ?_)))).mono ?_; rintro e w2 ⟨rfl, hb2⟩; have hb2' : Below w1.heap.size w1 w2 := (show Below w1.heap.size w1 _ by repeat (first | exact Below.refl _ _ | refine Below.drew ?_)).trans hb2; replace G1 := G1.below hb2'; replace DV := DV.below hb2'; replace bY := bY.below hb2'; clear bY1 bY2 bY3 bY4; obtain ⟨bY1, bY2, bY3, bY4⟩ := bY.facts; replace bR := bR.below hb2'; clear bR1 bR2 bR3 bR4; obtain ⟨bR1, bR2, bR3, bR4⟩ := bR.facts)
                      | (go_at_call 110; refine (small_any _ _ _ _ Y (DV.hY.sl.below (by repeat (first | exact Below.refl _ _ | refine Below.drew ?_))) h 0 (by omega) (by omega) (by omega)).mono ?_; rintro e w1 ⟨v1, rfl, I1, hb1⟩; have hb1' : Below ws.heap.size ws w1 := (show Below ws.heap.size ws _ by repeat (first | exact Below.refl _ _ | refine Below.drew ?_)).trans hb1; obtain ⟨p1, q1, r1, rfl, G1, far1⟩ := I1.far; clear I1 far1; replace DV := DV.below hb1'; replace bY := bY.below hb1'; clear bY1 bY2 bY3 bY4; obtain ⟨bY1, bY2, bY3, bY4⟩ := bY.facts; replace bR := bR.below hb1'; clear bR1 bR2 bR3 bR4; obtain ⟨bR1, bR2, bR3, bR4⟩ := bR.facts))
                  all_goals
                    rw [vY] at G3
                    have FIN := hide (DV.setR G3)
                    clear bY1 bY2 bY3 bY4 DV
                    go_wp2
                    go_roundw
                    case rel => exact ⟨k, Dl.set k h, n3, p3, q3, r3, _, by omega, by go_num, FIN.out, by rw [← hr9]; exact div_round (by omega) (by have := FIN.out.dl.1; rw [List.length_set] at this; omega) HAK.out HV.out, by have := LO.out; omega, by have := HI.out; have := E1.out; omega⟩
                    case measure => simp [intOf]
end Dm
end Go.Proofs.YtdiiankcjgoecaaDoor

namespace Go.Proofs.YtdiiankcjgoecaaDoor
namespace Dm
open Go.RowKit
open Lm (hide lt_of_cell lt_of_heap cmpI cmpI_lt cmpI_gt)
theorem gcd_step (u v : Int) : Int.gcd v (u % v) = Int.gcd v u := by
  have h1 := Lm.gcd_step u v (u / v)
  have h2 := Int.mul_ediv_add_emod u v
  rw [Int.mul_comm] at h2
  rw [show u - u / v * v = u % v by omega] at h1
  rw [h1, Int.gcd_comm]
set_option maxRecDepth 20000 in
set_option maxHeartbeats 2000000 in
theorem ngcd_g (w : World) (n1 : Bool) (a1 : Option Addr) (c1 : Nat) (A : List Int) (x : Int) (hx : Got w a1 c1 A x) (n2 : Bool) (a2 : Option Addr) (c2 : Nat) (B : List Int) (y : Int) (hy : Got w a2 c2 B y) (m1 : A.length ≤ 300000) (m2 : B.length ≤ 300000) :
    Calls Tryd.prog 96 #[.agg #[.bool n1, .slice a1 A.length c1], .agg #[.bool n2, .slice a2 B.length c2]] w fun e w' => ∃ ng ao cap rs, e = .returned (.agg #[.bool ng, .slice ao rs.length cap]) ∧ Wh w' ng ao cap rs (Int.gcd x y : Int) ∧ rs.length ≤ A.length + B.length ∧ Below w.heap.size w w' := by
  obtain ⟨w0, e0, bx, by', br, hb0, hs0⟩ := boxed3 w n1 (.slice a1 A.length c1) n2 (.slice a2 B.length c2)
  have E0 := hide e0
  have hx0 := hx.below hb0
  have hy0 := hy.below hb0
  have hxn : 0 ≤ x := by rw [← hx.val]; exact (val_bounds hx.canon.1).1
  have hyn : 0 ≤ y := by rw [← hy.val]; exact (val_bounds hy.canon.1).1
  clear e0
  go_enter Tryd.func96, Tryd.ntmps96
  go_upto_region 1 with fail
  rw [E0.out]
  obtain ⟨bx1, bx2, bx3, bx4⟩ := bx.facts
  go_wp2_with fail
  refine (abs_got _ _ _ _ A _ hx0 (by omega)).mono ?_
  rintro e w1 ⟨nX, pX, qX, X, rfl, GX, lX, hb1⟩
  obtain ⟨w2, e2, bX, hb2, hs2⟩ := boxed0 w1 nX (.slice pX X.length qX)
  have z1 := hb1.size
  have HB := hb0.trans (hb1.mono hb0.size)
  replace HB := HB.trans (hb2.mono HB.size)
  replace bx := (bx.below hb1).below hb2
  replace by' := (by'.below hb1).below hb2
  replace br := (br.below hb1).below hb2
  replace hy0 := (hy0.below hb1).below hb2
  replace GX := GX.below hb2
  have E2 := hide e2
  clear e2 bx1 bx2 bx3 bx4 hb1 hb2 E0
  go_upto_region 2 with fail
  rw [E2.out]
  clear E2
  obtain ⟨by1, by2, by3, by4⟩ := by'.facts
  go_wp2_with fail
  refine (abs_got _ _ _ _ B _ hy0 (by omega)).mono ?_
  rintro e w3 ⟨nY, pY, qY, Y, rfl, GY, lY, hb3⟩
  obtain ⟨w4, e4, bY, hb4, hs4⟩ := boxed0 w3 nY (.slice pY Y.length qY)
  have z3 := hb3.size
  replace HB := HB.trans (hb3.mono HB.size)
  replace HB := HB.trans (hb4.mono HB.size)
  replace br := (br.below hb3).below hb4
  replace bX := (bX.below hb3).below hb4
  replace GX := (GX.below hb3).below hb4
  replace GY := GY.below hb4
  have E4 := hide e4
  clear e4 by1 by2 by3 by4 hb3 hb4 hy0 hx0 bx by'
  go_wp2_with fail
  rw [E4.out]
  clear E4
  have hsx : w.heap.size + 3 ≤ w1.heap.size := by omega
  have hsy : w1.heap.size + 1 ≤ w3.heap.size := by omega
  have hsz : w3.heap.size < w4.heap.size := by omega
  generalize w1.heap.size = gx at *
  generalize w3.heap.size = gy at *
  have hsg : sg false x = x := rfl
  have hsg2 : sg false y = y := rfl
  rw [hsg] at GX
  rw [hsg2] at GY
  clear hsg hsg2 z1 z3 hs2 hs4 hs0
  go_loopg [] y.toNat (fun k wr => ∃ (nX : Bool) (pX : Option Addr) (qX : Nat) (X : List Int) (u : Int) (nY : Bool) (pY : Option Addr) (qY : Nat) (Y : List Int) (v : Int), Box wr gx nX (.slice pX X.length qX) ∧ Box wr gy nY (.slice pY Y.length qY) ∧ Box wr (w.heap.size + 1 + 1) false (.slice none 0 0) ∧ Wh wr nX pX qX X u ∧ Wh wr nY pY qY Y v ∧ 0 ≤ u ∧ 0 ≤ v ∧ Int.gcd u v = Int.gcd x y ∧ X.length ≤ A.length + B.length ∧ Y.length ≤ A.length + B.length ∧ X.length ≤ 300000 ∧ Y.length ≤ 300000 ∧ Below w.heap.size w wr ∧ k = v.toNat)
  case atStart => exact ⟨nX, pX, qX, X, x, nY, pY, qY, Y, y, bX, bY, br, GX, GY, hxn, hyn, rfl, by omega, by omega, by omega, by omega, HB, rfl⟩
  case round =>
    clear bX bY br GX GY HB lX lY
    obtain ⟨nX, pX, qX, X, u, nY, pY, qY, Y, v, bX, bY, br, GX, GY, hu, hv, hg, lX, lY, lX2, lY2, HB, hk⟩ := hrel
    obtain rfl : nY = false := by rw [GY.2]; simp; omega
    have HG := hide hg
    have HK := hide hk
    have hz := GY.zero
    have HZ := hide hz
    obtain ⟨bY1, bY2, bY3, bY4⟩ := bY.facts
    clear hg hk hz
    go_wp2_with fail
    refine (sign_any _ _ _ _).mono ?_
    rintro e w5 ⟨rfl, e5⟩
    have hb5 : Below wr.heap.size wr w5 := by rw [e5]; exact (Below.refl _ _).alloc (Nat.le_refl _) _
    clear e5
    replace bX := bX.below hb5
    replace bY := bY.below hb5
    replace br := br.below hb5
    replace GX := GX.below hb5
    replace GY := GY.below hb5
    replace HB := HB.trans (hb5.mono HB.size)
    clear hb5 bY1 bY2 bY3 bY4
    by_cases h0 : Y.length = 0
    · have v0 : v = 0 := HZ.out.2 (List.eq_nil_of_length_eq_zero h0)
      have hs : sgn Y.length = 0 := by simp [sgn, h0]
      rw [hs]
      have HG2 : Hid ((Int.gcd x y : Int) = u) := by
        have := HG.out
        rw [v0] at this
        show ((Int.gcd x y : Nat) : Int) = u
        rw [← this, Int.gcd_zero_right]
        omega
      clear hs h0 v0
      obtain ⟨bX1, bX2, bX3, bX4⟩ := bX.facts
      obtain ⟨br1, br2, br3, br4⟩ := br.facts
      have F := hide (br.set nX (.slice pX X.length qX)).facts
      have Y1 := hide (br.wh nX (.slice pX X.length qX) GX)
      have Z := hide (below_set2 HB (show w.heap.size ≤ w.heap.size + 1 + 1 by omega) (.bool nX) (.slice pX X.length qX))
      go_wp2
      refine bodyPost_ret (v := .agg #[.bool nX, .slice pX X.length qX]) ?_ rfl ⟨nX, pX, qX, X, rfl, by rw [HG2.out]; exact Y1.out, by omega, Z.out⟩
      simp [results, Tryd.results96, go_sem, F.out.1, F.out.2.1]
    · have hs : sgn Y.length = 1 := by simp [sgn, h0]
      rw [hs]
      clear hs
      have vp : 0 < v := by
        apply Classical.byContradiction
        intro hn
        exact h0 (by rw [HZ.out.1 (by omega)]; rfl)
      obtain ⟨bX1, bX2, bX3, bX4⟩ := bX.facts
      obtain ⟨bY1, bY2, bY3, bY4⟩ := bY.facts
      have GX' := GX.1
      have GY' := GY.1
      rw [show ((u.natAbs : Nat) : Int) = u by omega] at GX'
      rw [show ((v.natAbs : Nat) : Int) = v by omega] at GY'
      go_wp2_with fail
      refine (divided_g _ _ _ _ X _ GX' _ _ _ Y _ GY' (by omega) (by omega) (by omega)).mono ?_
      rintro e w6 ⟨nq, pq, qq, Q, nr, pr, qr, R, rfl, GQ, GR, lQ, lR, hb6⟩
      obtain ⟨w7, e7, bq, bz, hb7, hs7⟩ := boxed2 w6 nq (.slice pq Q.length qq) nr (.slice pr R.length qr)
      have z6 := hb6.size
      have lgy := lt_of_heap bY
      replace bX := (bX.below hb6).below hb7
      replace bY := (bY.below hb6).below hb7
      replace br := (br.below hb6).below hb7
      replace GY := (GY.below hb6).below hb7
      replace GR := GR.below hb7
      replace HB := (HB.trans (hb6.mono HB.size)).trans (hb7.mono (Nat.le_trans HB.size z6))
      have E7 := hide e7
      clear e7 hb6 hb7 bX1 bX2 bX3 bX4 bY1 bY2 bY3 bY4 GX GX' GY' GQ bq
      go_upto_region 5 with fail
      rw [E7.out]
      clear E7
      generalize w6.heap.size = g6 at *
      have bX' := bX.set false (.slice pY Y.length qY)
      have bY' := box_other bY (show gy ≠ gx by omega) (.bool false) (.slice pY Y.length qY)
      have br' := box_other br (show w.heap.size + 1 + 1 ≠ gx by omega) (.bool false) (.slice pY Y.length qY)
      have bz' := box_other bz (show g6 + 1 ≠ gx by omega) (.bool false) (.slice pY Y.length qY)
      have GY' := bX.wh false (.slice pY Y.length qY) GY
      have GR' := bX.wh false (.slice pY Y.length qY) GR
      have HB' := below_set2 HB (show w.heap.size ≤ gx by omega) (.bool false) (.slice pY Y.length qY)
      obtain ⟨bX1, bX2, bX3, bX4⟩ := bX.facts
      obtain ⟨bY1, bY2, bY3, bY4⟩ := bY.facts
      have FF := hide (And.intro bX' (And.intro bY' (And.intro br' (And.intro bz' (And.intro GY' (And.intro GR' HB'))))))
      clear bX' bY' br' bz' GY' GR' HB'
      go_upto_region 6 with fail
      clear bX bY br bz GY GR HB bX1 bX2 bX3 bX4 bY1 bY2 bY3 bY4
      generalize (w7.setCell ⟨gx, 0, none⟩ (.bool false)).setCell ⟨gx, 1, none⟩ (.slice pY Y.length qY) = w8 at FF ⊢
      obtain ⟨bX, bY, br, bz, GY, GR, HB⟩ := FF.out
      clear FF
      obtain ⟨bY1, bY2, bY3, bY4⟩ := bY.facts
      obtain ⟨bz1, bz2, bz3, bz4⟩ := bz.facts
      have bX' := box_other bX (show gx ≠ gy by omega) (.bool nr) (.slice pr R.length qr)
      have bY' := bY.set nr (.slice pr R.length qr)
      have br' := box_other br (show w.heap.size + 1 + 1 ≠ gy by omega) (.bool nr) (.slice pr R.length qr)
      have GY' := bY.wh nr (.slice pr R.length qr) GY
      have GR' := bY.wh nr (.slice pr R.length qr) GR
      have HB' := below_set2 HB (show w.heap.size ≤ gy by omega) (.bool nr) (.slice pr R.length qr)
      have FF := hide (And.intro bX' (And.intro bY' (And.intro br' (And.intro GY' (And.intro GR' HB')))))
      clear bX' bY' br' GY' GR' HB' bX br
      go_wp2
      go_roundg (u % v).toNat
      case measure =>
        have := Int.emod_lt_of_pos u vp
        have := Int.emod_nonneg u (show v ≠ 0 by omega)
        have := HK.out
        omega
      case rel => exact ⟨false, pY, qY, Y, v, nr, pr, qr, R, u % v, FF.out.1, FF.out.2.1, FF.out.2.2.1, FF.out.2.2.2.1, FF.out.2.2.2.2.1, hv, Int.emod_nonneg u (show v ≠ 0 by omega), by rw [← HG.out, Int.gcd_comm u v]; exact gcd_step u v, lY, by omega, lY2, by omega, FF.out.2.2.2.2.2, rfl⟩
end Dm
end Go.Proofs.YtdiiankcjgoecaaDoor

namespace Go.Proofs.YtdiiankcjgoecaaDoor
namespace Dm
open Go.RowKit
open Lm (hide lt_of_cell lt_of_heap)
set_option maxRecDepth 20000 in
set_option maxHeartbeats 400000 in
theorem nsign_zero (w : World) (ng : Bool) (ao : Option Addr) (cap : Nat) :
    Calls Tryd.prog 62 #[.agg #[.bool ng, .slice ao 0 cap]] w fun e w' => e = .returned (.int .i64 0) ∧ Below w.heap.size w w' := by
  have hb : Below w.heap.size w (w.alloc (.cells #[.bool ng, .slice ao 0 cap] 77)) := (Below.refl _ _).alloc (Nat.le_refl _) _
  go_enter Tryd.func62, Tryd.ntmps62
  go_wp2
  go_ret
  exact ⟨rfl, hb⟩
set_option maxRecDepth 20000 in
set_option maxHeartbeats 400000 in
theorem nsign_neg (w : World) (ao : Option Addr) (n cap : Nat) (h0 : ¬ n = 0) :
    Calls Tryd.prog 62 #[.agg #[.bool true, .slice ao n cap]] w fun e w' => e = .returned (.int .i64 (-1)) ∧ Below w.heap.size w w' := by
  have hb : Below w.heap.size w (w.alloc (.cells #[.bool true, .slice ao n cap] 77)) := (Below.refl _ _).alloc (Nat.le_refl _) _
  have hl2 : (((n : Nat) : Int) == 0) = false := by simp; omega
  clear h0
  go_enter Tryd.func62, Tryd.ntmps62
  go_wp2
  go_ret
  exact ⟨rfl, hb⟩
set_option maxRecDepth 20000 in
set_option maxHeartbeats 400000 in
theorem nsign_pos (w : World) (ao : Option Addr) (n cap : Nat) (h0 : ¬ n = 0) :
    Calls Tryd.prog 62 #[.agg #[.bool false, .slice ao n cap]] w fun e w' => e = .returned (.int .i64 1) ∧ Below w.heap.size w w' := by
  have hb : Below w.heap.size w (w.alloc (.cells #[.bool false, .slice ao n cap] 77)) := (Below.refl _ _).alloc (Nat.le_refl _) _
  have hl2 : (((n : Nat) : Int) == 0) = false := by simp; omega
  clear h0
  go_enter Tryd.func62, Tryd.ntmps62
  go_wp2
  go_ret
  exact ⟨rfl, hb⟩
theorem nsign_z (w : World) (ng : Bool) (ao : Option Addr) (cap : Nat) (rs : List Int) (z : Int) (h : Wh w ng ao cap rs z) :
    Calls Tryd.prog 62 #[.agg #[.bool ng, .slice ao rs.length cap]] w fun e w' => e = .returned (.int .i64 (Int.sign z)) ∧ Below w.heap.size w w' := by
  by_cases h0 : rs.length = 0
  · have hz : z = 0 := h.zero.2 (List.eq_nil_of_length_eq_zero h0)
    rw [hz, h0]
    exact nsign_zero w ng ao cap
  · have hz : z ≠ 0 := fun e => h0 (by rw [h.zero.1 e]; rfl)
    cases ng with
    | true =>
      have hn : z < 0 := by have := h.2; simpa using this.symm
      rw [Int.sign_eq_neg_one_of_neg hn]
      exact nsign_neg w ao _ cap h0
    | false =>
      have hn : 0 < z := by have := h.2; simp at this; omega
      rw [Int.sign_eq_one_of_pos hn]
      exact nsign_pos w ao _ cap h0
theorem gcd_abs (x y : Int) : Int.gcd (x.natAbs : Int) (y.natAbs : Int) = Int.gcd x y := by simp [Int.gcd]
end Dm
end Go.Proofs.YtdiiankcjgoecaaDoor

namespace Go.Proofs.YtdiiankcjgoecaaDoor
namespace Dm
open Go Go.RowKit
theorem Sl.rl {w w' : World} {v : Value} {zs : List Int} (h : Sl w v zs) (hr : Lm.Rl w w') : Sl w' v zs := by
  obtain ⟨ao, cap, rfl, h1, h2, h3, h4⟩ := h
  refine ⟨ao, cap, rfl, h1, h2, h3, ?_⟩
  rcases h4 with h4 | ⟨b, off, rfl, hc⟩
  · exact .inl h4
  · exact .inr ⟨b, off, rfl, fun i hi => hr.ints _ _ _ (hc i hi)⟩
theorem Wh.rl {w w' : World} {ng : Bool} {ao : Option Addr} {cap : Nat} {rs : List Int} {z : Int} (h : Wh w ng ao cap rs z) (hr : Lm.Rl w w') : Wh w' ng ao cap rs z := ⟨⟨h.1.1.rl hr, h.1.2⟩, h.2⟩
theorem pw_small (n : Nat) : pw n ≤ Lm.pw n := by
  induction n with
  | zero => simp [pw, Lm.pw]
  | succ n ih =>
    have := pw_pos n
    simp only [pw, Lm.pw]
    omega
theorem Wh.bound {w : World} {ng : Bool} {ao : Option Addr} {cap : Nat} {rs : List Int} {z : Int} {L : Nat} (h : Wh w ng ao cap rs z) (hl : rs.length ≤ L) : (z.natAbs : Int) < Lm.pw L := by
  have h1 := (val_bounds h.1.canon.1).2
  rw [h.1.val] at h1
  have h2 := pw_mono hl
  have h3 := pw_small L
  omega
theorem Wh.some {w : World} {ng : Bool} {ao : Option Addr} {cap : Nat} {rs : List Int} {z : Int} (h : Wh w ng ao cap rs z) (hz : z ≠ 0) : 0 < rs.length := by
  apply Classical.byContradiction
  intro hn
  exact hz (h.zero.2 (List.eq_nil_of_length_eq_zero (by omega)))
end Dm
namespace Lm
open Go Go.RowKit
def N2 : BoxTy := ⟨77, .agg #[.bool false, .slice none 0 0], fun v cs => ∃ ng ao n c, v = .agg #[.bool ng, .slice ao n c] ∧ cs = #[.bool ng, .slice ao n c]⟩
theorem N2ok : BoxOk Tryd.prog N2 where
  noInt := by
    rintro v cs ⟨ng, ao, n, c, rfl, rfl⟩ i k z
    match i with
    | 0 => simp
    | 1 => simp
    | i + 2 => simp
  ne := by unfold N2; exact ⟨by decide, by decide⟩
  alloc := fun w => ⟨#[.bool false, .slice none 0 0], ⟨_, _, _, _, rfl, rfl⟩, by unfold N2; go_simp⟩
  box := by
    rintro w v ⟨cs, ng, ao, n, c, rfl, rfl⟩
    exact ⟨_, ⟨_, _, _, _, rfl, rfl⟩, by unfold N2; go_simp⟩
  store := by
    rintro w g v0 v ⟨cs0, ⟨m, bo, p, d, rfl, rfl⟩, hh⟩ ⟨cs, ng, ao, n, c, rfl, rfl⟩
    have hb : Dm.Box w g m (.slice bo p d) := hh
    obtain ⟨b1, b2, b3, b4⟩ := hb.facts
    refine ⟨(w.setCell ⟨g, 0, none⟩ (.bool ng)).setCell ⟨g, 1, none⟩ (.slice ao n c), ?_, ⟨_, ⟨_, _, _, _, rfl, rfl⟩, hb.set ng (.slice ao n c)⟩, ⟨rfl, rfl, rfl, by simp [World.setCell], fun k hk => ?_⟩⟩
    · unfold N2
      go_simp
    · rw [Below.heap_setCell _ _ _ _ (by simpa using hk), Below.heap_setCell _ _ _ _ (by simpa using hk)]
  load := by
    rintro w g v ⟨cs, ⟨ng, ao, n, c, rfl, rfl⟩, hh⟩
    obtain ⟨b1, b2, b3, b4⟩ := (show Dm.Box w g ng (.slice ao n c) from hh).facts
    unfold N2
    go_simp
def Q4 : BoxTy := ⟨98, .agg #[.bool false, .slice none 0 0, .bool false, .slice none 0 0], fun v cs => ∃ ng ao n c mg bo m d, v = .agg #[.bool ng, .slice ao n c, .bool mg, .slice bo m d] ∧ cs = #[.bool ng, .slice ao n c, .bool mg, .slice bo m d]⟩
theorem q4_facts {w : World} {g : Nat} {x y z u : Value} {T : TypeId} (h : w.heap[g]? = some (.cells #[x, y, z, u] T (0, 0))) : w.cell? ⟨g, 0, none⟩ = some x ∧ w.cell? ⟨g, 1, none⟩ = some y ∧ w.cell? ⟨g, 2, none⟩ = some z ∧ w.cell? ⟨g, 3, none⟩ = some u ∧ w.frozen? ⟨g, 0, none⟩ = false ∧ w.frozen? ⟨g, 1, none⟩ = false ∧ w.frozen? ⟨g, 2, none⟩ = false ∧ w.frozen? ⟨g, 3, none⟩ = false :=
  ⟨by rw [cell_of_row _ _ _ _ _ (0, 0) h]; rfl, by rw [cell_of_row _ _ _ _ _ (0, 0) h]; rfl, by rw [cell_of_row _ _ _ _ _ (0, 0) h]; rfl, by rw [cell_of_row _ _ _ _ _ (0, 0) h]; rfl, frozen_of_row _ _ _ _ _ h, frozen_of_row _ _ _ _ _ h, frozen_of_row _ _ _ _ _ h, frozen_of_row _ _ _ _ _ h⟩
theorem Q4ok : BoxOk Tryd.prog Q4 where
  noInt := by
    rintro v cs ⟨ng, ao, n, c, mg, bo, m, d, rfl, rfl⟩ i k z
    match i with
    | 0 => simp
    | 1 => simp
    | 2 => simp
    | 3 => simp
    | i + 4 => simp
  ne := by unfold Q4; exact ⟨by decide, by decide⟩
  alloc := fun w => ⟨#[.bool false, .slice none 0 0, .bool false, .slice none 0 0], ⟨_, _, _, _, _, _, _, _, rfl, rfl⟩, by unfold Q4; go_simp⟩
  box := by
    rintro w v ⟨cs, ng, ao, n, c, mg, bo, m, d, rfl, rfl⟩
    exact ⟨_, ⟨_, _, _, _, _, _, _, _, rfl, rfl⟩, by unfold Q4; go_simp⟩
  store := by
    rintro w g v0 v ⟨cs0, ⟨m, bo, p, d, mg, b2, d2, e2, rfl, rfl⟩, hh⟩ ⟨cs, ng, ao, n, c, m2, co, q, f, rfl, rfl⟩
    obtain ⟨b1, b2, b3, b4, b5, b6, b7, b8⟩ := q4_facts hh
    have h1 := heap_setCell_same w g 0 _ _ (.bool ng) hh
    have h2 := heap_setCell_same _ g 1 _ _ (.slice ao n c) h1
    have h3 := heap_setCell_same _ g 2 _ _ (.bool m2) h2
    have h4 := heap_setCell_same _ g 3 _ _ (.slice co q f) h3
    refine ⟨(((w.setCell ⟨g, 0, none⟩ (.bool ng)).setCell ⟨g, 1, none⟩ (.slice ao n c)).setCell ⟨g, 2, none⟩ (.bool m2)).setCell ⟨g, 3, none⟩ (.slice co q f), ?_, ⟨_, ⟨_, _, _, _, _, _, _, _, rfl, rfl⟩, h4⟩, ⟨rfl, rfl, rfl, by simp [World.setCell], fun k hk => ?_⟩⟩
    · unfold Q4
      go_simp
    · rw [Below.heap_setCell _ _ _ _ (by simpa using hk), Below.heap_setCell _ _ _ _ (by simpa using hk), Below.heap_setCell _ _ _ _ (by simpa using hk), Below.heap_setCell _ _ _ _ (by simpa using hk)]
  load := by
    rintro w g v ⟨cs, ⟨ng, ao, n, c, mg, bo, m, d, rfl, rfl⟩, hh⟩
    obtain ⟨b1, b2, b3, b4, b5, b6, b7, b8⟩ := q4_facts hh
    unfold Q4
    go_simp
def OutN (z : Int) (L : Nat) : Says := fun v w => ∃ ng ao cap rs, v = .agg #[.bool ng, .slice ao rs.length cap] ∧ Dm.Wh w ng ao cap rs z ∧ rs.length ≤ L
def OutQ (p q : Int) (L : Nat) : Says := fun v w => ∃ ng ao cap rs mg bo dap ss, v = .agg #[.bool ng, .slice ao rs.length cap, .bool mg, .slice bo ss.length dap] ∧ Dm.Wh w ng ao cap rs p ∧ Dm.Wh w mg bo dap ss q ∧ rs.length ≤ L ∧ ss.length ≤ L
theorem OutN.mono4 (z : Int) (L : Nat) : Mono4 (OutN z L) := fun _ _ _ hb ⟨ng, ao, cap, rs, e, h, l⟩ => ⟨ng, ao, cap, rs, e, h.rl hb, l⟩
theorem OutQ.mono4 (p q : Int) (L : Nat) : Mono4 (OutQ p q L) := fun _ _ _ hb ⟨ng, ao, cap, rs, mg, bo, dap, ss, e, h, h', l, l'⟩ => ⟨ng, ao, cap, rs, mg, bo, dap, ss, e, h.rl hb, h'.rl hb, l, l'⟩
theorem OutN.to {z z' : Int} {L L' : Nat} {v : Value} {w : World} (h : OutN z L v w) (e : z = z') (hl : L ≤ L') : OutN z' L' v w := by
  subst e
  obtain ⟨ng, ao, cap, rs, e', h, l⟩ := h
  exact ⟨ng, ao, cap, rs, e', h, Nat.le_trans l hl⟩
theorem OutQ.to {p q p' q' : Int} {L L' : Nat} {v : Value} {w : World} (h : OutQ p q L v w) (e : p = p') (e' : q = q') (hl : L ≤ L') : OutQ p' q' L' v w := by
  subst e e'
  obtain ⟨ng, ao, cap, rs, mg, bo, dap, ss, e, h, h', l, l'⟩ := h
  exact ⟨ng, ao, cap, rs, mg, bo, dap, ss, e, h, h', Nat.le_trans l hl, Nat.le_trans l' hl⟩
theorem OutN.cs {z : Int} {L : Nat} (v : Value) (w : World) (h : OutN z L v w) : ∃ cs, N2.Cs v cs := by
  obtain ⟨ng, ao, cap, rs, rfl, _⟩ := h
  exact ⟨_, _, _, _, _, rfl, rfl⟩
theorem OutQ.cs {p q : Int} {L : Nat} (v : Value) (w : World) (h : OutQ p q L v w) : ∃ cs, Q4.Cs v cs := by
  obtain ⟨ng, ao, cap, rs, mg, bo, dap, ss, rfl, _⟩ := h
  exact ⟨_, _, _, _, _, _, _, _, _, rfl, rfl⟩
theorem n2_cs {ng : Bool} {ao : Option Addr} {n c : Nat} : ∃ cs, N2.Cs (.agg #[.bool ng, .slice ao n c]) cs := ⟨_, _, _, _, _, rfl, rfl⟩
theorem q4_cs {ng mg : Bool} {ao bo : Option Addr} {n c m d : Nat} : ∃ cs, Q4.Cs (.agg #[.bool ng, .slice ao n c, .bool mg, .slice bo m d]) cs := ⟨_, _, _, _, _, _, _, _, _, rfl, rfl⟩
theorem outn_eq {v : Value} {w : World} {ng : Bool} {ao : Option Addr} {c : Nat} {rs : List Int} {z : Int} {L : Nat} (h : v = .agg #[.bool ng, .slice ao rs.length c]) (hA : Dm.Wh w ng ao c rs z) (hl : rs.length ≤ L) : OutN z L v w := ⟨_, _, _, _, h, hA, hl⟩
theorem outq_eq {v : Value} {w : World} {ng mg : Bool} {ao bo : Option Addr} {c d : Nat} {rs ss : List Int} {p q : Int} {L : Nat} (h : v = .agg #[.bool ng, .slice ao rs.length c, .bool mg, .slice bo ss.length d]) (hA : Dm.Wh w ng ao c rs p) (hB : Dm.Wh w mg bo d ss q) (hl : rs.length ≤ L) (hl' : ss.length ≤ L) : OutQ p q L v w := ⟨_, _, _, _, _, _, _, _, h, hA, hB, hl, hl'⟩
theorem n2_row {w : World} {g : Nat} {ng : Bool} {ao : Option Addr} {n c : Nat} (h : BoxV N2 w g (.agg #[.bool ng, .slice ao n c])) : Dm.Box w g ng (.slice ao n c) := by
  obtain ⟨cs, ⟨_, _, _, _, e, rfl⟩, h⟩ := h
  simp only [Value.agg.injEq] at e
  simp only [Array.mk.injEq, List.cons.injEq, Value.bool.injEq, Value.slice.injEq, and_true] at e
  obtain ⟨rfl, rfl, rfl, rfl⟩ := e
  exact h
theorem q4_row {w : World} {g : Nat} {ng mg : Bool} {ao bo : Option Addr} {n c m d : Nat} (h : BoxV Q4 w g (.agg #[.bool ng, .slice ao n c, .bool mg, .slice bo m d])) : w.heap[g]? = some (.cells #[.bool ng, .slice ao n c, .bool mg, .slice bo m d] 98 (0, 0)) := by
  obtain ⟨cs, ⟨_, _, _, _, _, _, _, _, e, rfl⟩, h⟩ := h
  simp only [Value.agg.injEq] at e
  simp only [Array.mk.injEq, List.cons.injEq, Value.bool.injEq, Value.slice.injEq, and_true] at e
  obtain ⟨rfl, ⟨rfl, rfl, rfl⟩, rfl, rfl, rfl, rfl⟩ := e
  exact h
theorem lv_N2 {w : World} {g : Nat} {v : Value} (h : BoxV N2 w g v) : (loadVar 77 ⟨g, 0, none⟩).run Tryd.prog w = .ok v w := by
  obtain ⟨cs, ⟨ng, ao, n, c, rfl, rfl⟩, hh⟩ := h
  obtain ⟨b1, b2, b3, b4⟩ := (show Dm.Box w g ng (.slice ao n c) from hh).facts
  go_simp
theorem lv_Q4 {w : World} {g : Nat} {v : Value} (h : BoxV Q4 w g v) : (loadVar 98 ⟨g, 0, none⟩).run Tryd.prog w = .ok v w := by
  obtain ⟨cs, ⟨ng, ao, n, c, mg, bo, m, d, rfl, rfl⟩, hh⟩ := h
  obtain ⟨b1, b2, b3, b4, b5, b6, b7, b8⟩ := q4_facts hh
  go_simp
section
variable {dst : Option Tmp} {ty : TypeId} {pos : String} {after : Array Edge} {guard : Option (Nat × Bool)} {a : Act} {w : World} {ats : Array TypeId} {i j k g : Nat} {x y z p q : Int} {L L1 L2 : Nat}
theorem op_faN {f off : Nat} (hf : ∀ w : World, (Instr.fieldAt 77 (.pointer (some ⟨g, 0, none⟩)) f).run Tryd.prog w = .ok (.pointer (some ⟨g, off, none⟩)) w) (hp : a.eval (.tmp k) = .pointer (some ⟨g, 0, none⟩)) :
    Does Tryd.prog { dst, op := .fieldAddr 77 (.tmp k) f, type := ty, pos, after, guard } a.eval w fun v' w' => Below w.heap.size w w' ∧ Eqs (.pointer (some ⟨g, off, none⟩)) v' w' := by
  refine ⟨?_⟩
  unfold Turns
  simp only [execOp, hp]
  simp [hf]
  exact ⟨Below.refl _ _, rfl⟩
theorem fa_nneg (w : World) : (Instr.fieldAt 77 (.pointer (some ⟨g, 0, none⟩)) 0).run Tryd.prog w = .ok (.pointer (some ⟨g, 0, none⟩)) w := by go_simp
theorem op_faQ {f off : Nat} (hf : ∀ w : World, (Instr.fieldAt 98 (.pointer (some ⟨g, 0, none⟩)) f).run Tryd.prog w = .ok (.pointer (some ⟨g, off, none⟩)) w) (hp : a.eval (.tmp k) = .pointer (some ⟨g, 0, none⟩)) :
    Does Tryd.prog { dst, op := .fieldAddr 98 (.tmp k) f, type := ty, pos, after, guard } a.eval w fun v' w' => Below w.heap.size w w' ∧ Eqs (.pointer (some ⟨g, off, none⟩)) v' w' := by
  refine ⟨?_⟩
  unfold Turns
  simp only [execOp, hp]
  simp [hf]
  exact ⟨Below.refl _ _, rfl⟩
theorem fa_q0 (w : World) : (Instr.fieldAt 98 (.pointer (some ⟨g, 0, none⟩)) 0).run Tryd.prog w = .ok (.pointer (some ⟨g, 0, none⟩)) w := by go_simp
theorem fa_q1 (w : World) : (Instr.fieldAt 98 (.pointer (some ⟨g, 0, none⟩)) 1).run Tryd.prog w = .ok (.pointer (some ⟨g, 2, none⟩)) w := by go_simp
theorem op_ldnneg {ng : Bool} {ao : Option Addr} {n c : Nat} (hp : a.eval (.tmp k) = .pointer (some ⟨g, 0, none⟩)) (hb : BoxV N2 w g (.agg #[.bool ng, .slice ao n c])) :
    Does Tryd.prog { dst, op := .load 4 (.tmp k), type := ty, pos, after, guard } a.eval w fun v' w' => Below w.heap.size w w' ∧ Eqs (.bool ng) v' w' := by
  obtain ⟨b1, b2, b3, b4⟩ := (n2_row hb).facts
  refine does_load (v := .bool ng) ?_ ⟨Below.refl _ _, rfl⟩
  rw [hp]
  go_simp
theorem op_ldq0 {ng mg : Bool} {ao bo : Option Addr} {n c m d : Nat} (hp : a.eval (.tmp k) = .pointer (some ⟨g, 0, none⟩)) (hb : BoxV Q4 w g (.agg #[.bool ng, .slice ao n c, .bool mg, .slice bo m d])) :
    Does Tryd.prog { dst, op := .load 77 (.tmp k), type := ty, pos, after, guard } a.eval w fun v' w' => Below w.heap.size w w' ∧ Eqs (.agg #[.bool ng, .slice ao n c]) v' w' := by
  obtain ⟨b1, b2, b3, b4, b5, b6, b7, b8⟩ := q4_facts (q4_row hb)
  refine does_load (v := .agg #[.bool ng, .slice ao n c]) ?_ ⟨Below.refl _ _, rfl⟩
  rw [hp]
  go_simp
theorem op_ldq1 {ng mg : Bool} {ao bo : Option Addr} {n c m d : Nat} (hp : a.eval (.tmp k) = .pointer (some ⟨g, 2, none⟩)) (hb : BoxV Q4 w g (.agg #[.bool ng, .slice ao n c, .bool mg, .slice bo m d])) :
    Does Tryd.prog { dst, op := .load 77 (.tmp k), type := ty, pos, after, guard } a.eval w fun v' w' => Below w.heap.size w w' ∧ Eqs (.agg #[.bool mg, .slice bo m d]) v' w' := by
  obtain ⟨b1, b2, b3, b4, b5, b6, b7, b8⟩ := q4_facts (q4_row hb)
  refine does_load (v := .agg #[.bool mg, .slice bo m d]) ?_ ⟨Below.refl _ _, rfl⟩
  rw [hp]
  go_simp
theorem op_bQ (h1 : OutN p L (a.eval (.tmp i)) w) (h2 : OutN q L (a.eval (.tmp j)) w) : Does Tryd.prog { dst, op := .build 98 #[(0, .tmp i), (1, .tmp j)], type := ty, pos, after, guard } a.eval w fun v' w' => Below w.heap.size w w' ∧ OutQ p q L v' w' := by
  obtain ⟨ng, ao, cap, rs, e1, W1, l1⟩ := h1
  obtain ⟨mg, bo, dap, ss, e2, W2, l2⟩ := h2
  have e : (execOp a.eval { dst, op := .build 98 #[(0, .tmp i), (1, .tmp j)], type := ty, pos, after, guard }).run Tryd.prog w = .ok (.value (.agg #[.bool ng, .slice ao rs.length cap, .bool mg, .slice bo ss.length dap])) w := by
    simp only [execOp, List.map_toArray, List.map_nil, List.map_cons, e1, e2]
    go_simp
  refine ⟨?_⟩
  unfold Turns
  rw [e]
  exact ⟨Below.refl _ _, outq_eq rfl W1 W2 l1 l2⟩
theorem has_nof : Has Tryd.prog 50 := by unfold Has; kernel_rfl
theorem op_nof (h : IsW z L (a.eval (.tmp i)) w) (hL : L ≤ 100000) :
    Does Tryd.prog { dst, op := .call { callee := .value (.func 50), args := #[.tmp i], argTypes := ats }, type := ty, pos, after, guard } a.eval w fun v w' => Below w.heap.size w w' ∧ OutN z (3 * L) v w' := by
  obtain ⟨n1, a1, m1, c1, xs, e1, A1, l1⟩ := h
  refine does_call has_nof _ (by simp only [List.map_toArray, List.map_cons, List.map_nil, e1]) ((Dm.nof_z w _ _ _ _ xs z A1 (by omega)).mono ?_)
  rintro e w' ⟨ng, ao, cap, rs, rfl, G, l, hb⟩
  exact ⟨_, rfl, hb, _, _, _, _, rfl, G, by omega⟩
theorem has_nint : Has Tryd.prog 60 := by unfold Has; kernel_rfl
theorem op_nint {v : Int} (h1 : -9223372036854775808 ≤ v) (h2 : v ≤ 9223372036854775807) :
    Does Tryd.prog { dst, op := .call { callee := .value (.func 60), args := #[.const (.int .i64 v)], argTypes := ats }, type := ty, pos, after, guard } a.eval w fun v' w' => Below w.heap.size w w' ∧ OutN v 5 v' w' := by
  refine does_call has_nint _ (by simp only [List.map_toArray, List.map_cons, List.map_nil, Act.eval]) ((Dm.nint_any w v h1 h2).mono ?_)
  rintro e w' ⟨ng, ao, cap, rs, rfl, G, l, hb⟩
  exact ⟨_, rfl, hb, _, _, _, _, rfl, G, l⟩
theorem has_nsign : Has Tryd.prog 62 := by unfold Has; kernel_rfl
theorem op_nsign (h : OutN z L (a.eval (.tmp i)) w) :
    Does Tryd.prog { dst, op := .call { callee := .value (.func 62), args := #[.tmp i], argTypes := ats }, type := ty, pos, after, guard } a.eval w fun v w' => Below w.heap.size w w' ∧ Eqs (.int .i64 (Int.sign z)) v w' := by
  obtain ⟨ng, ao, cap, rs, e1, W, l⟩ := h
  refine does_call has_nsign _ (by simp only [List.map_toArray, List.map_cons, List.map_nil, e1]) ((Dm.nsign_z w _ _ _ _ _ W).mono ?_)
  rintro e w' ⟨rfl, hb⟩
  exact ⟨_, rfl, hb, rfl⟩
theorem has_nminus : Has Tryd.prog 85 := by unfold Has; kernel_rfl
theorem op_nminus (h : OutN z L (a.eval (.tmp i)) w) (hL : L ≤ 1000000) :
    Does Tryd.prog { dst, op := .call { callee := .value (.func 85), args := #[.tmp i], argTypes := ats }, type := ty, pos, after, guard } a.eval w fun v w' => Below w.heap.size w w' ∧ OutN (-z) L v w' := by
  obtain ⟨ng, ao, cap, rs, e1, W, l⟩ := h
  refine does_call has_nminus _ (by simp only [List.map_toArray, List.map_cons, List.map_nil, e1]) ((Dm.minus_g w _ _ _ _ _ W (by omega)).mono ?_)
  rintro e w' ⟨ng, ao, cap, rs, rfl, G, l, hb⟩
  exact ⟨_, rfl, hb, _, _, _, _, rfl, G, by omega⟩
theorem has_ngcd : Has Tryd.prog 96 := by unfold Has; kernel_rfl
theorem op_ngcd (h1 : OutN x L1 (a.eval (.tmp i)) w) (h2 : OutN y L2 (a.eval (.tmp j)) w) (hL : L1 ≤ 300000) (hL' : L2 ≤ 300000) :
    Does Tryd.prog { dst, op := .call { callee := .value (.func 96), args := #[.tmp i, .tmp j], argTypes := ats }, type := ty, pos, after, guard } a.eval w fun v w' => Below w.heap.size w w' ∧ OutN ((Int.gcd x y : Nat) : Int) (L1 + L2) v w' := by
  obtain ⟨ng, ao, cap, rs, e1, W, l⟩ := h1
  obtain ⟨mg, bo, dap, ss, e2, W', l'⟩ := h2
  refine does_call has_ngcd _ (by simp only [List.map_toArray, List.map_cons, List.map_nil, e1, e2]) ((Dm.ngcd_g w ng ao cap rs _ W.1 mg bo dap ss _ W'.1 (by omega) (by omega)).mono ?_)
  rintro e w' ⟨ng, ao, cap, rs, rfl, G, l, hb⟩
  rw [Dm.gcd_abs] at G
  exact ⟨_, rfl, hb, _, _, _, _, rfl, G, by omega⟩
theorem has_ndivided : Has Tryd.prog 114 := by unfold Has; kernel_rfl
theorem op_ndivided (h1 : OutN x L1 (a.eval (.tmp i)) w) (h2 : OutN y L2 (a.eval (.tmp j)) w) (hL : L1 ≤ 300000) (hL' : L2 ≤ 300000) (h0 : y ≠ 0) :
    Does Tryd.prog { dst, op := .call { callee := .value (.func 114), args := #[.tmp i, .tmp j], argTypes := ats }, type := ty, pos, after, guard } a.eval w fun v w' => Below w.heap.size w w' ∧ Tup2 (OutN ((x.natAbs : Int) / (y.natAbs : Int)) L1) (OutN ((x.natAbs : Int) % (y.natAbs : Int)) L2) v w' := by
  obtain ⟨ng, ao, cap, rs, e1, W, l⟩ := h1
  obtain ⟨mg, bo, dap, ss, e2, W', l'⟩ := h2
  refine does_call has_ndivided _ (by simp only [List.map_toArray, List.map_cons, List.map_nil, e1, e2]) ((Dm.divided_g w ng ao cap rs _ W.1 mg bo dap ss _ W'.1 (by omega) (by omega) (W'.some h0)).mono ?_)
  rintro e w' ⟨nq, pq, qq, Q, nr, pr, qr, R, rfl, G, G', l1, l2, hb⟩
  exact ⟨_, rfl, hb, _, _, rfl, ⟨_, _, _, _, rfl, G, by omega⟩, ⟨_, _, _, _, rfl, G', by omega⟩⟩
theorem has_ntold : Has Tryd.prog 46 := by unfold Has; kernel_rfl
theorem op_ntold (h : OutN z L (a.eval (.tmp i)) w) (hL : L ≤ 1000000) :
    Does Tryd.prog { dst, op := .call { callee := .value (.func 46), args := #[.tmp i], argTypes := ats }, type := ty, pos, after, guard } a.eval w fun v w' => Below w.heap.size w w' ∧ OutW z L v w' := by
  obtain ⟨ng, ao, cap, rs, e1, W, l⟩ := h
  refine does_call has_ntold _ (by simp only [List.map_toArray, List.map_cons, List.map_nil, e1]) ((Dm.told_g w _ _ _ _ _ W L (W.bound l) hL (by omega)).mono ?_)
  rintro e w' ⟨bo, dap, ls, rfl, F, l2, hb⟩
  exact ⟨_, rfl, hb, _, _, _, _, rfl, F.wh, l2⟩
theorem has_nlimbs : Has Tryd.prog 86 := by unfold Has; kernel_rfl
theorem op_nlimbs (h : OutN z L (a.eval (.tmp i)) w) (hL : L ≤ 1000000) (hz : 0 < z) :
    Does Tryd.prog { dst, op := .call { callee := .value (.func 86), args := #[.tmp i], argTypes := ats }, type := ty, pos, after, guard } a.eval w fun v w' => Below w.heap.size w w' ∧ OutL z L v w' := by
  obtain ⟨ng, ao, cap, rs, e1, W, l⟩ := h
  have hb := W.bound l
  refine does_call has_nlimbs _ (by simp only [List.map_toArray, List.map_cons, List.map_nil, e1]) ((Dm.limbs_loop w ng ao cap rs _ W.1 L hb hL (by omega) (W.some (by omega))).mono ?_)
  rintro e w' ⟨v, rfl, I, hb'⟩
  obtain ⟨ao, cap, rs, rfl, G⟩ := I.got
  have e3 : ((z.natAbs : Nat) : Int) = z := by omega
  refine ⟨_, rfl, hb', _, _, _, rfl, e3 ▸ G, canon_len G.canon (by rw [G.val]; exact hb)⟩
end
end Lm
end Go.Proofs.YtdiiankcjgoecaaDoor

