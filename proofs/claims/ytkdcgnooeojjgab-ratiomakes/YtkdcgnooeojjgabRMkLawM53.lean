/-
  The document's own fractions. RatioMakes answers true, whatever two numbers it is handed. The given statement on RatioMakes, for every input: the call answers true, and each argument reads behind it as it read before. No condition beyond the statement's own.
-/
import Derived.Test.YtkdcgnooeojjgabRMkLawM52
import Derived.Test.YtkdcgnooeojjgabRows
import Derived.ProofKit
import Derived.OpenShut
import Derived.ShutString
import Derived.ChangeOld
import Derived.SizedLaws
import Derived.Lib.SmallJoins
namespace Go.Proofs.Ytkdcgnooeojjgab
namespace Lm
open Go Go.RowKit

/-- A quotient of magnitudes with its sign. -/
def ov (x y : Int) : Int := sg (decide (x < 0) != decide (y < 0)) ((x.natAbs : Int) / (y.natAbs : Int))
theorem gcd_ne (x : Int) {y : Int} (h : y ≠ 0) : ((Int.gcd x y : Nat) : Int) ≠ 0 := by
  have := gcd_pos_right (p := x) h
  omega
theorem ov_exact {x g : Int} (hg : 0 < g) (hd : g ∣ x) : ov x g = x / g := by
  obtain ⟨k, rfl⟩ := hd
  have h1 : decide (g < 0) = false := decide_eq_false (by omega)
  have h2 : ((g.natAbs : Nat) : Int) = g := by omega
  rw [Int.mul_ediv_cancel_left _ (by omega)]
  unfold ov
  rw [h1, h2, Int.natAbs_mul]
  have h3 : ((g.natAbs * k.natAbs : Nat) : Int) = g * (k.natAbs : Int) := by
    rw [Int.natCast_mul, h2]
  rw [h3, Int.mul_ediv_cancel_left _ (by omega)]
  by_cases hk : k < 0
  · have : g * k < 0 := Int.mul_neg_of_pos_of_neg hg hk
    simp [sg, this]
    omega
  · have : ¬ g * k < 0 := by
      have := Int.mul_nonneg (show 0 ≤ g by omega) (show 0 ≤ k by omega)
      omega
    simp [sg, this]
    omega
theorem mk_pos {x y : Int} (hy : 0 < y) : ov x ((Int.gcd x y : Nat) : Int) = nm x y ∧ ov y ((Int.gcd x y : Nat) : Int) = dn x y := by
  have hg := gcd_pos_right (p := x) (show y ≠ 0 by omega)
  rw [ov_exact hg (Int.gcd_dvd_left x y), ov_exact hg (Int.gcd_dvd_right x y), nm, dn, Int.sign_eq_one_of_pos hy]
  simp
theorem mk_neg {x y : Int} (hy : y < 0) : ov (-x) ((Int.gcd (-x) (-y) : Nat) : Int) = nm x y ∧ ov (-y) ((Int.gcd (-x) (-y) : Nat) : Int) = dn x y := by
  have h := mk_pos (x := -x) (y := -y) (by omega)
  rw [h.1, h.2]
  exact low_eq (by omega) (by omega) (by grind)
/-- A copy. -/
def CopyL (xs : List Int) : Says := fun v w => ∃ ao n cap, v = .slice ao n cap ∧ Sl w (.slice ao n cap) xs
theorem CopyL.mono4 (xs : List Int) : Mono4 (CopyL xs) := fun _ _ _ hr ⟨ao, n, cap, e, h⟩ => ⟨ao, n, cap, e, h.rl hr⟩
section
variable {dst : Option Tmp} {ty : TypeId} {pos : String} {after : Array Edge} {guard : Option (Nat × Bool)} {a : Act} {w : World} {ats : Array TypeId} {i j : Nat}
theorem has_lcopy : Has Try.prog 57 := by unfold Has; kernel_rfl
theorem op_lcopy {ao : Option Addr} {n c : Nat} {xs : List Int} (h : a.eval (.tmp i) = .slice ao n c) (hs : Sl w (.slice ao n c) xs) (hl : xs.length ≤ 1000000) :
    Does Try.prog { dst, op := .call { callee := .value (.func 57), args := #[.tmp i], argTypes := ats }, type := ty, pos, after, guard } a.eval w fun v w' => Below w.heap.size w w' ∧ CopyL xs v w' := by
  refine does_call has_lcopy _ (by simp only [List.map_toArray, List.map_cons, List.map_nil, h]) ((copy_any w ao n c xs hs hl).mono ?_)
  rintro e w' ⟨v, rfl, O, hb⟩
  obtain ⟨ao', cap', hv, h1⟩ := O.sl
  exact ⟨_, rfl, hb, ao', _, cap', hv, hv ▸ O.sl⟩
theorem op_bWc {b : Bool} {xs : List Int} {z : Int} {L : Nat} (h1 : a.eval (.tmp i) = .bool b) (h2 : CopyL xs (a.eval (.tmp j)) w) (hz : sg b (val xs) = z) (hl : xs.length ≤ L) : Does Try.prog { dst, op := .build 24 #[(0, .tmp i), (1, .tmp j)], type := ty, pos, after, guard } a.eval w fun v' w' => Below w.heap.size w w' ∧ IsW z L v' w' := by
  obtain ⟨ao, n, cap, e, hs⟩ := h2
  exact (op_bW2 h1 e).mono (fun v w' ⟨hb, e⟩ => ⟨hb, isw_eq e ⟨hs.below hb, hz⟩ hl⟩)
end

set_option maxRecDepth 20000 in
set_option maxHeartbeats 2000000 in
theorem nover_z (w : World) (Bx : Nat) (nx : Bool) (ax : Option Addr) (cx : Nat) (xs : List Int) (zx : Int) (Gx : Dm.Wh w nx ax cx xs zx) (Lx : xs.length ≤ Bx) (By : Nat) (ny : Bool) (ay : Option Addr) (cy : Nat) (ys : List Int) (zy : Int) (Gy : Dm.Wh w ny ay cy ys zy) (Ly : ys.length ≤ By) (hL : Bx ≤ 300000) (hL2 : By ≤ 300000) (hy : zy ≠ 0) :
    Calls Try.prog 87 #[.agg #[.bool nx, .slice ax xs.length cx], .agg #[.bool ny, .slice ay ys.length cy]] w fun e w' => ∃ v, e = .returned v ∧ (OutN (ov zx zy) Bx) v w' ∧ Below w.heap.size w w' := by
  go_enter Try.func87, Try.ntmps87
  generalize hA : (Act.mk _ _) = aa
  have hn : aa.tmps.size = 21 := by rw [← hA]; rfl
  have hd : aa.defers = [] := by rw [← hA]
  have f0 : aa.eval (.tmp 0) = .agg #[.bool nx, .slice ax xs.length cx] := by rw [← hA]; rfl
  have f1 : aa.eval (.tmp 1) = .agg #[.bool ny, .slice ay ys.length cy] := by rw [← hA]; rfl
  clear hA
  have HB : Below w.heap.size w w := Below.refl _ _
  refine wp_seq ?_
  refine region4 [some 2, some 3, some 4] [(fun _ _ => True), (fun _ _ => True), (fun _ _ => True)] [⟨N2, some 0, 0, 2, .agg #[.bool nx, .slice ax xs.length cx], none, []⟩, ⟨N2, some 1, 0, 3, .agg #[.bool ny, .slice ay ys.length cy], none, []⟩, ⟨N2, some 2, 0, 4, .agg #[.bool false, .slice none 0 0], none, []⟩] [] (by kernel_rfl) hn rfl (by kernel_rfl) (by kernel_rfl) (by kernel_rfl) (by kernel_rfl) (by kernel_rfl) (by kernel_rfl) ⟨True.mono4, True.mono4, True.mono4, trivial⟩ (ok_cons N2ok (ok_cons N2ok (ok_cons N2ok ok_nil))) (IsOld.all (bx := [⟨N2, some 0, 0, 2, .agg #[.bool nx, .slice ax xs.length cx], none, []⟩, ⟨N2, some 1, 0, 3, .agg #[.bool ny, .slice ay ys.length cy], none, []⟩, ⟨N2, some 2, 0, 4, .agg #[.bool false, .slice none 0 0], none, []⟩]) ⟨someNe, someNe, someNe, trivial⟩) (DisOld.all (bx := [⟨N2, some 0, 0, 2, .agg #[.bool nx, .slice ax xs.length cx], none, []⟩, ⟨N2, some 1, 0, 3, .agg #[.bool ny, .slice ay ys.length cy], none, []⟩, ⟨N2, some 2, 0, 4, .agg #[.bool false, .slice none 0 0], none, []⟩]) ⟨someNe, someNe, someNe, trivial⟩) ?_ ?_
  · exact ⟨.alloc 0 _ rfl rfl (.inr ⟨_, rfl, n2_cs, fun a_ hR => (hR 0 rfl).trans f0⟩) rfl rfl rfl rfl rfl,
      .alloc 1 _ rfl rfl (.inr ⟨_, rfl, n2_cs, fun a_ hR => (hR 1 rfl).trans f1⟩) rfl rfl rfl rfl rfl,
      .alloc 2 _ rfl rfl (.inl ⟨rfl, rfl⟩) rfl rfl rfl rfl rfl,
      trivial⟩
  · intro a1 w1 gs1 hn1 hd1 hBt hr hR hP hX hU
    replace hn := hn1; replace hd := hd1.trans hd
    have ne2_4 : gs1 0 ≠ gs1 2 := hU 0 2 (by simp) (by simp) (by decide)
    have ne3_4 : gs1 1 ≠ gs1 2 := hU 1 2 (by simp) (by simp) (by decide)
    have b2 : BoxV N2 w1 (gs1 0) (.agg #[.bool nx, .slice ax xs.length cx]) := (hX 0 _ rfl).2.2.2
    have f2 := (hX 0 _ rfl).1
    have u2 : w.heap.size ≤ gs1 0 := Nat.le_trans HB.size ((hX 0 _ rfl).2.2.1 (by simp))
    have b3 : BoxV N2 w1 (gs1 1) (.agg #[.bool ny, .slice ay ys.length cy]) := (hX 1 _ rfl).2.2.2
    have f3 := (hX 1 _ rfl).1
    have u3 : w.heap.size ≤ gs1 1 := Nat.le_trans HB.size ((hX 1 _ rfl).2.2.1 (by simp))
    have b4 : BoxV N2 w1 (gs1 2) (.agg #[.bool false, .slice none 0 0]) := (hX 2 _ rfl).2.2.2
    have f4 := (hX 2 _ rfl).1
    have u4 : w.heap.size ≤ gs1 2 := Nat.le_trans HB.size ((hX 2 _ rfl).2.2.1 (by simp))
    replace Gx := Gx.rl hr
    replace Gy := Gy.rl hr
    replace HB := HB.trans (hBt.below HB.size (UpOld.all (bx := [⟨N2, some 0, 0, 2, .agg #[.bool nx, .slice ax xs.length cx], none, []⟩, ⟨N2, some 1, 0, 3, .agg #[.bool ny, .slice ay ys.length cy], none, []⟩, ⟨N2, some 2, 0, 4, .agg #[.bool false, .slice none 0 0], none, []⟩]) ⟨someNe, someNe, someNe, trivial⟩))
    clear hBt hr hR hP hX hU
    refine wp_seq ?_
    refine region4 [some 8, some 9, some 10, some 7, some 11, some 12, some 5, some 6, none, none] [Eqs (.agg #[.bool nx, .slice ax xs.length cx]), Eqs (.agg #[.bool ny, .slice ay ys.length cy]), Tup2 (OutN ((((zx).natAbs : Int) / ((zy).natAbs : Int))) (Bx)) (OutN ((((zx).natAbs : Int) % ((zy).natAbs : Int))) (By)), Tup2 (OutN ((((zx).natAbs : Int) / ((zy).natAbs : Int))) (Bx)) (OutN ((((zx).natAbs : Int) % ((zy).natAbs : Int))) (By)), OutN ((((zx).natAbs : Int) / ((zy).natAbs : Int))) (Bx), OutN ((((zx).natAbs : Int) % ((zy).natAbs : Int))) (By), (fun _ _ => True), (fun _ _ => True), (fun _ _ => True), (fun _ _ => True)] [⟨N2, some 6, 0, 5, .agg #[.bool false, .slice none 0 0], some (8, 11, 4), []⟩, ⟨N2, some 7, 0, 6, .agg #[.bool false, .slice none 0 0], some (9, 12, 5), []⟩] [] (by kernel_rfl) hn rfl (by kernel_rfl) (by kernel_rfl) (by kernel_rfl) (by kernel_rfl) (by kernel_rfl) (by kernel_rfl) ⟨Eqs.mono4 _, Eqs.mono4 _, Tup2.mono4 (OutN.mono4 _ _) (OutN.mono4 _ _), Tup2.mono4 (OutN.mono4 _ _) (OutN.mono4 _ _), OutN.mono4 _ _, OutN.mono4 _ _, True.mono4, True.mono4, True.mono4, True.mono4, trivial⟩ (ok_cons N2ok (ok_cons N2ok ok_nil)) (IsOld.all (bx := [⟨N2, some 6, 0, 5, .agg #[.bool false, .slice none 0 0], some (8, 11, 4), []⟩, ⟨N2, some 7, 0, 6, .agg #[.bool false, .slice none 0 0], some (9, 12, 5), []⟩]) ⟨someNe, someNe, trivial⟩) (DisOld.all (bx := [⟨N2, some 6, 0, 5, .agg #[.bool false, .slice none 0 0], some (8, 11, 4), []⟩, ⟨N2, some 7, 0, 6, .agg #[.bool false, .slice none 0 0], some (9, 12, 5), []⟩]) ⟨someNe, someNe, trivial⟩) ?_ ?_
    · exact ⟨.norm 8 rfl rfl rfl (fun a_ w_ hn_ hBt hr hR hD hO hS => op_loadv N2ok ((hR 2 rfl).trans f2) (b2.keep hBt ⟨someNe, someNe, trivial⟩)),
        .norm 9 rfl rfl rfl (fun a_ w_ hn_ hBt hr hR hD hO hS => op_loadv N2ok ((hR 3 rfl).trans f3) (b3.keep hBt ⟨someNe, someNe, trivial⟩)),
        .norm 10 rfl rfl rfl (fun a_ w_ hn_ hBt hr hR hD hO hS => op_ndivided (outn_eq (show a_.eval (.tmp 8) = .agg #[.bool nx, .slice ax xs.length cx] from hD 0 rfl) (Gx.rl hr) Lx) (outn_eq (show a_.eval (.tmp 9) = .agg #[.bool ny, .slice ay ys.length cy] from hD 1 rfl) (Gy.rl hr) Ly) (by omega) (by omega) hy),
        .norm 7 rfl rfl rfl (fun a_ w_ hn_ hBt hr hR hD hO hS => op_mvp (p := Tup2 (OutN ((((zx).natAbs : Int) / ((zy).natAbs : Int))) (Bx)) (OutN ((((zx).natAbs : Int) % ((zy).natAbs : Int))) (By))) (show Tup2 (OutN ((((zx).natAbs : Int) / ((zy).natAbs : Int))) (Bx)) (OutN ((((zx).natAbs : Int) % ((zy).natAbs : Int))) (By)) (a_.eval (.tmp 10)) w_ from hD 2 rfl)),
        .norm 11 rfl rfl rfl (fun a_ w_ hn_ hBt hr hR hD hO hS => op_ex20 (show Tup2 (OutN ((((zx).natAbs : Int) / ((zy).natAbs : Int))) (Bx)) (OutN ((((zx).natAbs : Int) % ((zy).natAbs : Int))) (By)) (a_.eval (.tmp 7)) w_ from hD 3 rfl)),
        .norm 12 rfl rfl rfl (fun a_ w_ hn_ hBt hr hR hD hO hS => op_ex21 (show Tup2 (OutN ((((zx).natAbs : Int) / ((zy).natAbs : Int))) (Bx)) (OutN ((((zx).natAbs : Int) % ((zy).natAbs : Int))) (By)) (a_.eval (.tmp 7)) w_ from hD 3 rfl)),
        .alloc 0 _ rfl rfl (.inl ⟨rfl, rfl⟩) rfl rfl rfl rfl rfl,
        .alloc 1 _ rfl rfl (.inl ⟨rfl, rfl⟩) rfl rfl rfl rfl rfl,
        .store 0 _ _ _ rfl rfl rfl rfl rfl rfl rfl (fun ia h => by cases h; rfl) rfl rfl rfl OutN.cs,
        .store 1 _ _ _ rfl rfl rfl rfl rfl rfl rfl (fun ia h => by cases h; rfl) rfl rfl rfl OutN.cs,
        trivial⟩
    · intro a2 w2 gs2 hn2 hd2 hBt hr hR hP hX hU
      replace hn := hn2; replace hd := hd2.trans hd
      have ne2_5 : (gs1 0) ≠ gs2 0 := by have h1 := b2.lt; have h2 := (hX 0 _ rfl).2.2.1 (by simp); omega
      have ne3_5 : (gs1 1) ≠ gs2 0 := by have h1 := b3.lt; have h2 := (hX 0 _ rfl).2.2.1 (by simp); omega
      have ne4_5 : (gs1 2) ≠ gs2 0 := by have h1 := b4.lt; have h2 := (hX 0 _ rfl).2.2.1 (by simp); omega
      replace b2 := b2.keep hBt ⟨someNe, someNe, trivial⟩
      replace b3 := b3.keep hBt ⟨someNe, someNe, trivial⟩
      replace b4 := b4.keep hBt ⟨someNe, someNe, trivial⟩
      obtain ⟨n_3, a_3, c_3, r_3, e11, G3, l3⟩ : OutN ((((zx).natAbs : Int) / ((zy).natAbs : Int))) (Bx) (a2.eval (.tmp 11)) w2 := hP 4 (by decide)
      have b5 : BoxV N2 w2 (gs2 0) (.agg #[.bool n_3, .slice a_3 r_3.length c_3]) := boxv_of (hX 0 _ rfl).2.2.2 e11
      have f5 := (hX 0 _ rfl).1
      have u5 : w.heap.size ≤ gs2 0 := Nat.le_trans HB.size ((hX 0 _ rfl).2.2.1 (by simp))
      replace f2 := (hR 2 rfl).trans f2
      replace f3 := (hR 3 rfl).trans f3
      replace f4 := (hR 4 rfl).trans f4
      replace Gx := Gx.rl hr
      replace Gy := Gy.rl hr
      replace HB := HB.trans (hBt.below HB.size (UpOld.all (bx := [⟨N2, some 6, 0, 5, .agg #[.bool false, .slice none 0 0], some (8, 11, 4), []⟩, ⟨N2, some 7, 0, 6, .agg #[.bool false, .slice none 0 0], some (9, 12, 5), []⟩]) ⟨someNe, someNe, trivial⟩))
      clear hBt hr hR hP hX hU
      refine wp_seq ?_
      refine wp_seq ?_
      refine region4 [some 13, some 14, some 15, some 16, some 17] [Eqs (.pointer (some ⟨gs1 0, 0, none⟩)), Eqs (.bool nx), Eqs (.pointer (some ⟨gs1 1, 0, none⟩)), Eqs (.bool ny), Eqs (.bool (nx != ny))] [] [] (by kernel_rfl) hn rfl (by kernel_rfl) (by kernel_rfl) (by kernel_rfl) (by kernel_rfl) (by kernel_rfl) (by kernel_rfl) ⟨Eqs.mono4 _, Eqs.mono4 _, Eqs.mono4 _, Eqs.mono4 _, Eqs.mono4 _, trivial⟩ ok_nil (IsOld.all (bx := []) trivial) (DisOld.all (bx := []) trivial) ?_ ?_
      · exact ⟨.norm 13 rfl rfl rfl (fun a_ w_ hn_ hBt hr hR hD hO hS => op_faN fa_nneg ((hR 2 rfl).trans f2)),
          .norm 14 rfl rfl rfl (fun a_ w_ hn_ hBt hr hR hD hO hS => op_ldnneg (show a_.eval (.tmp 13) = .pointer (some ⟨gs1 0, 0, none⟩) from hD 0 rfl) (b2.keep hBt trivial)),
          .norm 15 rfl rfl rfl (fun a_ w_ hn_ hBt hr hR hD hO hS => op_faN fa_nneg ((hR 3 rfl).trans f3)),
          .norm 16 rfl rfl rfl (fun a_ w_ hn_ hBt hr hR hD hO hS => op_ldnneg (show a_.eval (.tmp 15) = .pointer (some ⟨gs1 1, 0, none⟩) from hD 2 rfl) (b3.keep hBt trivial)),
          .norm 17 rfl rfl rfl (fun a_ w_ hn_ hBt hr hR hD hO hS => op_neqb (show a_.eval (.tmp 14) = .bool nx from hD 1 rfl) (show a_.eval (.tmp 16) = .bool ny from hD 3 rfl)),
          trivial⟩
      · intro a4 w4 gs4 hn4 hd4 hBt hr hR hP hX hU
        replace hn := hn4; replace hd := hd4.trans hd
        replace b4 := b4.keep hBt trivial
        replace b5 := b5.keep hBt trivial
        replace f4 := (hR 4 rfl).trans f4
        replace f5 := (hR 5 rfl).trans f5
        have e17 : a4.eval (.tmp 17) = .bool (nx != ny) := hP 4 (by decide)
        have f17 := e17
        replace Gx := Gx.rl hr
        replace Gy := Gy.rl hr
        replace G3 := G3.rl hr
        replace HB := HB.trans (hBt.below HB.size (UpOld.all (bx := []) trivial))
        clear hBt hr hR hP hX hU
        refine wp_cond_split f17 (fun hc17 => ?_) (fun hc17 => ?_)
        · skip
          refine region4 [some 18, some 19, none] [Eqs (.agg #[.bool n_3, .slice a_3 r_3.length c_3]), OutN ((-(((zx).natAbs : Int) / ((zy).natAbs : Int)))) (Bx), (fun _ _ => True)] [⟨N2, none, (gs2 0), 5, .agg #[.bool n_3, .slice a_3 r_3.length c_3], some (2, 19, 1), [0]⟩] [] (by kernel_rfl) hn rfl (by kernel_rfl) (by kernel_rfl) (by kernel_rfl) (by kernel_rfl) (by kernel_rfl) (by kernel_rfl) ⟨Eqs.mono4 _, OutN.mono4 _ _, True.mono4, trivial⟩ (ok_cons N2ok ok_nil) (IsOld.all (bx := [⟨N2, none, (gs2 0), 5, .agg #[.bool n_3, .slice a_3 r_3.length c_3], some (2, 19, 1), [0]⟩]) ⟨fun _ => ⟨f5, b5⟩, trivial⟩) (DisOld.all (bx := [⟨N2, none, (gs2 0), 5, .agg #[.bool n_3, .slice a_3 r_3.length c_3], some (2, 19, 1), [0]⟩]) ⟨fun _ => trivial, trivial⟩) ?_ ?_
          · exact ⟨.norm 18 rfl rfl rfl (fun a_ w_ hn_ hBt hr hR hD hO hS => op_loadv N2ok ((hR 5 rfl).trans f5) (hO 0 _ rfl rfl rfl)),
              .norm 19 rfl rfl rfl (fun a_ w_ hn_ hBt hr hR hD hO hS => op_nminus (outn_eq (show a_.eval (.tmp 18) = .agg #[.bool n_3, .slice a_3 r_3.length c_3] from hD 0 rfl) (G3.rl hr) l3) (by omega)),
              .store 0 _ _ _ rfl rfl rfl rfl rfl rfl rfl (fun ia h => by cases h) rfl rfl rfl OutN.cs,
              trivial⟩
          · intro a5 w5 gs5 hn5 hd5 hBt hr hR hP hX hU
            replace hn := hn5; replace hd := hd5.trans hd
            replace b4 := b4.keep hBt ⟨fun _ => ne4_5.symm, trivial⟩
            obtain ⟨n_6, a_6, c_6, r_6, e19, G6, l6⟩ : OutN ((-(((zx).natAbs : Int) / ((zy).natAbs : Int)))) (Bx) (a5.eval (.tmp 19)) w5 := hP 1 (by decide)
            have b5 : BoxV N2 w5 ((gs2 0)) (.agg #[.bool n_6, .slice a_6 r_6.length c_6]) := boxv_old ((hX 0 _ rfl).2.1 rfl) (hX 0 _ rfl).2.2.2 e19
            replace f5 : a5.eval (.tmp 5) = _ := (hR 5 rfl).trans f5
            replace f4 := (hR 4 rfl).trans f4
            replace Gx := Gx.rl hr
            replace Gy := Gy.rl hr
            replace G3 := G3.rl hr
            replace HB := HB.trans (hBt.below HB.size (UpOld.all (bx := [⟨N2, none, (gs2 0), 5, .agg #[.bool n_3, .slice a_3 r_3.length c_3], some (2, 19, 1), [0]⟩]) ⟨fun _ => u5, trivial⟩))
            clear hBt hr hR hP hX hU
            refine wp_seq ?_
            refine region4 [some 20, none] [Eqs (.agg #[.bool n_6, .slice a_6 r_6.length c_6]), (fun _ _ => True)] [⟨N2, none, (gs1 2), 4, .agg #[.bool false, .slice none 0 0], some (1, 20, 0), []⟩] [] (by kernel_rfl) hn rfl (by kernel_rfl) (by kernel_rfl) (by kernel_rfl) (by kernel_rfl) (by kernel_rfl) (by kernel_rfl) ⟨Eqs.mono4 _, True.mono4, trivial⟩ (ok_cons N2ok ok_nil) (IsOld.all (bx := [⟨N2, none, (gs1 2), 4, .agg #[.bool false, .slice none 0 0], some (1, 20, 0), []⟩]) ⟨fun _ => ⟨f4, b4⟩, trivial⟩) (DisOld.all (bx := [⟨N2, none, (gs1 2), 4, .agg #[.bool false, .slice none 0 0], some (1, 20, 0), []⟩]) ⟨fun _ => trivial, trivial⟩) ?_ ?_
            · exact ⟨.norm 20 rfl rfl rfl (fun a_ w_ hn_ hBt hr hR hD hO hS => op_loadv N2ok ((hR 5 rfl).trans f5) (b5.keep hBt ⟨fun _ => ne4_5, trivial⟩)),
                .store 0 _ _ _ rfl rfl rfl rfl rfl rfl rfl (fun ia h => by cases h) rfl rfl rfl (eqs_cs n2_cs),
                trivial⟩
            · intro a7 w7 gs7 hn7 hd7 hBt hr hR hP hX hU
              replace hn := hn7; replace hd := hd7.trans hd
              have e20 : a7.eval (.tmp 20) = .agg #[.bool n_6, .slice a_6 r_6.length c_6] := hP 0 (by decide)
              have b4 : BoxV N2 w7 ((gs1 2)) (.agg #[.bool n_6, .slice a_6 r_6.length c_6]) := boxv_old ((hX 0 _ rfl).2.1 rfl) (hX 0 _ rfl).2.2.2 e20
              replace f4 : a7.eval (.tmp 4) = _ := (hR 4 rfl).trans f4
              replace Gx := Gx.rl hr
              replace Gy := Gy.rl hr
              replace G3 := G3.rl hr
              replace G6 := G6.rl hr
              replace HB := HB.trans (hBt.below HB.size (UpOld.all (bx := [⟨N2, none, (gs1 2), 4, .agg #[.bool false, .slice none 0 0], some (1, 20, 0), []⟩]) ⟨fun _ => u4, trivial⟩))
              clear hBt hr hR hP hX hU
              refine wp_ret ?_
              repeat (first | refine then_ret ?_ | refine scope_ret ?_ | refine block_ret ?_)
              exact bodyPost_ret (v := .agg #[.bool n_6, .slice a_6 r_6.length c_6]) (res_c rfl f4 (lv_N2 b4)) hd ⟨_, rfl, OutN.to (outn_eq rfl G6 l6) (by rw [ov, ← Gx.2, ← Gy.2, hc17]; rfl) (by omega), HB⟩
        · skip
          refine wp_skip ?_
          refine wp_seq ?_
          refine region4 [some 20, none] [Eqs (.agg #[.bool n_3, .slice a_3 r_3.length c_3]), (fun _ _ => True)] [⟨N2, none, (gs1 2), 4, .agg #[.bool false, .slice none 0 0], some (1, 20, 0), []⟩] [] (by kernel_rfl) hn rfl (by kernel_rfl) (by kernel_rfl) (by kernel_rfl) (by kernel_rfl) (by kernel_rfl) (by kernel_rfl) ⟨Eqs.mono4 _, True.mono4, trivial⟩ (ok_cons N2ok ok_nil) (IsOld.all (bx := [⟨N2, none, (gs1 2), 4, .agg #[.bool false, .slice none 0 0], some (1, 20, 0), []⟩]) ⟨fun _ => ⟨f4, b4⟩, trivial⟩) (DisOld.all (bx := [⟨N2, none, (gs1 2), 4, .agg #[.bool false, .slice none 0 0], some (1, 20, 0), []⟩]) ⟨fun _ => trivial, trivial⟩) ?_ ?_
          · exact ⟨.norm 20 rfl rfl rfl (fun a_ w_ hn_ hBt hr hR hD hO hS => op_loadv N2ok ((hR 5 rfl).trans f5) (b5.keep hBt ⟨fun _ => ne4_5, trivial⟩)),
              .store 0 _ _ _ rfl rfl rfl rfl rfl rfl rfl (fun ia h => by cases h) rfl rfl rfl (eqs_cs n2_cs),
              trivial⟩
          · intro a8 w8 gs8 hn8 hd8 hBt hr hR hP hX hU
            replace hn := hn8; replace hd := hd8.trans hd
            have e20 : a8.eval (.tmp 20) = .agg #[.bool n_3, .slice a_3 r_3.length c_3] := hP 0 (by decide)
            have b4 : BoxV N2 w8 ((gs1 2)) (.agg #[.bool n_3, .slice a_3 r_3.length c_3]) := boxv_old ((hX 0 _ rfl).2.1 rfl) (hX 0 _ rfl).2.2.2 e20
            replace f4 : a8.eval (.tmp 4) = _ := (hR 4 rfl).trans f4
            replace Gx := Gx.rl hr
            replace Gy := Gy.rl hr
            replace G3 := G3.rl hr
            replace HB := HB.trans (hBt.below HB.size (UpOld.all (bx := [⟨N2, none, (gs1 2), 4, .agg #[.bool false, .slice none 0 0], some (1, 20, 0), []⟩]) ⟨fun _ => u4, trivial⟩))
            clear hBt hr hR hP hX hU
            refine wp_ret ?_
            repeat (first | refine then_ret ?_ | refine scope_ret ?_ | refine block_ret ?_)
            exact bodyPost_ret (v := .agg #[.bool n_3, .slice a_3 r_3.length c_3]) (res_c rfl f4 (lv_N2 b4)) hd ⟨_, rfl, OutN.to (outn_eq rfl G3 l3) (by rw [ov, ← Gx.2, ← Gy.2, hc17]; rfl) (by omega), HB⟩

theorem has_nover : Has Try.prog 87 := by unfold Has; kernel_rfl
theorem op_nover {dst : Option Tmp} {ty : TypeId} {pos : String} {after : Array Edge} {guard : Option (Nat × Bool)} {a : Act} {w : World} {ats : Array TypeId} {i j : Nat} {Bx : Nat} {zx : Int} (Hx : OutN zx Bx (a.eval (.tmp i)) w) {By : Nat} {zy : Int} (Hy : OutN zy By (a.eval (.tmp j)) w) (hL : Bx ≤ 300000) (hL2 : By ≤ 300000) (hy : zy ≠ 0) :
    Does Try.prog { dst, op := .call { callee := .value (.func 87), args := #[.tmp i, .tmp j], argTypes := ats }, type := ty, pos, after, guard } a.eval w fun v w' => Below w.heap.size w w' ∧ (OutN (ov zx zy) Bx) v w' := by
  obtain ⟨nx, ax, cx, xs, ex, Gx, Lx⟩ := Hx
  obtain ⟨ny, ay, cy, ys, ey, Gy, Ly⟩ := Hy
  refine does_call has_nover _ (by simp only [List.map_toArray, List.map_cons, List.map_nil, ex, ey]) ((nover_z w Bx _ _ _ _ _ Gx Lx By _ _ _ _ _ Gy Ly hL hL2 hy).mono ?_)
  rintro e w' ⟨v, rfl, h1, hb⟩
  exact ⟨_, rfl, hb, h1⟩

set_option maxRecDepth 20000 in
set_option maxHeartbeats 2000000 in
theorem qmake_z (w : World) (Bx : Nat) (nx : Bool) (ax : Option Addr) (cx : Nat) (xs : List Int) (zx : Int) (Gx : Dm.Wh w nx ax cx xs zx) (Lx : xs.length ≤ Bx) (By : Nat) (ny : Bool) (ay : Option Addr) (cy : Nat) (ys : List Int) (zy : Int) (Gy : Dm.Wh w ny ay cy ys zy) (Ly : ys.length ≤ By) (hL : Bx + By ≤ 300000) (hy : zy ≠ 0) :
    Calls Try.prog 59 #[.agg #[.bool nx, .slice ax xs.length cx], .agg #[.bool ny, .slice ay ys.length cy]] w fun e w' => ∃ v, e = .returned v ∧ (OutQ (nm zx zy) (dn zx zy) (Bx + By)) v w' ∧ Below w.heap.size w w' := by
  go_enter Try.func59, Try.ntmps59
  generalize hA : (Act.mk _ _) = aa
  have hn : aa.tmps.size = 22 := by rw [← hA]; rfl
  have hd : aa.defers = [] := by rw [← hA]
  have f0 : aa.eval (.tmp 0) = .agg #[.bool nx, .slice ax xs.length cx] := by rw [← hA]; rfl
  have f1 : aa.eval (.tmp 1) = .agg #[.bool ny, .slice ay ys.length cy] := by rw [← hA]; rfl
  clear hA
  have HB : Below w.heap.size w w := Below.refl _ _
  refine wp_seq ?_
  refine region4 [some 2, some 3, some 4] [(fun _ _ => True), (fun _ _ => True), (fun _ _ => True)] [⟨N2, some 0, 0, 2, .agg #[.bool nx, .slice ax xs.length cx], none, []⟩, ⟨N2, some 1, 0, 3, .agg #[.bool ny, .slice ay ys.length cy], none, []⟩, ⟨Q4, some 2, 0, 4, .agg #[.bool false, .slice none 0 0, .bool false, .slice none 0 0], none, []⟩] [] (by kernel_rfl) hn rfl (by kernel_rfl) (by kernel_rfl) (by kernel_rfl) (by kernel_rfl) (by kernel_rfl) (by kernel_rfl) ⟨True.mono4, True.mono4, True.mono4, trivial⟩ (ok_cons N2ok (ok_cons N2ok (ok_cons Q4ok ok_nil))) (IsOld.all (bx := [⟨N2, some 0, 0, 2, .agg #[.bool nx, .slice ax xs.length cx], none, []⟩, ⟨N2, some 1, 0, 3, .agg #[.bool ny, .slice ay ys.length cy], none, []⟩, ⟨Q4, some 2, 0, 4, .agg #[.bool false, .slice none 0 0, .bool false, .slice none 0 0], none, []⟩]) ⟨someNe, someNe, someNe, trivial⟩) (DisOld.all (bx := [⟨N2, some 0, 0, 2, .agg #[.bool nx, .slice ax xs.length cx], none, []⟩, ⟨N2, some 1, 0, 3, .agg #[.bool ny, .slice ay ys.length cy], none, []⟩, ⟨Q4, some 2, 0, 4, .agg #[.bool false, .slice none 0 0, .bool false, .slice none 0 0], none, []⟩]) ⟨someNe, someNe, someNe, trivial⟩) ?_ ?_
  · exact ⟨.alloc 0 _ rfl rfl (.inr ⟨_, rfl, n2_cs, fun a_ hR => (hR 0 rfl).trans f0⟩) rfl rfl rfl rfl rfl,
      .alloc 1 _ rfl rfl (.inr ⟨_, rfl, n2_cs, fun a_ hR => (hR 1 rfl).trans f1⟩) rfl rfl rfl rfl rfl,
      .alloc 2 _ rfl rfl (.inl ⟨rfl, rfl⟩) rfl rfl rfl rfl rfl,
      trivial⟩
  · intro a1 w1 gs1 hn1 hd1 hBt hr hR hP hX hU
    replace hn := hn1; replace hd := hd1.trans hd
    have ne2_3 : gs1 0 ≠ gs1 1 := hU 0 1 (by simp) (by simp) (by decide)
    have ne2_4 : gs1 0 ≠ gs1 2 := hU 0 2 (by simp) (by simp) (by decide)
    have ne3_4 : gs1 1 ≠ gs1 2 := hU 1 2 (by simp) (by simp) (by decide)
    have b2 : BoxV N2 w1 (gs1 0) (.agg #[.bool nx, .slice ax xs.length cx]) := (hX 0 _ rfl).2.2.2
    have f2 := (hX 0 _ rfl).1
    have u2 : w.heap.size ≤ gs1 0 := Nat.le_trans HB.size ((hX 0 _ rfl).2.2.1 (by simp))
    have b3 : BoxV N2 w1 (gs1 1) (.agg #[.bool ny, .slice ay ys.length cy]) := (hX 1 _ rfl).2.2.2
    have f3 := (hX 1 _ rfl).1
    have u3 : w.heap.size ≤ gs1 1 := Nat.le_trans HB.size ((hX 1 _ rfl).2.2.1 (by simp))
    have b4 : BoxV Q4 w1 (gs1 2) (.agg #[.bool false, .slice none 0 0, .bool false, .slice none 0 0]) := (hX 2 _ rfl).2.2.2
    have f4 := (hX 2 _ rfl).1
    have u4 : w.heap.size ≤ gs1 2 := Nat.le_trans HB.size ((hX 2 _ rfl).2.2.1 (by simp))
    replace Gx := Gx.rl hr
    replace Gy := Gy.rl hr
    replace HB := HB.trans (hBt.below HB.size (UpOld.all (bx := [⟨N2, some 0, 0, 2, .agg #[.bool nx, .slice ax xs.length cx], none, []⟩, ⟨N2, some 1, 0, 3, .agg #[.bool ny, .slice ay ys.length cy], none, []⟩, ⟨Q4, some 2, 0, 4, .agg #[.bool false, .slice none 0 0, .bool false, .slice none 0 0], none, []⟩]) ⟨someNe, someNe, someNe, trivial⟩))
    clear hBt hr hR hP hX hU
    refine wp_seq ?_
    refine wp_seq ?_
    refine region4 [some 6, some 7] [Eqs (.pointer (some ⟨gs1 1, 0, none⟩)), Eqs (.bool ny)] [] [] (by kernel_rfl) hn rfl (by kernel_rfl) (by kernel_rfl) (by kernel_rfl) (by kernel_rfl) (by kernel_rfl) (by kernel_rfl) ⟨Eqs.mono4 _, Eqs.mono4 _, trivial⟩ ok_nil (IsOld.all (bx := []) trivial) (DisOld.all (bx := []) trivial) ?_ ?_
    · exact ⟨.norm 6 rfl rfl rfl (fun a_ w_ hn_ hBt hr hR hD hO hS => op_faN fa_nneg ((hR 3 rfl).trans f3)),
        .norm 7 rfl rfl rfl (fun a_ w_ hn_ hBt hr hR hD hO hS => op_ldnneg (show a_.eval (.tmp 6) = .pointer (some ⟨gs1 1, 0, none⟩) from hD 0 rfl) (b3.keep hBt trivial)),
        trivial⟩
    · intro a2 w2 gs2 hn2 hd2 hBt hr hR hP hX hU
      replace hn := hn2; replace hd := hd2.trans hd
      replace b2 := b2.keep hBt trivial
      replace b3 := b3.keep hBt trivial
      replace b4 := b4.keep hBt trivial
      replace f2 := (hR 2 rfl).trans f2
      replace f3 := (hR 3 rfl).trans f3
      replace f4 := (hR 4 rfl).trans f4
      have e7 : a2.eval (.tmp 7) = .bool ny := hP 1 (by decide)
      have f7 := e7
      replace Gx := Gx.rl hr
      replace Gy := Gy.rl hr
      replace HB := HB.trans (hBt.below HB.size (UpOld.all (bx := []) trivial))
      clear hBt hr hR hP hX hU
      refine wp_cond_split f7 (fun hc7 => ?_) (fun hc7 => ?_)
      · skip
        have hc7' : zy < 0 := by have h := Gy.2; rw [hc7] at h; exact of_decide_eq_true h.symm
        refine wp_seq ?_
        refine region4 [some 8, some 9, none] [Eqs (.agg #[.bool nx, .slice ax xs.length cx]), OutN ((-zx)) (Bx), (fun _ _ => True)] [⟨N2, none, (gs1 0), 2, .agg #[.bool nx, .slice ax xs.length cx], some (2, 9, 1), [0]⟩] [] (by kernel_rfl) hn rfl (by kernel_rfl) (by kernel_rfl) (by kernel_rfl) (by kernel_rfl) (by kernel_rfl) (by kernel_rfl) ⟨Eqs.mono4 _, OutN.mono4 _ _, True.mono4, trivial⟩ (ok_cons N2ok ok_nil) (IsOld.all (bx := [⟨N2, none, (gs1 0), 2, .agg #[.bool nx, .slice ax xs.length cx], some (2, 9, 1), [0]⟩]) ⟨fun _ => ⟨f2, b2⟩, trivial⟩) (DisOld.all (bx := [⟨N2, none, (gs1 0), 2, .agg #[.bool nx, .slice ax xs.length cx], some (2, 9, 1), [0]⟩]) ⟨fun _ => trivial, trivial⟩) ?_ ?_
        · exact ⟨.norm 8 rfl rfl rfl (fun a_ w_ hn_ hBt hr hR hD hO hS => op_loadv N2ok ((hR 2 rfl).trans f2) (hO 0 _ rfl rfl rfl)),
            .norm 9 rfl rfl rfl (fun a_ w_ hn_ hBt hr hR hD hO hS => op_nminus (outn_eq (show a_.eval (.tmp 8) = .agg #[.bool nx, .slice ax xs.length cx] from hD 0 rfl) (Gx.rl hr) Lx) (by omega)),
            .store 0 _ _ _ rfl rfl rfl rfl rfl rfl rfl (fun ia h => by cases h) rfl rfl rfl OutN.cs,
            trivial⟩
        · intro a3 w3 gs3 hn3 hd3 hBt hr hR hP hX hU
          replace hn := hn3; replace hd := hd3.trans hd
          replace b3 := b3.keep hBt ⟨fun _ => ne2_3, trivial⟩
          replace b4 := b4.keep hBt ⟨fun _ => ne2_4, trivial⟩
          obtain ⟨n_4, a_4, c_4, r_4, e9, G4, l4⟩ : OutN ((-zx)) (Bx) (a3.eval (.tmp 9)) w3 := hP 1 (by decide)
          have b2 : BoxV N2 w3 ((gs1 0)) (.agg #[.bool n_4, .slice a_4 r_4.length c_4]) := boxv_old ((hX 0 _ rfl).2.1 rfl) (hX 0 _ rfl).2.2.2 e9
          replace f2 : a3.eval (.tmp 2) = _ := (hR 2 rfl).trans f2
          replace f3 := (hR 3 rfl).trans f3
          replace f4 := (hR 4 rfl).trans f4
          replace Gx := Gx.rl hr
          replace Gy := Gy.rl hr
          replace HB := HB.trans (hBt.below HB.size (UpOld.all (bx := [⟨N2, none, (gs1 0), 2, .agg #[.bool nx, .slice ax xs.length cx], some (2, 9, 1), [0]⟩]) ⟨fun _ => u2, trivial⟩))
          clear hBt hr hR hP hX hU
          refine region4 [some 10, some 11, none] [Eqs (.agg #[.bool ny, .slice ay ys.length cy]), OutN ((-zy)) (By), (fun _ _ => True)] [⟨N2, none, (gs1 1), 3, .agg #[.bool ny, .slice ay ys.length cy], some (2, 11, 1), [0]⟩] [] (by kernel_rfl) hn rfl (by kernel_rfl) (by kernel_rfl) (by kernel_rfl) (by kernel_rfl) (by kernel_rfl) (by kernel_rfl) ⟨Eqs.mono4 _, OutN.mono4 _ _, True.mono4, trivial⟩ (ok_cons N2ok ok_nil) (IsOld.all (bx := [⟨N2, none, (gs1 1), 3, .agg #[.bool ny, .slice ay ys.length cy], some (2, 11, 1), [0]⟩]) ⟨fun _ => ⟨f3, b3⟩, trivial⟩) (DisOld.all (bx := [⟨N2, none, (gs1 1), 3, .agg #[.bool ny, .slice ay ys.length cy], some (2, 11, 1), [0]⟩]) ⟨fun _ => trivial, trivial⟩) ?_ ?_
          · exact ⟨.norm 10 rfl rfl rfl (fun a_ w_ hn_ hBt hr hR hD hO hS => op_loadv N2ok ((hR 3 rfl).trans f3) (hO 0 _ rfl rfl rfl)),
              .norm 11 rfl rfl rfl (fun a_ w_ hn_ hBt hr hR hD hO hS => op_nminus (outn_eq (show a_.eval (.tmp 10) = .agg #[.bool ny, .slice ay ys.length cy] from hD 0 rfl) (Gy.rl hr) Ly) (by omega)),
              .store 0 _ _ _ rfl rfl rfl rfl rfl rfl rfl (fun ia h => by cases h) rfl rfl rfl OutN.cs,
              trivial⟩
          · intro a5 w5 gs5 hn5 hd5 hBt hr hR hP hX hU
            replace hn := hn5; replace hd := hd5.trans hd
            replace b2 := b2.keep hBt ⟨fun _ => ne2_3.symm, trivial⟩
            replace b4 := b4.keep hBt ⟨fun _ => ne3_4, trivial⟩
            obtain ⟨n_6, a_6, c_6, r_6, e11, G6, l6⟩ : OutN ((-zy)) (By) (a5.eval (.tmp 11)) w5 := hP 1 (by decide)
            have b3 : BoxV N2 w5 ((gs1 1)) (.agg #[.bool n_6, .slice a_6 r_6.length c_6]) := boxv_old ((hX 0 _ rfl).2.1 rfl) (hX 0 _ rfl).2.2.2 e11
            replace f3 : a5.eval (.tmp 3) = _ := (hR 3 rfl).trans f3
            replace f2 := (hR 2 rfl).trans f2
            replace f4 := (hR 4 rfl).trans f4
            replace Gx := Gx.rl hr
            replace Gy := Gy.rl hr
            replace G4 := G4.rl hr
            replace HB := HB.trans (hBt.below HB.size (UpOld.all (bx := [⟨N2, none, (gs1 1), 3, .agg #[.bool ny, .slice ay ys.length cy], some (2, 11, 1), [0]⟩]) ⟨fun _ => u3, trivial⟩))
            clear hBt hr hR hP hX hU
            refine wp_seq ?_
            refine region4 [some 12, some 13, some 14, some 5, none] [Eqs (.agg #[.bool n_4, .slice a_4 r_4.length c_4]), Eqs (.agg #[.bool n_6, .slice a_6 r_6.length c_6]), OutN (((Int.gcd (-zx) (-zy) : Nat) : Int)) ((Bx) + (By)), (fun _ _ => True), (fun _ _ => True)] [⟨N2, some 3, 0, 5, .agg #[.bool false, .slice none 0 0], some (4, 14, 2), []⟩] [] (by kernel_rfl) hn rfl (by kernel_rfl) (by kernel_rfl) (by kernel_rfl) (by kernel_rfl) (by kernel_rfl) (by kernel_rfl) ⟨Eqs.mono4 _, Eqs.mono4 _, OutN.mono4 _ _, True.mono4, True.mono4, trivial⟩ (ok_cons N2ok ok_nil) (IsOld.all (bx := [⟨N2, some 3, 0, 5, .agg #[.bool false, .slice none 0 0], some (4, 14, 2), []⟩]) ⟨someNe, trivial⟩) (DisOld.all (bx := [⟨N2, some 3, 0, 5, .agg #[.bool false, .slice none 0 0], some (4, 14, 2), []⟩]) ⟨someNe, trivial⟩) ?_ ?_
            · exact ⟨.norm 12 rfl rfl rfl (fun a_ w_ hn_ hBt hr hR hD hO hS => op_loadv N2ok ((hR 2 rfl).trans f2) (b2.keep hBt ⟨someNe, trivial⟩)),
                .norm 13 rfl rfl rfl (fun a_ w_ hn_ hBt hr hR hD hO hS => op_loadv N2ok ((hR 3 rfl).trans f3) (b3.keep hBt ⟨someNe, trivial⟩)),
                .norm 14 rfl rfl rfl (fun a_ w_ hn_ hBt hr hR hD hO hS => op_ngcd (L1 := Bx) (L2 := By) (outn_eq (show a_.eval (.tmp 12) = .agg #[.bool n_4, .slice a_4 r_4.length c_4] from hD 0 rfl) (G4.rl hr) l4) (outn_eq (show a_.eval (.tmp 13) = .agg #[.bool n_6, .slice a_6 r_6.length c_6] from hD 1 rfl) (G6.rl hr) l6) (by omega) (by omega)),
                .alloc 0 _ rfl rfl (.inl ⟨rfl, rfl⟩) rfl rfl rfl rfl rfl,
                .store 0 _ _ _ rfl rfl rfl rfl rfl rfl rfl (fun ia h => by cases h; rfl) rfl rfl rfl OutN.cs,
                trivial⟩
            · intro a7 w7 gs7 hn7 hd7 hBt hr hR hP hX hU
              replace hn := hn7; replace hd := hd7.trans hd
              have ne4_5 : (gs1 2) ≠ gs7 0 := by have h1 := b4.lt; have h2 := (hX 0 _ rfl).2.2.1 (by simp); omega
              replace b2 := b2.keep hBt ⟨someNe, trivial⟩
              replace b3 := b3.keep hBt ⟨someNe, trivial⟩
              replace b4 := b4.keep hBt ⟨someNe, trivial⟩
              obtain ⟨n_8, a_8, c_8, r_8, e14, G8, l8⟩ : OutN (((Int.gcd (-zx) (-zy) : Nat) : Int)) ((Bx) + (By)) (a7.eval (.tmp 14)) w7 := hP 2 (by decide)
              have b5 : BoxV N2 w7 (gs7 0) (.agg #[.bool n_8, .slice a_8 r_8.length c_8]) := boxv_of (hX 0 _ rfl).2.2.2 e14
              have f5 := (hX 0 _ rfl).1
              have u5 : w.heap.size ≤ gs7 0 := Nat.le_trans HB.size ((hX 0 _ rfl).2.2.1 (by simp))
              replace f2 := (hR 2 rfl).trans f2
              replace f3 := (hR 3 rfl).trans f3
              replace f4 := (hR 4 rfl).trans f4
              replace Gx := Gx.rl hr
              replace Gy := Gy.rl hr
              replace G4 := G4.rl hr
              replace G6 := G6.rl hr
              replace HB := HB.trans (hBt.below HB.size (UpOld.all (bx := [⟨N2, some 3, 0, 5, .agg #[.bool false, .slice none 0 0], some (4, 14, 2), []⟩]) ⟨someNe, trivial⟩))
              clear hBt hr hR hP hX hU
              refine wp_seq ?_
              refine region4 [some 15, some 16, some 17, some 18, some 19, some 20, some 21, none] [Eqs (.agg #[.bool n_4, .slice a_4 r_4.length c_4]), Eqs (.agg #[.bool n_8, .slice a_8 r_8.length c_8]), OutN ((ov (-zx) ((Int.gcd (-zx) (-zy) : Nat) : Int))) (Bx), Eqs (.agg #[.bool n_6, .slice a_6 r_6.length c_6]), Eqs (.agg #[.bool n_8, .slice a_8 r_8.length c_8]), OutN ((ov (-zy) ((Int.gcd (-zx) (-zy) : Nat) : Int))) (By), OutQ ((ov (-zx) ((Int.gcd (-zx) (-zy) : Nat) : Int))) ((ov (-zy) ((Int.gcd (-zx) (-zy) : Nat) : Int))) ((Bx) + (By)), (fun _ _ => True)] [⟨Q4, none, (gs1 2), 4, .agg #[.bool false, .slice none 0 0, .bool false, .slice none 0 0], some (7, 21, 6), []⟩] [] (by kernel_rfl) hn rfl (by kernel_rfl) (by kernel_rfl) (by kernel_rfl) (by kernel_rfl) (by kernel_rfl) (by kernel_rfl) ⟨Eqs.mono4 _, Eqs.mono4 _, OutN.mono4 _ _, Eqs.mono4 _, Eqs.mono4 _, OutN.mono4 _ _, OutQ.mono4 _ _ _, True.mono4, trivial⟩ (ok_cons Q4ok ok_nil) (IsOld.all (bx := [⟨Q4, none, (gs1 2), 4, .agg #[.bool false, .slice none 0 0, .bool false, .slice none 0 0], some (7, 21, 6), []⟩]) ⟨fun _ => ⟨f4, b4⟩, trivial⟩) (DisOld.all (bx := [⟨Q4, none, (gs1 2), 4, .agg #[.bool false, .slice none 0 0, .bool false, .slice none 0 0], some (7, 21, 6), []⟩]) ⟨fun _ => trivial, trivial⟩) ?_ ?_
              · exact ⟨.norm 15 rfl rfl rfl (fun a_ w_ hn_ hBt hr hR hD hO hS => op_loadv N2ok ((hR 2 rfl).trans f2) (b2.keep hBt ⟨fun _ => ne2_4.symm, trivial⟩)),
                  .norm 16 rfl rfl rfl (fun a_ w_ hn_ hBt hr hR hD hO hS => op_loadv N2ok ((hR 5 rfl).trans f5) (b5.keep hBt ⟨fun _ => ne4_5, trivial⟩)),
                  .norm 17 rfl rfl rfl (fun a_ w_ hn_ hBt hr hR hD hO hS => op_nover (outn_eq (show a_.eval (.tmp 15) = .agg #[.bool n_4, .slice a_4 r_4.length c_4] from hD 0 rfl) (G4.rl hr) l4) (outn_eq (show a_.eval (.tmp 16) = .agg #[.bool n_8, .slice a_8 r_8.length c_8] from hD 1 rfl) (G8.rl hr) l8) (by omega) (by omega) (gcd_ne _ (by omega))),
                  .norm 18 rfl rfl rfl (fun a_ w_ hn_ hBt hr hR hD hO hS => op_loadv N2ok ((hR 3 rfl).trans f3) (b3.keep hBt ⟨fun _ => ne3_4.symm, trivial⟩)),
                  .norm 19 rfl rfl rfl (fun a_ w_ hn_ hBt hr hR hD hO hS => op_loadv N2ok ((hR 5 rfl).trans f5) (b5.keep hBt ⟨fun _ => ne4_5, trivial⟩)),
                  .norm 20 rfl rfl rfl (fun a_ w_ hn_ hBt hr hR hD hO hS => op_nover (outn_eq (show a_.eval (.tmp 18) = .agg #[.bool n_6, .slice a_6 r_6.length c_6] from hD 3 rfl) (G6.rl hr) l6) (outn_eq (show a_.eval (.tmp 19) = .agg #[.bool n_8, .slice a_8 r_8.length c_8] from hD 4 rfl) (G8.rl hr) l8) (by omega) (by omega) (gcd_ne _ (by omega))),
                  .norm 21 rfl rfl rfl (fun a_ w_ hn_ hBt hr hR hD hO hS => op_bQ (L := (Bx) + (By)) ((show OutN ((ov (-zx) ((Int.gcd (-zx) (-zy) : Nat) : Int))) (Bx) (a_.eval (.tmp 17)) w_ from hD 2 rfl).to rfl (by omega)) ((show OutN ((ov (-zy) ((Int.gcd (-zx) (-zy) : Nat) : Int))) (By) (a_.eval (.tmp 20)) w_ from hD 5 rfl).to rfl (by omega))),
                  .store 0 _ _ _ rfl rfl rfl rfl rfl rfl rfl (fun ia h => by cases h) rfl rfl rfl OutQ.cs,
                  trivial⟩
              · intro a9 w9 gs9 hn9 hd9 hBt hr hR hP hX hU
                replace hn := hn9; replace hd := hd9.trans hd
                obtain ⟨n_10, a_10, c_10, r_10, o_10, b_10, d_10, s_10, e21, G10, K10, l10, k10⟩ : OutQ ((ov (-zx) ((Int.gcd (-zx) (-zy) : Nat) : Int))) ((ov (-zy) ((Int.gcd (-zx) (-zy) : Nat) : Int))) ((Bx) + (By)) (a9.eval (.tmp 21)) w9 := hP 6 (by decide)
                have b4 : BoxV Q4 w9 ((gs1 2)) (.agg #[.bool n_10, .slice a_10 r_10.length c_10, .bool o_10, .slice b_10 s_10.length d_10]) := boxv_old ((hX 0 _ rfl).2.1 rfl) (hX 0 _ rfl).2.2.2 e21
                replace f4 : a9.eval (.tmp 4) = _ := (hR 4 rfl).trans f4
                replace Gx := Gx.rl hr
                replace Gy := Gy.rl hr
                replace G4 := G4.rl hr
                replace G6 := G6.rl hr
                replace G8 := G8.rl hr
                replace HB := HB.trans (hBt.below HB.size (UpOld.all (bx := [⟨Q4, none, (gs1 2), 4, .agg #[.bool false, .slice none 0 0, .bool false, .slice none 0 0], some (7, 21, 6), []⟩]) ⟨fun _ => u4, trivial⟩))
                clear hBt hr hR hP hX hU
                refine wp_ret ?_
                repeat (first | refine then_ret ?_ | refine scope_ret ?_ | refine block_ret ?_)
                exact bodyPost_ret (v := .agg #[.bool n_10, .slice a_10 r_10.length c_10, .bool o_10, .slice b_10 s_10.length d_10]) (res_c rfl f4 (lv_Q4 b4)) hd ⟨_, rfl, OutQ.to (outq_eq rfl G10 K10 l10 k10) (mk_neg hc7').1 (mk_neg hc7').2 (by omega), HB⟩
      · skip
        have hc7' : 0 < zy := by have h := Gy.2; rw [hc7] at h; have h2 := of_decide_eq_false h.symm; omega
        refine wp_skip ?_
        refine wp_seq ?_
        refine region4 [some 12, some 13, some 14, some 5, none] [Eqs (.agg #[.bool nx, .slice ax xs.length cx]), Eqs (.agg #[.bool ny, .slice ay ys.length cy]), OutN (((Int.gcd zx zy : Nat) : Int)) ((Bx) + (By)), (fun _ _ => True), (fun _ _ => True)] [⟨N2, some 3, 0, 5, .agg #[.bool false, .slice none 0 0], some (4, 14, 2), []⟩] [] (by kernel_rfl) hn rfl (by kernel_rfl) (by kernel_rfl) (by kernel_rfl) (by kernel_rfl) (by kernel_rfl) (by kernel_rfl) ⟨Eqs.mono4 _, Eqs.mono4 _, OutN.mono4 _ _, True.mono4, True.mono4, trivial⟩ (ok_cons N2ok ok_nil) (IsOld.all (bx := [⟨N2, some 3, 0, 5, .agg #[.bool false, .slice none 0 0], some (4, 14, 2), []⟩]) ⟨someNe, trivial⟩) (DisOld.all (bx := [⟨N2, some 3, 0, 5, .agg #[.bool false, .slice none 0 0], some (4, 14, 2), []⟩]) ⟨someNe, trivial⟩) ?_ ?_
        · exact ⟨.norm 12 rfl rfl rfl (fun a_ w_ hn_ hBt hr hR hD hO hS => op_loadv N2ok ((hR 2 rfl).trans f2) (b2.keep hBt ⟨someNe, trivial⟩)),
            .norm 13 rfl rfl rfl (fun a_ w_ hn_ hBt hr hR hD hO hS => op_loadv N2ok ((hR 3 rfl).trans f3) (b3.keep hBt ⟨someNe, trivial⟩)),
            .norm 14 rfl rfl rfl (fun a_ w_ hn_ hBt hr hR hD hO hS => op_ngcd (L1 := Bx) (L2 := By) (outn_eq (show a_.eval (.tmp 12) = .agg #[.bool nx, .slice ax xs.length cx] from hD 0 rfl) (Gx.rl hr) Lx) (outn_eq (show a_.eval (.tmp 13) = .agg #[.bool ny, .slice ay ys.length cy] from hD 1 rfl) (Gy.rl hr) Ly) (by omega) (by omega)),
            .alloc 0 _ rfl rfl (.inl ⟨rfl, rfl⟩) rfl rfl rfl rfl rfl,
            .store 0 _ _ _ rfl rfl rfl rfl rfl rfl rfl (fun ia h => by cases h; rfl) rfl rfl rfl OutN.cs,
            trivial⟩
        · intro a11 w11 gs11 hn11 hd11 hBt hr hR hP hX hU
          replace hn := hn11; replace hd := hd11.trans hd
          have ne4_5 : (gs1 2) ≠ gs11 0 := by have h1 := b4.lt; have h2 := (hX 0 _ rfl).2.2.1 (by simp); omega
          replace b2 := b2.keep hBt ⟨someNe, trivial⟩
          replace b3 := b3.keep hBt ⟨someNe, trivial⟩
          replace b4 := b4.keep hBt ⟨someNe, trivial⟩
          obtain ⟨n_12, a_12, c_12, r_12, e14, G12, l12⟩ : OutN (((Int.gcd zx zy : Nat) : Int)) ((Bx) + (By)) (a11.eval (.tmp 14)) w11 := hP 2 (by decide)
          have b5 : BoxV N2 w11 (gs11 0) (.agg #[.bool n_12, .slice a_12 r_12.length c_12]) := boxv_of (hX 0 _ rfl).2.2.2 e14
          have f5 := (hX 0 _ rfl).1
          have u5 : w.heap.size ≤ gs11 0 := Nat.le_trans HB.size ((hX 0 _ rfl).2.2.1 (by simp))
          replace f2 := (hR 2 rfl).trans f2
          replace f3 := (hR 3 rfl).trans f3
          replace f4 := (hR 4 rfl).trans f4
          replace Gx := Gx.rl hr
          replace Gy := Gy.rl hr
          replace HB := HB.trans (hBt.below HB.size (UpOld.all (bx := [⟨N2, some 3, 0, 5, .agg #[.bool false, .slice none 0 0], some (4, 14, 2), []⟩]) ⟨someNe, trivial⟩))
          clear hBt hr hR hP hX hU
          refine wp_seq ?_
          refine region4 [some 15, some 16, some 17, some 18, some 19, some 20, some 21, none] [Eqs (.agg #[.bool nx, .slice ax xs.length cx]), Eqs (.agg #[.bool n_12, .slice a_12 r_12.length c_12]), OutN ((ov zx ((Int.gcd zx zy : Nat) : Int))) (Bx), Eqs (.agg #[.bool ny, .slice ay ys.length cy]), Eqs (.agg #[.bool n_12, .slice a_12 r_12.length c_12]), OutN ((ov zy ((Int.gcd zx zy : Nat) : Int))) (By), OutQ ((ov zx ((Int.gcd zx zy : Nat) : Int))) ((ov zy ((Int.gcd zx zy : Nat) : Int))) ((Bx) + (By)), (fun _ _ => True)] [⟨Q4, none, (gs1 2), 4, .agg #[.bool false, .slice none 0 0, .bool false, .slice none 0 0], some (7, 21, 6), []⟩] [] (by kernel_rfl) hn rfl (by kernel_rfl) (by kernel_rfl) (by kernel_rfl) (by kernel_rfl) (by kernel_rfl) (by kernel_rfl) ⟨Eqs.mono4 _, Eqs.mono4 _, OutN.mono4 _ _, Eqs.mono4 _, Eqs.mono4 _, OutN.mono4 _ _, OutQ.mono4 _ _ _, True.mono4, trivial⟩ (ok_cons Q4ok ok_nil) (IsOld.all (bx := [⟨Q4, none, (gs1 2), 4, .agg #[.bool false, .slice none 0 0, .bool false, .slice none 0 0], some (7, 21, 6), []⟩]) ⟨fun _ => ⟨f4, b4⟩, trivial⟩) (DisOld.all (bx := [⟨Q4, none, (gs1 2), 4, .agg #[.bool false, .slice none 0 0, .bool false, .slice none 0 0], some (7, 21, 6), []⟩]) ⟨fun _ => trivial, trivial⟩) ?_ ?_
          · exact ⟨.norm 15 rfl rfl rfl (fun a_ w_ hn_ hBt hr hR hD hO hS => op_loadv N2ok ((hR 2 rfl).trans f2) (b2.keep hBt ⟨fun _ => ne2_4.symm, trivial⟩)),
              .norm 16 rfl rfl rfl (fun a_ w_ hn_ hBt hr hR hD hO hS => op_loadv N2ok ((hR 5 rfl).trans f5) (b5.keep hBt ⟨fun _ => ne4_5, trivial⟩)),
              .norm 17 rfl rfl rfl (fun a_ w_ hn_ hBt hr hR hD hO hS => op_nover (outn_eq (show a_.eval (.tmp 15) = .agg #[.bool nx, .slice ax xs.length cx] from hD 0 rfl) (Gx.rl hr) Lx) (outn_eq (show a_.eval (.tmp 16) = .agg #[.bool n_12, .slice a_12 r_12.length c_12] from hD 1 rfl) (G12.rl hr) l12) (by omega) (by omega) (gcd_ne _ (by omega))),
              .norm 18 rfl rfl rfl (fun a_ w_ hn_ hBt hr hR hD hO hS => op_loadv N2ok ((hR 3 rfl).trans f3) (b3.keep hBt ⟨fun _ => ne3_4.symm, trivial⟩)),
              .norm 19 rfl rfl rfl (fun a_ w_ hn_ hBt hr hR hD hO hS => op_loadv N2ok ((hR 5 rfl).trans f5) (b5.keep hBt ⟨fun _ => ne4_5, trivial⟩)),
              .norm 20 rfl rfl rfl (fun a_ w_ hn_ hBt hr hR hD hO hS => op_nover (outn_eq (show a_.eval (.tmp 18) = .agg #[.bool ny, .slice ay ys.length cy] from hD 3 rfl) (Gy.rl hr) Ly) (outn_eq (show a_.eval (.tmp 19) = .agg #[.bool n_12, .slice a_12 r_12.length c_12] from hD 4 rfl) (G12.rl hr) l12) (by omega) (by omega) (gcd_ne _ (by omega))),
              .norm 21 rfl rfl rfl (fun a_ w_ hn_ hBt hr hR hD hO hS => op_bQ (L := (Bx) + (By)) ((show OutN ((ov zx ((Int.gcd zx zy : Nat) : Int))) (Bx) (a_.eval (.tmp 17)) w_ from hD 2 rfl).to rfl (by omega)) ((show OutN ((ov zy ((Int.gcd zx zy : Nat) : Int))) (By) (a_.eval (.tmp 20)) w_ from hD 5 rfl).to rfl (by omega))),
              .store 0 _ _ _ rfl rfl rfl rfl rfl rfl rfl (fun ia h => by cases h) rfl rfl rfl OutQ.cs,
              trivial⟩
          · intro a13 w13 gs13 hn13 hd13 hBt hr hR hP hX hU
            replace hn := hn13; replace hd := hd13.trans hd
            obtain ⟨n_14, a_14, c_14, r_14, o_14, b_14, d_14, s_14, e21, G14, K14, l14, k14⟩ : OutQ ((ov zx ((Int.gcd zx zy : Nat) : Int))) ((ov zy ((Int.gcd zx zy : Nat) : Int))) ((Bx) + (By)) (a13.eval (.tmp 21)) w13 := hP 6 (by decide)
            have b4 : BoxV Q4 w13 ((gs1 2)) (.agg #[.bool n_14, .slice a_14 r_14.length c_14, .bool o_14, .slice b_14 s_14.length d_14]) := boxv_old ((hX 0 _ rfl).2.1 rfl) (hX 0 _ rfl).2.2.2 e21
            replace f4 : a13.eval (.tmp 4) = _ := (hR 4 rfl).trans f4
            replace Gx := Gx.rl hr
            replace Gy := Gy.rl hr
            replace G12 := G12.rl hr
            replace HB := HB.trans (hBt.below HB.size (UpOld.all (bx := [⟨Q4, none, (gs1 2), 4, .agg #[.bool false, .slice none 0 0, .bool false, .slice none 0 0], some (7, 21, 6), []⟩]) ⟨fun _ => u4, trivial⟩))
            clear hBt hr hR hP hX hU
            refine wp_ret ?_
            repeat (first | refine then_ret ?_ | refine scope_ret ?_ | refine block_ret ?_)
            exact bodyPost_ret (v := .agg #[.bool n_14, .slice a_14 r_14.length c_14, .bool o_14, .slice b_14 s_14.length d_14]) (res_c rfl f4 (lv_Q4 b4)) hd ⟨_, rfl, OutQ.to (outq_eq rfl G14 K14 l14 k14) (mk_pos hc7').1 (mk_pos hc7').2 (by omega), HB⟩

theorem has_qmake : Has Try.prog 59 := by unfold Has; kernel_rfl
theorem op_qmake {dst : Option Tmp} {ty : TypeId} {pos : String} {after : Array Edge} {guard : Option (Nat × Bool)} {a : Act} {w : World} {ats : Array TypeId} {i j : Nat} {Bx : Nat} {zx : Int} (Hx : OutN zx Bx (a.eval (.tmp i)) w) {By : Nat} {zy : Int} (Hy : OutN zy By (a.eval (.tmp j)) w) (hL : Bx + By ≤ 300000) (hy : zy ≠ 0) :
    Does Try.prog { dst, op := .call { callee := .value (.func 59), args := #[.tmp i, .tmp j], argTypes := ats }, type := ty, pos, after, guard } a.eval w fun v w' => Below w.heap.size w w' ∧ (OutQ (nm zx zy) (dn zx zy) (Bx + By)) v w' := by
  obtain ⟨nx, ax, cx, xs, ex, Gx, Lx⟩ := Hx
  obtain ⟨ny, ay, cy, ys, ey, Gy, Ly⟩ := Hy
  refine does_call has_qmake _ (by simp only [List.map_toArray, List.map_cons, List.map_nil, ex, ey]) ((qmake_z w Bx _ _ _ _ _ Gx Lx By _ _ _ _ _ Gy Ly hL hy).mono ?_)
  rintro e w' ⟨v, rfl, h1, hb⟩
  exact ⟨_, rfl, hb, h1⟩

set_option maxRecDepth 20000 in
set_option maxHeartbeats 2000000 in
theorem qtold_z (w : World) (Bx : Nat) (nx : Bool) (ax : Option Addr) (cx : Nat) (xs : List Int) (px : Int) (Gx : Dm.Wh w nx ax cx xs px) (Lx : xs.length ≤ Bx) (ox : Bool) (bx : Option Addr) (dx : Nat) (xt : List Int) (qx : Int) (Kx : Dm.Wh w ox bx dx xt qx) (Mx : xt.length ≤ Bx) (hL : Bx ≤ 400000) (hq : 0 < qx) :
    Calls Try.prog 53 #[.agg #[.bool nx, .slice ax xs.length cx, .bool ox, .slice bx xt.length dx]] w fun e w' => ∃ v, e = .returned v ∧ (OutR px qx (2 * Bx)) v w' ∧ Below w.heap.size w w' := by
  go_enter Try.func53, Try.ntmps53
  generalize hA : (Act.mk _ _) = aa
  have hn : aa.tmps.size = 10 := by rw [← hA]; rfl
  have hd : aa.defers = [] := by rw [← hA]
  have f0 : aa.eval (.tmp 0) = .agg #[.bool nx, .slice ax xs.length cx, .bool ox, .slice bx xt.length dx] := by rw [← hA]; rfl
  clear hA
  have HB : Below w.heap.size w w := Below.refl _ _
  refine wp_seq ?_
  refine region4 [some 1, some 2] [(fun _ _ => True), (fun _ _ => True)] [⟨Q4, some 0, 0, 1, .agg #[.bool nx, .slice ax xs.length cx, .bool ox, .slice bx xt.length dx], none, []⟩, ⟨R3, some 1, 0, 2, .agg #[.bool false, .slice none 0 0, .slice none 0 0], none, []⟩] [] (by kernel_rfl) hn rfl (by kernel_rfl) (by kernel_rfl) (by kernel_rfl) (by kernel_rfl) (by kernel_rfl) (by kernel_rfl) ⟨True.mono4, True.mono4, trivial⟩ (ok_cons Q4ok (ok_cons R3ok ok_nil)) (IsOld.all (bx := [⟨Q4, some 0, 0, 1, .agg #[.bool nx, .slice ax xs.length cx, .bool ox, .slice bx xt.length dx], none, []⟩, ⟨R3, some 1, 0, 2, .agg #[.bool false, .slice none 0 0, .slice none 0 0], none, []⟩]) ⟨someNe, someNe, trivial⟩) (DisOld.all (bx := [⟨Q4, some 0, 0, 1, .agg #[.bool nx, .slice ax xs.length cx, .bool ox, .slice bx xt.length dx], none, []⟩, ⟨R3, some 1, 0, 2, .agg #[.bool false, .slice none 0 0, .slice none 0 0], none, []⟩]) ⟨someNe, someNe, trivial⟩) ?_ ?_
  · exact ⟨.alloc 0 _ rfl rfl (.inr ⟨_, rfl, q4_cs, fun a_ hR => (hR 0 rfl).trans f0⟩) rfl rfl rfl rfl rfl,
      .alloc 1 _ rfl rfl (.inl ⟨rfl, rfl⟩) rfl rfl rfl rfl rfl,
      trivial⟩
  · intro a1 w1 gs1 hn1 hd1 hBt hr hR hP hX hU
    replace hn := hn1; replace hd := hd1.trans hd
    have ne1_2 : gs1 0 ≠ gs1 1 := hU 0 1 (by simp) (by simp) (by decide)
    have b1 : BoxV Q4 w1 (gs1 0) (.agg #[.bool nx, .slice ax xs.length cx, .bool ox, .slice bx xt.length dx]) := (hX 0 _ rfl).2.2.2
    have f1 := (hX 0 _ rfl).1
    have u1 : w.heap.size ≤ gs1 0 := Nat.le_trans HB.size ((hX 0 _ rfl).2.2.1 (by simp))
    have b2 : BoxV R3 w1 (gs1 1) (.agg #[.bool false, .slice none 0 0, .slice none 0 0]) := (hX 1 _ rfl).2.2.2
    have f2 := (hX 1 _ rfl).1
    have u2 : w.heap.size ≤ gs1 1 := Nat.le_trans HB.size ((hX 1 _ rfl).2.2.1 (by simp))
    replace Gx := Gx.rl hr
    replace Kx := Kx.rl hr
    replace HB := HB.trans (hBt.below HB.size (UpOld.all (bx := [⟨Q4, some 0, 0, 1, .agg #[.bool nx, .slice ax xs.length cx, .bool ox, .slice bx xt.length dx], none, []⟩, ⟨R3, some 1, 0, 2, .agg #[.bool false, .slice none 0 0, .slice none 0 0], none, []⟩]) ⟨someNe, someNe, trivial⟩))
    clear hBt hr hR hP hX hU
    refine wp_seq ?_
    refine region4 [some 3, some 4, some 5, some 6, some 7, some 8, some 9, none] [Eqs (.pointer (some ⟨gs1 0, 0, none⟩)), Eqs (.agg #[.bool nx, .slice ax xs.length cx]), OutW (px) (Bx), Eqs (.pointer (some ⟨gs1 0, 2, none⟩)), Eqs (.agg #[.bool ox, .slice bx xt.length dx]), OutL (qx) (Bx), OutR (px) (qx) ((Bx) + (Bx)), (fun _ _ => True)] [⟨R3, none, (gs1 1), 2, .agg #[.bool false, .slice none 0 0, .slice none 0 0], some (7, 9, 6), []⟩] [] (by kernel_rfl) hn rfl (by kernel_rfl) (by kernel_rfl) (by kernel_rfl) (by kernel_rfl) (by kernel_rfl) (by kernel_rfl) ⟨Eqs.mono4 _, Eqs.mono4 _, OutW.mono4 _ _, Eqs.mono4 _, Eqs.mono4 _, OutL.mono4 _ _, OutR.mono4 _ _ _, True.mono4, trivial⟩ (ok_cons R3ok ok_nil) (IsOld.all (bx := [⟨R3, none, (gs1 1), 2, .agg #[.bool false, .slice none 0 0, .slice none 0 0], some (7, 9, 6), []⟩]) ⟨fun _ => ⟨f2, b2⟩, trivial⟩) (DisOld.all (bx := [⟨R3, none, (gs1 1), 2, .agg #[.bool false, .slice none 0 0, .slice none 0 0], some (7, 9, 6), []⟩]) ⟨fun _ => trivial, trivial⟩) ?_ ?_
    · exact ⟨.norm 3 rfl rfl rfl (fun a_ w_ hn_ hBt hr hR hD hO hS => op_faQ fa_q0 ((hR 1 rfl).trans f1)),
        .norm 4 rfl rfl rfl (fun a_ w_ hn_ hBt hr hR hD hO hS => op_ldq0 (show a_.eval (.tmp 3) = .pointer (some ⟨gs1 0, 0, none⟩) from hD 0 rfl) (b1.keep hBt ⟨fun _ => ne1_2.symm, trivial⟩)),
        .norm 5 rfl rfl rfl (fun a_ w_ hn_ hBt hr hR hD hO hS => op_ntold (outn_eq (show a_.eval (.tmp 4) = .agg #[.bool nx, .slice ax xs.length cx] from hD 1 rfl) (Gx.rl hr) Lx) (by omega)),
        .norm 6 rfl rfl rfl (fun a_ w_ hn_ hBt hr hR hD hO hS => op_faQ fa_q1 ((hR 1 rfl).trans f1)),
        .norm 7 rfl rfl rfl (fun a_ w_ hn_ hBt hr hR hD hO hS => op_ldq1 (show a_.eval (.tmp 6) = .pointer (some ⟨gs1 0, 2, none⟩) from hD 3 rfl) (b1.keep hBt ⟨fun _ => ne1_2.symm, trivial⟩)),
        .norm 8 rfl rfl rfl (fun a_ w_ hn_ hBt hr hR hD hO hS => op_nlimbs (outn_eq (show a_.eval (.tmp 7) = .agg #[.bool ox, .slice bx xt.length dx] from hD 4 rfl) (Kx.rl hr) Mx) (by omega) hq),
        .norm 9 rfl rfl rfl (fun a_ w_ hn_ hBt hr hR hD hO hS => op_bRo ((show OutW (px) (Bx) (a_.eval (.tmp 5)) w_ from hD 2 rfl).to rfl (by omega)) ((show OutL (qx) (Bx) (a_.eval (.tmp 8)) w_ from hD 5 rfl).to (by omega))),
        .store 0 _ _ _ rfl rfl rfl rfl rfl rfl rfl (fun ia h => by cases h) rfl rfl rfl OutR.cs,
        trivial⟩
    · intro a2 w2 gs2 hn2 hd2 hBt hr hR hP hX hU
      replace hn := hn2; replace hd := hd2.trans hd
      obtain ⟨n_3, a_3, c_3, r_3, b_3, d_3, s_3, e9, G3, K3, l3, k3⟩ : OutR (px) (qx) ((Bx) + (Bx)) (a2.eval (.tmp 9)) w2 := hP 6 (by decide)
      have A3 := G3.ag; have S3 := K3.sl; have V3 := K3.val
      have b2 : BoxV R3 w2 ((gs1 1)) (.agg #[.bool n_3, .slice a_3 r_3.length c_3, .slice b_3 s_3.length d_3]) := boxv_old ((hX 0 _ rfl).2.1 rfl) (hX 0 _ rfl).2.2.2 e9
      replace f2 : a2.eval (.tmp 2) = _ := (hR 2 rfl).trans f2
      replace Gx := Gx.rl hr
      replace Kx := Kx.rl hr
      replace HB := HB.trans (hBt.below HB.size (UpOld.all (bx := [⟨R3, none, (gs1 1), 2, .agg #[.bool false, .slice none 0 0, .slice none 0 0], some (7, 9, 6), []⟩]) ⟨fun _ => u2, trivial⟩))
      clear hBt hr hR hP hX hU
      refine wp_ret ?_
      repeat (first | refine then_ret ?_ | refine scope_ret ?_ | refine block_ret ?_)
      exact bodyPost_ret (v := .agg #[.bool n_3, .slice a_3 r_3.length c_3, .slice b_3 s_3.length d_3]) (res_c rfl f2 (lv_R3 b2)) hd ⟨_, rfl, OutR.to (outr_eq rfl G3 K3 l3 k3) rfl rfl (by omega), HB⟩

theorem has_qtold : Has Try.prog 53 := by unfold Has; kernel_rfl
theorem op_qtold {dst : Option Tmp} {ty : TypeId} {pos : String} {after : Array Edge} {guard : Option (Nat × Bool)} {a : Act} {w : World} {ats : Array TypeId} {i : Nat} {Bx : Nat} {px qx : Int} (Hx : OutQ px qx Bx (a.eval (.tmp i)) w) (hL : Bx ≤ 400000) (hq : 0 < qx) :
    Does Try.prog { dst, op := .call { callee := .value (.func 53), args := #[.tmp i], argTypes := ats }, type := ty, pos, after, guard } a.eval w fun v w' => Below w.heap.size w w' ∧ (OutR px qx (2 * Bx)) v w' := by
  obtain ⟨nx, ax, cx, xs, ox, bx, dx, xt, ex, Gx, Kx, Lx, Mx⟩ := Hx
  refine does_call has_qtold _ (by simp only [List.map_toArray, List.map_cons, List.map_nil, ex]) ((qtold_z w Bx _ _ _ _ _ Gx Lx _ _ _ _ _ Kx Mx hL hq).mono ?_)
  rintro e w' ⟨v, rfl, h1, hb⟩
  exact ⟨_, rfl, hb, h1⟩

set_option maxRecDepth 20000 in
set_option maxHeartbeats 2000000 in
theorem qof_z (w : World) (Bx : Nat) (nx : Bool) (ax : Option Addr) (mx cx : Nat) (xs : List Int) (zx : Int) (Ax : Ag w nx ax mx cx xs zx) (Lx : xs.length ≤ Bx) (By : Nat) (ny : Bool) (ay : Option Addr) (my cy : Nat) (ys : List Int) (zy : Int) (Ay : Ag w ny ay my cy ys zy) (Ly : ys.length ≤ By) (hL : Bx + By ≤ 10000) (hy : zy ≠ 0) :
    Calls Try.prog 30 #[.agg #[.bool nx, .slice ax mx cx], .agg #[.bool ny, .slice ay my cy]] w fun e w' => ∃ v, e = .returned v ∧ (Tup2 (OutR (nm zx zy) (dn zx zy) (6 * (Bx + By))) (Eqs (.int .i64 0))) v w' ∧ Below w.heap.size w w' := by
  go_enter Try.func30, Try.ntmps30
  generalize hA : (Act.mk _ _) = aa
  have hn : aa.tmps.size = 18 := by rw [← hA]; rfl
  have hd : aa.defers = [] := by rw [← hA]
  have f0 : aa.eval (.tmp 0) = .agg #[.bool nx, .slice ax mx cx] := by rw [← hA]; rfl
  have f1 : aa.eval (.tmp 1) = .agg #[.bool ny, .slice ay my cy] := by rw [← hA]; rfl
  clear hA
  have HB : Below w.heap.size w w := Below.refl _ _
  have Tx := Ax.sl
  have Ty := Ay.sl
  refine wp_seq ?_
  refine region4 [some 2, some 3, some 4, some 5] [(fun _ _ => True), (fun _ _ => True), (fun _ _ => True), Eqs ((.int .i64 0))] [⟨W2, some 0, 0, 2, .agg #[.bool nx, .slice ax mx cx], none, []⟩, ⟨W2, some 1, 0, 3, .agg #[.bool ny, .slice ay my cy], none, []⟩, ⟨R3, some 2, 0, 4, .agg #[.bool false, .slice none 0 0, .slice none 0 0], none, []⟩] [] (by kernel_rfl) hn rfl (by kernel_rfl) (by kernel_rfl) (by kernel_rfl) (by kernel_rfl) (by kernel_rfl) (by kernel_rfl) ⟨True.mono4, True.mono4, True.mono4, Eqs.mono4 _, trivial⟩ (ok_cons W2ok (ok_cons W2ok (ok_cons R3ok ok_nil))) (IsOld.all (bx := [⟨W2, some 0, 0, 2, .agg #[.bool nx, .slice ax mx cx], none, []⟩, ⟨W2, some 1, 0, 3, .agg #[.bool ny, .slice ay my cy], none, []⟩, ⟨R3, some 2, 0, 4, .agg #[.bool false, .slice none 0 0, .slice none 0 0], none, []⟩]) ⟨someNe, someNe, someNe, trivial⟩) (DisOld.all (bx := [⟨W2, some 0, 0, 2, .agg #[.bool nx, .slice ax mx cx], none, []⟩, ⟨W2, some 1, 0, 3, .agg #[.bool ny, .slice ay my cy], none, []⟩, ⟨R3, some 2, 0, 4, .agg #[.bool false, .slice none 0 0, .slice none 0 0], none, []⟩]) ⟨someNe, someNe, someNe, trivial⟩) ?_ ?_
  · exact ⟨.alloc 0 _ rfl rfl (.inr ⟨_, rfl, w2_cs, fun a_ hR => (hR 0 rfl).trans f0⟩) rfl rfl rfl rfl rfl,
      .alloc 1 _ rfl rfl (.inr ⟨_, rfl, w2_cs, fun a_ hR => (hR 1 rfl).trans f1⟩) rfl rfl rfl rfl rfl,
      .alloc 2 _ rfl rfl (.inl ⟨rfl, rfl⟩) rfl rfl rfl rfl rfl,
      .norm 5 rfl rfl rfl (fun a_ w_ hn_ hBt hr hR hD hO hS => op_assign rfl),
      trivial⟩
  · intro a1 w1 gs1 hn1 hd1 hBt hr hR hP hX hU
    replace hn := hn1; replace hd := hd1.trans hd
    have ne2_4 : gs1 0 ≠ gs1 2 := hU 0 2 (by simp) (by simp) (by decide)
    have ne3_4 : gs1 1 ≠ gs1 2 := hU 1 2 (by simp) (by simp) (by decide)
    have b2 : BoxV W2 w1 (gs1 0) (.agg #[.bool nx, .slice ax mx cx]) := (hX 0 _ rfl).2.2.2
    have f2 := (hX 0 _ rfl).1
    have u2 : w.heap.size ≤ gs1 0 := Nat.le_trans HB.size ((hX 0 _ rfl).2.2.1 (by simp))
    have b3 : BoxV W2 w1 (gs1 1) (.agg #[.bool ny, .slice ay my cy]) := (hX 1 _ rfl).2.2.2
    have f3 := (hX 1 _ rfl).1
    have u3 : w.heap.size ≤ gs1 1 := Nat.le_trans HB.size ((hX 1 _ rfl).2.2.1 (by simp))
    have b4 : BoxV R3 w1 (gs1 2) (.agg #[.bool false, .slice none 0 0, .slice none 0 0]) := (hX 2 _ rfl).2.2.2
    have f4 := (hX 2 _ rfl).1
    have u4 : w.heap.size ≤ gs1 2 := Nat.le_trans HB.size ((hX 2 _ rfl).2.2.1 (by simp))
    have e5 : a1.eval (.tmp 5) = (.int .i64 0) := hP 3 (by decide)
    have f5 := e5
    replace Ax := Ax.rl hr
    replace Tx := Tx.rl hr
    replace Ay := Ay.rl hr
    replace Ty := Ty.rl hr
    replace HB := HB.trans (hBt.below HB.size (UpOld.all (bx := [⟨W2, some 0, 0, 2, .agg #[.bool nx, .slice ax mx cx], none, []⟩, ⟨W2, some 1, 0, 3, .agg #[.bool ny, .slice ay my cy], none, []⟩, ⟨R3, some 2, 0, 4, .agg #[.bool false, .slice none 0 0, .slice none 0 0], none, []⟩]) ⟨someNe, someNe, someNe, trivial⟩))
    clear hBt hr hR hP hX hU
    refine wp_seq ?_
    refine region4 [some 7, some 8, some 6, none] [Eqs (.agg #[.bool ny, .slice ay my cy]), OutN (zy) (3 * (By)), (fun _ _ => True), (fun _ _ => True)] [⟨N2, some 2, 0, 6, .agg #[.bool false, .slice none 0 0], some (3, 8, 1), []⟩] [] (by kernel_rfl) hn rfl (by kernel_rfl) (by kernel_rfl) (by kernel_rfl) (by kernel_rfl) (by kernel_rfl) (by kernel_rfl) ⟨Eqs.mono4 _, OutN.mono4 _ _, True.mono4, True.mono4, trivial⟩ (ok_cons N2ok ok_nil) (IsOld.all (bx := [⟨N2, some 2, 0, 6, .agg #[.bool false, .slice none 0 0], some (3, 8, 1), []⟩]) ⟨someNe, trivial⟩) (DisOld.all (bx := [⟨N2, some 2, 0, 6, .agg #[.bool false, .slice none 0 0], some (3, 8, 1), []⟩]) ⟨someNe, trivial⟩) ?_ ?_
    · exact ⟨.norm 7 rfl rfl rfl (fun a_ w_ hn_ hBt hr hR hD hO hS => op_loadv W2ok ((hR 3 rfl).trans f3) (b3.keep hBt ⟨someNe, trivial⟩)),
        .norm 8 rfl rfl rfl (fun a_ w_ hn_ hBt hr hR hD hO hS => op_nof (L := By) (isw_eq (show a_.eval (.tmp 7) = .agg #[.bool ny, .slice ay my cy] from hD 0 rfl) (Ay.rl hr) Ly) (by omega)),
        .alloc 0 _ rfl rfl (.inl ⟨rfl, rfl⟩) rfl rfl rfl rfl rfl,
        .store 0 _ _ _ rfl rfl rfl rfl rfl rfl rfl (fun ia h => by cases h; rfl) rfl rfl rfl OutN.cs,
        trivial⟩
    · intro a2 w2 gs2 hn2 hd2 hBt hr hR hP hX hU
      replace hn := hn2; replace hd := hd2.trans hd
      have ne4_6 : (gs1 2) ≠ gs2 0 := by have h1 := b4.lt; have h2 := (hX 0 _ rfl).2.2.1 (by simp); omega
      replace b2 := b2.keep hBt ⟨someNe, trivial⟩
      replace b4 := b4.keep hBt ⟨someNe, trivial⟩
      obtain ⟨n_3, a_3, c_3, r_3, e8, G3, l3⟩ : OutN (zy) (3 * (By)) (a2.eval (.tmp 8)) w2 := hP 1 (by decide)
      have b6 : BoxV N2 w2 (gs2 0) (.agg #[.bool n_3, .slice a_3 r_3.length c_3]) := boxv_of (hX 0 _ rfl).2.2.2 e8
      have f6 := (hX 0 _ rfl).1
      have u6 : w.heap.size ≤ gs2 0 := Nat.le_trans HB.size ((hX 0 _ rfl).2.2.1 (by simp))
      replace f2 := (hR 2 rfl).trans f2
      replace f4 := (hR 4 rfl).trans f4
      replace f5 := (hR 5 rfl).trans f5
      replace Ax := Ax.rl hr
      replace Tx := Tx.rl hr
      replace Ay := Ay.rl hr
      replace Ty := Ty.rl hr
      replace HB := HB.trans (hBt.below HB.size (UpOld.all (bx := [⟨N2, some 2, 0, 6, .agg #[.bool false, .slice none 0 0], some (3, 8, 1), []⟩]) ⟨someNe, trivial⟩))
      clear hBt hr hR hP hX hU
      refine wp_seq ?_
      refine wp_seq ?_
      refine region4 [some 9, some 10, some 11] [Eqs (.agg #[.bool n_3, .slice a_3 r_3.length c_3]), Eqs (.int .i64 (Int.sign zy)), Eqs (.bool (decide ((Int.sign zy) = 0)))] [] [] (by kernel_rfl) hn rfl (by kernel_rfl) (by kernel_rfl) (by kernel_rfl) (by kernel_rfl) (by kernel_rfl) (by kernel_rfl) ⟨Eqs.mono4 _, Eqs.mono4 _, Eqs.mono4 _, trivial⟩ ok_nil (IsOld.all (bx := []) trivial) (DisOld.all (bx := []) trivial) ?_ ?_
      · exact ⟨.norm 9 rfl rfl rfl (fun a_ w_ hn_ hBt hr hR hD hO hS => op_loadv N2ok ((hR 6 rfl).trans f6) (b6.keep hBt trivial)),
          .norm 10 rfl rfl rfl (fun a_ w_ hn_ hBt hr hR hD hO hS => op_nsign (outn_eq (show a_.eval (.tmp 9) = .agg #[.bool n_3, .slice a_3 r_3.length c_3] from hD 0 rfl) (G3.rl hr) l3)),
          .norm 11 rfl rfl rfl (fun a_ w_ hn_ hBt hr hR hD hO hS => op_eqlk (show a_.eval (.tmp 10) = .int .i64 (Int.sign zy) from hD 1 rfl)),
          trivial⟩
      · intro a4 w4 gs4 hn4 hd4 hBt hr hR hP hX hU
        replace hn := hn4; replace hd := hd4.trans hd
        replace b2 := b2.keep hBt trivial
        replace b4 := b4.keep hBt trivial
        replace b6 := b6.keep hBt trivial
        replace f2 := (hR 2 rfl).trans f2
        replace f4 := (hR 4 rfl).trans f4
        replace f5 := (hR 5 rfl).trans f5
        replace f6 := (hR 6 rfl).trans f6
        have e11 : a4.eval (.tmp 11) = .bool (decide ((Int.sign zy) = 0)) := hP 2 (by decide)
        have f11 := e11
        replace Ax := Ax.rl hr
        replace Tx := Tx.rl hr
        replace Ay := Ay.rl hr
        replace Ty := Ty.rl hr
        replace G3 := G3.rl hr
        replace HB := HB.trans (hBt.below HB.size (UpOld.all (bx := []) trivial))
        clear hBt hr hR hP hX hU
        refine wp_cond_split f11 (fun hc11 => ?_) (fun hc11 => ?_)
        · skip
          exact absurd (sign_zero_iff.1 (of_decide_eq_true hc11)) hy
        · skip
          refine wp_skip ?_
          refine wp_seq ?_
          refine region4 [some 13, some 14, some 15, some 16, some 17, none, some 5] [Eqs (.agg #[.bool nx, .slice ax mx cx]), OutN (zx) (3 * (Bx)), Eqs (.agg #[.bool n_3, .slice a_3 r_3.length c_3]), OutQ ((nm zx zy)) ((dn zx zy)) ((3 * (Bx)) + (3 * (By))), OutR ((nm zx zy)) ((dn zx zy)) (2 * ((3 * (Bx)) + (3 * (By)))), (fun _ _ => True), Eqs ((.int .i64 0))] [⟨R3, none, (gs1 2), 4, .agg #[.bool false, .slice none 0 0, .slice none 0 0], some (5, 17, 4), []⟩] [] (by kernel_rfl) hn rfl (by kernel_rfl) (by kernel_rfl) (by kernel_rfl) (by kernel_rfl) (by kernel_rfl) (by kernel_rfl) ⟨Eqs.mono4 _, OutN.mono4 _ _, Eqs.mono4 _, OutQ.mono4 _ _ _, OutR.mono4 _ _ _, True.mono4, Eqs.mono4 _, trivial⟩ (ok_cons R3ok ok_nil) (IsOld.all (bx := [⟨R3, none, (gs1 2), 4, .agg #[.bool false, .slice none 0 0, .slice none 0 0], some (5, 17, 4), []⟩]) ⟨fun _ => ⟨f4, b4⟩, trivial⟩) (DisOld.all (bx := [⟨R3, none, (gs1 2), 4, .agg #[.bool false, .slice none 0 0, .slice none 0 0], some (5, 17, 4), []⟩]) ⟨fun _ => trivial, trivial⟩) ?_ ?_
          · exact ⟨.norm 13 rfl rfl rfl (fun a_ w_ hn_ hBt hr hR hD hO hS => op_loadv W2ok ((hR 2 rfl).trans f2) (b2.keep hBt ⟨fun _ => ne2_4.symm, trivial⟩)),
              .norm 14 rfl rfl rfl (fun a_ w_ hn_ hBt hr hR hD hO hS => op_nof (L := Bx) (isw_eq (show a_.eval (.tmp 13) = .agg #[.bool nx, .slice ax mx cx] from hD 0 rfl) (Ax.rl hr) Lx) (by omega)),
              .norm 15 rfl rfl rfl (fun a_ w_ hn_ hBt hr hR hD hO hS => op_loadv N2ok ((hR 6 rfl).trans f6) (b6.keep hBt ⟨fun _ => ne4_6, trivial⟩)),
              .norm 16 rfl rfl rfl (fun a_ w_ hn_ hBt hr hR hD hO hS => op_qmake (Bx := 3 * (Bx)) (By := 3 * (By)) (show OutN (zx) (3 * (Bx)) (a_.eval (.tmp 14)) w_ from hD 1 rfl) (outn_eq (show a_.eval (.tmp 15) = .agg #[.bool n_3, .slice a_3 r_3.length c_3] from hD 2 rfl) (G3.rl hr) l3) (by omega) hy),
              .norm 17 rfl rfl rfl (fun a_ w_ hn_ hBt hr hR hD hO hS => op_qtold (Bx := (3 * (Bx)) + (3 * (By))) (show OutQ ((nm zx zy)) ((dn zx zy)) ((3 * (Bx)) + (3 * (By))) (a_.eval (.tmp 16)) w_ from hD 3 rfl) (by omega) (dn_pos _ hy)),
              .store 0 _ _ _ rfl rfl rfl rfl rfl rfl rfl (fun ia h => by cases h) rfl rfl rfl OutR.cs,
              .norm 5 rfl rfl rfl (fun a_ w_ hn_ hBt hr hR hD hO hS => op_assign rfl),
              trivial⟩
          · intro a5 w5 gs5 hn5 hd5 hBt hr hR hP hX hU
            replace hn := hn5; replace hd := hd5.trans hd
            obtain ⟨n_6, a_6, c_6, r_6, b_6, d_6, s_6, e17, G6, K6, l6, k6⟩ : OutR ((nm zx zy)) ((dn zx zy)) (2 * ((3 * (Bx)) + (3 * (By)))) (a5.eval (.tmp 17)) w5 := hP 4 (by decide)
            have A6 := G6.ag; have S6 := K6.sl; have V6 := K6.val
            have b4 : BoxV R3 w5 ((gs1 2)) (.agg #[.bool n_6, .slice a_6 r_6.length c_6, .slice b_6 s_6.length d_6]) := boxv_old ((hX 0 _ rfl).2.1 rfl) (hX 0 _ rfl).2.2.2 e17
            replace f4 : a5.eval (.tmp 4) = _ := (hR 4 rfl).trans f4
            have e5 : a5.eval (.tmp 5) = (.int .i64 0) := hP 6 (by decide)
            have f5 := e5
            replace Ax := Ax.rl hr
            replace Tx := Tx.rl hr
            replace Ay := Ay.rl hr
            replace Ty := Ty.rl hr
            replace G3 := G3.rl hr
            replace HB := HB.trans (hBt.below HB.size (UpOld.all (bx := [⟨R3, none, (gs1 2), 4, .agg #[.bool false, .slice none 0 0, .slice none 0 0], some (5, 17, 4), []⟩]) ⟨fun _ => u4, trivial⟩))
            clear hBt hr hR hP hX hU
            refine wp_ret ?_
            repeat (first | refine then_ret ?_ | refine scope_ret ?_ | refine block_ret ?_)
            exact bodyPost_ret (v := .tuple #[.agg #[.bool n_6, .slice a_6 r_6.length c_6, .slice b_6 s_6.length d_6], (.int .i64 0)]) (res_ct rfl f4 (lv_R3 b4) f5) hd ⟨_, rfl, ⟨_, _, rfl, OutR.to (outr_eq rfl G6 K6 l6 k6) rfl rfl (by omega), rfl⟩, HB⟩

theorem has_qof : Has Try.prog 30 := by unfold Has; kernel_rfl
theorem op_qof {dst : Option Tmp} {ty : TypeId} {pos : String} {after : Array Edge} {guard : Option (Nat × Bool)} {a : Act} {w : World} {ats : Array TypeId} {i j : Nat} {Bx : Nat} {zx : Int} (Hx : IsW zx Bx (a.eval (.tmp i)) w) {By : Nat} {zy : Int} (Hy : IsW zy By (a.eval (.tmp j)) w) (hL : Bx + By ≤ 10000) (hy : zy ≠ 0) :
    Does Try.prog { dst, op := .call { callee := .value (.func 30), args := #[.tmp i, .tmp j], argTypes := ats }, type := ty, pos, after, guard } a.eval w fun v w' => Below w.heap.size w w' ∧ (Tup2 (OutR (nm zx zy) (dn zx zy) (6 * (Bx + By))) (Eqs (.int .i64 0))) v w' := by
  obtain ⟨nx, ax, mx, cx, xs, ex, Ax, Lx⟩ := Hx
  obtain ⟨ny, ay, my, cy, ys, ey, Ay, Ly⟩ := Hy
  refine does_call has_qof _ (by simp only [List.map_toArray, List.map_cons, List.map_nil, ex, ey]) ((qof_z w Bx _ _ _ _ _ _ Ax Lx By _ _ _ _ _ _ Ay Ly hL hy).mono ?_)
  rintro e w' ⟨v, rfl, h1, hb⟩
  exact ⟨_, rfl, hb, h1⟩

set_option maxRecDepth 20000 in
set_option maxHeartbeats 2000000 in
theorem qof0_z (w : World) (Bx : Nat) (nx : Bool) (ax : Option Addr) (mx cx : Nat) (xs : List Int) (zx : Int) (Ax : Ag w nx ax mx cx xs zx) (Lx : xs.length ≤ Bx) (By : Nat) (ny : Bool) (ay : Option Addr) (my cy : Nat) (ys : List Int) (zy : Int) (Ay : Ag w ny ay my cy ys zy) (Ly : ys.length ≤ By) (hL : Bx + By ≤ 10000) (hy : zy = 0) :
    Calls Try.prog 30 #[.agg #[.bool nx, .slice ax mx cx], .agg #[.bool ny, .slice ay my cy]] w fun e w' => ∃ v, e = .returned v ∧ (Tup2 (Eqs (.agg #[.bool false, .slice none 0 0, .slice none 0 0])) (Eqs (.int .i64 20))) v w' ∧ Below w.heap.size w w' := by
  go_enter Try.func30, Try.ntmps30
  generalize hA : (Act.mk _ _) = aa
  have hn : aa.tmps.size = 18 := by rw [← hA]; rfl
  have hd : aa.defers = [] := by rw [← hA]
  have f0 : aa.eval (.tmp 0) = .agg #[.bool nx, .slice ax mx cx] := by rw [← hA]; rfl
  have f1 : aa.eval (.tmp 1) = .agg #[.bool ny, .slice ay my cy] := by rw [← hA]; rfl
  clear hA
  have HB : Below w.heap.size w w := Below.refl _ _
  have Tx := Ax.sl
  have Ty := Ay.sl
  refine wp_seq ?_
  refine region4 [some 2, some 3, some 4, some 5] [(fun _ _ => True), (fun _ _ => True), (fun _ _ => True), Eqs ((.int .i64 0))] [⟨W2, some 0, 0, 2, .agg #[.bool nx, .slice ax mx cx], none, []⟩, ⟨W2, some 1, 0, 3, .agg #[.bool ny, .slice ay my cy], none, []⟩, ⟨R3, some 2, 0, 4, .agg #[.bool false, .slice none 0 0, .slice none 0 0], none, []⟩] [] (by kernel_rfl) hn rfl (by kernel_rfl) (by kernel_rfl) (by kernel_rfl) (by kernel_rfl) (by kernel_rfl) (by kernel_rfl) ⟨True.mono4, True.mono4, True.mono4, Eqs.mono4 _, trivial⟩ (ok_cons W2ok (ok_cons W2ok (ok_cons R3ok ok_nil))) (IsOld.all (bx := [⟨W2, some 0, 0, 2, .agg #[.bool nx, .slice ax mx cx], none, []⟩, ⟨W2, some 1, 0, 3, .agg #[.bool ny, .slice ay my cy], none, []⟩, ⟨R3, some 2, 0, 4, .agg #[.bool false, .slice none 0 0, .slice none 0 0], none, []⟩]) ⟨someNe, someNe, someNe, trivial⟩) (DisOld.all (bx := [⟨W2, some 0, 0, 2, .agg #[.bool nx, .slice ax mx cx], none, []⟩, ⟨W2, some 1, 0, 3, .agg #[.bool ny, .slice ay my cy], none, []⟩, ⟨R3, some 2, 0, 4, .agg #[.bool false, .slice none 0 0, .slice none 0 0], none, []⟩]) ⟨someNe, someNe, someNe, trivial⟩) ?_ ?_
  · exact ⟨.alloc 0 _ rfl rfl (.inr ⟨_, rfl, w2_cs, fun a_ hR => (hR 0 rfl).trans f0⟩) rfl rfl rfl rfl rfl,
      .alloc 1 _ rfl rfl (.inr ⟨_, rfl, w2_cs, fun a_ hR => (hR 1 rfl).trans f1⟩) rfl rfl rfl rfl rfl,
      .alloc 2 _ rfl rfl (.inl ⟨rfl, rfl⟩) rfl rfl rfl rfl rfl,
      .norm 5 rfl rfl rfl (fun a_ w_ hn_ hBt hr hR hD hO hS => op_assign rfl),
      trivial⟩
  · intro a1 w1 gs1 hn1 hd1 hBt hr hR hP hX hU
    replace hn := hn1; replace hd := hd1.trans hd
    have ne2_4 : gs1 0 ≠ gs1 2 := hU 0 2 (by simp) (by simp) (by decide)
    have ne3_4 : gs1 1 ≠ gs1 2 := hU 1 2 (by simp) (by simp) (by decide)
    have b2 : BoxV W2 w1 (gs1 0) (.agg #[.bool nx, .slice ax mx cx]) := (hX 0 _ rfl).2.2.2
    have f2 := (hX 0 _ rfl).1
    have u2 : w.heap.size ≤ gs1 0 := Nat.le_trans HB.size ((hX 0 _ rfl).2.2.1 (by simp))
    have b3 : BoxV W2 w1 (gs1 1) (.agg #[.bool ny, .slice ay my cy]) := (hX 1 _ rfl).2.2.2
    have f3 := (hX 1 _ rfl).1
    have u3 : w.heap.size ≤ gs1 1 := Nat.le_trans HB.size ((hX 1 _ rfl).2.2.1 (by simp))
    have b4 : BoxV R3 w1 (gs1 2) (.agg #[.bool false, .slice none 0 0, .slice none 0 0]) := (hX 2 _ rfl).2.2.2
    have f4 := (hX 2 _ rfl).1
    have u4 : w.heap.size ≤ gs1 2 := Nat.le_trans HB.size ((hX 2 _ rfl).2.2.1 (by simp))
    have e5 : a1.eval (.tmp 5) = (.int .i64 0) := hP 3 (by decide)
    have f5 := e5
    replace Ax := Ax.rl hr
    replace Tx := Tx.rl hr
    replace Ay := Ay.rl hr
    replace Ty := Ty.rl hr
    replace HB := HB.trans (hBt.below HB.size (UpOld.all (bx := [⟨W2, some 0, 0, 2, .agg #[.bool nx, .slice ax mx cx], none, []⟩, ⟨W2, some 1, 0, 3, .agg #[.bool ny, .slice ay my cy], none, []⟩, ⟨R3, some 2, 0, 4, .agg #[.bool false, .slice none 0 0, .slice none 0 0], none, []⟩]) ⟨someNe, someNe, someNe, trivial⟩))
    clear hBt hr hR hP hX hU
    refine wp_seq ?_
    refine region4 [some 7, some 8, some 6, none] [Eqs (.agg #[.bool ny, .slice ay my cy]), OutN (zy) (3 * (By)), (fun _ _ => True), (fun _ _ => True)] [⟨N2, some 2, 0, 6, .agg #[.bool false, .slice none 0 0], some (3, 8, 1), []⟩] [] (by kernel_rfl) hn rfl (by kernel_rfl) (by kernel_rfl) (by kernel_rfl) (by kernel_rfl) (by kernel_rfl) (by kernel_rfl) ⟨Eqs.mono4 _, OutN.mono4 _ _, True.mono4, True.mono4, trivial⟩ (ok_cons N2ok ok_nil) (IsOld.all (bx := [⟨N2, some 2, 0, 6, .agg #[.bool false, .slice none 0 0], some (3, 8, 1), []⟩]) ⟨someNe, trivial⟩) (DisOld.all (bx := [⟨N2, some 2, 0, 6, .agg #[.bool false, .slice none 0 0], some (3, 8, 1), []⟩]) ⟨someNe, trivial⟩) ?_ ?_
    · exact ⟨.norm 7 rfl rfl rfl (fun a_ w_ hn_ hBt hr hR hD hO hS => op_loadv W2ok ((hR 3 rfl).trans f3) (b3.keep hBt ⟨someNe, trivial⟩)),
        .norm 8 rfl rfl rfl (fun a_ w_ hn_ hBt hr hR hD hO hS => op_nof (L := By) (isw_eq (show a_.eval (.tmp 7) = .agg #[.bool ny, .slice ay my cy] from hD 0 rfl) (Ay.rl hr) Ly) (by omega)),
        .alloc 0 _ rfl rfl (.inl ⟨rfl, rfl⟩) rfl rfl rfl rfl rfl,
        .store 0 _ _ _ rfl rfl rfl rfl rfl rfl rfl (fun ia h => by cases h; rfl) rfl rfl rfl OutN.cs,
        trivial⟩
    · intro a2 w2 gs2 hn2 hd2 hBt hr hR hP hX hU
      replace hn := hn2; replace hd := hd2.trans hd
      have ne4_6 : (gs1 2) ≠ gs2 0 := by have h1 := b4.lt; have h2 := (hX 0 _ rfl).2.2.1 (by simp); omega
      replace b2 := b2.keep hBt ⟨someNe, trivial⟩
      replace b4 := b4.keep hBt ⟨someNe, trivial⟩
      obtain ⟨n_3, a_3, c_3, r_3, e8, G3, l3⟩ : OutN (zy) (3 * (By)) (a2.eval (.tmp 8)) w2 := hP 1 (by decide)
      have b6 : BoxV N2 w2 (gs2 0) (.agg #[.bool n_3, .slice a_3 r_3.length c_3]) := boxv_of (hX 0 _ rfl).2.2.2 e8
      have f6 := (hX 0 _ rfl).1
      have u6 : w.heap.size ≤ gs2 0 := Nat.le_trans HB.size ((hX 0 _ rfl).2.2.1 (by simp))
      replace f2 := (hR 2 rfl).trans f2
      replace f4 := (hR 4 rfl).trans f4
      replace f5 := (hR 5 rfl).trans f5
      replace Ax := Ax.rl hr
      replace Tx := Tx.rl hr
      replace Ay := Ay.rl hr
      replace Ty := Ty.rl hr
      replace HB := HB.trans (hBt.below HB.size (UpOld.all (bx := [⟨N2, some 2, 0, 6, .agg #[.bool false, .slice none 0 0], some (3, 8, 1), []⟩]) ⟨someNe, trivial⟩))
      clear hBt hr hR hP hX hU
      refine wp_seq ?_
      refine wp_seq ?_
      refine region4 [some 9, some 10, some 11] [Eqs (.agg #[.bool n_3, .slice a_3 r_3.length c_3]), Eqs (.int .i64 (Int.sign zy)), Eqs (.bool (decide ((Int.sign zy) = 0)))] [] [] (by kernel_rfl) hn rfl (by kernel_rfl) (by kernel_rfl) (by kernel_rfl) (by kernel_rfl) (by kernel_rfl) (by kernel_rfl) ⟨Eqs.mono4 _, Eqs.mono4 _, Eqs.mono4 _, trivial⟩ ok_nil (IsOld.all (bx := []) trivial) (DisOld.all (bx := []) trivial) ?_ ?_
      · exact ⟨.norm 9 rfl rfl rfl (fun a_ w_ hn_ hBt hr hR hD hO hS => op_loadv N2ok ((hR 6 rfl).trans f6) (b6.keep hBt trivial)),
          .norm 10 rfl rfl rfl (fun a_ w_ hn_ hBt hr hR hD hO hS => op_nsign (outn_eq (show a_.eval (.tmp 9) = .agg #[.bool n_3, .slice a_3 r_3.length c_3] from hD 0 rfl) (G3.rl hr) l3)),
          .norm 11 rfl rfl rfl (fun a_ w_ hn_ hBt hr hR hD hO hS => op_eqlk (show a_.eval (.tmp 10) = .int .i64 (Int.sign zy) from hD 1 rfl)),
          trivial⟩
      · intro a4 w4 gs4 hn4 hd4 hBt hr hR hP hX hU
        replace hn := hn4; replace hd := hd4.trans hd
        replace b2 := b2.keep hBt trivial
        replace b4 := b4.keep hBt trivial
        replace b6 := b6.keep hBt trivial
        replace f2 := (hR 2 rfl).trans f2
        replace f4 := (hR 4 rfl).trans f4
        replace f5 := (hR 5 rfl).trans f5
        replace f6 := (hR 6 rfl).trans f6
        have e11 : a4.eval (.tmp 11) = .bool (decide ((Int.sign zy) = 0)) := hP 2 (by decide)
        have f11 := e11
        replace Ax := Ax.rl hr
        replace Tx := Tx.rl hr
        replace Ay := Ay.rl hr
        replace Ty := Ty.rl hr
        replace G3 := G3.rl hr
        replace HB := HB.trans (hBt.below HB.size (UpOld.all (bx := []) trivial))
        clear hBt hr hR hP hX hU
        refine wp_cond_split f11 (fun hc11 => ?_) (fun hc11 => ?_)
        · skip
          refine wp_seq ?_
          refine region4 [some 12, none, some 5] [Eqs (.agg #[.bool false, .slice none 0 0, .slice none 0 0]), (fun _ _ => True), Eqs ((.int .i64 20))] [⟨R3, none, (gs1 2), 4, .agg #[.bool false, .slice none 0 0, .slice none 0 0], some (1, 12, 0), []⟩] [] (by kernel_rfl) hn rfl (by kernel_rfl) (by kernel_rfl) (by kernel_rfl) (by kernel_rfl) (by kernel_rfl) (by kernel_rfl) ⟨Eqs.mono4 _, True.mono4, Eqs.mono4 _, trivial⟩ (ok_cons R3ok ok_nil) (IsOld.all (bx := [⟨R3, none, (gs1 2), 4, .agg #[.bool false, .slice none 0 0, .slice none 0 0], some (1, 12, 0), []⟩]) ⟨fun _ => ⟨f4, b4⟩, trivial⟩) (DisOld.all (bx := [⟨R3, none, (gs1 2), 4, .agg #[.bool false, .slice none 0 0, .slice none 0 0], some (1, 12, 0), []⟩]) ⟨fun _ => trivial, trivial⟩) ?_ ?_
          · exact ⟨.norm 12 rfl rfl rfl (fun a_ w_ hn_ hBt hr hR hD hO hS => op_bR0),
              .store 0 _ _ _ rfl rfl rfl rfl rfl rfl rfl (fun ia h => by cases h) rfl rfl rfl (eqs_cs r3_cs),
              .norm 5 rfl rfl rfl (fun a_ w_ hn_ hBt hr hR hD hO hS => op_assign rfl),
              trivial⟩
          · intro a5 w5 gs5 hn5 hd5 hBt hr hR hP hX hU
            replace hn := hn5; replace hd := hd5.trans hd
            replace b2 := b2.keep hBt ⟨fun _ => ne2_4.symm, trivial⟩
            replace b6 := b6.keep hBt ⟨fun _ => ne4_6, trivial⟩
            have e12 : a5.eval (.tmp 12) = .agg #[.bool false, .slice none 0 0, .slice none 0 0] := hP 0 (by decide)
            have b4 : BoxV R3 w5 ((gs1 2)) (.agg #[.bool false, .slice none 0 0, .slice none 0 0]) := boxv_old ((hX 0 _ rfl).2.1 rfl) (hX 0 _ rfl).2.2.2 e12
            replace f4 : a5.eval (.tmp 4) = _ := (hR 4 rfl).trans f4
            replace f2 := (hR 2 rfl).trans f2
            replace f6 := (hR 6 rfl).trans f6
            have e5 : a5.eval (.tmp 5) = (.int .i64 20) := hP 2 (by decide)
            have f5 := e5
            replace Ax := Ax.rl hr
            replace Tx := Tx.rl hr
            replace Ay := Ay.rl hr
            replace Ty := Ty.rl hr
            replace G3 := G3.rl hr
            replace HB := HB.trans (hBt.below HB.size (UpOld.all (bx := [⟨R3, none, (gs1 2), 4, .agg #[.bool false, .slice none 0 0, .slice none 0 0], some (1, 12, 0), []⟩]) ⟨fun _ => u4, trivial⟩))
            clear hBt hr hR hP hX hU
            refine wp_ret ?_
            repeat (first | refine then_ret ?_ | refine scope_ret ?_ | refine block_ret ?_)
            exact bodyPost_ret (v := .tuple #[.agg #[.bool false, .slice none 0 0, .slice none 0 0], (.int .i64 20)]) (res_ct rfl f4 (lv_R3 b4) f5) hd ⟨_, rfl, ⟨_, _, rfl, rfl, rfl⟩, HB⟩
        · skip
          exact absurd (sign_zero_iff.2 hy) (of_decide_eq_false hc11)

theorem op_qof0 {dst : Option Tmp} {ty : TypeId} {pos : String} {after : Array Edge} {guard : Option (Nat × Bool)} {a : Act} {w : World} {ats : Array TypeId} {i j : Nat} {Bx : Nat} {zx : Int} (Hx : IsW zx Bx (a.eval (.tmp i)) w) {By : Nat} {zy : Int} (Hy : IsW zy By (a.eval (.tmp j)) w) (hL : Bx + By ≤ 10000) (hy : zy = 0) :
    Does Try.prog { dst, op := .call { callee := .value (.func 30), args := #[.tmp i, .tmp j], argTypes := ats }, type := ty, pos, after, guard } a.eval w fun v w' => Below w.heap.size w w' ∧ (Tup2 (Eqs (.agg #[.bool false, .slice none 0 0, .slice none 0 0])) (Eqs (.int .i64 20))) v w' := by
  obtain ⟨nx, ax, mx, cx, xs, ex, Ax, Lx⟩ := Hx
  obtain ⟨ny, ay, my, cy, ys, ey, Ay, Ly⟩ := Hy
  refine does_call has_qof _ (by simp only [List.map_toArray, List.map_cons, List.map_nil, ex, ey]) ((qof0_z w Bx _ _ _ _ _ _ Ax Lx By _ _ _ _ _ _ Ay Ly hL hy).mono ?_)
  rintro e w' ⟨v, rfl, h1, hb⟩
  exact ⟨_, rfl, hb, h1⟩

set_option maxRecDepth 20000 in
set_option maxHeartbeats 2000000 in
theorem qfrom_z (w : World) (Bx : Nat) (nx : Bool) (ax : Option Addr) (mx cx : Nat) (xs : List Int) (zx : Int) (Ax : Ag w nx ax mx cx xs zx) (Lx : xs.length ≤ Bx) (hL : Bx ≤ 10000) :
    Calls Try.prog 33 #[.agg #[.bool nx, .slice ax mx cx]] w fun e w' => ∃ v, e = .returned v ∧ (OutR zx 1 (6 * Bx + 10)) v w' ∧ Below w.heap.size w w' := by
  go_enter Try.func33, Try.ntmps33
  generalize hA : (Act.mk _ _) = aa
  have hn : aa.tmps.size = 8 := by rw [← hA]; rfl
  have hd : aa.defers = [] := by rw [← hA]
  have f0 : aa.eval (.tmp 0) = .agg #[.bool nx, .slice ax mx cx] := by rw [← hA]; rfl
  clear hA
  have HB : Below w.heap.size w w := Below.refl _ _
  have Tx := Ax.sl
  refine wp_seq ?_
  refine region4 [some 1, some 2] [(fun _ _ => True), (fun _ _ => True)] [⟨W2, some 0, 0, 1, .agg #[.bool nx, .slice ax mx cx], none, []⟩, ⟨R3, some 1, 0, 2, .agg #[.bool false, .slice none 0 0, .slice none 0 0], none, []⟩] [] (by kernel_rfl) hn rfl (by kernel_rfl) (by kernel_rfl) (by kernel_rfl) (by kernel_rfl) (by kernel_rfl) (by kernel_rfl) ⟨True.mono4, True.mono4, trivial⟩ (ok_cons W2ok (ok_cons R3ok ok_nil)) (IsOld.all (bx := [⟨W2, some 0, 0, 1, .agg #[.bool nx, .slice ax mx cx], none, []⟩, ⟨R3, some 1, 0, 2, .agg #[.bool false, .slice none 0 0, .slice none 0 0], none, []⟩]) ⟨someNe, someNe, trivial⟩) (DisOld.all (bx := [⟨W2, some 0, 0, 1, .agg #[.bool nx, .slice ax mx cx], none, []⟩, ⟨R3, some 1, 0, 2, .agg #[.bool false, .slice none 0 0, .slice none 0 0], none, []⟩]) ⟨someNe, someNe, trivial⟩) ?_ ?_
  · exact ⟨.alloc 0 _ rfl rfl (.inr ⟨_, rfl, w2_cs, fun a_ hR => (hR 0 rfl).trans f0⟩) rfl rfl rfl rfl rfl,
      .alloc 1 _ rfl rfl (.inl ⟨rfl, rfl⟩) rfl rfl rfl rfl rfl,
      trivial⟩
  · intro a1 w1 gs1 hn1 hd1 hBt hr hR hP hX hU
    replace hn := hn1; replace hd := hd1.trans hd
    have ne1_2 : gs1 0 ≠ gs1 1 := hU 0 1 (by simp) (by simp) (by decide)
    have b1 : BoxV W2 w1 (gs1 0) (.agg #[.bool nx, .slice ax mx cx]) := (hX 0 _ rfl).2.2.2
    have f1 := (hX 0 _ rfl).1
    have u1 : w.heap.size ≤ gs1 0 := Nat.le_trans HB.size ((hX 0 _ rfl).2.2.1 (by simp))
    have b2 : BoxV R3 w1 (gs1 1) (.agg #[.bool false, .slice none 0 0, .slice none 0 0]) := (hX 1 _ rfl).2.2.2
    have f2 := (hX 1 _ rfl).1
    have u2 : w.heap.size ≤ gs1 1 := Nat.le_trans HB.size ((hX 1 _ rfl).2.2.1 (by simp))
    replace Ax := Ax.rl hr
    replace Tx := Tx.rl hr
    replace HB := HB.trans (hBt.below HB.size (UpOld.all (bx := [⟨W2, some 0, 0, 1, .agg #[.bool nx, .slice ax mx cx], none, []⟩, ⟨R3, some 1, 0, 2, .agg #[.bool false, .slice none 0 0, .slice none 0 0], none, []⟩]) ⟨someNe, someNe, trivial⟩))
    clear hBt hr hR hP hX hU
    refine wp_seq ?_
    refine region4 [some 3, some 4, some 5, some 6, some 7, none] [Eqs (.agg #[.bool nx, .slice ax mx cx]), OutN (zx) (3 * (Bx)), OutN (1) (5), OutQ (zx) (1) ((3 * (Bx)) + (5)), OutR (zx) (1) (2 * ((3 * (Bx)) + (5))), (fun _ _ => True)] [⟨R3, none, (gs1 1), 2, .agg #[.bool false, .slice none 0 0, .slice none 0 0], some (5, 7, 4), []⟩] [] (by kernel_rfl) hn rfl (by kernel_rfl) (by kernel_rfl) (by kernel_rfl) (by kernel_rfl) (by kernel_rfl) (by kernel_rfl) ⟨Eqs.mono4 _, OutN.mono4 _ _, OutN.mono4 _ _, OutQ.mono4 _ _ _, OutR.mono4 _ _ _, True.mono4, trivial⟩ (ok_cons R3ok ok_nil) (IsOld.all (bx := [⟨R3, none, (gs1 1), 2, .agg #[.bool false, .slice none 0 0, .slice none 0 0], some (5, 7, 4), []⟩]) ⟨fun _ => ⟨f2, b2⟩, trivial⟩) (DisOld.all (bx := [⟨R3, none, (gs1 1), 2, .agg #[.bool false, .slice none 0 0, .slice none 0 0], some (5, 7, 4), []⟩]) ⟨fun _ => trivial, trivial⟩) ?_ ?_
    · exact ⟨.norm 3 rfl rfl rfl (fun a_ w_ hn_ hBt hr hR hD hO hS => op_loadv W2ok ((hR 1 rfl).trans f1) (b1.keep hBt ⟨fun _ => ne1_2.symm, trivial⟩)),
        .norm 4 rfl rfl rfl (fun a_ w_ hn_ hBt hr hR hD hO hS => op_nof (L := Bx) (isw_eq (show a_.eval (.tmp 3) = .agg #[.bool nx, .slice ax mx cx] from hD 0 rfl) (Ax.rl hr) Lx) (by omega)),
        .norm 5 rfl rfl rfl (fun a_ w_ hn_ hBt hr hR hD hO hS => op_nint (by omega) (by omega)),
        .norm 6 rfl rfl rfl (fun a_ w_ hn_ hBt hr hR hD hO hS => op_bQ (L := (3 * (Bx)) + (5)) ((show OutN (zx) (3 * (Bx)) (a_.eval (.tmp 4)) w_ from hD 1 rfl).to rfl (by omega)) ((show OutN (1) (5) (a_.eval (.tmp 5)) w_ from hD 2 rfl).to rfl (by omega))),
        .norm 7 rfl rfl rfl (fun a_ w_ hn_ hBt hr hR hD hO hS => op_qtold (Bx := (3 * (Bx)) + (5)) (show OutQ (zx) (1) ((3 * (Bx)) + (5)) (a_.eval (.tmp 6)) w_ from hD 3 rfl) (by omega) (by omega)),
        .store 0 _ _ _ rfl rfl rfl rfl rfl rfl rfl (fun ia h => by cases h) rfl rfl rfl OutR.cs,
        trivial⟩
    · intro a2 w2 gs2 hn2 hd2 hBt hr hR hP hX hU
      replace hn := hn2; replace hd := hd2.trans hd
      obtain ⟨n_3, a_3, c_3, r_3, b_3, d_3, s_3, e7, G3, K3, l3, k3⟩ : OutR (zx) (1) (2 * ((3 * (Bx)) + (5))) (a2.eval (.tmp 7)) w2 := hP 4 (by decide)
      have A3 := G3.ag; have S3 := K3.sl; have V3 := K3.val
      have b2 : BoxV R3 w2 ((gs1 1)) (.agg #[.bool n_3, .slice a_3 r_3.length c_3, .slice b_3 s_3.length d_3]) := boxv_old ((hX 0 _ rfl).2.1 rfl) (hX 0 _ rfl).2.2.2 e7
      replace f2 : a2.eval (.tmp 2) = _ := (hR 2 rfl).trans f2
      replace Ax := Ax.rl hr
      replace Tx := Tx.rl hr
      replace HB := HB.trans (hBt.below HB.size (UpOld.all (bx := [⟨R3, none, (gs1 1), 2, .agg #[.bool false, .slice none 0 0, .slice none 0 0], some (5, 7, 4), []⟩]) ⟨fun _ => u2, trivial⟩))
      clear hBt hr hR hP hX hU
      refine wp_ret ?_
      repeat (first | refine then_ret ?_ | refine scope_ret ?_ | refine block_ret ?_)
      exact bodyPost_ret (v := .agg #[.bool n_3, .slice a_3 r_3.length c_3, .slice b_3 s_3.length d_3]) (res_c rfl f2 (lv_R3 b2)) hd ⟨_, rfl, OutR.to (outr_eq rfl G3 K3 l3 k3) rfl rfl (by omega), HB⟩

theorem has_qfrom : Has Try.prog 33 := by unfold Has; kernel_rfl
theorem op_qfrom {dst : Option Tmp} {ty : TypeId} {pos : String} {after : Array Edge} {guard : Option (Nat × Bool)} {a : Act} {w : World} {ats : Array TypeId} {i : Nat} {Bx : Nat} {zx : Int} (Hx : IsW zx Bx (a.eval (.tmp i)) w) (hL : Bx ≤ 10000) :
    Does Try.prog { dst, op := .call { callee := .value (.func 33), args := #[.tmp i], argTypes := ats }, type := ty, pos, after, guard } a.eval w fun v w' => Below w.heap.size w w' ∧ (OutR zx 1 (6 * Bx + 10)) v w' := by
  obtain ⟨nx, ax, mx, cx, xs, ex, Ax, Lx⟩ := Hx
  refine does_call has_qfrom _ (by simp only [List.map_toArray, List.map_cons, List.map_nil, ex]) ((qfrom_z w Bx _ _ _ _ _ _ Ax Lx hL).mono ?_)
  rintro e w' ⟨v, rfl, h1, hb⟩
  exact ⟨_, rfl, hb, h1⟩

set_option maxRecDepth 20000 in
set_option maxHeartbeats 2000000 in
theorem copyw_z (w : World) (Bx : Nat) (nx : Bool) (ax : Option Addr) (mx cx : Nat) (xs : List Int) (zx : Int) (Ax : Ag w nx ax mx cx xs zx) (Lx : xs.length ≤ Bx) (hL : Bx ≤ 100000) :
    Calls Try.prog 29 #[.agg #[.bool nx, .slice ax mx cx]] w fun e w' => ∃ v, e = .returned v ∧ (IsW zx Bx) v w' ∧ Below w.heap.size w w' := by
  go_enter Try.func29, Try.ntmps29
  generalize hA : (Act.mk _ _) = aa
  have hn : aa.tmps.size = 9 := by rw [← hA]; rfl
  have hd : aa.defers = [] := by rw [← hA]
  have f0 : aa.eval (.tmp 0) = .agg #[.bool nx, .slice ax mx cx] := by rw [← hA]; rfl
  clear hA
  have HB : Below w.heap.size w w := Below.refl _ _
  have Tx := Ax.sl
  have hwx := Ax.worth
  refine wp_seq ?_
  refine region4 [some 1, some 2] [(fun _ _ => True), (fun _ _ => True)] [⟨W2, some 0, 0, 1, .agg #[.bool nx, .slice ax mx cx], none, []⟩, ⟨W2, some 1, 0, 2, .agg #[.bool false, .slice none 0 0], none, []⟩] [] (by kernel_rfl) hn rfl (by kernel_rfl) (by kernel_rfl) (by kernel_rfl) (by kernel_rfl) (by kernel_rfl) (by kernel_rfl) ⟨True.mono4, True.mono4, trivial⟩ (ok_cons W2ok (ok_cons W2ok ok_nil)) (IsOld.all (bx := [⟨W2, some 0, 0, 1, .agg #[.bool nx, .slice ax mx cx], none, []⟩, ⟨W2, some 1, 0, 2, .agg #[.bool false, .slice none 0 0], none, []⟩]) ⟨someNe, someNe, trivial⟩) (DisOld.all (bx := [⟨W2, some 0, 0, 1, .agg #[.bool nx, .slice ax mx cx], none, []⟩, ⟨W2, some 1, 0, 2, .agg #[.bool false, .slice none 0 0], none, []⟩]) ⟨someNe, someNe, trivial⟩) ?_ ?_
  · exact ⟨.alloc 0 _ rfl rfl (.inr ⟨_, rfl, w2_cs, fun a_ hR => (hR 0 rfl).trans f0⟩) rfl rfl rfl rfl rfl,
      .alloc 1 _ rfl rfl (.inl ⟨rfl, rfl⟩) rfl rfl rfl rfl rfl,
      trivial⟩
  · intro a1 w1 gs1 hn1 hd1 hBt hr hR hP hX hU
    replace hn := hn1; replace hd := hd1.trans hd
    have ne1_2 : gs1 0 ≠ gs1 1 := hU 0 1 (by simp) (by simp) (by decide)
    have b1 : BoxV W2 w1 (gs1 0) (.agg #[.bool nx, .slice ax mx cx]) := (hX 0 _ rfl).2.2.2
    have f1 := (hX 0 _ rfl).1
    have u1 : w.heap.size ≤ gs1 0 := Nat.le_trans HB.size ((hX 0 _ rfl).2.2.1 (by simp))
    have b2 : BoxV W2 w1 (gs1 1) (.agg #[.bool false, .slice none 0 0]) := (hX 1 _ rfl).2.2.2
    have f2 := (hX 1 _ rfl).1
    have u2 : w.heap.size ≤ gs1 1 := Nat.le_trans HB.size ((hX 1 _ rfl).2.2.1 (by simp))
    replace Ax := Ax.rl hr
    replace Tx := Tx.rl hr
    replace HB := HB.trans (hBt.below HB.size (UpOld.all (bx := [⟨W2, some 0, 0, 1, .agg #[.bool nx, .slice ax mx cx], none, []⟩, ⟨W2, some 1, 0, 2, .agg #[.bool false, .slice none 0 0], none, []⟩]) ⟨someNe, someNe, trivial⟩))
    clear hBt hr hR hP hX hU
    refine wp_seq ?_
    refine region4 [some 3, some 4, some 5, some 6, some 7, some 8, none] [Eqs (.pointer (some ⟨gs1 0, 0, none⟩)), Eqs (.bool nx), Eqs (.pointer (some ⟨gs1 0, 1, none⟩)), Eqs (.slice ax mx cx), CopyL xs, IsW (zx) (Bx), (fun _ _ => True)] [⟨W2, none, (gs1 1), 2, .agg #[.bool false, .slice none 0 0], some (6, 8, 5), []⟩] [] (by kernel_rfl) hn rfl (by kernel_rfl) (by kernel_rfl) (by kernel_rfl) (by kernel_rfl) (by kernel_rfl) (by kernel_rfl) ⟨Eqs.mono4 _, Eqs.mono4 _, Eqs.mono4 _, Eqs.mono4 _, CopyL.mono4 _, IsW.mono4 _ _, True.mono4, trivial⟩ (ok_cons W2ok ok_nil) (IsOld.all (bx := [⟨W2, none, (gs1 1), 2, .agg #[.bool false, .slice none 0 0], some (6, 8, 5), []⟩]) ⟨fun _ => ⟨f2, b2⟩, trivial⟩) (DisOld.all (bx := [⟨W2, none, (gs1 1), 2, .agg #[.bool false, .slice none 0 0], some (6, 8, 5), []⟩]) ⟨fun _ => trivial, trivial⟩) ?_ ?_
    · exact ⟨.norm 3 rfl rfl rfl (fun a_ w_ hn_ hBt hr hR hD hO hS => op_fa fa_neg ((hR 1 rfl).trans f1)),
        .norm 4 rfl rfl rfl (fun a_ w_ hn_ hBt hr hR hD hO hS => op_ldneg (show a_.eval (.tmp 3) = .pointer (some ⟨gs1 0, 0, none⟩) from hD 0 rfl) (b1.keep hBt ⟨fun _ => ne1_2.symm, trivial⟩)),
        .norm 5 rfl rfl rfl (fun a_ w_ hn_ hBt hr hR hD hO hS => op_fa fa_mag ((hR 1 rfl).trans f1)),
        .norm 6 rfl rfl rfl (fun a_ w_ hn_ hBt hr hR hD hO hS => op_ldmag (show a_.eval (.tmp 5) = .pointer (some ⟨gs1 0, 1, none⟩) from hD 2 rfl) (b1.keep hBt ⟨fun _ => ne1_2.symm, trivial⟩)),
        .norm 7 rfl rfl rfl (fun a_ w_ hn_ hBt hr hR hD hO hS => op_lcopy (show a_.eval (.tmp 6) = .slice ax mx cx from hD 3 rfl) (Tx.rl hr) (by omega)),
        .norm 8 rfl rfl rfl (fun a_ w_ hn_ hBt hr hR hD hO hS => op_bWc (show a_.eval (.tmp 4) = .bool nx from hD 1 rfl) (show CopyL xs (a_.eval (.tmp 7)) w_ from hD 4 rfl) hwx Lx),
        .store 0 _ _ _ rfl rfl rfl rfl rfl rfl rfl (fun ia h => by cases h) rfl rfl rfl IsW.cs,
        trivial⟩
    · intro a2 w2 gs2 hn2 hd2 hBt hr hR hP hX hU
      replace hn := hn2; replace hd := hd2.trans hd
      obtain ⟨n_3, a_3, m_3, c_3, r_3, e8, A3, l3⟩ : IsW (zx) (Bx) (a2.eval (.tmp 8)) w2 := hP 5 (by decide)
      have b2 : BoxV W2 w2 ((gs1 1)) (.agg #[.bool n_3, .slice a_3 m_3 c_3]) := boxv_old ((hX 0 _ rfl).2.1 rfl) (hX 0 _ rfl).2.2.2 e8
      replace f2 : a2.eval (.tmp 2) = _ := (hR 2 rfl).trans f2
      replace Ax := Ax.rl hr
      replace Tx := Tx.rl hr
      replace HB := HB.trans (hBt.below HB.size (UpOld.all (bx := [⟨W2, none, (gs1 1), 2, .agg #[.bool false, .slice none 0 0], some (6, 8, 5), []⟩]) ⟨fun _ => u2, trivial⟩))
      clear hBt hr hR hP hX hU
      refine wp_ret ?_
      repeat (first | refine then_ret ?_ | refine scope_ret ?_ | refine block_ret ?_)
      exact bodyPost_ret (v := .agg #[.bool n_3, .slice a_3 m_3 c_3]) (res_c rfl f2 (lv_W2 b2)) hd ⟨_, rfl, isw_eq rfl A3 l3, HB⟩

theorem has_copyw : Has Try.prog 29 := by unfold Has; kernel_rfl
theorem op_copyw {dst : Option Tmp} {ty : TypeId} {pos : String} {after : Array Edge} {guard : Option (Nat × Bool)} {a : Act} {w : World} {ats : Array TypeId} {i : Nat} {Bx : Nat} {zx : Int} (Hx : IsW zx Bx (a.eval (.tmp i)) w) (hL : Bx ≤ 100000) :
    Does Try.prog { dst, op := .call { callee := .value (.func 29), args := #[.tmp i], argTypes := ats }, type := ty, pos, after, guard } a.eval w fun v w' => Below w.heap.size w w' ∧ (IsW zx Bx) v w' := by
  obtain ⟨nx, ax, mx, cx, xs, ex, Ax, Lx⟩ := Hx
  refine does_call has_copyw _ (by simp only [List.map_toArray, List.map_cons, List.map_nil, ex]) ((copyw_z w Bx _ _ _ _ _ _ Ax Lx hL).mono ?_)
  rintro e w' ⟨v, rfl, h1, hb⟩
  exact ⟨_, rfl, hb, h1⟩

end Lm
end Go.Proofs.Ytkdcgnooeojjgab

namespace Go.Proofs.Ytkdcgnooeojjgab
namespace Lm
open Go Go.RowKit

set_option maxRecDepth 20000 in
set_option maxHeartbeats 1000000 in
theorem num_z (w : World) (u : Int) : Calls Try.prog 31 #[.int .i64 u] w fun e w' => ∃ v, e = .returned v ∧ (Eqs (.int .i64 u)) v w' ∧ Below w.heap.size w w' := by
  go_enter Try.func31, Try.ntmps31
  generalize hA : (Act.mk _ _) = aa
  have hn : aa.tmps.size = 4 := by rw [← hA]; rfl
  have hd : aa.defers = [] := by rw [← hA]
  have f0 : aa.eval (.tmp 0) = .int .i64 u := by rw [← hA]; rfl
  clear hA
  have HB : Below w.heap.size w w := Below.refl _ _
  refine wp_seq ?_
  refine region4 [some 2] [Eqs ((.int .i64 0))] [] [] (by kernel_rfl) hn rfl (by kernel_rfl) (by kernel_rfl) (by kernel_rfl) (by kernel_rfl) (by kernel_rfl) (by kernel_rfl) ⟨Eqs.mono4 _, trivial⟩ ok_nil (IsOld.all (bx := []) trivial) (DisOld.all (bx := []) trivial) ?_ ?_
  · exact ⟨.norm 2 rfl rfl rfl (fun a_ w_ hn_ hBt hr hR hD hO hS => op_assign rfl),
      trivial⟩
  · intro a1 w1 gs1 hn1 hd1 hBt hr hR hP hX hU
    replace hn := hn1; replace hd := hd1.trans hd
    replace f0 := (hR 0 rfl).trans f0
    have e2 : a1.eval (.tmp 2) = (.int .i64 0) := hP 0 (by decide)
    have f2 := e2
    replace HB := HB.trans (hBt.below HB.size (UpOld.all (bx := []) trivial))
    clear hBt hr hR hP hX hU
    refine wp_seq ?_
    refine region4 [some 3, some 2] [Eqs (.int .i64 u), Eqs (.int .i64 u)] [] [] (by kernel_rfl) hn rfl (by kernel_rfl) (by kernel_rfl) (by kernel_rfl) (by kernel_rfl) (by kernel_rfl) (by kernel_rfl) ⟨Eqs.mono4 _, Eqs.mono4 _, trivial⟩ ok_nil (IsOld.all (bx := []) trivial) (DisOld.all (bx := []) trivial) ?_ ?_
    · exact ⟨.norm 3 rfl rfl rfl (fun a_ w_ hn_ hBt hr hR hD hO hS => op_mv ((hR 0 rfl).trans f0)),
        .norm 2 rfl rfl rfl (fun a_ w_ hn_ hBt hr hR hD hO hS => op_assign (show a_.eval (.tmp 3) = .int .i64 u from hD 0 rfl)),
        trivial⟩
    · intro a2 w2 gs2 hn2 hd2 hBt hr hR hP hX hU
      replace hn := hn2; replace hd := hd2.trans hd
      have e2 : a2.eval (.tmp 2) = .int .i64 u := hP 1 (by decide)
      have f2 := e2
      replace HB := HB.trans (hBt.below HB.size (UpOld.all (bx := []) trivial))
      clear hBt hr hR hP hX hU
      refine wp_ret ?_
      repeat (first | refine then_ret ?_ | refine scope_ret ?_ | refine block_ret ?_)
      exact bodyPost_ret (v := .int .i64 u) (res_t rfl f2) hd ⟨_, rfl, rfl, HB⟩

theorem has_num : Has Try.prog 31 := by unfold Has; kernel_rfl
theorem op_num {dst : Option Tmp} {ty : TypeId} {pos : String} {after : Array Edge} {guard : Option (Nat × Bool)} {a : Act} {w : World} {ats : Array TypeId} {i : Nat} {u : Int} (h : a.eval (.tmp i) = .int .i64 u) :
    Does Try.prog { dst, op := .call { callee := .value (.func 31), args := #[.tmp i], argTypes := ats }, type := ty, pos, after, guard } a.eval w fun v w' => Below w.heap.size w w' ∧ Eqs (.int .i64 u) v w' := by
  refine does_call has_num _ (by simp only [List.map_toArray, List.map_cons, List.map_nil, h]) ((num_z w u).mono ?_)
  rintro e w' ⟨v, rfl, h1, hb⟩
  exact ⟨_, rfl, hb, h1⟩

set_option maxRecDepth 20000 in
set_option maxHeartbeats 4000000 in
theorem rmakes_law (w : World) (nx : Bool) (ax : Option Addr) (mx cx : Nat) (xs : List Int) (zx : Int) (ny : Bool) (ay : Option Addr) (my cy : Nat) (ys : List Int) (zy : Int) (Ax : Ag w nx ax mx cx xs zx) (Ay : Ag w ny ay my cy ys zy) (gx : mx ≤ 35184372088832) (gy : my ≤ 35184372088832) :
    Calls Try.prog 4 #[.agg #[.bool nx, .slice ax mx cx], .agg #[.bool ny, .slice ay my cy]] w fun e w' => e = .returned (.bool true) ∧ Below w.heap.size w w' := by
  go_enter Try.func4, Try.ntmps4
  generalize hA : (Act.mk _ _) = aa
  have hn : aa.tmps.size = 48 := by rw [← hA]; rfl
  have hd : aa.defers = [] := by rw [← hA]
  have f0 : aa.eval (.tmp 0) = .agg #[.bool nx, .slice ax mx cx] := by rw [← hA]; rfl
  have f1 : aa.eval (.tmp 1) = .agg #[.bool ny, .slice ay my cy] := by rw [← hA]; rfl
  clear hA
  have HB : Below w.heap.size w w := Below.refl _ _
  have Tx := Ax.sl
  have Ty := Ay.sl
  refine wp_seq ?_
  refine region4 [some 2, some 3, some 4] [(fun _ _ => True), (fun _ _ => True), Eqs ((.bool false))] [⟨W2, some 0, 0, 2, .agg #[.bool nx, .slice ax mx cx], none, []⟩, ⟨W2, some 1, 0, 3, .agg #[.bool ny, .slice ay my cy], none, []⟩] [] (by kernel_rfl) hn rfl (by kernel_rfl) (by kernel_rfl) (by kernel_rfl) (by kernel_rfl) (by kernel_rfl) (by kernel_rfl) ⟨True.mono4, True.mono4, Eqs.mono4 _, trivial⟩ (ok_cons W2ok (ok_cons W2ok ok_nil)) (IsOld.all (bx := [⟨W2, some 0, 0, 2, .agg #[.bool nx, .slice ax mx cx], none, []⟩, ⟨W2, some 1, 0, 3, .agg #[.bool ny, .slice ay my cy], none, []⟩]) ⟨someNe, someNe, trivial⟩) (DisOld.all (bx := [⟨W2, some 0, 0, 2, .agg #[.bool nx, .slice ax mx cx], none, []⟩, ⟨W2, some 1, 0, 3, .agg #[.bool ny, .slice ay my cy], none, []⟩]) ⟨someNe, someNe, trivial⟩) ?_ ?_
  · exact ⟨.alloc 0 _ rfl rfl (.inr ⟨_, rfl, w2_cs, fun a_ hR => (hR 0 rfl).trans f0⟩) rfl rfl rfl rfl rfl,
      .alloc 1 _ rfl rfl (.inr ⟨_, rfl, w2_cs, fun a_ hR => (hR 1 rfl).trans f1⟩) rfl rfl rfl rfl rfl,
      .norm 4 rfl rfl rfl (fun a_ w_ hn_ hBt hr hR hD hO hS => op_assign rfl),
      trivial⟩
  · intro a1 w1 gs1 hn1 hd1 hBt hr hR hP hX hU
    replace hn := hn1; replace hd := hd1.trans hd
    have b2 : BoxV W2 w1 (gs1 0) (.agg #[.bool nx, .slice ax mx cx]) := (hX 0 _ rfl).2.2.2
    have f2 := (hX 0 _ rfl).1
    have u2 : w.heap.size ≤ gs1 0 := Nat.le_trans HB.size ((hX 0 _ rfl).2.2.1 (by simp))
    have b3 : BoxV W2 w1 (gs1 1) (.agg #[.bool ny, .slice ay my cy]) := (hX 1 _ rfl).2.2.2
    have f3 := (hX 1 _ rfl).1
    have u3 : w.heap.size ≤ gs1 1 := Nat.le_trans HB.size ((hX 1 _ rfl).2.2.1 (by simp))
    have e4 : a1.eval (.tmp 4) = (.bool false) := hP 2 (by decide)
    have f4 := e4
    replace Ax := Ax.rl hr
    replace Tx := Tx.rl hr
    replace Ay := Ay.rl hr
    replace Ty := Ty.rl hr
    replace HB := HB.trans (hBt.below HB.size (UpOld.all (bx := [⟨W2, some 0, 0, 2, .agg #[.bool nx, .slice ax mx cx], none, []⟩, ⟨W2, some 1, 0, 3, .agg #[.bool ny, .slice ay my cy], none, []⟩]) ⟨someNe, someNe, trivial⟩))
    clear hBt hr hR hP hX hU
    refine wp_seq ?_
    refine wp_seq ?_
    refine region4 [some 9, some 10] [Eqs (.bool true), Eqs (.bool false)] [] [] (by kernel_rfl) hn rfl (by kernel_rfl) (by kernel_rfl) (by kernel_rfl) (by kernel_rfl) (by kernel_rfl) (by kernel_rfl) ⟨Eqs.mono4 _, Eqs.mono4 _, trivial⟩ ok_nil (IsOld.all (bx := []) trivial) (DisOld.all (bx := []) trivial) ?_ ?_
    · exact ⟨.norm 9 rfl rfl rfl (fun a_ w_ hn_ hBt hr hR hD hO hS => op_rawake),
        .norm 10 rfl rfl rfl (fun a_ w_ hn_ hBt hr hR hD hO hS => op_not (show a_.eval (.tmp 9) = .bool true from hD 0 rfl)),
        trivial⟩
    · intro a2 w2 gs2 hn2 hd2 hBt hr hR hP hX hU
      replace hn := hn2; replace hd := hd2.trans hd
      replace b2 := b2.keep hBt trivial
      replace b3 := b3.keep hBt trivial
      replace f2 := (hR 2 rfl).trans f2
      replace f3 := (hR 3 rfl).trans f3
      replace f4 := (hR 4 rfl).trans f4
      have e10 : a2.eval (.tmp 10) = .bool false := hP 1 (by decide)
      have f10 := e10
      replace Ax := Ax.rl hr
      replace Tx := Tx.rl hr
      replace Ay := Ay.rl hr
      replace Ty := Ty.rl hr
      replace HB := HB.trans (hBt.below HB.size (UpOld.all (bx := []) trivial))
      clear hBt hr hR hP hX hU
      refine wp_cond_false f10 ?_
      refine wp_skip ?_
      refine wp_seq ?_
      refine wp_seq ?_
      refine region4 [some 11, some 12, some 13, some 14, some 15, some 16] [Eqs (.agg #[.bool nx, .slice ax mx cx]), Eqs (.int .i64 (1 + (mx : Int))), Eqs (.agg #[.bool ny, .slice ay my cy]), Eqs (.int .i64 (1 + (my : Int))), Eqs (.int .i64 ((1 + (mx : Int)) + (1 + (my : Int)))), Eqs (.bool (decide (1500 < ((1 + (mx : Int)) + (1 + (my : Int))))))] [] [] (by kernel_rfl) hn rfl (by kernel_rfl) (by kernel_rfl) (by kernel_rfl) (by kernel_rfl) (by kernel_rfl) (by kernel_rfl) ⟨Eqs.mono4 _, Eqs.mono4 _, Eqs.mono4 _, Eqs.mono4 _, Eqs.mono4 _, Eqs.mono4 _, trivial⟩ ok_nil (IsOld.all (bx := []) trivial) (DisOld.all (bx := []) trivial) ?_ ?_
      · exact ⟨.norm 11 rfl rfl rfl (fun a_ w_ hn_ hBt hr hR hD hO hS => op_loadv W2ok ((hR 2 rfl).trans f2) (b2.keep hBt trivial)),
          .norm 12 rfl rfl rfl (fun a_ w_ hn_ hBt hr hR hD hO hS => op_lenw (show a_.eval (.tmp 11) = .agg #[.bool nx, .slice ax mx cx] from hD 0 rfl) (by omega)),
          .norm 13 rfl rfl rfl (fun a_ w_ hn_ hBt hr hR hD hO hS => op_loadv W2ok ((hR 3 rfl).trans f3) (b3.keep hBt trivial)),
          .norm 14 rfl rfl rfl (fun a_ w_ hn_ hBt hr hR hD hO hS => op_lenw (show a_.eval (.tmp 13) = .agg #[.bool ny, .slice ay my cy] from hD 2 rfl) (by omega)),
          .norm 15 rfl rfl rfl (fun a_ w_ hn_ hBt hr hR hD hO hS => op_plus (show a_.eval (.tmp 12) = .int .i64 (1 + (mx : Int)) from hD 1 rfl) (show a_.eval (.tmp 14) = .int .i64 (1 + (my : Int)) from hD 3 rfl) (by omega)),
          .norm 16 rfl rfl rfl (fun a_ w_ hn_ hBt hr hR hD hO hS => op_gtrk (show a_.eval (.tmp 15) = .int .i64 ((1 + (mx : Int)) + (1 + (my : Int))) from hD 4 rfl)),
          trivial⟩
      · intro a3 w3 gs3 hn3 hd3 hBt hr hR hP hX hU
        replace hn := hn3; replace hd := hd3.trans hd
        replace b2 := b2.keep hBt trivial
        replace b3 := b3.keep hBt trivial
        replace f2 := (hR 2 rfl).trans f2
        replace f3 := (hR 3 rfl).trans f3
        replace f4 := (hR 4 rfl).trans f4
        have e16 : a3.eval (.tmp 16) = .bool (decide (1500 < ((1 + (mx : Int)) + (1 + (my : Int))))) := hP 5 (by decide)
        have f16 := e16
        replace Ax := Ax.rl hr
        replace Tx := Tx.rl hr
        replace Ay := Ay.rl hr
        replace Ty := Ty.rl hr
        replace HB := HB.trans (hBt.below HB.size (UpOld.all (bx := []) trivial))
        clear hBt hr hR hP hX hU
        refine wp_cond_split f16 (fun hc16 => ?_) (fun hc16 => ?_)
        · skip
          refine wp_seq ?_
          refine region4 [some 4] [Eqs ((.bool true))] [] [] (by kernel_rfl) hn rfl (by kernel_rfl) (by kernel_rfl) (by kernel_rfl) (by kernel_rfl) (by kernel_rfl) (by kernel_rfl) ⟨Eqs.mono4 _, trivial⟩ ok_nil (IsOld.all (bx := []) trivial) (DisOld.all (bx := []) trivial) ?_ ?_
          · exact ⟨.norm 4 rfl rfl rfl (fun a_ w_ hn_ hBt hr hR hD hO hS => op_assign rfl),
              trivial⟩
          · intro a4 w4 gs4 hn4 hd4 hBt hr hR hP hX hU
            replace hn := hn4; replace hd := hd4.trans hd
            replace b2 := b2.keep hBt trivial
            replace b3 := b3.keep hBt trivial
            replace f2 := (hR 2 rfl).trans f2
            replace f3 := (hR 3 rfl).trans f3
            have e4 : a4.eval (.tmp 4) = (.bool true) := hP 0 (by decide)
            have f4 := e4
            replace Ax := Ax.rl hr
            replace Tx := Tx.rl hr
            replace Ay := Ay.rl hr
            replace Ty := Ty.rl hr
            replace HB := HB.trans (hBt.below HB.size (UpOld.all (bx := []) trivial))
            clear hBt hr hR hP hX hU
            refine wp_ret ?_
            repeat (first | refine then_ret ?_ | refine scope_ret ?_ | refine block_ret ?_)
            exact bodyPost_ret (v := .bool true) (res_t rfl f4) hd ⟨rfl, HB⟩
        · skip
          have hlen := of_decide_eq_false hc16
          have ox := Ax.sl.parts.1; have Lx : xs.length ≤ 1500 := by omega
          have oy := Ay.sl.parts.1; have Ly : ys.length ≤ 1500 := by omega
          refine wp_skip ?_
          by_cases hy0 : zy = 0
          · skip
            refine wp_seq ?_
            refine region4 [some 18, some 19, some 20, some 21, some 22, some 17, some 23, some 24, some 5, none, some 6] [Eqs (.agg #[.bool nx, .slice ax mx cx]), IsW (zx) (1500), Eqs (.agg #[.bool ny, .slice ay my cy]), IsW (zy) (1500), Tup2 (Eqs (.agg #[.bool false, .slice none 0 0, .slice none 0 0])) (Eqs (.int .i64 20)), Tup2 (Eqs (.agg #[.bool false, .slice none 0 0, .slice none 0 0])) (Eqs (.int .i64 20)), Eqs (.agg #[.bool false, .slice none 0 0, .slice none 0 0]), Eqs (.int .i64 20), (fun _ _ => True), (fun _ _ => True), Eqs (.int .i64 20)] [⟨R3, some 8, 0, 5, .agg #[.bool false, .slice none 0 0, .slice none 0 0], some (9, 23, 6), []⟩] [] (by kernel_rfl) hn rfl (by kernel_rfl) (by kernel_rfl) (by kernel_rfl) (by kernel_rfl) (by kernel_rfl) (by kernel_rfl) ⟨Eqs.mono4 _, IsW.mono4 _ _, Eqs.mono4 _, IsW.mono4 _ _, Tup2.mono4 (Eqs.mono4 _) (Eqs.mono4 _), Tup2.mono4 (Eqs.mono4 _) (Eqs.mono4 _), Eqs.mono4 _, Eqs.mono4 _, True.mono4, True.mono4, Eqs.mono4 _, trivial⟩ (ok_cons R3ok ok_nil) (IsOld.all (bx := [⟨R3, some 8, 0, 5, .agg #[.bool false, .slice none 0 0, .slice none 0 0], some (9, 23, 6), []⟩]) ⟨someNe, trivial⟩) (DisOld.all (bx := [⟨R3, some 8, 0, 5, .agg #[.bool false, .slice none 0 0, .slice none 0 0], some (9, 23, 6), []⟩]) ⟨someNe, trivial⟩) ?_ ?_
            · exact ⟨.norm 18 rfl rfl rfl (fun a_ w_ hn_ hBt hr hR hD hO hS => op_loadv W2ok ((hR 2 rfl).trans f2) (b2.keep hBt ⟨someNe, trivial⟩)),
                .norm 19 rfl rfl rfl (fun a_ w_ hn_ hBt hr hR hD hO hS => op_copyw (isw_eq (show a_.eval (.tmp 18) = .agg #[.bool nx, .slice ax mx cx] from hD 0 rfl) (Ax.rl hr) Lx) (by omega)),
                .norm 20 rfl rfl rfl (fun a_ w_ hn_ hBt hr hR hD hO hS => op_loadv W2ok ((hR 3 rfl).trans f3) (b3.keep hBt ⟨someNe, trivial⟩)),
                .norm 21 rfl rfl rfl (fun a_ w_ hn_ hBt hr hR hD hO hS => op_copyw (isw_eq (show a_.eval (.tmp 20) = .agg #[.bool ny, .slice ay my cy] from hD 2 rfl) (Ay.rl hr) Ly) (by omega)),
                .norm 22 rfl rfl rfl (fun a_ w_ hn_ hBt hr hR hD hO hS => op_rof0 (show IsW (zx) (1500) (a_.eval (.tmp 19)) w_ from hD 1 rfl) (show IsW (zy) (1500) (a_.eval (.tmp 21)) w_ from hD 3 rfl) (by omega) hy0),
                .norm 17 rfl rfl rfl (fun a_ w_ hn_ hBt hr hR hD hO hS => op_mvp (p := Tup2 (Eqs (.agg #[.bool false, .slice none 0 0, .slice none 0 0])) (Eqs (.int .i64 20))) (show Tup2 (Eqs (.agg #[.bool false, .slice none 0 0, .slice none 0 0])) (Eqs (.int .i64 20)) (a_.eval (.tmp 22)) w_ from hD 4 rfl)),
                .norm 23 rfl rfl rfl (fun a_ w_ hn_ hBt hr hR hD hO hS => op_ex20 (show Tup2 (Eqs (.agg #[.bool false, .slice none 0 0, .slice none 0 0])) (Eqs (.int .i64 20)) (a_.eval (.tmp 17)) w_ from hD 5 rfl)),
                .norm 24 rfl rfl rfl (fun a_ w_ hn_ hBt hr hR hD hO hS => op_ex21 (show Tup2 (Eqs (.agg #[.bool false, .slice none 0 0, .slice none 0 0])) (Eqs (.int .i64 20)) (a_.eval (.tmp 17)) w_ from hD 5 rfl)),
                .alloc 0 _ rfl rfl (.inl ⟨rfl, rfl⟩) rfl rfl rfl rfl rfl,
                .store 0 _ _ _ rfl rfl rfl rfl rfl rfl rfl (fun ia h => by cases h; rfl) rfl rfl rfl (eqs_cs r3_cs),
                .norm 6 rfl rfl rfl (fun a_ w_ hn_ hBt hr hR hD hO hS => op_assign (show a_.eval (.tmp 24) = .int .i64 20 from hD 7 rfl)),
                trivial⟩
            · intro a5 w5 gs5 hn5 hd5 hBt hr hR hP hX hU
              replace hn := hn5; replace hd := hd5.trans hd
              replace b2 := b2.keep hBt ⟨someNe, trivial⟩
              replace b3 := b3.keep hBt ⟨someNe, trivial⟩
              have e23 : a5.eval (.tmp 23) = .agg #[.bool false, .slice none 0 0, .slice none 0 0] := hP 6 (by decide)
              have b5 : BoxV R3 w5 (gs5 0) (.agg #[.bool false, .slice none 0 0, .slice none 0 0]) := boxv_of (hX 0 _ rfl).2.2.2 e23
              have f5 := (hX 0 _ rfl).1
              have u5 : w.heap.size ≤ gs5 0 := Nat.le_trans HB.size ((hX 0 _ rfl).2.2.1 (by simp))
              replace f2 := (hR 2 rfl).trans f2
              replace f3 := (hR 3 rfl).trans f3
              replace f4 := (hR 4 rfl).trans f4
              have e6 : a5.eval (.tmp 6) = .int .i64 20 := hP 10 (by decide)
              have f6 := e6
              replace Ax := Ax.rl hr
              replace Tx := Tx.rl hr
              replace Ay := Ay.rl hr
              replace Ty := Ty.rl hr
              replace HB := HB.trans (hBt.below HB.size (UpOld.all (bx := [⟨R3, some 8, 0, 5, .agg #[.bool false, .slice none 0 0, .slice none 0 0], some (9, 23, 6), []⟩]) ⟨someNe, trivial⟩))
              clear hBt hr hR hP hX hU
              refine wp_seq ?_
              refine region4 [some 26, some 27, some 28, some 25, some 29, some 30, some 7, none, some 8] [Eqs (.agg #[.bool nx, .slice ax mx cx]), Eqs (.agg #[.bool ny, .slice ay my cy]), Tup2 (Eqs (.agg #[.bool false, .slice none 0 0, .slice none 0 0])) (Eqs (.int .i64 20)), Tup2 (Eqs (.agg #[.bool false, .slice none 0 0, .slice none 0 0])) (Eqs (.int .i64 20)), Eqs (.agg #[.bool false, .slice none 0 0, .slice none 0 0]), Eqs (.int .i64 20), (fun _ _ => True), (fun _ _ => True), Eqs (.int .i64 20)] [⟨R3, some 6, 0, 7, .agg #[.bool false, .slice none 0 0, .slice none 0 0], some (7, 29, 4), []⟩] [] (by kernel_rfl) hn rfl (by kernel_rfl) (by kernel_rfl) (by kernel_rfl) (by kernel_rfl) (by kernel_rfl) (by kernel_rfl) ⟨Eqs.mono4 _, Eqs.mono4 _, Tup2.mono4 (Eqs.mono4 _) (Eqs.mono4 _), Tup2.mono4 (Eqs.mono4 _) (Eqs.mono4 _), Eqs.mono4 _, Eqs.mono4 _, True.mono4, True.mono4, Eqs.mono4 _, trivial⟩ (ok_cons R3ok ok_nil) (IsOld.all (bx := [⟨R3, some 6, 0, 7, .agg #[.bool false, .slice none 0 0, .slice none 0 0], some (7, 29, 4), []⟩]) ⟨someNe, trivial⟩) (DisOld.all (bx := [⟨R3, some 6, 0, 7, .agg #[.bool false, .slice none 0 0, .slice none 0 0], some (7, 29, 4), []⟩]) ⟨someNe, trivial⟩) ?_ ?_
              · exact ⟨.norm 26 rfl rfl rfl (fun a_ w_ hn_ hBt hr hR hD hO hS => op_loadv W2ok ((hR 2 rfl).trans f2) (b2.keep hBt ⟨someNe, trivial⟩)),
                  .norm 27 rfl rfl rfl (fun a_ w_ hn_ hBt hr hR hD hO hS => op_loadv W2ok ((hR 3 rfl).trans f3) (b3.keep hBt ⟨someNe, trivial⟩)),
                  .norm 28 rfl rfl rfl (fun a_ w_ hn_ hBt hr hR hD hO hS => op_qof0 (isw_eq (show a_.eval (.tmp 26) = .agg #[.bool nx, .slice ax mx cx] from hD 0 rfl) (Ax.rl hr) Lx) (isw_eq (show a_.eval (.tmp 27) = .agg #[.bool ny, .slice ay my cy] from hD 1 rfl) (Ay.rl hr) Ly) (by omega) hy0),
                  .norm 25 rfl rfl rfl (fun a_ w_ hn_ hBt hr hR hD hO hS => op_mvp (p := Tup2 (Eqs (.agg #[.bool false, .slice none 0 0, .slice none 0 0])) (Eqs (.int .i64 20))) (show Tup2 (Eqs (.agg #[.bool false, .slice none 0 0, .slice none 0 0])) (Eqs (.int .i64 20)) (a_.eval (.tmp 28)) w_ from hD 2 rfl)),
                  .norm 29 rfl rfl rfl (fun a_ w_ hn_ hBt hr hR hD hO hS => op_ex20 (show Tup2 (Eqs (.agg #[.bool false, .slice none 0 0, .slice none 0 0])) (Eqs (.int .i64 20)) (a_.eval (.tmp 25)) w_ from hD 3 rfl)),
                  .norm 30 rfl rfl rfl (fun a_ w_ hn_ hBt hr hR hD hO hS => op_ex21 (show Tup2 (Eqs (.agg #[.bool false, .slice none 0 0, .slice none 0 0])) (Eqs (.int .i64 20)) (a_.eval (.tmp 25)) w_ from hD 3 rfl)),
                  .alloc 0 _ rfl rfl (.inl ⟨rfl, rfl⟩) rfl rfl rfl rfl rfl,
                  .store 0 _ _ _ rfl rfl rfl rfl rfl rfl rfl (fun ia h => by cases h; rfl) rfl rfl rfl (eqs_cs r3_cs),
                  .norm 8 rfl rfl rfl (fun a_ w_ hn_ hBt hr hR hD hO hS => op_assign (show a_.eval (.tmp 30) = .int .i64 20 from hD 5 rfl)),
                  trivial⟩
              · intro a6 w6 gs6 hn6 hd6 hBt hr hR hP hX hU
                replace hn := hn6; replace hd := hd6.trans hd
                replace b2 := b2.keep hBt ⟨someNe, trivial⟩
                replace b5 := b5.keep hBt ⟨someNe, trivial⟩
                have e29 : a6.eval (.tmp 29) = .agg #[.bool false, .slice none 0 0, .slice none 0 0] := hP 4 (by decide)
                have b7 : BoxV R3 w6 (gs6 0) (.agg #[.bool false, .slice none 0 0, .slice none 0 0]) := boxv_of (hX 0 _ rfl).2.2.2 e29
                have f7 := (hX 0 _ rfl).1
                have u7 : w.heap.size ≤ gs6 0 := Nat.le_trans HB.size ((hX 0 _ rfl).2.2.1 (by simp))
                replace f2 := (hR 2 rfl).trans f2
                replace f4 := (hR 4 rfl).trans f4
                replace f5 := (hR 5 rfl).trans f5
                replace f6 := (hR 6 rfl).trans f6
                have e8 : a6.eval (.tmp 8) = .int .i64 20 := hP 8 (by decide)
                have f8 := e8
                replace Ax := Ax.rl hr
                replace Tx := Tx.rl hr
                replace Ay := Ay.rl hr
                replace Ty := Ty.rl hr
                replace HB := HB.trans (hBt.below HB.size (UpOld.all (bx := [⟨R3, some 6, 0, 7, .agg #[.bool false, .slice none 0 0, .slice none 0 0], some (7, 29, 4), []⟩]) ⟨someNe, trivial⟩))
                clear hBt hr hR hP hX hU
                refine wp_seq ?_
                refine region4 [some 31, some 32, some 33, some 34, some 35, some 36, some 37, some 38, some 39, some 40, some 41, some 42, some 43, some 44, some 45, some 46, some 47, some 4] [Eqs (.int .i64 20), Eqs (.int .i64 20), Eqs (.int .i64 20), Eqs (.bool true), Eqs (.bool true), Eqs (.agg #[.bool false, .slice none 0 0, .slice none 0 0]), Eqs (.agg #[.bool false, .slice none 0 0, .slice none 0 0]), Eqs (.bool true), Eqs (.bool true), Eqs (.bool true), Eqs (.agg #[.bool nx, .slice ax mx cx]), IsW (zx) (1500), OutR (zx) (1) ((1500) + 2), Eqs (.agg #[.bool nx, .slice ax mx cx]), OutR (zx) (1) (6 * (1500) + 10), Eqs (.bool true), Eqs (.bool true), Eqs (.bool true)] [] [] (by kernel_rfl) hn rfl (by kernel_rfl) (by kernel_rfl) (by kernel_rfl) (by kernel_rfl) (by kernel_rfl) (by kernel_rfl) ⟨Eqs.mono4 _, Eqs.mono4 _, Eqs.mono4 _, Eqs.mono4 _, Eqs.mono4 _, Eqs.mono4 _, Eqs.mono4 _, Eqs.mono4 _, Eqs.mono4 _, Eqs.mono4 _, Eqs.mono4 _, IsW.mono4 _ _, OutR.mono4 _ _ _, Eqs.mono4 _, OutR.mono4 _ _ _, Eqs.mono4 _, Eqs.mono4 _, Eqs.mono4 _, trivial⟩ ok_nil (IsOld.all (bx := []) trivial) (DisOld.all (bx := []) trivial) ?_ ?_
                · exact ⟨.norm 31 rfl rfl rfl (fun a_ w_ hn_ hBt hr hR hD hO hS => op_mv ((hR 6 rfl).trans f6)),
                    .norm 32 rfl rfl rfl (fun a_ w_ hn_ hBt hr hR hD hO hS => op_num (show a_.eval (.tmp 31) = .int .i64 20 from hD 0 rfl)),
                    .norm 33 rfl rfl rfl (fun a_ w_ hn_ hBt hr hR hD hO hS => op_mv ((hR 8 rfl).trans f8)),
                    .norm 34 rfl rfl rfl (fun a_ w_ hn_ hBt hr hR hD hO hS => op_eql (show a_.eval (.tmp 32) = .int .i64 20 from hD 1 rfl) (show a_.eval (.tmp 33) = .int .i64 20 from hD 2 rfl) rfl),
                    .norm 35 rfl rfl rfl (fun a_ w_ hn_ hBt hr hR hD hO hS => op_mv (show a_.eval (.tmp 34) = .bool true from hD 3 rfl)),
                    .norm 36 rfl rfl rfl (fun a_ w_ hn_ hBt hr hR hD hO hS => ⟨⟨_, rfl⟩, fun _ => op_loadv R3ok ((hR 5 rfl).trans f5) (b5.keep hBt trivial), fun hne => absurd (hD 4 rfl) hne⟩),
                    .norm 37 rfl rfl rfl (fun a_ w_ hn_ hBt hr hR hD hO hS => ⟨⟨_, rfl⟩, fun _ => op_loadv R3ok ((hR 7 rfl).trans f7) (b7.keep hBt trivial), fun hne => absurd (hD 4 rfl) hne⟩),
                    .norm 38 rfl rfl rfl (fun a_ w_ hn_ hBt hr hR hD hO hS => ⟨⟨_, rfl⟩, fun _ => op_samer (outr_zero _ (show a_.eval (.tmp 36) = .agg #[.bool false, .slice none 0 0, .slice none 0 0] from hD 5 rfl)) (outr_zero _ (show a_.eval (.tmp 37) = .agg #[.bool false, .slice none 0 0, .slice none 0 0] from hD 6 rfl)) ⟨rfl, rfl⟩, fun hne => absurd (hD 4 rfl) hne⟩),
                    .norm 39 rfl rfl rfl (fun a_ w_ hn_ hBt hr hR hD hO hS => op_pickb (show a_.eval (.tmp 35) = .bool true from hD 4 rfl) (show a_.eval (.tmp 38) = .bool true from hD 7 rfl)),
                    .norm 40 rfl rfl rfl (fun a_ w_ hn_ hBt hr hR hD hO hS => op_mv (show a_.eval (.tmp 39) = .bool true from hD 8 rfl)),
                    .norm 41 rfl rfl rfl (fun a_ w_ hn_ hBt hr hR hD hO hS => ⟨⟨_, rfl⟩, fun _ => op_loadv W2ok ((hR 2 rfl).trans f2) (b2.keep hBt trivial), fun hne => absurd (hD 9 rfl) hne⟩),
                    .norm 42 rfl rfl rfl (fun a_ w_ hn_ hBt hr hR hD hO hS => ⟨⟨_, rfl⟩, fun _ => op_copyw (isw_eq (show a_.eval (.tmp 41) = .agg #[.bool nx, .slice ax mx cx] from hD 10 rfl) (Ax.rl hr) Lx) (by omega), fun hne => absurd (hD 9 rfl) hne⟩),
                    .norm 43 rfl rfl rfl (fun a_ w_ hn_ hBt hr hR hD hO hS => ⟨⟨_, rfl⟩, fun _ => op_from (show IsW (zx) (1500) (a_.eval (.tmp 42)) w_ from hD 11 rfl) (by omega), fun hne => absurd (hD 9 rfl) hne⟩),
                    .norm 44 rfl rfl rfl (fun a_ w_ hn_ hBt hr hR hD hO hS => ⟨⟨_, rfl⟩, fun _ => op_loadv W2ok ((hR 2 rfl).trans f2) (b2.keep hBt trivial), fun hne => absurd (hD 9 rfl) hne⟩),
                    .norm 45 rfl rfl rfl (fun a_ w_ hn_ hBt hr hR hD hO hS => ⟨⟨_, rfl⟩, fun _ => op_qfrom (isw_eq (show a_.eval (.tmp 44) = .agg #[.bool nx, .slice ax mx cx] from hD 13 rfl) (Ax.rl hr) Lx) (by omega), fun hne => absurd (hD 9 rfl) hne⟩),
                    .norm 46 rfl rfl rfl (fun a_ w_ hn_ hBt hr hR hD hO hS => ⟨⟨_, rfl⟩, fun _ => op_samer (show OutR (zx) (1) ((1500) + 2) (a_.eval (.tmp 43)) w_ from hD 12 rfl) (show OutR (zx) (1) (6 * (1500) + 10) (a_.eval (.tmp 45)) w_ from hD 14 rfl) ⟨rfl, rfl⟩, fun hne => absurd (hD 9 rfl) hne⟩),
                    .norm 47 rfl rfl rfl (fun a_ w_ hn_ hBt hr hR hD hO hS => op_pickb (show a_.eval (.tmp 40) = .bool true from hD 9 rfl) (show a_.eval (.tmp 46) = .bool true from hD 15 rfl)),
                    .norm 4 rfl rfl rfl (fun a_ w_ hn_ hBt hr hR hD hO hS => op_assign (show a_.eval (.tmp 47) = .bool true from hD 16 rfl)),
                    trivial⟩
                · intro a7 w7 gs7 hn7 hd7 hBt hr hR hP hX hU
                  replace hn := hn7; replace hd := hd7.trans hd
                  have e4 : a7.eval (.tmp 4) = .bool true := hP 17 (by decide)
                  have f4 := e4
                  replace Ax := Ax.rl hr
                  replace Tx := Tx.rl hr
                  replace Ay := Ay.rl hr
                  replace Ty := Ty.rl hr
                  replace HB := HB.trans (hBt.below HB.size (UpOld.all (bx := []) trivial))
                  clear hBt hr hR hP hX hU
                  refine wp_ret ?_
                  repeat (first | refine then_ret ?_ | refine scope_ret ?_ | refine block_ret ?_)
                  exact bodyPost_ret (v := .bool true) (res_t rfl f4) hd ⟨rfl, HB⟩
          · skip
            refine wp_seq ?_
            refine region4 [some 18, some 19, some 20, some 21, some 22, some 17, some 23, some 24, some 5, none, some 6] [Eqs (.agg #[.bool nx, .slice ax mx cx]), IsW (zx) (1500), Eqs (.agg #[.bool ny, .slice ay my cy]), IsW (zy) (1500), Tup2 (OutR ((nm zx zy)) ((dn zx zy)) ((1500) + (1500))) (Eqs (.int .i64 0)), Tup2 (OutR ((nm zx zy)) ((dn zx zy)) ((1500) + (1500))) (Eqs (.int .i64 0)), OutR ((nm zx zy)) ((dn zx zy)) ((1500) + (1500)), Eqs (.int .i64 0), (fun _ _ => True), (fun _ _ => True), Eqs (.int .i64 0)] [⟨R3, some 8, 0, 5, .agg #[.bool false, .slice none 0 0, .slice none 0 0], some (9, 23, 6), []⟩] [] (by kernel_rfl) hn rfl (by kernel_rfl) (by kernel_rfl) (by kernel_rfl) (by kernel_rfl) (by kernel_rfl) (by kernel_rfl) ⟨Eqs.mono4 _, IsW.mono4 _ _, Eqs.mono4 _, IsW.mono4 _ _, Tup2.mono4 (OutR.mono4 _ _ _) (Eqs.mono4 _), Tup2.mono4 (OutR.mono4 _ _ _) (Eqs.mono4 _), OutR.mono4 _ _ _, Eqs.mono4 _, True.mono4, True.mono4, Eqs.mono4 _, trivial⟩ (ok_cons R3ok ok_nil) (IsOld.all (bx := [⟨R3, some 8, 0, 5, .agg #[.bool false, .slice none 0 0, .slice none 0 0], some (9, 23, 6), []⟩]) ⟨someNe, trivial⟩) (DisOld.all (bx := [⟨R3, some 8, 0, 5, .agg #[.bool false, .slice none 0 0, .slice none 0 0], some (9, 23, 6), []⟩]) ⟨someNe, trivial⟩) ?_ ?_
            · exact ⟨.norm 18 rfl rfl rfl (fun a_ w_ hn_ hBt hr hR hD hO hS => op_loadv W2ok ((hR 2 rfl).trans f2) (b2.keep hBt ⟨someNe, trivial⟩)),
                .norm 19 rfl rfl rfl (fun a_ w_ hn_ hBt hr hR hD hO hS => op_copyw (isw_eq (show a_.eval (.tmp 18) = .agg #[.bool nx, .slice ax mx cx] from hD 0 rfl) (Ax.rl hr) Lx) (by omega)),
                .norm 20 rfl rfl rfl (fun a_ w_ hn_ hBt hr hR hD hO hS => op_loadv W2ok ((hR 3 rfl).trans f3) (b3.keep hBt ⟨someNe, trivial⟩)),
                .norm 21 rfl rfl rfl (fun a_ w_ hn_ hBt hr hR hD hO hS => op_copyw (isw_eq (show a_.eval (.tmp 20) = .agg #[.bool ny, .slice ay my cy] from hD 2 rfl) (Ay.rl hr) Ly) (by omega)),
                .norm 22 rfl rfl rfl (fun a_ w_ hn_ hBt hr hR hD hO hS => op_rof (Bx := 1500) (By := 1500) (show IsW (zx) (1500) (a_.eval (.tmp 19)) w_ from hD 1 rfl) (show IsW (zy) (1500) (a_.eval (.tmp 21)) w_ from hD 3 rfl) (by omega) hy0),
                .norm 17 rfl rfl rfl (fun a_ w_ hn_ hBt hr hR hD hO hS => op_mvp (p := Tup2 (OutR ((nm zx zy)) ((dn zx zy)) ((1500) + (1500))) (Eqs (.int .i64 0))) (show Tup2 (OutR ((nm zx zy)) ((dn zx zy)) ((1500) + (1500))) (Eqs (.int .i64 0)) (a_.eval (.tmp 22)) w_ from hD 4 rfl)),
                .norm 23 rfl rfl rfl (fun a_ w_ hn_ hBt hr hR hD hO hS => op_ex20 (show Tup2 (OutR ((nm zx zy)) ((dn zx zy)) ((1500) + (1500))) (Eqs (.int .i64 0)) (a_.eval (.tmp 17)) w_ from hD 5 rfl)),
                .norm 24 rfl rfl rfl (fun a_ w_ hn_ hBt hr hR hD hO hS => op_ex21 (show Tup2 (OutR ((nm zx zy)) ((dn zx zy)) ((1500) + (1500))) (Eqs (.int .i64 0)) (a_.eval (.tmp 17)) w_ from hD 5 rfl)),
                .alloc 0 _ rfl rfl (.inl ⟨rfl, rfl⟩) rfl rfl rfl rfl rfl,
                .store 0 _ _ _ rfl rfl rfl rfl rfl rfl rfl (fun ia h => by cases h; rfl) rfl rfl rfl OutR.cs,
                .norm 6 rfl rfl rfl (fun a_ w_ hn_ hBt hr hR hD hO hS => op_assign (show a_.eval (.tmp 24) = .int .i64 0 from hD 7 rfl)),
                trivial⟩
            · intro a8 w8 gs8 hn8 hd8 hBt hr hR hP hX hU
              replace hn := hn8; replace hd := hd8.trans hd
              replace b2 := b2.keep hBt ⟨someNe, trivial⟩
              replace b3 := b3.keep hBt ⟨someNe, trivial⟩
              obtain ⟨n_9, a_9, c_9, r_9, b_9, d_9, s_9, e23, G9, K9, l9, k9⟩ : OutR ((nm zx zy)) ((dn zx zy)) ((1500) + (1500)) (a8.eval (.tmp 23)) w8 := hP 6 (by decide)
              have A9 := G9.ag; have S9 := K9.sl; have V9 := K9.val
              have b5 : BoxV R3 w8 (gs8 0) (.agg #[.bool n_9, .slice a_9 r_9.length c_9, .slice b_9 s_9.length d_9]) := boxv_of (hX 0 _ rfl).2.2.2 e23
              have f5 := (hX 0 _ rfl).1
              have u5 : w.heap.size ≤ gs8 0 := Nat.le_trans HB.size ((hX 0 _ rfl).2.2.1 (by simp))
              replace f2 := (hR 2 rfl).trans f2
              replace f3 := (hR 3 rfl).trans f3
              replace f4 := (hR 4 rfl).trans f4
              have e6 : a8.eval (.tmp 6) = .int .i64 0 := hP 10 (by decide)
              have f6 := e6
              replace Ax := Ax.rl hr
              replace Tx := Tx.rl hr
              replace Ay := Ay.rl hr
              replace Ty := Ty.rl hr
              replace HB := HB.trans (hBt.below HB.size (UpOld.all (bx := [⟨R3, some 8, 0, 5, .agg #[.bool false, .slice none 0 0, .slice none 0 0], some (9, 23, 6), []⟩]) ⟨someNe, trivial⟩))
              clear hBt hr hR hP hX hU
              refine wp_seq ?_
              refine region4 [some 26, some 27, some 28, some 25, some 29, some 30, some 7, none, some 8] [Eqs (.agg #[.bool nx, .slice ax mx cx]), Eqs (.agg #[.bool ny, .slice ay my cy]), Tup2 (OutR ((nm zx zy)) ((dn zx zy)) (6 * ((1500) + (1500)))) (Eqs (.int .i64 0)), Tup2 (OutR ((nm zx zy)) ((dn zx zy)) (6 * ((1500) + (1500)))) (Eqs (.int .i64 0)), OutR ((nm zx zy)) ((dn zx zy)) (6 * ((1500) + (1500))), Eqs (.int .i64 0), (fun _ _ => True), (fun _ _ => True), Eqs (.int .i64 0)] [⟨R3, some 6, 0, 7, .agg #[.bool false, .slice none 0 0, .slice none 0 0], some (7, 29, 4), []⟩] [] (by kernel_rfl) hn rfl (by kernel_rfl) (by kernel_rfl) (by kernel_rfl) (by kernel_rfl) (by kernel_rfl) (by kernel_rfl) ⟨Eqs.mono4 _, Eqs.mono4 _, Tup2.mono4 (OutR.mono4 _ _ _) (Eqs.mono4 _), Tup2.mono4 (OutR.mono4 _ _ _) (Eqs.mono4 _), OutR.mono4 _ _ _, Eqs.mono4 _, True.mono4, True.mono4, Eqs.mono4 _, trivial⟩ (ok_cons R3ok ok_nil) (IsOld.all (bx := [⟨R3, some 6, 0, 7, .agg #[.bool false, .slice none 0 0, .slice none 0 0], some (7, 29, 4), []⟩]) ⟨someNe, trivial⟩) (DisOld.all (bx := [⟨R3, some 6, 0, 7, .agg #[.bool false, .slice none 0 0, .slice none 0 0], some (7, 29, 4), []⟩]) ⟨someNe, trivial⟩) ?_ ?_
              · exact ⟨.norm 26 rfl rfl rfl (fun a_ w_ hn_ hBt hr hR hD hO hS => op_loadv W2ok ((hR 2 rfl).trans f2) (b2.keep hBt ⟨someNe, trivial⟩)),
                  .norm 27 rfl rfl rfl (fun a_ w_ hn_ hBt hr hR hD hO hS => op_loadv W2ok ((hR 3 rfl).trans f3) (b3.keep hBt ⟨someNe, trivial⟩)),
                  .norm 28 rfl rfl rfl (fun a_ w_ hn_ hBt hr hR hD hO hS => op_qof (Bx := 1500) (By := 1500) (isw_eq (show a_.eval (.tmp 26) = .agg #[.bool nx, .slice ax mx cx] from hD 0 rfl) (Ax.rl hr) Lx) (isw_eq (show a_.eval (.tmp 27) = .agg #[.bool ny, .slice ay my cy] from hD 1 rfl) (Ay.rl hr) Ly) (by omega) hy0),
                  .norm 25 rfl rfl rfl (fun a_ w_ hn_ hBt hr hR hD hO hS => op_mvp (p := Tup2 (OutR ((nm zx zy)) ((dn zx zy)) (6 * ((1500) + (1500)))) (Eqs (.int .i64 0))) (show Tup2 (OutR ((nm zx zy)) ((dn zx zy)) (6 * ((1500) + (1500)))) (Eqs (.int .i64 0)) (a_.eval (.tmp 28)) w_ from hD 2 rfl)),
                  .norm 29 rfl rfl rfl (fun a_ w_ hn_ hBt hr hR hD hO hS => op_ex20 (show Tup2 (OutR ((nm zx zy)) ((dn zx zy)) (6 * ((1500) + (1500)))) (Eqs (.int .i64 0)) (a_.eval (.tmp 25)) w_ from hD 3 rfl)),
                  .norm 30 rfl rfl rfl (fun a_ w_ hn_ hBt hr hR hD hO hS => op_ex21 (show Tup2 (OutR ((nm zx zy)) ((dn zx zy)) (6 * ((1500) + (1500)))) (Eqs (.int .i64 0)) (a_.eval (.tmp 25)) w_ from hD 3 rfl)),
                  .alloc 0 _ rfl rfl (.inl ⟨rfl, rfl⟩) rfl rfl rfl rfl rfl,
                  .store 0 _ _ _ rfl rfl rfl rfl rfl rfl rfl (fun ia h => by cases h; rfl) rfl rfl rfl OutR.cs,
                  .norm 8 rfl rfl rfl (fun a_ w_ hn_ hBt hr hR hD hO hS => op_assign (show a_.eval (.tmp 30) = .int .i64 0 from hD 5 rfl)),
                  trivial⟩
              · intro a10 w10 gs10 hn10 hd10 hBt hr hR hP hX hU
                replace hn := hn10; replace hd := hd10.trans hd
                replace b2 := b2.keep hBt ⟨someNe, trivial⟩
                replace b5 := b5.keep hBt ⟨someNe, trivial⟩
                obtain ⟨n_11, a_11, c_11, r_11, b_11, d_11, s_11, e29, G11, K11, l11, k11⟩ : OutR ((nm zx zy)) ((dn zx zy)) (6 * ((1500) + (1500))) (a10.eval (.tmp 29)) w10 := hP 4 (by decide)
                have A11 := G11.ag; have S11 := K11.sl; have V11 := K11.val
                have b7 : BoxV R3 w10 (gs10 0) (.agg #[.bool n_11, .slice a_11 r_11.length c_11, .slice b_11 s_11.length d_11]) := boxv_of (hX 0 _ rfl).2.2.2 e29
                have f7 := (hX 0 _ rfl).1
                have u7 : w.heap.size ≤ gs10 0 := Nat.le_trans HB.size ((hX 0 _ rfl).2.2.1 (by simp))
                replace f2 := (hR 2 rfl).trans f2
                replace f4 := (hR 4 rfl).trans f4
                replace f5 := (hR 5 rfl).trans f5
                replace f6 := (hR 6 rfl).trans f6
                have e8 : a10.eval (.tmp 8) = .int .i64 0 := hP 8 (by decide)
                have f8 := e8
                replace Ax := Ax.rl hr
                replace Tx := Tx.rl hr
                replace Ay := Ay.rl hr
                replace Ty := Ty.rl hr
                replace G9 := G9.rl hr
                replace A9 := A9.rl hr
                replace K9 := K9.rl hr
                replace S9 := S9.rl hr
                replace HB := HB.trans (hBt.below HB.size (UpOld.all (bx := [⟨R3, some 6, 0, 7, .agg #[.bool false, .slice none 0 0, .slice none 0 0], some (7, 29, 4), []⟩]) ⟨someNe, trivial⟩))
                clear hBt hr hR hP hX hU
                refine wp_seq ?_
                refine region4 [some 31, some 32, some 33, some 34, some 35, some 36, some 37, some 38, some 39, some 40, some 41, some 42, some 43, some 44, some 45, some 46, some 47, some 4] [Eqs (.int .i64 0), Eqs (.int .i64 0), Eqs (.int .i64 0), Eqs (.bool true), Eqs (.bool true), Eqs (.agg #[.bool n_9, .slice a_9 r_9.length c_9, .slice b_9 s_9.length d_9]), Eqs (.agg #[.bool n_11, .slice a_11 r_11.length c_11, .slice b_11 s_11.length d_11]), Eqs (.bool true), Eqs (.bool true), Eqs (.bool true), Eqs (.agg #[.bool nx, .slice ax mx cx]), IsW (zx) (1500), OutR (zx) (1) ((1500) + 2), Eqs (.agg #[.bool nx, .slice ax mx cx]), OutR (zx) (1) (6 * (1500) + 10), Eqs (.bool true), Eqs (.bool true), Eqs (.bool true)] [] [] (by kernel_rfl) hn rfl (by kernel_rfl) (by kernel_rfl) (by kernel_rfl) (by kernel_rfl) (by kernel_rfl) (by kernel_rfl) ⟨Eqs.mono4 _, Eqs.mono4 _, Eqs.mono4 _, Eqs.mono4 _, Eqs.mono4 _, Eqs.mono4 _, Eqs.mono4 _, Eqs.mono4 _, Eqs.mono4 _, Eqs.mono4 _, Eqs.mono4 _, IsW.mono4 _ _, OutR.mono4 _ _ _, Eqs.mono4 _, OutR.mono4 _ _ _, Eqs.mono4 _, Eqs.mono4 _, Eqs.mono4 _, trivial⟩ ok_nil (IsOld.all (bx := []) trivial) (DisOld.all (bx := []) trivial) ?_ ?_
                · exact ⟨.norm 31 rfl rfl rfl (fun a_ w_ hn_ hBt hr hR hD hO hS => op_mv ((hR 6 rfl).trans f6)),
                    .norm 32 rfl rfl rfl (fun a_ w_ hn_ hBt hr hR hD hO hS => op_num (show a_.eval (.tmp 31) = .int .i64 0 from hD 0 rfl)),
                    .norm 33 rfl rfl rfl (fun a_ w_ hn_ hBt hr hR hD hO hS => op_mv ((hR 8 rfl).trans f8)),
                    .norm 34 rfl rfl rfl (fun a_ w_ hn_ hBt hr hR hD hO hS => op_eql (show a_.eval (.tmp 32) = .int .i64 0 from hD 1 rfl) (show a_.eval (.tmp 33) = .int .i64 0 from hD 2 rfl) rfl),
                    .norm 35 rfl rfl rfl (fun a_ w_ hn_ hBt hr hR hD hO hS => op_mv (show a_.eval (.tmp 34) = .bool true from hD 3 rfl)),
                    .norm 36 rfl rfl rfl (fun a_ w_ hn_ hBt hr hR hD hO hS => ⟨⟨_, rfl⟩, fun _ => op_loadv R3ok ((hR 5 rfl).trans f5) (b5.keep hBt trivial), fun hne => absurd (hD 4 rfl) hne⟩),
                    .norm 37 rfl rfl rfl (fun a_ w_ hn_ hBt hr hR hD hO hS => ⟨⟨_, rfl⟩, fun _ => op_loadv R3ok ((hR 7 rfl).trans f7) (b7.keep hBt trivial), fun hne => absurd (hD 4 rfl) hne⟩),
                    .norm 38 rfl rfl rfl (fun a_ w_ hn_ hBt hr hR hD hO hS => ⟨⟨_, rfl⟩, fun _ => op_samer (outr_eq (show a_.eval (.tmp 36) = .agg #[.bool n_9, .slice a_9 r_9.length c_9, .slice b_9 s_9.length d_9] from hD 5 rfl) (G9.rl hr) (K9.rl hr) l9 k9) (outr_eq (show a_.eval (.tmp 37) = .agg #[.bool n_11, .slice a_11 r_11.length c_11, .slice b_11 s_11.length d_11] from hD 6 rfl) (G11.rl hr) (K11.rl hr) l11 k11) ⟨rfl, rfl⟩, fun hne => absurd (hD 4 rfl) hne⟩),
                    .norm 39 rfl rfl rfl (fun a_ w_ hn_ hBt hr hR hD hO hS => op_pickb (show a_.eval (.tmp 35) = .bool true from hD 4 rfl) (show a_.eval (.tmp 38) = .bool true from hD 7 rfl)),
                    .norm 40 rfl rfl rfl (fun a_ w_ hn_ hBt hr hR hD hO hS => op_mv (show a_.eval (.tmp 39) = .bool true from hD 8 rfl)),
                    .norm 41 rfl rfl rfl (fun a_ w_ hn_ hBt hr hR hD hO hS => ⟨⟨_, rfl⟩, fun _ => op_loadv W2ok ((hR 2 rfl).trans f2) (b2.keep hBt trivial), fun hne => absurd (hD 9 rfl) hne⟩),
                    .norm 42 rfl rfl rfl (fun a_ w_ hn_ hBt hr hR hD hO hS => ⟨⟨_, rfl⟩, fun _ => op_copyw (isw_eq (show a_.eval (.tmp 41) = .agg #[.bool nx, .slice ax mx cx] from hD 10 rfl) (Ax.rl hr) Lx) (by omega), fun hne => absurd (hD 9 rfl) hne⟩),
                    .norm 43 rfl rfl rfl (fun a_ w_ hn_ hBt hr hR hD hO hS => ⟨⟨_, rfl⟩, fun _ => op_from (show IsW (zx) (1500) (a_.eval (.tmp 42)) w_ from hD 11 rfl) (by omega), fun hne => absurd (hD 9 rfl) hne⟩),
                    .norm 44 rfl rfl rfl (fun a_ w_ hn_ hBt hr hR hD hO hS => ⟨⟨_, rfl⟩, fun _ => op_loadv W2ok ((hR 2 rfl).trans f2) (b2.keep hBt trivial), fun hne => absurd (hD 9 rfl) hne⟩),
                    .norm 45 rfl rfl rfl (fun a_ w_ hn_ hBt hr hR hD hO hS => ⟨⟨_, rfl⟩, fun _ => op_qfrom (isw_eq (show a_.eval (.tmp 44) = .agg #[.bool nx, .slice ax mx cx] from hD 13 rfl) (Ax.rl hr) Lx) (by omega), fun hne => absurd (hD 9 rfl) hne⟩),
                    .norm 46 rfl rfl rfl (fun a_ w_ hn_ hBt hr hR hD hO hS => ⟨⟨_, rfl⟩, fun _ => op_samer (show OutR (zx) (1) ((1500) + 2) (a_.eval (.tmp 43)) w_ from hD 12 rfl) (show OutR (zx) (1) (6 * (1500) + 10) (a_.eval (.tmp 45)) w_ from hD 14 rfl) ⟨rfl, rfl⟩, fun hne => absurd (hD 9 rfl) hne⟩),
                    .norm 47 rfl rfl rfl (fun a_ w_ hn_ hBt hr hR hD hO hS => op_pickb (show a_.eval (.tmp 40) = .bool true from hD 9 rfl) (show a_.eval (.tmp 46) = .bool true from hD 15 rfl)),
                    .norm 4 rfl rfl rfl (fun a_ w_ hn_ hBt hr hR hD hO hS => op_assign (show a_.eval (.tmp 47) = .bool true from hD 16 rfl)),
                    trivial⟩
                · intro a12 w12 gs12 hn12 hd12 hBt hr hR hP hX hU
                  replace hn := hn12; replace hd := hd12.trans hd
                  have e4 : a12.eval (.tmp 4) = .bool true := hP 17 (by decide)
                  have f4 := e4
                  replace Ax := Ax.rl hr
                  replace Tx := Tx.rl hr
                  replace Ay := Ay.rl hr
                  replace Ty := Ty.rl hr
                  replace G9 := G9.rl hr
                  replace A9 := A9.rl hr
                  replace K9 := K9.rl hr
                  replace S9 := S9.rl hr
                  replace G11 := G11.rl hr
                  replace A11 := A11.rl hr
                  replace K11 := K11.rl hr
                  replace S11 := S11.rl hr
                  replace HB := HB.trans (hBt.below HB.size (UpOld.all (bx := []) trivial))
                  clear hBt hr hR hP hX hU
                  refine wp_ret ?_
                  repeat (first | refine then_ret ?_ | refine scope_ret ?_ | refine block_ret ?_)
                  exact bodyPost_ret (v := .bool true) (res_t rfl f4) hd ⟨rfl, HB⟩

end Lm
end Go.Proofs.Ytkdcgnooeojjgab

namespace Go.Proofs.Ytkdcgnooeojjgab
namespace ratioMakesLaw
open Go.ChangeShapes Go.WideShapes Go.ChangeAt Go.RowKit
open Go.ChangeMaps (open_string shut_string)

theorem own : ownKnob Try.prog.godebug = none := by kernel_rfl
theorem laidOut : laidOutB Try.prog = true := by kernel_rfl
theorem bytes4 : Try.prog.bytesOf 73 = 4 := by kernel_rfl

theorem sl_of {w : World} {x : Addr} {l c : Nat} {zs : List Int} (hl : l ≤ c) (hm : c ≤ maxLen) (hz : zs.length = c) (hcell : ∀ i, i < zs.length → w.cell? (x.add i) = some (.int .u32 (zs.getD i 0))) (hwz : ∀ n ∈ zs, (Lit.int .u32 n).wf = true) : Lm.Sl w (.slice (some x) l c) (zs.take l) := by
  have hll : (zs.take l).length = l := by rw [List.length_take]; omega
  refine ⟨some x, c, by rw [hll], by omega, hm, fun n hn => ?_, ?_⟩
  · have := bounds_u32 (hwz n (List.mem_of_mem_take hn))
    omega
  · by_cases h0 : l = 0
    · exact .inl (List.eq_nil_of_length_eq_zero (by omega))
    · obtain ⟨b, off, spot⟩ := x
      have h1 := hcell 0 (by omega)
      have hspot : spot = none := by simpa [Addr.add] using World.cell?_spot h1
      subst hspot
      refine .inr ⟨b, off, rfl, fun i hi => ?_⟩
      have h2 := hcell i (by omega)
      rw [Lm.getD_take _ _ _ (by omega)]
      have e : (⟨b, off, none⟩ : Addr).add i = ⟨b, off + i, none⟩ := by
        by_cases hi0 : i = 0
        · subst hi0; simp [Addr.add]
        · simp [Addr.add, hi0]
      rwa [e] at h2

set_option linter.unusedVariables false in
set_option maxRecDepth 100000 in
theorem lifted (os : Os) (started : os.Started) (H : Type) (enc : TypeId × Value → H) :
    ReturnsInHanded {} Try.checked os 4 .any (Rows.ratioMakesSpec.pre6 enc Try.prog Try.f4 Rows.ratioMakesRow.domain false) (Rows.ratioMakesSpec.post enc Try.prog Try.f4 false true false false) := by
  refine returnsInHanded_of_change_sized (C := Try.checked) own started (by kernel_rfl) Try.func4
    (ChangeSpec.witness6 (enc := enc) (C := Try.checked) false ⟨#[], #[.agg #[.bool false, .slice none 0 0], .agg #[.bool false, .slice none 0 0]], []⟩ 8 (by kernel_rfl) (by kernel_rfl) (by kernel_rfl) (by kernel_rfl)) ?_
  intro W base args ds gs before hval0 hW hcnd hsz0 _
  have hval : ∀ (j : Nat) t v, Try.f4.params[j]? = some t → args[j]? = some v → Value.okWide Try.prog W .any base t v := hval0
  have hW' := hW
  obtain ⟨p, q, hA0, hV, rfl, hfz, hnd⟩ := hW
  have hA : DataW.TrodAll enc Try.prog W 0 (fun _ => true) true Try.f4.params.toList args.toList ds p := hA0
  have hsz : (DataW.weightsEach Try.prog (Try.f4.params.toList ++ Rows.ratioMakesSpec.plain.varTypes Try.prog) (ds ++ gs)).all (· ≤ reachBytes) = true := hsz0
  rw [Try.params4] at hA hval hsz
  obtain ⟨v0, vs0, d0, ds0, p0, q0, hargs, rfl, rfl, h0, r0⟩ := trodAll_cons hA
  obtain ⟨v1, vs1, d1, ds1, p1, q1, rfl, rfl, rfl, h1, r1⟩ := trodAll_cons r0
  obtain ⟨rfl, rfl, rfl⟩ := trodAll_nil r1
  obtain rfl : args = #[v0, v1] := by cases args; simp_all
  obtain ⟨rfl, rfl⟩ := trodVars_none hV
  have k0 := h0
  have lt0 : ∀ x ∈ p0, x.block < W.heap.size := by obtain ⟨m, hm⟩ := k0; exact DataW.trod_lt m _ _ _ hm
  obtain ⟨g0, a0, len0, cap0, z0, hv0, w0, b0⟩ : ∃ ng ao n cap zs, v0 = .agg #[.bool ng, .slice ao n cap] ∧ Lm.Sl W (.slice ao n cap) zs ∧ n ≤ 35184372088832 := by
    obtain ⟨x0, x1, y0, y1, m, hv, hd, _, t0, t1⟩ := Go.Joins.open_agg2 Try.underlying24 (by kernel_rfl) (by kernel_rfl) (hval 0 24 v0 rfl rfl) h0
    obtain ⟨b, hb0, _⟩ := DataW.trod_bool Try.underlying4 t0
    obtain rfl : x0 = .bool b := by simpa using hb0
    rcases open_ints Try.underlying22 Try.underlying73 (by kernel_rfl) t1 with ⟨hcs, _⟩ | ⟨x, l, c, zs, hcs, _, hl, hm, hz, hx, hcell, hwz⟩
    · obtain rfl : x1 = .slice none 0 0 := by simpa using hcs
      exact ⟨b, none, 0, 0, [], hv, ⟨none, 0, rfl, Nat.le_refl _, by simp [maxLen], Lm.limb_nil, .inl rfl⟩, by omega⟩
    · obtain rfl : x1 = .slice (some x) l c := by simpa using hcs
      have hz' : zs.length = c := by simpa using hz
      have hx1 : y1.1 = .slice (lits .u32 (zs.take l)) (lits .u32 (zs.drop l)) := congrArg Prod.fst hx
      refine ⟨b, some x, l, c, _, hv, sl_of hl hm hz' hcell hwz, ?_⟩
      have hs := List.all_eq_true.1 hsz _ (DataW.weights_mem_each (j := 0) (t := 24) rfl (congrArg some hd) (((lits .u32 (zs.take l) : List (DataW H)).length + (lits .u32 (zs.drop l) : List (DataW H)).length) * Try.prog.bytesOf 73) (by rw [hx1]; simp [DataW.weights, DataW.weightsEach, Try.underlying24, Try.underlying22]))
      rw [bytes4] at hs
      simp only [lits, List.length_map, List.length_take, List.length_drop, reachBytes, decide_eq_true_eq] at hs
      omega
  subst hv0
  have k1 := h1
  have lt1 : ∀ x ∈ p1, x.block < W.heap.size := by obtain ⟨m, hm⟩ := k1; exact DataW.trod_lt m _ _ _ hm
  obtain ⟨g1, a1, len1, cap1, z1, hv1, w1, b1⟩ : ∃ ng ao n cap zs, v1 = .agg #[.bool ng, .slice ao n cap] ∧ Lm.Sl W (.slice ao n cap) zs ∧ n ≤ 35184372088832 := by
    obtain ⟨x0, x1, y0, y1, m, hv, hd, _, t0, t1⟩ := Go.Joins.open_agg2 Try.underlying24 (by kernel_rfl) (by kernel_rfl) (hval 1 24 v1 rfl rfl) h1
    obtain ⟨b, hb0, _⟩ := DataW.trod_bool Try.underlying4 t0
    obtain rfl : x0 = .bool b := by simpa using hb0
    rcases open_ints Try.underlying22 Try.underlying73 (by kernel_rfl) t1 with ⟨hcs, _⟩ | ⟨x, l, c, zs, hcs, _, hl, hm, hz, hx, hcell, hwz⟩
    · obtain rfl : x1 = .slice none 0 0 := by simpa using hcs
      exact ⟨b, none, 0, 0, [], hv, ⟨none, 0, rfl, Nat.le_refl _, by simp [maxLen], Lm.limb_nil, .inl rfl⟩, by omega⟩
    · obtain rfl : x1 = .slice (some x) l c := by simpa using hcs
      have hz' : zs.length = c := by simpa using hz
      have hx1 : y1.1 = .slice (lits .u32 (zs.take l)) (lits .u32 (zs.drop l)) := congrArg Prod.fst hx
      refine ⟨b, some x, l, c, _, hv, sl_of hl hm hz' hcell hwz, ?_⟩
      have hs := List.all_eq_true.1 hsz _ (DataW.weights_mem_each (j := 1) (t := 24) rfl (congrArg some hd) (((lits .u32 (zs.take l) : List (DataW H)).length + (lits .u32 (zs.drop l) : List (DataW H)).length) * Try.prog.bytesOf 73) (by rw [hx1]; simp [DataW.weights, DataW.weightsEach, Try.underlying24, Try.underlying22]))
      rw [bytes4] at hs
      simp only [lits, List.length_map, List.length_take, List.length_drop, reachBytes, decide_eq_true_eq] at hs
      omega
  subst hv1
  clear hA0 hval0
  refine (Lm.rmakes_law W g0 a0 len0 cap0 z0 _ g1 a1 len1 cap1 z1 _ ⟨w0, rfl⟩ ⟨w1, rfl⟩ b0 b1).mono fun e W' ⟨he, bel⟩ => ?_
  subst he
  exact ⟨_, rfl, _, _, _, [], _, [], hW', trodAll_mk1 (shut_bool Try.underlying4 _), (trodAll_cons_mk (Below.trod laidOut (by kernel_rfl) (of_decide_eq_true (by kernel_rfl)) k0 bel lt0) (trodAll_cons_mk (Below.trod laidOut (by kernel_rfl) (of_decide_eq_true (by kernel_rfl)) k1 bel lt1) trodAll_mk0)), rfl, bel.frame _, fun h => by cases h⟩

theorem over : Rows.ratioMakesRow.holds Try.pinned (OpenSpec.ofChange Rows.ratioMakesSpec) :=
  OpenClaim.holds_of_wide 4 Try.f4 rfl rfl rfl rfl rfl rfl rfl ⟨rfl, rfl, rfl, rfl, rfl⟩ rfl rfl rfl rfl rfl (by kernel_rfl) Try.func4 (by kernel_rfl)
    (of_decide_eq_true (by kernel_rfl)) (by unfold Func.isWrapper; first | (rw [if_pos (by decide +kernel)]; kernel_rfl) | (rw [if_neg (by decide +kernel)]; exact ⟨rfl, rfl⟩))
    (fun os started H enc _ => lifted os started H enc)
end ratioMakesLaw

theorem ratioMakes_holds : Rows.RatioMakesSaid := ratioMakesLaw.over
#print axioms ratioMakes_holds
end Go.Proofs.Ytkdcgnooeojjgab
