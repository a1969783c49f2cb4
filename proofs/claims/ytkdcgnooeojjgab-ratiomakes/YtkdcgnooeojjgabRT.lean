/-
  The numerator and the denominator of a fraction, as they were handed in; 0 and 1, if the denominator is 0.
-/
import Derived.Test.YtkdcgnooeojjgabInv7
namespace Go.Proofs.Ytkdcgnooeojjgab
namespace Lm
open Go Go.RowKit

def tp (p q : Int) : Int := if q = 0 then 0 else p
def tq (q : Int) : Int := if q = 0 then 1 else q
theorem outw0 (w : World) : OutW 0 0 (.agg #[.bool false, .slice none 0 0]) w := ⟨false, none, 0, [], rfl, ⟨⟨sl_nil w, canon_nil, rfl⟩, rfl⟩, Nat.le_refl _⟩

set_option maxRecDepth 20000 in
set_option maxHeartbeats 1000000 in
theorem terms_z (w : World) (L : Nat) (hL : L ≤ 100000) (nr : Bool) (ar : Option Addr) (mr cr : Nat) (rs : List Int) (pr : Int) (Ar : Ag w nr ar mr cr rs pr) (Lr : rs.length ≤ L) (br : Option Addr) (kr dr : Nat) (rt : List Int) (qr : Int) (Sr : Sl w (.slice br kr dr) rt) (Vr : val rt = qr) (Mr : rt.length ≤ L) :
    Calls Try.prog 42 #[.agg #[.bool nr, .slice ar mr cr, .slice br kr dr]] w fun e w' => ∃ v1 v2, e = .returned (.tuple #[v1, v2]) ∧ IsW (tp pr qr) (L + 2) v1 w' ∧ IsW (tq qr) (L + 2) v2 w' ∧ Below w.heap.size w w' := by
  go_enter Try.func42, Try.ntmps42
  generalize hA : (Act.mk _ _) = aa
  have hn : aa.tmps.size = 15 := by rw [← hA]; rfl
  have hd : aa.defers = [] := by rw [← hA]
  have f0 : aa.eval (.tmp 0) = .agg #[.bool nr, .slice ar mr cr, .slice br kr dr] := by rw [← hA]; rfl
  clear hA
  have HB : Below w.heap.size w w := Below.refl _ _
  have Dr : Ag w false br kr dr rt qr := ⟨Sr, Vr⟩
  refine wp_seq ?_
  refine region4 [some 1, some 2, some 3] [(fun _ _ => True), (fun _ _ => True), (fun _ _ => True)] [⟨R3, some 0, 0, 1, .agg #[.bool nr, .slice ar mr cr, .slice br kr dr], none, []⟩, ⟨W2, some 1, 0, 2, .agg #[.bool false, .slice none 0 0], none, []⟩, ⟨W2, some 2, 0, 3, .agg #[.bool false, .slice none 0 0], none, []⟩] [] (by kernel_rfl) hn rfl (by kernel_rfl) (by kernel_rfl) (by kernel_rfl) (by kernel_rfl) (by kernel_rfl) (by kernel_rfl) ⟨True.mono4, True.mono4, True.mono4, trivial⟩ (ok_cons R3ok (ok_cons W2ok (ok_cons W2ok ok_nil))) (IsOld.all (bx := [⟨R3, some 0, 0, 1, .agg #[.bool nr, .slice ar mr cr, .slice br kr dr], none, []⟩, ⟨W2, some 1, 0, 2, .agg #[.bool false, .slice none 0 0], none, []⟩, ⟨W2, some 2, 0, 3, .agg #[.bool false, .slice none 0 0], none, []⟩]) ⟨someNe, someNe, someNe, trivial⟩) (DisOld.all (bx := [⟨R3, some 0, 0, 1, .agg #[.bool nr, .slice ar mr cr, .slice br kr dr], none, []⟩, ⟨W2, some 1, 0, 2, .agg #[.bool false, .slice none 0 0], none, []⟩, ⟨W2, some 2, 0, 3, .agg #[.bool false, .slice none 0 0], none, []⟩]) ⟨someNe, someNe, someNe, trivial⟩) ?_ ?_
  · exact ⟨.alloc 0 _ rfl rfl (.inr ⟨_, rfl, r3_cs, fun a_ hR => (hR 0 rfl).trans f0⟩) rfl rfl rfl rfl rfl,
      .alloc 1 _ rfl rfl (.inl ⟨rfl, rfl⟩) rfl rfl rfl rfl rfl,
      .alloc 2 _ rfl rfl (.inl ⟨rfl, rfl⟩) rfl rfl rfl rfl rfl,
      trivial⟩
  · intro a1 w1 gs1 hn1 hd1 hBt hr hR hP hX hU
    replace hn := hn1; replace hd := hd1.trans hd
    have ne1_2 : gs1 0 ≠ gs1 1 := hU 0 1 (by simp) (by simp) (by decide)
    have ne1_3 : gs1 0 ≠ gs1 2 := hU 0 2 (by simp) (by simp) (by decide)
    have ne2_3 : gs1 1 ≠ gs1 2 := hU 1 2 (by simp) (by simp) (by decide)
    have b1 : BoxV R3 w1 (gs1 0) (.agg #[.bool nr, .slice ar mr cr, .slice br kr dr]) := (hX 0 _ rfl).2.2.2
    have f1 := (hX 0 _ rfl).1
    have u1 : w.heap.size ≤ gs1 0 := Nat.le_trans HB.size ((hX 0 _ rfl).2.2.1 (by simp))
    have b2 : BoxV W2 w1 (gs1 1) (.agg #[.bool false, .slice none 0 0]) := (hX 1 _ rfl).2.2.2
    have f2 := (hX 1 _ rfl).1
    have u2 : w.heap.size ≤ gs1 1 := Nat.le_trans HB.size ((hX 1 _ rfl).2.2.1 (by simp))
    have b3 : BoxV W2 w1 (gs1 2) (.agg #[.bool false, .slice none 0 0]) := (hX 2 _ rfl).2.2.2
    have f3 := (hX 2 _ rfl).1
    have u3 : w.heap.size ≤ gs1 2 := Nat.le_trans HB.size ((hX 2 _ rfl).2.2.1 (by simp))
    replace Ar := Ar.rl hr
    replace Sr := Sr.rl hr
    replace Dr := Dr.rl hr
    replace HB := HB.trans (hBt.below HB.size (UpOld.all (bx := [⟨R3, some 0, 0, 1, .agg #[.bool nr, .slice ar mr cr, .slice br kr dr], none, []⟩, ⟨W2, some 1, 0, 2, .agg #[.bool false, .slice none 0 0], none, []⟩, ⟨W2, some 2, 0, 3, .agg #[.bool false, .slice none 0 0], none, []⟩]) ⟨someNe, someNe, someNe, trivial⟩))
    clear hBt hr hR hP hX hU
    refine wp_seq ?_
    refine region4 [some 4, some 5, some 6, none] [Eqs (.pointer (some ⟨gs1 0, 2, none⟩)), Eqs (.slice br kr dr), Eqs (.agg #[.bool false, .slice br kr dr]), (fun _ _ => True)] [⟨W2, none, (gs1 2), 3, .agg #[.bool false, .slice none 0 0], some (3, 6, 2), []⟩] [] (by kernel_rfl) hn rfl (by kernel_rfl) (by kernel_rfl) (by kernel_rfl) (by kernel_rfl) (by kernel_rfl) (by kernel_rfl) ⟨Eqs.mono4 _, Eqs.mono4 _, Eqs.mono4 _, True.mono4, trivial⟩ (ok_cons W2ok ok_nil) (IsOld.all (bx := [⟨W2, none, (gs1 2), 3, .agg #[.bool false, .slice none 0 0], some (3, 6, 2), []⟩]) ⟨fun _ => ⟨f3, b3⟩, trivial⟩) (DisOld.all (bx := [⟨W2, none, (gs1 2), 3, .agg #[.bool false, .slice none 0 0], some (3, 6, 2), []⟩]) ⟨fun _ => trivial, trivial⟩) ?_ ?_
    · exact ⟨.norm 4 rfl rfl rfl (fun a_ w_ hn_ hBt hr hR hD hO hS => op_faR fa_den ((hR 1 rfl).trans f1)),
        .norm 5 rfl rfl rfl (fun a_ w_ hn_ hBt hr hR hD hO hS => op_ldden (show a_.eval (.tmp 4) = .pointer (some ⟨gs1 0, 2, none⟩) from hD 0 rfl) (b1.keep hBt ⟨fun _ => ne1_3.symm, trivial⟩)),
        .norm 6 rfl rfl rfl (fun a_ w_ hn_ hBt hr hR hD hO hS => op_bW1 (show a_.eval (.tmp 5) = .slice br kr dr from hD 1 rfl)),
        .store 0 _ _ _ rfl rfl rfl rfl rfl rfl rfl (fun ia h => by cases h) rfl rfl rfl (eqs_cs w2_cs),
        trivial⟩
    · intro a2 w2 gs2 hn2 hd2 hBt hr hR hP hX hU
      replace hn := hn2; replace hd := hd2.trans hd
      replace b1 := b1.keep hBt ⟨fun _ => ne1_3.symm, trivial⟩
      replace b2 := b2.keep hBt ⟨fun _ => ne2_3.symm, trivial⟩
      have e6 : a2.eval (.tmp 6) = .agg #[.bool false, .slice br kr dr] := hP 2 (by decide)
      have b3 : BoxV W2 w2 ((gs1 2)) (.agg #[.bool false, .slice br kr dr]) := boxv_old ((hX 0 _ rfl).2.1 rfl) (hX 0 _ rfl).2.2.2 e6
      replace f3 : a2.eval (.tmp 3) = _ := (hR 3 rfl).trans f3
      replace f1 := (hR 1 rfl).trans f1
      replace f2 := (hR 2 rfl).trans f2
      replace Ar := Ar.rl hr
      replace Sr := Sr.rl hr
      replace Dr := Dr.rl hr
      replace HB := HB.trans (hBt.below HB.size (UpOld.all (bx := [⟨W2, none, (gs1 2), 3, .agg #[.bool false, .slice none 0 0], some (3, 6, 2), []⟩]) ⟨fun _ => u3, trivial⟩))
      clear hBt hr hR hP hX hU
      refine wp_seq ?_
      refine wp_seq ?_
      refine region4 [some 7, some 8, some 9] [Eqs (.agg #[.bool false, .slice br kr dr]), Eqs (.int .i64 (Int.sign qr)), Eqs (.bool (decide ((Int.sign qr) = 0)))] [] [] (by kernel_rfl) hn rfl (by kernel_rfl) (by kernel_rfl) (by kernel_rfl) (by kernel_rfl) (by kernel_rfl) (by kernel_rfl) ⟨Eqs.mono4 _, Eqs.mono4 _, Eqs.mono4 _, trivial⟩ ok_nil (IsOld.all (bx := []) trivial) (DisOld.all (bx := []) trivial) ?_ ?_
      · exact ⟨.norm 7 rfl rfl rfl (fun a_ w_ hn_ hBt hr hR hD hO hS => op_loadv W2ok ((hR 3 rfl).trans f3) (b3.keep hBt trivial)),
          .norm 8 rfl rfl rfl (fun a_ w_ hn_ hBt hr hR hD hO hS => op_sign (isw_eq (show a_.eval (.tmp 7) = .agg #[.bool false, .slice br kr dr] from hD 0 rfl) (Dr.rl hr) Mr) (by omega)),
          .norm 9 rfl rfl rfl (fun a_ w_ hn_ hBt hr hR hD hO hS => op_eqlk (show a_.eval (.tmp 8) = .int .i64 (Int.sign qr) from hD 1 rfl)),
          trivial⟩
      · intro a3 w3 gs3 hn3 hd3 hBt hr hR hP hX hU
        replace hn := hn3; replace hd := hd3.trans hd
        replace b1 := b1.keep hBt trivial
        replace b2 := b2.keep hBt trivial
        replace b3 := b3.keep hBt trivial
        replace f1 := (hR 1 rfl).trans f1
        replace f2 := (hR 2 rfl).trans f2
        replace f3 := (hR 3 rfl).trans f3
        have e9 : a3.eval (.tmp 9) = .bool (decide ((Int.sign qr) = 0)) := hP 2 (by decide)
        have f9 := e9
        replace Ar := Ar.rl hr
        replace Sr := Sr.rl hr
        replace Dr := Dr.rl hr
        replace HB := HB.trans (hBt.below HB.size (UpOld.all (bx := []) trivial))
        clear hBt hr hR hP hX hU
        refine wp_cond_split f9 (fun hc9 => ?_) (fun hc9 => ?_)
        · skip
          refine wp_seq ?_
          refine region4 [some 10, some 11, none, none] [Eqs (.agg #[.bool false, .slice none 0 0]), OutW (1) (2), (fun _ _ => True), (fun _ _ => True)] [⟨W2, none, (gs1 1), 2, .agg #[.bool false, .slice none 0 0], some (2, 10, 0), []⟩, ⟨W2, none, (gs1 2), 3, .agg #[.bool false, .slice br kr dr], some (3, 11, 1), []⟩] [] (by kernel_rfl) hn rfl (by kernel_rfl) (by kernel_rfl) (by kernel_rfl) (by kernel_rfl) (by kernel_rfl) (by kernel_rfl) ⟨Eqs.mono4 _, OutW.mono4 _ _, True.mono4, True.mono4, trivial⟩ (ok_cons W2ok (ok_cons W2ok ok_nil)) (IsOld.all (bx := [⟨W2, none, (gs1 1), 2, .agg #[.bool false, .slice none 0 0], some (2, 10, 0), []⟩, ⟨W2, none, (gs1 2), 3, .agg #[.bool false, .slice br kr dr], some (3, 11, 1), []⟩]) ⟨fun _ => ⟨f2, b2⟩, fun _ => ⟨f3, b3⟩, trivial⟩) (DisOld.all (bx := [⟨W2, none, (gs1 1), 2, .agg #[.bool false, .slice none 0 0], some (2, 10, 0), []⟩, ⟨W2, none, (gs1 2), 3, .agg #[.bool false, .slice br kr dr], some (3, 11, 1), []⟩]) ⟨fun _ => ⟨fun _ => ne2_3.symm, trivial⟩, fun _ => trivial, trivial⟩) ?_ ?_
          · exact ⟨.norm 10 rfl rfl rfl (fun a_ w_ hn_ hBt hr hR hD hO hS => op_bW0),
              .norm 11 rfl rfl rfl (fun a_ w_ hn_ hBt hr hR hD hO hS => op_of (by omega) (by omega)),
              .store 0 _ _ _ rfl rfl rfl rfl rfl rfl rfl (fun ia h => by cases h) rfl rfl rfl (eqs_cs w2_cs),
              .store 1 _ _ _ rfl rfl rfl rfl rfl rfl rfl (fun ia h => by cases h) rfl rfl rfl OutW.cs,
              trivial⟩
          · intro a4 w4 gs4 hn4 hd4 hBt hr hR hP hX hU
            replace hn := hn4; replace hd := hd4.trans hd
            replace b1 := b1.keep hBt ⟨fun _ => ne1_2.symm, fun _ => ne1_3.symm, trivial⟩
            have e10 : a4.eval (.tmp 10) = .agg #[.bool false, .slice none 0 0] := hP 0 (by decide)
            have b2 : BoxV W2 w4 ((gs1 1)) (.agg #[.bool false, .slice none 0 0]) := boxv_old ((hX 0 _ rfl).2.1 rfl) (hX 0 _ rfl).2.2.2 e10
            replace f2 : a4.eval (.tmp 2) = _ := (hR 2 rfl).trans f2
            obtain ⟨n_5, a_5, c_5, r_5, e11, G5, l5⟩ : OutW (1) (2) (a4.eval (.tmp 11)) w4 := hP 1 (by decide)
            have A5 := G5.ag
            have b3 : BoxV W2 w4 ((gs1 2)) (.agg #[.bool n_5, .slice a_5 r_5.length c_5]) := boxv_old ((hX 1 _ rfl).2.1 rfl) (hX 1 _ rfl).2.2.2 e11
            replace f3 : a4.eval (.tmp 3) = _ := (hR 3 rfl).trans f3
            replace f1 := (hR 1 rfl).trans f1
            replace Ar := Ar.rl hr
            replace Sr := Sr.rl hr
            replace Dr := Dr.rl hr
            replace HB := HB.trans (hBt.below HB.size (UpOld.all (bx := [⟨W2, none, (gs1 1), 2, .agg #[.bool false, .slice none 0 0], some (2, 10, 0), []⟩, ⟨W2, none, (gs1 2), 3, .agg #[.bool false, .slice br kr dr], some (3, 11, 1), []⟩]) ⟨fun _ => u2, fun _ => u3, trivial⟩))
            clear hBt hr hR hP hX hU
            refine wp_ret ?_
            repeat (first | refine then_ret ?_ | refine scope_ret ?_ | refine block_ret ?_)
            refine bodyPost_ret (v := .tuple #[.agg #[.bool false, .slice none 0 0], .agg #[.bool n_5, .slice a_5 r_5.length c_5]]) (res_cc rfl f2 (lv_W2 b2) f3 (lv_W2 b3)) hd ⟨_, _, rfl, ?_, ?_, HB⟩
            · exact IsW.to (outw0 _).is (by simp at hc9; rw [tp, if_pos hc9]) (by omega)
            · exact IsW.to (isw_eq rfl A5 l5) (by simp at hc9; rw [tq, if_pos hc9]) (by omega)
        · skip
          refine wp_skip ?_
          refine wp_seq ?_
          refine region4 [some 12, some 13, some 14, none, none] [Eqs (.pointer (some ⟨gs1 0, 0, none⟩)), Eqs (.agg #[.bool nr, .slice ar mr cr]), Eqs (.agg #[.bool false, .slice br kr dr]), (fun _ _ => True), (fun _ _ => True)] [⟨W2, none, (gs1 1), 2, .agg #[.bool false, .slice none 0 0], some (3, 13, 1), []⟩, ⟨W2, none, (gs1 2), 3, .agg #[.bool false, .slice br kr dr], some (4, 14, 2), [2]⟩] [] (by kernel_rfl) hn rfl (by kernel_rfl) (by kernel_rfl) (by kernel_rfl) (by kernel_rfl) (by kernel_rfl) (by kernel_rfl) ⟨Eqs.mono4 _, Eqs.mono4 _, Eqs.mono4 _, True.mono4, True.mono4, trivial⟩ (ok_cons W2ok (ok_cons W2ok ok_nil)) (IsOld.all (bx := [⟨W2, none, (gs1 1), 2, .agg #[.bool false, .slice none 0 0], some (3, 13, 1), []⟩, ⟨W2, none, (gs1 2), 3, .agg #[.bool false, .slice br kr dr], some (4, 14, 2), [2]⟩]) ⟨fun _ => ⟨f2, b2⟩, fun _ => ⟨f3, b3⟩, trivial⟩) (DisOld.all (bx := [⟨W2, none, (gs1 1), 2, .agg #[.bool false, .slice none 0 0], some (3, 13, 1), []⟩, ⟨W2, none, (gs1 2), 3, .agg #[.bool false, .slice br kr dr], some (4, 14, 2), [2]⟩]) ⟨fun _ => ⟨fun _ => ne2_3.symm, trivial⟩, fun _ => trivial, trivial⟩) ?_ ?_
          · exact ⟨.norm 12 rfl rfl rfl (fun a_ w_ hn_ hBt hr hR hD hO hS => op_faR fa_num ((hR 1 rfl).trans f1)),
              .norm 13 rfl rfl rfl (fun a_ w_ hn_ hBt hr hR hD hO hS => op_ldnum (show a_.eval (.tmp 12) = .pointer (some ⟨gs1 0, 0, none⟩) from hD 0 rfl) (b1.keep hBt ⟨fun _ => ne1_2.symm, fun _ => ne1_3.symm, trivial⟩)),
              .norm 14 rfl rfl rfl (fun a_ w_ hn_ hBt hr hR hD hO hS => op_loadv W2ok ((hR 3 rfl).trans f3) (hO 1 _ rfl rfl rfl)),
              .store 0 _ _ _ rfl rfl rfl rfl rfl rfl rfl (fun ia h => by cases h) rfl rfl rfl (eqs_cs w2_cs),
              .store 1 _ _ _ rfl rfl rfl rfl rfl rfl rfl (fun ia h => by cases h) rfl rfl rfl (eqs_cs w2_cs),
              trivial⟩
          · intro a6 w6 gs6 hn6 hd6 hBt hr hR hP hX hU
            replace hn := hn6; replace hd := hd6.trans hd
            have e13 : a6.eval (.tmp 13) = .agg #[.bool nr, .slice ar mr cr] := hP 1 (by decide)
            have b2 : BoxV W2 w6 ((gs1 1)) (.agg #[.bool nr, .slice ar mr cr]) := boxv_old ((hX 0 _ rfl).2.1 rfl) (hX 0 _ rfl).2.2.2 e13
            replace f2 : a6.eval (.tmp 2) = _ := (hR 2 rfl).trans f2
            have e14 : a6.eval (.tmp 14) = .agg #[.bool false, .slice br kr dr] := hP 2 (by decide)
            have b3 : BoxV W2 w6 ((gs1 2)) (.agg #[.bool false, .slice br kr dr]) := boxv_old ((hX 1 _ rfl).2.1 rfl) (hX 1 _ rfl).2.2.2 e14
            replace f3 : a6.eval (.tmp 3) = _ := (hR 3 rfl).trans f3
            replace Ar := Ar.rl hr
            replace Sr := Sr.rl hr
            replace Dr := Dr.rl hr
            replace HB := HB.trans (hBt.below HB.size (UpOld.all (bx := [⟨W2, none, (gs1 1), 2, .agg #[.bool false, .slice none 0 0], some (3, 13, 1), []⟩, ⟨W2, none, (gs1 2), 3, .agg #[.bool false, .slice br kr dr], some (4, 14, 2), [2]⟩]) ⟨fun _ => u2, fun _ => u3, trivial⟩))
            clear hBt hr hR hP hX hU
            refine wp_ret ?_
            repeat (first | refine then_ret ?_ | refine scope_ret ?_ | refine block_ret ?_)
            refine bodyPost_ret (v := .tuple #[.agg #[.bool nr, .slice ar mr cr], .agg #[.bool false, .slice br kr dr]]) (res_cc rfl f2 (lv_W2 b2) f3 (lv_W2 b3)) hd ⟨_, _, rfl, ?_, ?_, HB⟩
            · exact IsW.to (isw_eq rfl Ar Lr) (by simp at hc9; rw [tp, if_neg hc9]) (by omega)
            · exact IsW.to (isw_eq rfl Dr Mr) (by simp at hc9; rw [tq, if_neg hc9]) (by omega)

theorem has_terms : Has Try.prog 42 := by unfold Has; kernel_rfl
theorem op_terms {dst : Option Tmp} {ty : TypeId} {pos : String} {after : Array Edge} {guard : Option (Nat × Bool)} {a : Act} {w : World} {ats : Array TypeId} {i : Nat} {p q : Int} {L : Nat} (h : IsR p q L (a.eval (.tmp i)) w) (hL : L ≤ 100000) :
    Does Try.prog { dst, op := .call { callee := .value (.func 42), args := #[.tmp i], argTypes := ats }, type := ty, pos, after, guard } a.eval w fun v w' => Below w.heap.size w w' ∧ Tup2 (IsW (tp p q) (L + 2)) (IsW (tq q) (L + 2)) v w' := by
  obtain ⟨ng, ao, n, cap, xs, bo, m, dap, ys, e, A, S, V, l1, l2⟩ := h
  refine does_call has_terms _ (by simp only [List.map_toArray, List.map_cons, List.map_nil, e]) ((terms_z w L hL _ _ _ _ _ _ A l1 _ _ _ _ _ S V l2).mono ?_)
  rintro e w' ⟨v1, v2, rfl, h1, h2, hb⟩
  exact ⟨_, rfl, hb, _, _, rfl, h1, h2⟩

end Lm
end Go.Proofs.Ytkdcgnooeojjgab
